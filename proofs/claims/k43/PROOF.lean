import PyProof.Rows.All
import Wide.All
import OpenK.AllK
import Wide.FinOn
import Lean
import PyProof.EqAt
import PyProof.EqKinds
import PyProof.TupleCall
import PySem.Challenge.RW_leastfloor_k43_whole_windows_kept_or_non
set_option compiler.extract_closed false
set_option genSizeOfSpec false
set_option Elab.async false
set_option linter.all false
set_option maxRecDepth 100000
set_option hygiene false
set_option hygiene true
noncomputable section
open Option renaming some->À,none->Á
open Bool renaming true->Â,false->Ã
open Array renaming getElem?_eq_getElem->Þ,length_toList->ß,getElem?_toList->Ē,toList_append->Ġ,toList_push->Š,size_push->ű,perm_iff_toList_perm->Β,getElem?_eq_none->ϖ,toList_reverse->Ph,toList_setIfInBounds->P9,toList_inj->QM,toList_map->QN,toList_modify->R7,size_append->SW,toList_zip->Ts,size_map->Ud
open Array.Perm renaming refl->Rm
open Bool renaming false_ne_true->ñ,eq_iff_iff->Ķ,and_eq_true->Υ,false_eq_true->ϓ,or_eq_true->Ro,and_true->Sk,not_eq_true'->S8,or_false->Ut
open Break.runK renaming match_1->P8
open False renaming elim->Ϗ
open ForInStep renaming yield->ı,done->Ua
open Int renaming natCast_nonneg->à,toNat_natCast->ŏ,le_refl->ř,emod_nonneg->ŵ,mul_zero->Ι,add_zero->Κ,not_le->ϑ,ofNat_lt->ϗ,emod_lt_of_pos->Ϙ,mul_nonneg->Ϯ,le_trans->ϲ,ne_of_gt->OO,le_of_lt->OP,mul_add->Po,add_mul->Pp,one_mul->Pq,not_lt->Qa,lt_of_le_of_lt->Qi,lt_of_mul_lt_mul_right->Qj,neg_mul->Qw,add_comm->Rb,mul_comm->Rf,mul_ediv_add_emod->RB,mul_one->RE,le_iff_lt_or_eq->Sg,zero_add->Tf,ofNat_le->Tg
open List renaming getElem?_eq_getElem->É,length_map->Ê,getD_eq_getElem?_getD->Ë,mem_singleton->Ð,mem_cons_of_mem->Ñ,mem_cons_self->Ò,getElem?_eq_some_iff->Ó,mem_append_right->Ô,getElem?_map->Ö,mem_cons->Ú,length_cons->Û,length_append->á,mem_append->â,size_toArray->ã,replicate->æ,pairwise_append->é,range->ê,map_map->ë,map_append->î,getElem?_append_right->ï,length_nil->ð,mem_map->ò,drop_eq_getElem_cons->ó,mem_append_left->ô,mem_of_getElem?->õ,mem_range->ö,getElem?_append_left->ú,length_replicate->ü,set_cons_zero->ý,map_cons->Ā,nodup_cons->ā,set_cons_succ->Ă,append_assoc->ą,pairwise_cons->ď,getElem?_replicate->đ,take_append_drop->ē,getElem?_eq_none->Ĕ,length_range->Ę,map_congr_left->ę,mem_filter->Ě,append_nil->ě,length_drop->ğ,mem_of_mem_drop->Ģ,mem_of_mem_take->ģ,not_mem_nil->Ĥ,length_singleton->ĥ,length_set->Ħ,take_of_length_le->Ĩ,pairwise_map->Ī,nodup_nil->ī,length_take->İ,getElem_mem->Ĳ,take_length->Ĺ,getElem?_set_ne->Ļ,getElem?_set_self->ļ,all_eq_true->Ľ,filterMap_cons->Ŀ,ext_getElem?->Ń,getElem?_of_mem->Ň,of_mem_zip->Ŕ,take_succ->Ţ,pairwise_iff_getElem->Ť,sum_cons->Ũ,length_eq_zero_iff->Ů,getElem_of_mem->ŷ,drop_of_length_le->Ź,zipWith->ź,range_succ_eq_map->Ż,getElem?_drop->ž,drop_drop->ſ,getElem?_take_of_lt->Λ,filter_sublist->Ρ,ext_getElem->Τ,pairwise_singleton->Χ,filter_cons_of_pos->ϋ,eq_nil_of_length_eq_zero->ό,mem_filterMap->ώ,pairwise_lt_range->ϕ,perm_append_comm->ϝ,getElem?_zipWith->Ϟ,mem_iff_getElem?->Ϡ,nodup_append->Ϣ,getElem?_set->ϣ,drop_length->ϱ,map_set->ϴ,mem_or_eq_of_mem_set->ϵ,length_reverse->Ϸ,filter_eq_self->Ϲ,length_zipWith->Ϻ,getElem?_range->Ox,set_eq_of_length_le->OA,map_replicate->OI,pairwise_mergeSort->OJ,drop_eq_nil_of_le->OW,take_take->OY,any_eq_true->Pa,lookup_cons->Pb,zip->Pj,mem_iff_getElem->Pm,length_take_le'->Pr,foldl_cons->Px,nil_append->Py,length_zip->PB,map_const'->PD,reverse_append->PF,mergeSort_perm->PH,map_nil->PR,forIn_toArray->Qd,length_eraseIdx_of_lt->Qf,perm_ext_iff_of_nodup->Qg,zip_cons_cons->Qh,drop_sublist->Qs,foldl_append->Qv,map_id->Qx,cons_append->QL,nodup_range->QR,zipWith_cons_cons->Rc,filter_eq_nil_iff->Rg,forIn_cons->Rq,sum_append->Rr,set_append_right->Rw,length_filter_le->RC,length->RH,reverse_reverse->RO,drop_take->RP,drop_zero->RQ,replicate_succ->R5,length_pos_iff->R6,getD_cons_succ->Sb,getD_cons_zero->Sd,take_succ_cons->Se,countP_eq_zero->Sf,length_take_le->Si,any_cons->Sn,take_add->So,length_mapIdx->Sy,filterMap_map->SF,mem_replicate->SG,pairwise_pair->SI,filter_append->SJ,any_eq_false->SN,take_sublist->SS,take_add_one->SX,set_set->Td,reverse_cons->Th,flatMap_cons->Ti,map_snd_zip->Tt,toArray_inj->Tu,countP_cons->Tz,mem_flatMap->TB,find?_cons->TM,range_succ->TN,foldl->TZ,forIn_nil->Ui,tail_cons->Uk,drop_one->Uu,map_drop->Uv
open List.Nodup renaming length_le_of_subset->ϊ,sublist->SH
open List.Pairwise renaming imp_of_mem->ŧ,nil->Qp,sublist->Ry
open List.Perm renaming append_left->Ε,eq_of_pairwise->Ν,append_right->OV,trans->Rk,refl->RN
open Nat renaming le_refl->Õ,ne_of_lt->Ü,lt_of_lt_of_le->è,le_trans->ø,lt_succ_of_lt->ÿ,zero_le->Ą,le_of_lt->ĉ,le_add_left->Đ,lt_irrefl->ĕ,lt_succ_self->ĸ,le_add_right->ľ,not_lt->ņ,le_of_eq->ŕ,ne_of_gt->ş,le_succ->ţ,lt_trans->ϒ,min_eq_left->Ϛ,lt_of_le_of_lt->OG,succ_pos->OU,not_le->O9,strongRecOn->Pz,add_sub_cancel_left->QS,sub_self->Q4,min_self->S0,add_comm->S3,min_le_right->Tx,sub_le->T9
open Ne renaming symm->ĩ
open Option renaming map_eq_some_iff->ė,map_some->ϙ,isSome_map->Qo,isSome_iff_exists->Qy,getD_none->To,none->UH
open Option.some renaming inj->þ,injEq->SK
open Or renaming inl->Ė,inr->ĵ
open Prod renaming fst->Ϝ,snd->Uj
open Prod.mk renaming inj->TH,injEq->Uw
open PyProof.Rows renaming wpS_bind->ä,wpS_pure->ì,seqObj->û,pendingOf->Ć,Keyed->ć,arrOf->Ď,callWith_type1->Ğ,SortSt->į,wpS_forRange->ł,listUpdate_at->ŝ,IntsAre->Ŧ,get?_update_seq->Ų,size_push'->ų,wpS_modify->Μ,wpS_mono->Φ,seqEpoch_at->ύ,elem'->ϩ,SortKind->Ϫ,envOfC->ϸ,entry_list_sort->OE,setPending->OH,failedOf->OT,wpS_get->OX,slot_list_sort->O1,callWith_builtin1->O8,listItems_at->PL,plain_sorted->PM,entry_sorted->PN,args_list_sort->Qc,kind_sorted->Qq,reverseSlice'->QA,wpS_lift->QI,AllBare->QW,envOfC->QZ,subscriptTail_builtinR->Q1,pairsOf_size->Q5,args_sorted1->Q6,list_sort_plain->Rl,wpS->Rv,ksk_tree->Rx,gallopOf->RM,sortedHeap_old->RS,entry_proto_collect'->RX,lt_int->R8,sortedHeap_at->Sq,Subscript_->Sv,pairsOf->SY,collect_list->S4,oneType'->Ub,sortedHeap->Uc,keyKind'->Ug,News->UG
open PyProof.Rows.F renaming plain_set_update_loop->Ÿ,entry_set_update_loop->ϻ
open PyProof.Rows.IntsAre renaming length->O3
open PyProof.Rows.SortSt renaming mk'->P7
open PySem renaming wpAny_bind->È,sizeLine->Î,wpAny_pure->Ï,Value->Ù,Addr->Ý,Shared->ç,wpAny->í,sizeLine_eq->ă,wpAny_loadPart'->Ĉ,wpAny_holding->Ċ,bootBuiltins->Ĝ,starEach->ġ,wpAny_mono->ħ,mainGlobals->ĭ,wpAny_call_entry->ĳ,codeAny_builtin->Ĵ,cellsFrom->ķ,Str->ĺ,Paired->Ł,wpAny_newObj_type->ń,mem_of_lookup->Ō,foldedSetIterable->Ŏ,Heap->Ő,plainId_quiet->ő,wpAny_callSpecial?_slot->ś,Around->Ŝ,assignEach->Ş,wpAny_setState_of->š,wpAny_Call_Name_kw->ť,rawInt->ũ,bindArgs->Ū,compareOp->ū,wpAny_truthy_bool->Ŭ,Builtin->ŭ,sysModules->ů,Stmt->Ű,wpAny_ite_split->Ŵ,World->Ŷ,wpAny_attempt->ż,wpAny_newList->Ž,wpAny_rule->Α,Program->Δ,wpAny_passesOwn->Η,wpAny_setEntries_of->Ο,wpAny_askSetting->Ω,codeAny_mono->ϐ,closureFor->ϔ,wpAny_updateSeq->ϛ,wpAny_pyIter_list->ϡ,recursionLimit->Ϧ,sliceBounds->ϧ,compEnvC->Ϭ,wpAny_setField->ϭ,Obj->ϯ,wpAny_specialOf->OD,pyNext->ON,codeAny->OR,wpAny_newTuple->OZ,wpAny_seqItems->O5,wpAny_nextOf_list_item->O6,cLine->O7,wpAny_isInstance->Pd,behindInMarks->Pe,wpAny_standAt->Pf,binaryOp->Pg,ZipApart->Pl,wpAny_field->Pn,wpAny_execs_nil->Pu,swapsWith->PU,pickOrder->PX,builtinsNs->PY,Expr->PZ,tupleKind_room_in1->P6,wpAny_fieldsOf->Qe,Scope->Ql,slot_list_getitem->Qn,wpAny_pyIter_slot->Qt,wpAny_getItem_list_slice->Qz,wpAny_comprehension_free->QB,IsPair->QC,TriplesOk->QE,codeAmong->QF,FuncData->QG,NameKind->QH,pushCells->QJ,SetTable->QO,scanBound->QP,updateSeq->QQ,hashInt->QT,intKind->QV,backTo->QX,wpAny_pyNext_list_item->QY,seqIndex_neg->Q0,wpAny_getItem_list_neg->Q2,call_meets->Q3,intKind_is->Q8,letOwnedTupleGo->Ri,pushCells_keeps->Rp,wpAny_isTrue_Compare1->Rt,wpAny_pyNext_list_end->Ru,wpAny_nextOf_list_end->RA,wpAny_loadName_local->RD,IntMulOk->RF,seqIndex_of->RJ,subscripted->RK,relayAll->RU,wpAny_runValue->RV,isSubtype_stop->RW,wpAny_pyIter_revIter->RY,tupleKind->RZ,getItem->R1,wpAny_loadName_cell->R3,nums_intItems->Sj,typeLookup->Su,argsOk->Sz,wpAny_load->SD,sliceRange->SE,BindsTo->SR,valueAt->SV,callerA->S9,wpAny_typeOf->Tc,pyIter->Tj,slicePick->Tp,wpAny_of_eq->TC,Drawn->TR,wpAny_Name->TU,wpAny_call->TX,typeIs_int->TY,numAt_eq->T4,getD_mem->T5,atKey->T8,Env->Ux,bindL->Uy,bindC->Uz,Within->UB
open PySem.Around renaming under_plainId->Ś,frames_deeper->RI
open PySem.AutoSeq1 renaming sub_list_list->Q7
open PySem.Builtin.Frozenset renaming updateFrom->TL,sizeOf->Us,slot0->UA
open PySem.Builtin.Int renaming intBits->ō
open PySem.Builtin.List renaming listExtendWith->Ņ,listSameRef->Ξ,listTooLong->Oy,listLengthHint->PQ,listItems->Q9
open PySem.Builtin.SmallTypes renaming ownedTupleIsFree->Sr
open PySem.Calls renaming call_function_entry->Ζ,Name_function_global->P0,spliced_cons->P1,spliced_nil->Qm
open PySem.Data renaming seq->QK,cell->Tr
open PySem.F renaming plainAttrs_list->Į,slot_list_append->Œ,type_list_append->œ,called_set->Ŗ,plain_extend_loop->Ow,slot_list_extend->OB,type_list_extend->OC,slot_zip_next->OF,plain_list_iadd->OL,plain_extend_loop->Qk,slot_set_iter->Rz,entry_extend_loop->Sa,args_zip_next_1->Te,entry_zip_next->Tw
open PySem.Heap renaming get?_push_of_some->Ì,lt_size->Ø,get?_push_size->å,get?_update_other->č,get?_update_self->ĝ,size_update->Ř,SameBut->Θ,get?_none_of_le->Ϥ,size_push->ϫ,get?_push_ne->O0,get?_update_ne->PJ,ExtBut->RL
open PySem.Heap.IsSliceOf renaming new->Sw
open PySem.Heap.SameBut renaming update->ŀ,refl->SU
open PySem.NameKind renaming cell->Um,free->Uo
open PySem.Obj renaming mapSeq->ù,data_mapFields->ŗ,isFreed_of_fields->ϟ,cls_mapFields->Qu,putSet->Uh
open PySem.P renaming truthy_int->Ss
open PySem.Paired renaming length->ň,snoc->UI
open PySem.PassesOwn renaming never->ċ
open PySem.SeqAt renaming EqAt->Ϩ,RcNeAt->UC
open PySem.SeqAt.EqAt renaming int_int->Qb,same->Rn,of_refs->Sx
open PySem.SeqAt.RcAt renaming lists_lengths->Oz
open PySem.SeqAt.RcNeAt renaming lists_lengths->P5
open PySem.SetTable renaming below->Ĭ,grown->Ψ,insertAt->Qr,orStandIn->SA,advance->Tv,slot->Ur
open PySem.SetTable.below renaming go->O4
open PySem.SetTable.probe renaming go->Ta
open PySem.Str renaming ofString->Tb
open PySem.Value renaming ref->Č,none->Ŋ,type->ŋ,isStrOf->Ul
open PySem.W renaming Frag->Í,kia_one->ŉ,fnOf->ϰ,nsIn->ϳ,kitOne->OQ,cellsFrom_some->OS,kla_fn->O2,codeHdIn->Pc,keepIn->P2,codeIn->P4,mg_of->QD,instObj->Rh,lookIn->RG,tabObj->RT,codeHd_of_K->R9,kitx_list->SO,kitx_dict->SQ,plainGet->Tn,kat_nil->TJ,OpenLaw->TK,KatKeys->TQ,findIn->TV,WalkO->Uq
open PySem.W.KatBack renaming intro->UE
open PySem.W.KatKeys renaming cons->UK,nil->UL
open PySem.W.WData renaming weight->PK,int->PV,weightAll->Rj,layableAll->Tq
open PySem.Walks renaming list->Ue
open PySem.WalksT renaming zip2->UJ
open PySem.pickOrder renaming go->UD
open Sum renaming inl->OM,inr->QU
open Sum.inl renaming inj->TF
open True renaming intro->ϥ
namespace L2
open PySem PySem.Spec PyProof.Rows
abbrev Key:=Sum Int ĺ
def oK:Key->Ù->Bool
 |.inl k,v=>Value.isInt k v
 |.inr x,v=>Ul x v
def Np(w:Ŷ):Key->Int
 |.inl k=>QT k
 |.inr x=>hashStr w x
def bU:∀{k:Key} {v:Ù},oK k v=Â->(∃i t,k=OM i/\v=Value.int i t)\/(∃x t,k=QU x/\v=Value.str x t)
 |.inl i,v,h=>by obtain⟨t,e⟩:=Value.isInt_shape h;exact .inl ⟨i,t,rfl,e⟩
 |.inr x,v,h=>by obtain⟨t,e⟩:=Value.isStrOf_shape h;exact .inr ⟨x,t,rfl,e⟩
def Cj(i:Int)(t:Tok):oK (.inl i) (.int i t)=true:=by simp[oK,Value.isInt]
def Ci(x:ĺ)(t:Tok):oK (.inr x) (.str x t)=true:=by simp[oK,Ul]
def KA(a b:Int):decide ((OM a:Key)=OM b)=(a==b):=by lia
def Kx(a b:ĺ):decide ((QU a:Key)=QU b)=decide (a=b):=by simp
def Kz(a:Int)(b:ĺ):decide ((OM a:Key)=QU b)=false:=decide_eq_false λq=>nomatch q
def Ky(a:ĺ)(b:Int):decide ((QU a:Key)=OM b)=false:=decide_eq_false λq=>nomatch q
noncomputable def cq(prog:Δ)(w:Ŷ):PySem.KeyKind prog w Key where
 is:=oK
 hash:=Np w
 inj:=λv a b ha hb=>by
  rcases bU ha with⟨i,t,rfl,rfl⟩ |⟨x,t,rfl,rfl⟩
  ·rcases bU hb with⟨j,u,rfl,e⟩ |⟨y,u,rfl,e⟩
   ·injection e with e1 _;rw[e1]
   ·exact nomatch e
  ·rcases bU hb with⟨j,u,rfl,e⟩ |⟨y,u,rfl,e⟩
   ·exact nomatch e
   ·injection e with e1 _;rw[e1]
 byValue:=λk v h=>by rcases bU h with⟨i,t,rfl,rfl⟩ |⟨x,t,rfl,rfl⟩ <;> rfl
 pyHash:=λhv h=>by
  rcases bU hv with⟨i,t,rfl,rfl⟩ |⟨x,t,rfl,rfl⟩
  ·exact wpAny_pyHash_int h
  ·exact wpAny_pyHash_str h
 eqBool:=λhu hv h=>by
  rcases bU hu with⟨i,t,rfl,rfl⟩ |⟨x,t,rfl,rfl⟩
  ·rcases bU hv with⟨j,u,rfl,rfl⟩ |⟨y,u,rfl,rfl⟩
   ·rw[KA]at h;exact wpAny_eqBool_int h
   ·rw[Kz]at h;exact SeqAt.EqAt.int_str i t y u _ _ _ _ h
  ·rcases bU hv with⟨j,u,rfl,rfl⟩ |⟨y,u,rfl,rfl⟩
   ·rw[Ky]at h;exact SeqAt.EqAt.str_int x t j u _ _ _ _ h
   ·rw[Kx]at h;exact wpAny_eqBool_str h
 «strs»:=λk x t v h=>by
  rcases bU h with⟨i,u,rfl,e⟩ |⟨y,u,rfl,e⟩
  ·exact nomatch e
  ·injection e with e1 _;subst e1;cases v <;> rfl
def xj(prog:Δ)(w:Ŷ)(i:Int)(t:Tok):(cq prog w).is (.inl i) (.int i t)=true:=Cj i t
def xi(prog:Δ)(w:Ŷ)(x:ĺ)(t:Tok):(cq prog w).is (.inr x) (.str x t)=true:=Ci x t
inductive V where
 |non |bl (b:Bool) |int (i:Int) |str (x:ĺ) |byt (b:Array UInt8) |flt (b:UInt64) |ref (a:Ý) |ty (n:String)
 deriving DecidableEq
noncomputable def RelV:V->Ù->Prop
 |.non,u=>u=Ŋ
 |.bl b,u=>u=Value.bool b
 |.int i,u=>∃t,u=Value.int i t
 |.str x,u=>∃t,u=Value.str x t
 |.byt b,u=>∃t,u=Value.bytes b t
 |.flt b,u=>∃t,u=Value.float b t
 |.ref a,u=>u=Č a
 |.ty n,u=>u=ŋ n
abbrev Vals:List V->List Ù->Prop:=Ł RelV
theorem Vals.length(r:Vals xs us):xs.length=us.length:=ň r
def Vals.get{i:Nat}(h:Vals xs us)(e:xs[i]?=À x):∃u,us[i]?=À u/\RelV x u:=by
 induction h generalizing i with
 |nil=>cases e
 |cons r _ ih =>
  cases i with
  |zero=>simp_all
  |succ i=>exact ih e
theorem Vals.set(r:RelV x u):∀{xs:List V} {us:List Ù} (i:Nat),Vals xs us->Vals (xs.set i x) (us.set i u)
 |_,_,_,.nil=>.nil
 |_,_,0,.cons _ t=>.cons r t
 |_,_,i+1,.cons q t=>.cons q (Vals.set r i t)
def Vals.append(h:Vals xs us)(s:Vals ys ws):Vals (xs++ys) (us++ws):=by
 induction h with
 |nil=>exact s
 |cons r _ ih=>exact .cons r ih
theorem Vals.take:∀{xs:List V} {us:List Ù} (n:Nat),Vals xs us->Vals (xs.take n) (us.take n)
 |_,_,0,_=>.nil
 |_,_,_+1,.nil=>.nil
 |_,_,n+1,.cons r t=>.cons r (Vals.take n t)
theorem Vals.drop:∀{xs:List V} {us:List Ù} (n:Nat),Vals xs us->Vals (xs.drop n) (us.drop n)
 |_,_,0,r=>r
 |_,_,_+1,.nil=>.nil
 |_,_,n+1,.cons _ t=>Vals.drop n t
def rJ:Option V->Option Ù->Prop
 |some v,À u=>RelV v u
 |none,Á=>True
 |_,_=>False
def KV{Z:Type}:List (Z×V)->List (Z×Ù)->Prop:=Ł λ(p:Z×V) (q:Z×Ù)=>p.1=q.1/\RelV p.2 q.2
def kV:Key->V
 |.inl i=>.int i
 |.inr x=>.str x
inductive HO where
 |lst (xs:List V)
 |tup (xs:List V)
 |dK (kvs:List (Key×V)) |dT (kvs:List (List Key×V))
 |set (S:Int->Bool) (n:Nat)
 |ins (C dx:Ý) (fs:List (ĺ×V))
 |own (x:Ý)
 |xd (fs:List (ĺ×V))
 |met (f x:Ý)
 |rng (lo hi:Int)
 |jM (o:ϯ) (u:HO)
 |tbl (ps:Array Ù)
 |ext (φ:Ő->Prop)
abbrev Hp:=Ý->Option HO
def upd(H:Hp)(a:Ý)(o:HO):Hp:=λb=>if b=a then À o else H b
def az:upd H a o a=À o:=by unfold upd;rw[if_pos rfl]
def upd_ne(h:b≠a):upd H a o b=H b:=by unfold upd;rw[if_neg h]
def Mg{H:Hp}(h:H a=À o)(h':H b=À u)(d:o≠u):a≠b:=by intro e;subst e;rw[h]at h';exact d (þ h')
def aO{H:Hp}(h:H a=À o)(h':H b=Á):a≠b:=by lia
section
variable(P:Δ)(w:Ŷ)
noncomputable def cF(H:Hp)(h:Ő)(a:Ý):HO->Prop
 |.lst xs=>xs.length<=Î/\∃(its:List Ù) (n:Nat),Vals xs its/\h.get? a=À {cls:=.type "list", data:=.seq its.toArray n }
 |.tup xs=>xs.length<=Î/\∃its:List Ù,Vals xs its/\IsTup h a its.toArray
 |.dK kvs=>kvs.length<=Î/\(a==ů)=Ã/\∃vs,KV kvs vs/\h.DictOf (cq P w) a vs
 |.dT kvs=>kvs.length<=Î/\(a==ů)=Ã/\∃xs:List (List Key×Ý×Ù),
  Ł (λ(p:List Key×V) (q:List Key×Ý×Ù)=>p.1=q.1/\H q.2.1=À (.tup (p.1.map kV))/\RelV p.2 q.2.2) kvs xs /\
  ∃o es ep,h.get? a=À o/\o.ExactDict/\o.data=.dict es ep/\es.toList=xs.map (entryOfKey (RZ (cq P w)))/\(xs.map (·.1)).Nodup
 |.set S n=>h.SetOf (QV P w) a S n
 |.ins C dx fs=>H dx=À (.own a)/\fs.length<=1000/\dx≠a/\h.get? a=À (Rh C dx) /\
  ∃mA,h.Ns1 dx mA/\(∀f,rJ (fs.lookup f) (mA f))/\UB mA (fs.map (·.1))
 |.own _=>∃o,h.get? a=À o
 |.xd fs=>∃mA,h.Ns1 a mA/\∀f,rJ (fs.lookup f) (mA f)
 |.rng lo hi=>∃t u v,h.get? a=À {cls:=.type "range", data:=.fields #[.int lo t,.int hi u,.int 1 v] }
 |.jM o u=>h.get? a=À o/\cF H h a u
 |.tbl ps=>∃(q:ĺ) (t:Tok) (qs:Array Ù),ps[0]?=À (.str q t)/\h.get? a=À {cls:=.none,data:=.fields qs }/\QE qs.toList /\
  ∀pos v,QF pos qs.toList=À v->∃c o u vs t,v=.ref c/\H c=À (.jM o u)/\o.data=.fields vs/\vs[1]?=À (.str q t)
 |.met f x=>h.get? a=À (PySem.W.methodObj (.ref f) (.ref x))
 |.ext φ=>φ h/\(∃o,h.get? a=À o)/\∀h1 h2:Ő,φ h1->(∀o,h1.get? a=À o->h2.get? a=À o)->φ h2
def ik(H:Hp)(h:Ő):Prop:=∀a o,H a=À o->cF P w H h a o
end
section
theorem cF.lt(x:cF P w H h a o):a<h.objs.size:=by
 cases o with
 |lst xs=>obtain⟨_,_,_,_,e⟩:=x;exact Ø e
 |tup xs=>obtain⟨_,_,_,p⟩:=x;exact p.lt
 |dK kvs=>obtain⟨_,_,_,_,o,_,_,e,_⟩:=x;exact Ø e
 |dT kvs=>obtain⟨_,_,_,_,o,_,_,e,_⟩:=x;exact Ø e
 |set S n=>obtain⟨o,_,_,_,e,_⟩:=x;exact Ø e
 |ins C dx fs=>obtain⟨_,_,_,e,_⟩:=x;exact Ø e
 |own y=>obtain⟨_,e⟩:=x;exact Ø e
 |xd fs=>obtain⟨_,⟨_,_,_,e,_⟩,_⟩:=x;exact Ø e
 |rng lo hi=>obtain⟨_,_,_,e⟩:=x;exact Ø e
 |jM ob u=>obtain⟨e,_⟩:=x;exact Ø e
 |tbl ps=>obtain⟨_,_,_,_,e,_⟩:=x;exact Ø e
 |met f y=>exact Ø x
 |ext φ=>obtain⟨_,⟨_,e⟩,_⟩:=x;exact Ø e
def Paired.Mh(h:Ł F l₁ l₂)(f:∀a b,F a b->G a b):Ł G l₁ l₂:=by
 induction h with
 |nil=>exact .nil
 |cons r _ ih=>exact .cons (f _ _ r) ih
def cF.l6(x:cF P w H h a o)(k:∀b u,(b=a\/H b=À (.own a))->h.get? b=À u->h'.get? b=À u)
 (ho:∀b,H b=À (.own a)->H' b=À (.own a)) (ht:∀b xs,H b=À (.tup xs)->H' b=À (.tup xs)) (hz:∀b o u,H b=À (.jM o u)->H' b=À (.jM o u):=by first |exact λ_ _ _ q=>q |(intro b o u q;rw[upd_ne (aO q (by assumption))];exact q)):cF P w H' h' a o:=by
 induction o with
 |lst xs=>obtain⟨z,its,n,r,e⟩:=x;exact⟨z,its,n,r,k _ _ (.inl rfl) e⟩
 |tup xs=>obtain⟨z,its,r,ob,e,c⟩:=x;exact⟨z,its,r,ob,k _ _ (.inl rfl) e,c⟩
 |dK kvs=>obtain⟨z,y,vs,r,ob,es,ep,e,c⟩:=x;exact⟨z,y,vs,r,ob,es,ep,k _ _ (.inl rfl) e,c⟩
 |dT kvs =>obtain⟨z,y,xs,r,ob,es,ep,e,c⟩:=x;exact⟨z,y,xs,Paired.Mh r λp q z=>⟨z.1,ht _ _ z.2.1,z.2.2⟩,ob,es,ep,k _ _ (.inl rfl) e,c⟩
 |set S n=>obtain⟨ob,es,ep,t,e,c⟩:=x;exact⟨ob,es,ep,t,k _ _ (.inl rfl) e,c⟩
 |ins C dx fs =>obtain⟨d,z,ne,e,mA,⟨od,es,ep,e2,c⟩,r⟩:=x;exact⟨ho _ d,z,ne,k _ _ (.inl rfl) e,mA,⟨od,es,ep,k _ _ (.inr d) e2,c⟩,r⟩
 |own y=>obtain⟨ob,e⟩:=x;exact⟨ob,k _ _ (.inl rfl) e⟩
 |xd fs=>obtain⟨mA,⟨od,es,ep,e,c⟩,r⟩:=x;exact⟨mA,⟨od,es,ep,k _ _ (.inl rfl) e,c⟩,r⟩
 |rng lo hi=>obtain⟨t,u,v,e⟩:=x;exact⟨t,u,v,k _ _ (.inl rfl) e⟩
 |jM ob u ih=>obtain⟨e,q⟩:=x;exact⟨k _ _ (.inl rfl) e,ih q⟩
 |tbl ps =>obtain⟨q,t,qs,h0,h1,h2,h3⟩:=x;refine⟨q,t,qs,h0,k _ _ (.inl rfl) h1,h2,λpos v e=>?_⟩;obtain⟨c,o,u,vs,t2,e1,e2,e3⟩:=h3 pos v e;exact⟨c,o,u,vs,t2,e1,hz _ _ _ e2,e3⟩
 |met f y =>have e:=x;exact k a _ (.inl rfl) e
 |ext φ=>obtain⟨p,⟨o,e⟩,st⟩:=x;exact⟨st _ _ p λo q=>k _ _ (.inl rfl) q,⟨o,k _ _ (.inl rfl) e⟩,st⟩
theorem ik.lt(x:ik P w H h)(e:H a=À o):a<h.objs.size:=(x a o e).lt
def ik.fresh(x:ik P w H h)(e:h.objs.size<=a):H a=none:=by
 cases q:H a with
 |none=>rfl
 |some u=>exact absurd (è (x.lt q) e) (ĕ _)
def ik.kept(x:ik P w H h)(k:∀b u,h.get? b=À u->h'.get? b=À u):ik P w H h':=λa o e =>(x a o e).l6 (λb u _ q=>k b u q) (λ_ q=>q) λ_ _ q=>q
def ik.laid(x:ik P w H h)(k:∀b u,h.get? b=À u->h'.get? b=À u)(hp:h.objs.size<=a)(new:cF P w (upd H a o) h' a o):ik P w (upd H a o) h':=λb u e=>by
 have hn:=x.fresh hp;by_cases hb:b=a
 ·subst hb;rw[az]at e;cases e;exact new
 ·rw[upd_ne hb]at e;exact(x b u e).l6 (λc v _ q=>k c v q) (λc q=>by rw[upd_ne (aO q hn)];exact q) λc xs q=>by rw[upd_ne (aO q hn)];exact q
end
def Rd(H:Hp)(a:Ý)(u:HO):Prop:=H a=À u\/∃o,H a=À (.jM o u)
def Rd.ok(r:Rd H a u)(x:ik P w H h):cF P w H h a u:=by
 rcases r with r |⟨o,r⟩
 ·exact x a u r
 ·obtain⟨_,q⟩:=x a _ r;exact q
def Mz:Option HO->Prop
 |some (.lst _)=>True
 |some (.dK _)=>True
 |some (.dT _)=>True
 |some (.set _ _)=>True
 |some (.ins _ _ _)=>True
 |some (.ext _)=>True
 |_=>False
section
def ik.write(ok:ik P w H h)(mu:Mz (H x))(he:e=x\/H e=À (.own x))(k:∀b u,b≠e->h.get? b=À u->h'.get? b=À u)(heo:∃u,h'.get? e=À u)
 (new:cF P w (upd H x o') h' x o'):ik P w (upd H x o') h':=λb u q=>by
 have nown:∀c y,H c=À (.own y)->c≠x:=λc y r z=>by subst z;rw[r]at mu;exact mu
 by_cases hb:b=x
 ·subst hb;rw[az]at q;cases q;exact new
 ·rw[upd_ne hb]at q;by_cases hbe:b=e
  ·have q':H b=À (.own x):=by simp_all
   rw[q]at q';cases q';obtain⟨v,hv⟩:=heo;exact⟨v,by rw[hbe];exact hv⟩
  ·refine(ok b u q).l6 (λc v hc r=>k c v ?_ r) (λc r=>by rw[upd_ne (nown c b r)];exact r) (λc xs r=>by rw[upd_ne ((λc xs r z=>by subst z;rw[r]at mu;exact mu) c xs r)];exact r) λc o u r=>by rw[upd_ne ((λc o u r z=>by subst z;rw[r]at mu;exact mu) c o u r)];exact r
   ·grind
end
structure Un(fs ex:List Ý)(H H':Hp)(h h':Ő):Prop where
 keep:∀b o,h.get? b=À o->H b=Á->b∉fs->b∉ex->h'.get? b=À o
 slot:∀b o,h.get? b=À o->H b=Á->b∈fs->b∉ex->∃sl,h'.get? b=À {o with slots:=sl }
 free:∀b o,h.get? b=À o->H b=Á->b∉ex->H' b=Á
 there:∀b o,h.get? b=À o->b∉ex->∃o',h'.get? b=À o'
 rP:∀b xs,H b=À (.tup xs)->H' b=À (.tup xs)
 qP:∀b o u,H b=À (.jM o u)->H' b=À (.jM o u)
 pU:∀b ps,H b=À (.tbl ps)->∃more,H' b=À (.tbl (ps++more))
section
def Un.any(u:Un fs ex H H1 h h1)(q:h.get? b=À ob)(n:H b=Á)(hx:b∉ex):∃sl,h1.get? b=À {ob with slots:=sl }:=by
 by_cases hb:b∈fs
 ·exact u.slot b ob q n hb hx
 ·exact⟨ob.slots,u.keep b ob q n hb hx⟩
def Un.kept(k:∀b u,h.get? b=À u->h'.get? b=À u):Un fs ex H H h h' :=
 ⟨λb ob q _ _ _=>k b ob q,λb ob q _ _ _=>⟨ob.slots,k b ob q⟩,λ_ _ _ n _=>n,λb ob q _=>⟨ob,k b ob q⟩,λ_ _ q=>q,λ_ _ _ q=>q,λ_ ps q=>⟨#[],by rw[q];rfl⟩⟩
def Un.refl:Un fs ex H H h h:=Un.kept λ_ _ q=>q
def Un.laid(k:∀b u,h.get? b=À u->h'.get? b=À u)(hp:h.objs.size<=a)(hn:H a=Á):Un fs ex H (upd H a o) h h' where
 keep:=λb u q _ _ _=>k b u q
 slot:=λb u q _ _ _=>⟨u.slots,k b u q⟩
 free:=λb u q n _=>by rw[upd_ne (Ü (è (Ø q) hp))];exact n
 there:=λb u q _=>⟨u,k b u q⟩
 rP:=λb xs q=>by rw[upd_ne (aO q hn)];exact q
 qP:=λb u xs q=>by rw[upd_ne (aO q hn)];exact q
 pU:=λb ps q=>⟨#[],by rw[upd_ne (aO q hn),q];rfl⟩
def Un.write(mu:Mz (H x))(he:e=x\/H e=À (.own x))(k:∀b u,b≠e->h.get? b=À u->h'.get? b=À u)(heo:∃u,h'.get? e=À u):Un fs ex H (upd H x o) h h':=by
 have hx:∀b,H b=Á->b≠x:=λb n z=>by subst z;rw[n]at mu;exact mu
 have hb:∀b,H b=Á->b≠e:=λb n z=>by simp_all
 have hm:∀b u,H b=À u->¬Mz (À u)->b≠x:=λb u q nm z=>by simp_all
 refine⟨λb u q n _ _=>k b u (hb b n) q,λb u q n _ _=>⟨u.slots,k b u (hb b n) q⟩,λb u q n _=>by rw[upd_ne (hx b n)];exact n,λb u q _=>?_,
  λb xs q=>by rw[upd_ne (hm b _ q λz=>z)];exact q,λb u xs q=>by rw[upd_ne (hm b _ q λz=>z)];exact q,λb ps q=>⟨#[],by rw[upd_ne (hm b _ q λz=>z),q];rfl⟩⟩
 by_cases hbe:b=e
 ·subst hbe;exact heo
 ·exact⟨u,k b u hbe q⟩
end
def MZ(h:Ő)(H:Hp):List Ý:=(ê h.objs.size).filter λa=>(H a).isSome
def sJ(h:Ő)(H:Hp):Ő:=PySem.W.hideAll h (MZ h H)
def Ct(h:Ő)(H:Hp):(sJ h H).objs.size=h.objs.size:=PySem.W.hideAll_size _ _
def E2(e:h.get? b=À o)(n:H b=Á):(sJ h H).get? b=À o :=
 PySem.W.hideAll_get _ e λhm=>by have q:=(Ě.mp hm).2;rw[n]at q;simp at q
def Hn(e:(sJ h H).get? b=À o):h.get? b=À o/\H b=none:=by
 have e':=PySem.W.of_hideAll (MZ h H) e;refine⟨e',?_⟩;cases q:H b with
 |none=>rfl
 |some x =>have z:(sJ h H).get? b=none:=PySem.W.hideAll_none (MZ h H) (Ě.mpr ⟨ö.mpr (Ø e'),by simp[q]⟩);rw[z]at e;cases e
def mP(g h:Ő)(L:Ý):List (Ý×ϯ):=(ê h.objs.size).filterMap λa=>if a=L\/(g.get? a).isSome=Â then Á else (h.get? a).map λo=>(a,o)
def gQ(h1:a≠L)(h2:g.get? a=Á)(h3:h.get? a=À o):(a,o)∈mP g h L :=
 ώ.mpr ⟨a,ö.mpr (Ø h3),by simp[h1,h2,h3]⟩
def qH(hp:p∈mP g h L):p.1≠L/\g.get? p.1=Á/\h.get? p.1=À p.2:=by
 obtain⟨b,_,e⟩:=ώ.mp hp;split at e
 ·cases e
 ·rename_i hn;cases q:h.get? b with
  |none=>rw[q]at e;simp at e
  |some u =>
   rw[q]at e;simp only[ϙ,SK]at e;subst e;refine⟨λz=>hn (.inl z),?_,q⟩;cases r:g.get? b with
   |none=>rfl
   |some v=>simp_all
def rest(g h:Ő)(L d:Ý):List (Ý×ϯ):=(mP g h L).filter λp=>decide (p.1≠d)
def Ad:∀p∈rest g h L d,p.1≠d:=λp hp=>of_decide_eq_true (Ě.mp hp).2
def xg:UG g L h (mP g h L):=λp hp=>let ⟨a,b,c⟩:=qH hp;⟨c,a,b⟩
def vz(h1:d≠L)(h2:g.get? d=Á)(h3:h.get? d=À o):UG g L h ((d,o)::rest g h L d):=λp hp=>by
 rcases Ú.mp hp with rfl |hp
 ·exact⟨h3,h1,h2⟩
 ·exact xg p (Ě.mp hp).1
structure Mod(K:Í)(mg:ĺ->Option Ù)(base:Ő):Prop where
 MP:K.In base
 glob:base.Ns ĭ mg
 blt:∃mb,base.Ns PY mb/\∀x:ĺ,x ≠ "__name__" -> mb x=Ĝ x
 nolimit:base.NoLimit
structure Cx where
 prog:Δ
 w:Ŷ
 K:Í
 mg:ĺ->Option Ù
 base:Ő
 A:Ŝ
 N:List ĺ
 s₀:ç
 H₀:Hp
 env:Ux
 outer:List Ux
 stack:List Ux
 ex:List Ý
 fn:ĺ->Bool
 calm:Bool
 pn:List (Ý×ϯ)
 xe:Ù->ç->Prop
def C0(l:List Ux):List Ý:=l.filterMap (·.frame)
abbrev Cx.fs(X:Cx):List Ý:=C0 X.outer
def Mu(sc:Ql)(x:ĺ):Prop:=sc.names.lookup x=À .local\/sc.names.lookup x=À .cell\/sc.names.lookup x=À .free
def Loc(sc:Ql)(x:ĺ):Prop:=sc.names.lookup x=À .local\/sc.names.lookup x=À .cell
def Look(env:Ux)(h:Ő)(m:ĺ->Option Ù)(x:ĺ)(u:Ù):Prop :=
 (env.kindOf x=À .local/\m x=À u)\/((env.kindOf x=À .cell\/env.kindOf x=À .free)/\∃c,env.cells.lookup x=À c/\h.IsCell c (À u))
structure Cx.Ok(X:Cx):Prop where
 mod:Mod X.K X.mg X.base
 kind:X.env.scope.kind=.function
 glob:X.env.globals=ĭ
 blt:X.env.builtins=PY
 above:X.s₀.heap.objs.size<=X.env.locals
 inj:∀x y c,X.env.cells.lookup x=À c->X.env.cells.lookup y=À c->x=y
 has:∀x,(X.env.kindOf x=À .cell\/X.env.kindOf x=À .free)->∃c,X.env.cells.lookup x=À c
 cab:∀x c,X.fn x=Â->X.env.cells.lookup x=À c->X.s₀.heap.objs.size<=c
 hd:X.calm=Â->X.A.handled=Á
 frames:X.A.frames=À X.stack
 Jn:X.stack=X.outer\/(X.stack=X.env::X.outer/\X.env.frame=À X.env.locals)
 exf:∀b∈X.ex,b≠X.env.locals/\∀x c,X.env.cells.lookup x=À c->c≠b
 bs:∀b o,X.base.get? b=À o->X.s₀.heap.get? b=À o/\X.H₀ b=Á
 CN:X.base.objs.size<=X.s₀.heap.objs.size
 noex:∀b o,X.base.get? b=À o->b∉X.ex
 E9:∀b∈X.ex,b∉X.fs
 n9:X.s₀.heap.FunFrames X.base X.outer
 Lu:∀b∈X.fs,X.H₀ b=Á
structure Inv(X:Cx)(pins:List (Ý×ϯ))(Y:List (Option V))(H:Hp)(s:ç):Prop where
 ok:X.Ok
 os:s.os=X.s₀.os
 bare:QW s.gens
 base:Un X.fs X.ex X.H₀ H X.s₀.heap s.heap
 loc:∃m,s.heap.Ns X.env.locals m/\∀(i:Nat) (x:ĺ) (v:V),X.N[i]?=À x->Y[i]?=À (À v)->Mu X.env.scope x->∃u,RelV v u/\Look X.env s.heap m x u
 cell:∀x c,X.env.cells.lookup x=À c->∃v,s.heap.IsCell c v
 free:H X.env.locals=Á
 gV:∀x c,X.env.cells.lookup x=À c->H c=Á
 pin:∀p∈X.pn++pins,s.heap.get? p.1=À p.2/\H p.1=Á/\p.1≠X.env.locals/\p.1∉X.fs/\∀v,p.2.data≠.cell v
 bJ:ik X.prog X.w H s.heap
 len:Y.length=X.N.length
section
def Cx.Ok.Ni{X:Cx}(ok:X.Ok)(e:X.base.get? b=À o):b∉X.fs:=λhb=>by have:=(ok.n9.mem hb).1;rw[e]at this;cases this
theorem Inv.bs(I:Inv X pins Y H s):∀b o,X.base.get? b=À o->s.heap.get? b=À o/\H b=none:=λb o e =>⟨I.base.keep b o (I.ok.bs b o e).1 (I.ok.bs b o e).2 (I.ok.Ni e) (I.ok.noex b o e),I.base.free b o (I.ok.bs b o e).1 (I.ok.bs b o e).2 (I.ok.noex b o e)⟩
def Inv.bk(I:Inv X pins Y H s):∀b o,X.base.get? b=À o->s.heap.get? b=À o:=λb o e=>(I.bs b o e).1
theorem Inv.mod(I:Inv X pins Y H s):Mod X.K X.mg X.base:=I.ok.mod
def Inv.xp(I:Inv X pins Y H s):X.K.In s.heap:=I.ok.mod.MP.keeps I.bk
theorem Inv.nolimit(I:Inv X pins Y H s):s.heap.NoLimit:=I.ok.mod.nolimit.keeps I.bk
def Inv.fr(I:Inv X pins Y H s):∃m,Fr X.base X.env.locals s.heap m :=
 let ⟨m,hn,_⟩:=I.loc
 ⟨m,hn,I.bk,ø I.ok.CN I.ok.above⟩
theorem Inv.lt(I:Inv X pins Y H s):X.env.locals<s.heap.objs.size:=let ⟨_,hn,_⟩:=I.loc;hn.lt
def Inv.sz(I:Inv X pins Y H s):X.s₀.heap.objs.size<=s.heap.objs.size:=ø I.ok.above (ĉ I.lt)
def Inv.Nh(I:Inv X pins Y H s)(h:s.heap.objs.size<=a):a∉X.fs:=λhb=>by obtain⟨_,o,ho,_⟩:=I.ok.n9.mem hb;exact absurd (è (Ø ho) (ø I.sz h)) (ĕ _)
def Inv.La(I:Inv X pins Y H s):∀x c,X.env.cells.lookup x=À c->c≠X.env.locals:=λx c e z=>by obtain⟨v,o,ho,hd⟩:=I.cell x c e;obtain⟨m,⟨o',es,ep,ho',hd',_⟩,_⟩:=I.loc;rw[z,ho']at ho;cases ho;rw[hd']at hd;cases hd
theorem Inv.n9(I:Inv X pins Y H s):s.heap.FunFrames X.base X.outer:=by
 have all:∀(l:List Ux),(∀b∈C0 l,b∈X.fs)->X.s₀.heap.FunFrames X.base l->s.heap.FunFrames X.base l:=by
  intro l;induction l with
  |nil=>intro _ _;trivial
  |cons env r ih =>intro hs hl;obtain⟨hk,⟨L,o,hf,hn,ho,hd⟩,hr⟩:=hl;have hL:=hs L (by unfold C0;rw[Ŀ,hf];exact Ò);obtain⟨sl,e⟩:=I.base.slot L o ho (I.ok.Lu L hL) hL λz=>I.ok.E9 L z hL;exact⟨hk,⟨L,_,hf,hn,e,hd⟩,ih (λb hb=>hs b (by unfold C0;rw[Ŀ,hf];exact Ñ _ hb)) hr⟩
 exact all X.outer (λ_ hb=>hb) I.ok.n9
theorem Inv.stack(I:Inv X pins Y H s):s.heap.FunFrames X.base X.stack:=by
 rcases I.ok.Jn with e |⟨e,hf⟩
 ·rw[e];exact I.n9
 ·rw[e];obtain⟨m,hn,_⟩:=I.loc;exact .cons (by rw[I.ok.kind];decide) hf hn (Ϥ (ø I.ok.CN I.ok.above)) I.n9
def Inv.pZ(I:Inv X pins Y H s):∀b∈C0 X.stack,b∈X.env.locals::X.fs:=λb hb=>by
 rcases I.ok.Jn with e |⟨e,hf⟩
 ·simp_all
 ·rw[e]at hb;unfold C0 at hb;rw[Ŀ,hf]at hb;exact hb
def Inv.uL(I:Inv X pins Y H s):∀b∈C0 X.stack,H b=none:=λb hb=>by
 rcases Ú.mp (I.pZ b hb)with e |hb
 ·rw[e];exact I.free
 ·obtain⟨_,o,ho,_⟩:=I.ok.n9.mem hb;exact I.base.free b o ho (I.ok.Lu b hb) λz=>I.ok.E9 b z hb
def Inv.step{X:Cx}{pins:List (Ý×ϯ)}{Y:List (Option V)}{H H':Hp}{s:ç}{h':Ő}{g':Array GenState}{t':Nat}{d':TR}{ch:List Ý}(I:Inv X pins Y H s)
 (hch:∀b∈ch,(b∈X.ex\/X.s₀.heap.objs.size<=b)/\b≠X.env.locals/\(∀x c,X.env.cells.lookup x=À c->c≠b)/\∀p∈X.pn++pins,p.1≠b)
 (keep:∀b o,b≠X.env.locals->b∉X.fs->b∉ch->s.heap.get? b=À o->H b=Á->h'.get? b=À o)
 (slot:∀b o,b≠X.env.locals->b∈X.fs->b∉ch->s.heap.get? b=À o->H b=Á->∃sl,h'.get? b=À {o with slots:=sl }) (free:∀b o,b∉ch->s.heap.get? b=À o->H b=Á->H' b=Á)
 (there:∀b o,b∉ch->s.heap.get? b=À o->∃o',h'.get? b=À o')
 (rP:∀b xs,H b=À (.tup xs)->H' b=À (.tup xs)) (qP:∀b o u,H b=À (.jM o u)->H' b=À (.jM o u)) (pU:∀b ps,H b=À (.tbl ps)->∃more,H' b=À (.tbl (ps++more)))
 (ns:∀m,s.heap.Ns X.env.locals m->h'.Ns X.env.locals m) (bJ:ik X.prog X.w H' h') (hg:QW g') :
 Inv X pins Y H' {s with heap:=h',gens:=g',drawn:=d',toks:=t' }:=by
 have neL:∀b o,X.s₀.heap.get? b=À o->b≠X.env.locals:=λb o e=>Ü (è (Ø e) I.ok.above)
 have neC:∀b o,X.s₀.heap.get? b=À o->b∉X.ex->b∉ch:=λb o e hx hb=>by
  rcases(hch b hb).1 with z |z
  ·exact hx z
  ·exact absurd (è (Ø e) z) (ĕ _)
 have cellK:∀x c,X.env.cells.lookup x=À c->∀v,s.heap.IsCell c v->h'.IsCell c v:=λx c e v ⟨o,ho,hd⟩=>by
  have nch:c∉ch:=λz=>(hch c z).2.2.1 x c e rfl;by_cases hc:c∈X.fs
  ·obtain⟨sl,q⟩:=slot c o (I.La x c e) hc nch ho (I.gV x c e);exact⟨_,q,hd⟩
  ·exact⟨o,keep c o (I.La x c e) hc nch ho (I.gV x c e),hd⟩
 refine⟨I.ok,I.os,hg,⟨λb o e n hb hx=>?_,λb o e n hb hx=>?_,λb o e n hx=>?_,λb o e hx=>?_,λb xs e=>rP b xs (I.base.rP b xs e),λb o xs e=>qP b o xs (I.base.qP b o xs e),λb ps e=>?_⟩,?_,λx c e=>?_,?_,λx c e=>?_,λp hp=>?_,bJ,I.len⟩
 ·exact keep b o (neL b o e) hb (neC b o e hx) (I.base.keep b o e n hb hx) (I.base.free b o e n hx)
 ·obtain⟨sl,e1⟩:=I.base.slot b o e n hb hx;obtain⟨sl',e2⟩:=slot b _ (neL b o e) hb (neC b o e hx) e1 (I.base.free b o e n hx);exact⟨sl',e2⟩
 ·obtain⟨o',e1⟩:=I.base.there b o e hx;exact free b o' (neC b o e hx) e1 (I.base.free b o e n hx)
 ·obtain⟨o',e1⟩:=I.base.there b o e hx;exact there b o' (neC b o e hx) e1
 ·obtain⟨m1,e1⟩:=I.base.pU b ps e;obtain⟨m2,e2⟩:=pU b _ e1;exact⟨m1++m2,by simp_all⟩
 ·obtain⟨m,hn,hl⟩:=I.loc;refine⟨m,ns m hn,λi x v e1 e2 e3=>?_⟩;obtain⟨u,r,l⟩:=hl i x v e1 e2 e3;refine⟨u,r,?_⟩;rcases l with l |⟨k,c,e,z⟩
  ·exact .inl l
  ·exact .inr ⟨k,c,e,cellK x c e _ z⟩
 ·obtain⟨v,z⟩:=I.cell x c e;exact⟨v,cellK x c e v z⟩
 ·obtain⟨m,⟨o,_,_,ho,_⟩,_⟩:=I.loc;exact free _ o (λz=>(hch _ z).2.1 rfl) ho I.free
 ·obtain⟨v,o,ho,hd⟩:=I.cell x c e;exact free c o (λz=>(hch c z).2.2.1 x c e rfl) ho (I.gV x c e)
 ·obtain⟨e,n,ne,nf,d⟩:=I.pin p hp;have nch:=λz=>(hch p.1 z).2.2.2 p hp rfl;exact⟨keep p.1 p.2 ne nf nch e n,free p.1 p.2 nch e n,ne,nf,d⟩
def Inv.un(I:Inv X pins Y H s)(u:Un X.fs [] H H' s.heap h')(bJ:ik X.prog X.w H' h'):Inv X pins Y H' {s with heap:=h',toks:=t' }:=by obtain⟨m,⟨o,es,ep,ho,r⟩,_⟩:=id I.loc;obtain⟨sl,hL⟩:=u.any ho I.free (by simp);exact I.step (ch:=[]) (λ_ z=>nomatch z) (λb o _ hb _ e n=>u.keep b o e n hb (by simp)) (λb o _ hb _ e n=>u.slot b o e n hb (by simp)) (λb o _ e n=>u.free b o e n (by simp)) (λb o _ e=>u.there b o e (by simp)) u.rP u.qP u.pU (λm' hm=>by obtain⟨o',es',ep',ho',r'⟩:=hm;rw[ho]at ho';cases ho';exact⟨_,es',ep',hL,r'⟩) bJ I.bare
def Inv.call(I:Inv X pins Y H s)(u:Un (C0 X.stack) ch H H' s.heap h')(bJ:ik X.prog X.w H' h')(hg:QW g')
 (hch:∀b∈ch,(b∈X.ex\/X.s₀.heap.objs.size<=b)/\b≠X.env.locals/\(∀x c,X.env.cells.lookup x=À c->c≠b)/\∀p∈X.pn++pins,p.1≠b) :
 Inv X pins Y H' {s with heap:=h',gens:=g',drawn:=d',toks:=t' }:=by
 obtain⟨m,⟨o,es,ep,ho,r⟩,_⟩:=id I.loc;obtain⟨sl,hL⟩:=u.any ho I.free λz=>(hch _ z).2.1 rfl;exact I.step hch (λb o hL hb hc e n=>u.keep b o e n (λz=>(Ú.mp (I.pZ b z)).elim hL hb) hc) (λb o _ _ hc e n=>u.any e n hc) (λb o hc e n=>u.free b o e n hc) (λb o hc e=>u.there b o e hc) u.rP u.qP u.pU (λm' hm=>by obtain⟨o',es',ep',ho',r'⟩:=hm;rw[ho]at ho';cases ho';exact⟨_,es',ep',hL,r'⟩) bJ hg
def Inv.turned(I:Inv X pins Y H s)(k:∀b o,b≠it->s.heap.get? b=À o->h'.get? b=À o)(hn:H it=Á)(hL:it≠X.env.locals)
 (h1:it∈X.ex\/X.s₀.heap.objs.size<=it) (h2:∀x c,X.env.cells.lookup x=À c->c≠it) (h3:∀p∈X.pn++pins,p.1≠it):Inv X pins Y H {s with heap:=h',toks:=t' }:=by
 have nit:∀b u,H b=À u->b≠it:=λb u e z=>by rw[z,hn]at e;cases e
 refine I.step (ch:=[it]) (λb hb=>?_) (λb o _ _ hc e _=>k b o (λz=>hc (by simp[z])) e) (λb o _ _ hc e _=>⟨o.slots,k b o (λz=>hc (by simp[z])) e⟩) (λ_ _ _ _ n=>n)
  (λb o hc e=>⟨o,k b o (λz=>hc (by simp[z])) e⟩) (λ_ _ e=>e) (λ_ _ _ e=>e) (λb ps e=>⟨#[],by rw[e];rfl⟩) (λm hm=>?_) (λb u e=>?_) I.bare
 ·have e:=by simpa using hb
  subst e;exact⟨h1,hL,h2,h3⟩
 ·obtain⟨o,es,ep,ho,r⟩:=hm;exact⟨o,es,ep,k _ o (ĩ hL) ho,r⟩
 ·refine(I.bJ b u e).l6 (λc v hc q=>k c v ?_ q) (λ_ q=>q) λ_ _ q=>q;rcases hc with z |z
  ·rw[z];exact nit b u e
  ·exact nit c _ z
def Inv.tok(I:Inv X pins Y H s)(t:Nat):Inv X pins Y H {s with toks:=t }:=I.un Un.refl I.bJ
theorem Inv.kept(I:Inv X pins Y H s)(k:∀b u,s.heap.get? b=À u->h'.get? b=À u):Inv X pins Y H {s with heap:=h',toks:=t' }:=I.un (Un.kept k) (I.bJ.kept k)
theorem Inv.laid(I:Inv X pins Y H s)(k:∀b u,s.heap.get? b=À u->h'.get? b=À u)(hp:s.heap.objs.size<=a)(new:cF X.prog X.w (upd H a o) h' a o) :
 Inv X pins Y (upd H a o) {s with heap:=h',toks:=t' }:=I.un (Un.laid k hp (I.bJ.fresh hp)) (I.bJ.laid k hp new)
theorem Inv.write(I:Inv X pins Y H s)(mu:Mz (H x))(he:e=x\/H e=À (.own x))(k:∀b u,b≠e->s.heap.get? b=À u->h'.get? b=À u)(heo:∃u,h'.get? e=À u)
 (new:cF X.prog X.w (upd H x o) h' x o):Inv X pins Y (upd H x o) {s with heap:=h',toks:=t' }:=I.un (Un.write mu he k heo) (I.bJ.write mu he k heo new)
def Inv.weak(I:Inv X pins Y H s)(hl:Y'.length=Y.length)(w:∀(i:Nat) v,Y'[i]?=À (À v)->Y[i]?=À (À v)):Inv X pins Y' H s :=
 ⟨I.ok,I.os,I.bare,I.base,let ⟨m,hn,hl'⟩:=I.loc;⟨m,hn,λi x v e1 e2 e3=>hl' i x v e1 (w i v e2) e3⟩,I.cell,I.free,I.gV,I.pin,I.bJ,hl.trans I.len⟩
def Inv.kr(I:Inv X pins Y H s)(h:∀p∈pins',s.heap.get? p.1=À p.2/\H p.1=Á/\p.1≠X.env.locals/\p.1∉X.fs/\∀v,p.2.data≠.cell v):Inv X pins' Y H s :=
 ⟨I.ok,I.os,I.bare,I.base,I.loc,I.cell,I.free,I.gV,λp hp=>(â.mp hp).elim (λz=>I.pin p (ô _ z)) (h p),I.bJ,I.len⟩
def xf{N:List ĺ}(hN:N.Nodup){i:Nat}(a:N[i]?=À x)(b:N[j]?=À x):i=j:=by obtain⟨h1,e1⟩:=Ó.mp a;obtain⟨h2,e2⟩:=Ó.mp b;exact(List.getElem_inj hN).mp (e1.trans e2.symm)
def tu(I:Inv X pins Y H s)(hN:X.N.Nodup)(hi:X.N[i]?=À x)(hx:Loc X.env.scope x)(r:RelV v u)
 (h:∀s',Inv X pins (Y.set i (À v)) H s'->(∃a,Θ a s.heap s'.heap/\(a=X.env.locals\/X.env.cells.lookup x=À a))->Q () s') (hf:X.fn x=Â\/X.env.scope.names.lookup x=À .local:=by first |exact .inl rfl |exact .inr rfl |assumption):í M A (storeName X.env x u) Q E s:=by
 obtain⟨m,hn,hl⟩:=id I.loc;have hcls:(X.env.scope.kind==.class || (X.env.scope.kind==.module&&X.env.locals != X.env.globals))=false:=by rw[I.ok.kind];rfl
 have hiσ:i < Y.length:=by rw[I.len];exact(Ó.mp hi).1
 have La:=I.La
 have tracked:∀{a:Ý} {h':Ő},(∃o,s.heap.get? a=À o/\H a=Á)->Θ a s.heap h'->ik X.prog X.w H h':=λ{a h'} ha hs b ob e=>by
  obtain⟨_,_,hfree⟩:=ha;refine(I.bJ b ob e).l6 (λc w' hc q=>(hs.2 c ?_).trans q) (λ_ q=>q) λ_ _ q=>q;rintro rfl;rcases hc with rfl |hc
  ·rw[hfree]at e;cases e
  ·rw[hfree]at hc;cases hc
 rcases hx with hk |hk
 ·refine wpAny_storeName_local hk hn (λh' hn' hs=>?_) hcls;obtain⟨oL,_,_,hoL,_⟩:=id hn;refine h _ ⟨I.ok,I.os,I.bare,⟨λb o e n hb hx=>?_,λb o e n hb hx=>?_,I.base.free,λb o e hx=>?_,I.base.rP,I.base.qP,I.base.pU⟩,⟨_,hn',λj y v' e1 e2 e3=>?_⟩,λy c e=>?_,I.free,I.gV,λp hp=>?_,tracked ⟨oL,hoL,I.free⟩ hs,by simpa using I.len⟩ ⟨_,hs,.inl rfl⟩
  ·exact(hs.2 b (Ü (è (Ø e) I.ok.above))).trans (I.base.keep b o e n hb hx)
  ·obtain⟨sl,e1⟩:=I.base.slot b o e n hb hx;exact⟨sl,(hs.2 b (Ü (è (Ø e) I.ok.above))).trans e1⟩
  ·obtain⟨o',e1⟩:=I.base.there b o e hx;exact⟨o',(hs.2 b (Ü (è (Ø e) I.ok.above))).trans e1⟩
  ·by_cases hj:j=i
   ·subst hj;rw[hi]at e1;cases e1;rw[ļ hiσ]at e2;cases e2;exact⟨u,r,.inl ⟨hk,by simp⟩⟩
   ·rw[Ļ (ĩ hj)]at e2;obtain⟨u',r',q⟩:=hl j y v' e1 e2 e3;refine⟨u',r',?_⟩;rcases q with⟨k,e⟩ |⟨k,c,e,z⟩
    ·refine .inl ⟨k,?_⟩;have:y≠x:=λe=>hj (xf hN e1 (e ▸ hi));simp[this,e]
    ·exact .inr ⟨k,c,e,z.sameBut hs (La y c e)⟩
  ·obtain⟨w',z⟩:=I.cell y c e;exact⟨w',z.sameBut hs (La y c e)⟩
  ·obtain⟨e,n,ne,nf,d⟩:=I.pin p hp;exact⟨(hs.2 p.1 ne).trans e,n,ne,nf,d⟩
 ·have hfn:X.fn x=true:=by
   rcases hf with z |z
   ·exact z
   ·rw[z]at hk;cases hk
  obtain⟨c,hc⟩:=I.ok.has x (.inl hk);obtain⟨w',z⟩:=I.cell x c hc;refine wpAny_storeName_cell I.ok.kind hk hc z (λh' hc' hs=>?_);obtain⟨oc,hoc,hocd⟩:=id z;refine h {s with heap:=h' } ⟨I.ok,I.os,I.bare,⟨λb o e n hb hx=>?_,λb o e n hb hx=>?_,I.base.free,λb o e hx=>?_,I.base.rP,I.base.qP,I.base.pU⟩,⟨m,hn.sameBut hs (ĩ (La x c hc)),λj y v' e1 e2 e3=>?_⟩,λy c' e=>?_,I.free,I.gV,λp hp=>?_,tracked ⟨oc,hoc,I.gV x c hc⟩ hs,by simpa using I.len⟩ ⟨c,hs,.inr hc⟩
  ·exact(hs.2 b (Ü (è (Ø e) (I.ok.cab x c hfn hc)))).trans (I.base.keep b o e n hb hx)
  ·obtain⟨sl,e1⟩:=I.base.slot b o e n hb hx;exact⟨sl,(hs.2 b (Ü (è (Ø e) (I.ok.cab x c hfn hc)))).trans e1⟩
  ·obtain⟨o',e1⟩:=I.base.there b o e hx;exact⟨o',(hs.2 b (Ü (è (Ø e) (I.ok.cab x c hfn hc)))).trans e1⟩
  ·by_cases hj:j=i
   ·subst hj;rw[hi]at e1;cases e1;rw[ļ hiσ]at e2;cases e2;exact⟨u,r,.inr ⟨.inl hk,c,hc,hc'⟩⟩
   ·rw[Ļ (ĩ hj)]at e2;obtain⟨u',r',q⟩:=hl j y v' e1 e2 e3;refine⟨u',r',?_⟩;rcases q with q |⟨k,c',e,z'⟩
    ·exact .inl q
    ·refine .inr ⟨k,c',e,z'.sameBut hs ?_⟩;rintro rfl;exact hj (xf hN e1 (I.ok.inj _ _ _ e hc ▸ hi))
  ·by_cases hcc:c'=c
   ·subst hcc;exact⟨_,hc'⟩
   ·obtain⟨w2,z2⟩:=I.cell y c' e;exact⟨w2,z2.sameBut hs hcc⟩
  ·obtain⟨e,n,ne,nf,d⟩:=I.pin p hp;refine⟨(hs.2 p.1 ?_).trans e,n,ne,nf,d⟩;intro q;simp_all
def pY(I:Inv X pins Y H s)(hN:X.N.Nodup)(hi:X.N[i]?=À x)(hx:Loc X.env.scope x)(r:RelV v u)
 (h:∀s',Inv X pins (Y.set i (À v)) H s'->Q () s') (hf:X.fn x=Â\/X.env.scope.names.lookup x=À .local:=by first |exact .inl rfl |exact .inr rfl |assumption):í M A (storeName X.env x u) Q E s :=
 tu I hN hi hx r (λs' I' _=>h s' I') hf
def Inv.Jb(I:Inv X pins Y H s)(ho:s'.os=s.os)(u:Un (C0 X.stack) ch H H' s.heap s'.heap)(bJ:ik X.prog X.w H' s'.heap)(hg:QW s'.gens)
 (hch:∀b∈ch,(b∈X.ex\/X.s₀.heap.objs.size<=b)/\b≠X.env.locals/\(∀x c,X.env.cells.lookup x=À c->c≠b)/\∀p∈X.pn++pins,p.1≠b):Inv X pins Y H' s':=by
 obtain⟨h',g',d',t',o'⟩:=s';subst ho;exact I.call u bJ hg hch
end
abbrev XK:=Ù->Option Ý->Hp->Prop
abbrev St:=List (Option V)
abbrev VK:=V->Hp->Prop
abbrev TE:=St->Hp->VK->Prop
abbrev TT:=St->Hp->(Bool->Hp->Prop)->Prop
abbrev TA:=St->Hp->(List V->Hp->Prop)->Prop
structure Ends where
 nx:St->Hp->Prop
 rt:VK
 bk:St->Hp->Prop:=λ_ _=>False
 ct:St->Hp->Prop:=λ_ _=>False
abbrev TS:=Ends->St->Hp->Prop
def EP(X:Cx)(pins:List (Ý×ϯ))(Y:St)(Q:VK)(u:Ù)(s':ç):Prop:=∃v H',Inv X pins Y H' s'/\RelV v u/\Q v H'
def TP(X:Cx)(pins:List (Ý×ϯ))(Y:St)(Q:Bool->Hp->Prop)(b:Bool)(s':ç):Prop:=∃H',Inv X pins Y H' s'/\Q b H'
def AP(X:Cx)(pins:List (Ý×ϯ))(Y:St)(Q:List V->Hp->Prop)(us:List Ù)(s':ç):Prop:=∃vs H',Inv X pins Y H' s'/\Vals vs us/\Q vs H'
noncomputable def SP(X:Cx)(pins:List (Ý×ϯ))(D:Ends)(f:Flow)(s':ç):Prop :=
 match f with
 |.next=>∃ Y' H',Inv X pins Y' H' s'/\D.nx Y' H'
 |.brk=>∃ Y' H',Inv X pins Y' H' s'/\D.bk Y' H'
 |.cont=>∃ Y' H',Inv X pins Y' H' s'/\D.ct Y' H'
 |.ret u=>∃v Y' H',Inv X pins Y' H' s'/\RelV v u/\D.rt v H'
def PE(X:Cx)(e:PZ)(t:TE):Prop :=
 ∀(pins:List (Ý×ϯ)) (s:ç) (Y:St) (H:Hp) (Q:VK),Inv X pins Y H s->t Y H Q->í (model X.prog X.w) X.A (eval e X.env) (EP X pins Y Q) X.xe s
def PT(X:Cx)(e:PZ)(t:TT):Prop :=
 ∀(pins:List (Ý×ϯ)) (s:ç) (Y:St) (H:Hp) (Q:Bool->Hp->Prop),Inv X pins Y H s->t Y H Q->í (model X.prog X.w) X.A (isTrue e X.env (eval e X.env)) (TP X pins Y Q) X.xe s
def PW(X:Cx)(e:PZ)(t:TT):Prop :=
 ∀(whole:Sem Ù) (pins:List (Ý×ϯ)) (s:ç) (Y:St) (H:Hp) (Q:Bool->Hp->Prop),Inv X pins Y H s->t Y H Q->í (model X.prog X.w) X.A (isTrue e X.env whole) (TP X pins Y Q) X.xe s
def PW.pt(h:PW X e t):PT X e t:=h _
noncomputable def PA(X:Cx)(es:List PZ)(t:TA):Prop :=
 ∀(pos:Pos) (pins:List (Ý×ϯ)) (s:ç) (Y:St) (H:Hp) (Q:List V->Hp->Prop),Inv X pins Y H s->t Y H Q->í (model X.prog X.w) X.A (spliced (QX pos (ġ es X.env))) (AP X pins Y Q) X.xe s
def PS(X:Cx)(st:Ű)(t:TS):Prop :=
 ∀(pins:List (Ý×ϯ)) (s:ç) (Y:St) (H:Hp) (D:Ends),Inv X pins Y H s->t D Y H->í (model X.prog X.w) X.A (exec st X.env) (SP X pins D) X.xe s
def wd(X:Cx)(st:List Ű)(t:TS):Prop :=
 ∀(pins:List (Ý×ϯ)) (s:ç) (Y:St) (H:Hp) (D:Ends),Inv X pins Y H s->t D Y H->í (model X.prog X.w) X.A (execs st X.env) (SP X pins D) X.xe s
def cc(h:í M A t Q E s)(hQ:∀a s,Q a s->Q' a s):í M A t Q' E s:=ħ h hQ λ_ _ x=>x
section
def tVar(i:Nat):TE:=λY H Q=>∃v,Y[i]?=À (À v)/\Q v H
def tC(v:V):TE:=λ_ H Q=>Q v H
def Kb(hN:X.N[i]?=À x)(hv:Mu X.env.scope x)(hd:(x==("__debug__" : ĺ))=false:=by decide)(hcd:(x==("__classdict__" : ĺ))=false:=by decide):PE X (.Name x pos) (tVar i):=by
 intro pins s Y H Q I h;obtain⟨v,e,h⟩:=h;obtain⟨m,hn,hl⟩:=I.loc;obtain⟨u,r,l⟩:=hl i x v hN e hv;have fin:EP X pins Y Q u s:=⟨v,H,I,r,h⟩
 rcases l with⟨hk,hm⟩ |⟨hk,c,hc,hcell⟩
 ·exact TU (RD I.ok.kind hk hn hm fin) hd
 ·rcases hk with hk |hk
  ·exact TU (R3 I.ok.kind hk hc hcell fin) hd
  ·exact TU (wpAny_loadName_free I.ok.kind hk hc hcell fin hcd) hd
def ai:PE X (.Constant (.int i) j pos) (tC (.int i)):=λ_ _ _ H _ I h=>wpAny_Constant_int ⟨.int i,H,I.tok _,⟨_,rfl⟩,h⟩
def jT:PE X (.Constant (.bool b) j pos) (tC (.bl b)):=λ_ _ _ H _ I h=>Constant_bool ⟨.bl b,H,I,rfl,h⟩
def vk:PE X (.Constant .none j pos) (tC .non):=λ_ _ _ H _ I h=>Constant_none ⟨.non,H,I,rfl,h⟩
def Gl(X:Cx)(x:ĺ):Prop:=X.env.kindOf x=À .globalImplicit
def AH(I:Inv X pins Y H s)(hg:Gl X x)(hm:X.mg x=À u)(h:Q u s)
 (hd:(x==("__debug__" : ĺ))=false:=by decide):í (model X.prog X.w) X.A (eval (.Name x pos) X.env) Q E s :=
 P0 I.ok.kind hg (Calls.loadGlobal_global (by rw[I.ok.glob];exact I.mod.glob.keeps I.bk) hm h) hd
def eI(I:Inv X pins Y H s)(hg:Gl X x)(hm:X.mg x=Á)(hv:Ĝ x=À u)(h:Q u s)
 (hn:x ≠ "__name__" := by decide) (hd:(x==("__debug__" : ĺ))=false:=by decide):í (model X.prog X.w) X.A (eval (.Name x pos) X.env) Q E s:=by
 obtain⟨mb,h1,h2⟩:=I.mod.blt;exact P0 I.ok.kind hg (Calls.loadGlobal_builtin (by rw[I.ok.glob];exact I.mod.glob.keeps I.bk) hm (by rw[I.ok.blt];exact h1.keeps I.bk) ((h2 x hn).trans hv) h) hd
def Hh(hg:Gl X x)(hm:X.mg x=À u)(r:RelV v u)(hd:(x==("__debug__" : ĺ))=false:=by decide):PE X (.Name x pos) (tC v) :=
 λ_ _ _ H _ I h=>AH I hg hm ⟨v,H,I,r,h⟩ hd
def gO(hg:Gl X x)(hm:X.mg x=Á)(hv:Ĝ x=À u)(r:RelV v u)(hn:x ≠ "__name__" := by decide)(hd:(x==("__debug__" : ĺ))=false:=by decide):PE X (.Name x pos) (tC v) :=
 λ_ _ _ H _ I h=>eI I hg hm hv ⟨v,H,I,r,h⟩ hn hd
noncomputable def PC(X:Cx)(op:CmpOp)(a b:PZ)(t:TE):Prop :=
 ∀(pins:List (Ý×ϯ)) (s:ç) (Y:St) (H:Hp) (Q:VK),Inv X pins Y H s->t Y H Q ->
  í (model X.prog X.w) X.A (eval a X.env) (λv s₁=>í (model X.prog X.w) X.A (eval b X.env) (λu s₂=>í (model X.prog X.w) X.A (ū op v u) (EP X pins Y Q) X.xe s₂) X.xe s₁) X.xe s
def tB(t:TE):TT:=λY H Q=>t Y H λx H1=>∃c,x=.bl c/\Q c H1
def J3(h:PC X op a b t)(h1:Pe op b=false:=by first |exact nobehind _ (by decide) (by decide) |rfl):PT X (.Compare a [op] [b] pos) (tB t):=by intro pins s Y H Q I hw;refine Rt (cc (h pins s Y H _ I hw) λv s1 h1=>cc h1 λu s2 h2=>cc h2 λc s3 ⟨x,H1,I1,r1,q1⟩=>?_) h1;obtain⟨d,rfl,q⟩:=q1;cases r1;exact Ŭ ⟨H1,I1,q⟩
def LO(t u:TT):TT:=λY H Q=>t Y H λc H1=>if c=Â then u Y H1 Q else Q Ã H1
def NU(t u:TT):TT:=λY H Q=>t Y H λc H1=>if c=Â then Q Â H1 else u Y H1 Q
def LL(t:TT):TT:=λY H Q=>t Y H λc H1=>Q (!c) H1
def mi(ha:PT X a tA):PW X (.BoolOp .And [a] pos) tA:=by
 intro wh pins s Y H Q I h;refine isTrue_and (cc (ha pins s Y H Q I h) λc s1 e=>?_);cases c with
 |true=>exact isTrue_and_nil e
 |false=>exact e
def fY(ha:PT X a tA):PW X (.BoolOp .Or [a] pos) tA:=by
 intro wh pins s Y H Q I h;refine isTrue_or (cc (ha pins s Y H Q I h) λc s1 e=>?_);cases c with
 |false=>exact isTrue_or_nil e
 |true=>exact e
def qv{rest:List PZ}(ha:PT X a tA)(hb:PW X (.BoolOp .And (b::rest) pos) tB'):PW X (.BoolOp .And (a::b::rest) pos) (LO tA tB'):=by
 intro wh pins s Y H Q I h;refine isTrue_and (cc (ha pins s Y H _ I h) λc s1 ⟨H1,I1,q1⟩=>?_);cases c with
 |true=>exact hb wh pins s1 Y H1 Q I1 q1
 |false=>exact⟨H1,I1,q1⟩
def et{rest:List PZ}(ha:PT X a tA)(hb:PW X (.BoolOp .Or (b::rest) pos) tB'):PW X (.BoolOp .Or (a::b::rest) pos) (NU tA tB'):=by
 intro wh pins s Y H Q I h;refine isTrue_or (cc (ha pins s Y H _ I h) λc s1 ⟨H1,I1,q1⟩=>?_);cases c with
 |true=>exact⟨H1,I1,q1⟩
 |false=>exact hb wh pins s1 Y H1 Q I1 q1
def fZ(ha:PT X a tA):PT X (.UnaryOp .Not a pos) (LL tA):=by intro pins s Y H Q I h;exact isTrue_not (ha pins s Y H (λc H1=>Q (!c) H1) I h)
def Iy(ta tb:TE):TE:=λY H Q=>ta Y H λx H1=>∃c,x=.bl c/\if c=Â then tb Y H1 Q else Q (.bl Ã) H1
def Ip(ta:TE):TE:=λY H Q=>ta Y H λx H1=>∃c,x=.bl c/\Q (.bl (!c)) H1
def yT(h:PE X a t):PE X (.BoolOp op [a] pos) t:=λpins s Y H Q I hw=>BoolOp_one (h pins s Y H Q I hw)
def vm{rest:List PZ}(ha:PE X a ta)(hb:PE X (.BoolOp .And (b::rest) pos) tb):PE X (.BoolOp .And (a::b::rest) pos) (Iy ta tb):=by
 intro pins s Y H Q I h;refine BoolOp_and (cc (ha pins s Y H _ I h) λv s1 ⟨x,H1,I1,r1,q1⟩=>?_);obtain⟨c,rfl,q1⟩:=q1;cases r1;apply Ŭ;cases c with
 |true=>exact hb pins s1 Y H1 Q I1 q1
 |false=>exact⟨.bl Ã,H1,I1,rfl,q1⟩
def Kc(ha:PE X a ta):PE X (.UnaryOp .Not a pos) (Ip ta):=by intro pins s Y H Q I h;refine UnaryOp_ (cc (ha pins s Y H _ I h) λv s1 ⟨x,H1,I1,r1,q1⟩=>?_);obtain⟨c,rfl,q1⟩:=q1;cases r1;exact not_of (Ŭ ⟨.bl (!c),H1,I1,rfl,q1⟩)
def NV(t:TT)(ta tb:TE):TE:=λY H Q=>t Y H λc H1=>if c=Â then ta Y H1 Q else tb Y H1 Q
def Ey(hc:PT X c tA)(ha:PE X a ta)(hb:PE X b tb):PE X (.IfExp c a b pos) (NV tA ta tb):=by
 intro pins s Y H Q I h;refine wpAny_IfExp (cc (hc pins s Y H _ I h) λd s1 ⟨H1,I1,q1⟩=>?_);cases d with
 |true=>exact ha pins s1 Y H1 Q I1 q1
 |false=>exact hb pins s1 Y H1 Q I1 q1
end
noncomputable def cE(K:Í)(H:Hp)(a:Ý)(xs:List V):Prop :=
 Rd H a (.lst xs) \/
  ∃(o:ϯ) (its:Array Ù) (n:Nat),K.lookup a=À o/\o.cls=.type "list" /\ o.dict=Á/\o.data=.seq its n/\its.size<=Î/\Vals xs its.toList
def Gg(K:Í)(H:Hp)(a:Ý)(xs:List V):Prop :=
 Rd H a (.tup xs) \/
  ∃(o:ϯ) (its:Array Ù) (n:Nat),K.lookup a=À o/\o.cls=.type "tuple" /\ o.data=.seq its n/\its.size<=Î/\Vals xs its.toList
noncomputable def NG:Ù->Option V
 |.none=>À .non
 |.bool b=>À (.bl b)
 |.int i _=>À (.int i)
 |.str x _=>À (.str x)
 |.bytes b _=>À (.byt b)
 |.float b _=>À (.flt b)
 |.ref a=>À (.ref a)
 |.type n=>À (.ty n)
 |_=>Á
def RelV.abs(r:RelV x u):NG u=À x:=by
 cases x with
 |non=>cases r;rfl
 |bl _=>cases r;rfl
 |int _=>obtain⟨t,rfl⟩:=r;rfl
 |str _=>obtain⟨t,rfl⟩:=r;rfl
 |byt _=>obtain⟨t,rfl⟩:=r;rfl
 |flt _=>obtain⟨t,rfl⟩:=r;rfl
 |ref _=>cases r;rfl
 |ty _=>cases r;rfl
def RelV.inj(r:RelV x u)(q:RelV y u):x=y:=þ (r.abs.symm.trans q.abs)
theorem Vals.inj(h:Vals xs us)(k:Vals ys us):xs=ys:=by
 induction h generalizing ys with
 |nil=>cases k;rfl
 |cons r _ ih=>cases k with |cons r' t'=>rw[r.inj r',ih t']
section
def cE.of{K:Í}(h:H a=À (.lst xs)):cE K H a xs:=.inl (.inl h)
def Inv.list(I:Inv X pins Y H s)(h:cE X.K H a xs):∃its:List Ù,Vals xs its/\PlainL s.heap a its.toArray/\xs.length<=Î:=by
 rcases h with h |⟨o,its,n,hk,hc,hd,hs,hz,r⟩
 ·obtain⟨z,its,n,r,e⟩:=h.ok I.bJ;exact⟨its,r,⟨_,n,e,rfl,rfl,rfl⟩,z⟩
 ·refine⟨its.toList,r,⟨o,n,I.xp a o hk,hc,hd,by simpa using hs⟩,?_⟩;have e:=r.length;simp only[ß]at e;exact e ▸ hz
def Inv.tuple(I:Inv X pins Y H s)(h:Gg X.K H a xs):∃its:List Ù,Vals xs its/\IsTup s.heap a its.toArray/\xs.length<=Î:=by
 rcases h with h |⟨o,its,n,hk,hc,hs,hz,r⟩
 ·obtain⟨z,its,r,p⟩:=h.ok I.bJ;exact⟨its,r,p,z⟩
 ·refine⟨its.toList,r,⟨o,I.xp a o hk,hc,n,by simpa using hs⟩,?_⟩;have e:=r.length;simp only[ß]at e;exact e ▸ hz
def Inv.jW(I:Inv X pins Y H s)(h:cE X.K H a xs)(h':cE X.K H a ys):xs=ys:=by
 obtain⟨its,r,⟨o,n,e,_,_,d⟩,_⟩:=I.list h;obtain⟨its',r',⟨o',n',e',_,_,d'⟩,_⟩:=I.list h';have:its=its':=by simp_all
 subst this;exact r.inj r'
end
abbrev Cx.rO(X:Cx)(E:Ù->ç->Prop):Cx:={X with xe:=E }
abbrev Cx.Ga(X:Cx):Cx:=X.rO λ_ _=>False
theorem Cx.Ok.rO{X:Cx}(ok:X.Ok)(E:Ù->ç->Prop):(X.rO E).Ok :=
 ⟨ok.mod,ok.kind,ok.glob,ok.blt,ok.above,ok.inj,ok.has,ok.cab,ok.hd,ok.frames,ok.Jn,ok.exf,ok.bs,ok.CN,ok.noex,ok.E9,ok.n9,ok.Lu⟩
def Cx.Ok.jO{X:Cx}(ok:(X.rO E).Ok):X.Ok :=
 ⟨ok.mod,ok.kind,ok.glob,ok.blt,ok.above,ok.inj,ok.has,ok.cab,ok.hd,ok.frames,ok.Jn,ok.exf,ok.bs,ok.CN,ok.noex,ok.E9,ok.n9,ok.Lu⟩
section
theorem Inv.rO(I:Inv X pins Y H s)(E:Ù->ç->Prop):Inv (X.rO E) pins Y H s:=⟨I.ok.rO E,I.os,I.bare,I.base,I.loc,I.cell,I.free,I.gV,I.pin,I.bJ,I.len⟩
theorem Inv.jO(I:Inv (X.rO E) pins Y H s):Inv X pins Y H s:=⟨I.ok.jO,I.os,I.bare,I.base,I.loc,I.cell,I.free,I.gV,I.pin,I.bJ,I.len⟩
theorem SP.jO(h:SP (X.rO E) pins D f s'):SP X pins D f s':=by
 cases f with
 |next=>obtain⟨Y',H',I,q⟩:=h;exact⟨Y',H',I.jO,q⟩
 |brk=>obtain⟨Y',H',I,q⟩:=h;exact⟨Y',H',I.jO,q⟩
 |cont=>obtain⟨Y',H',I,q⟩:=h;exact⟨Y',H',I.jO,q⟩
 |ret u=>obtain⟨v,Y',H',I,r,q⟩:=h;exact⟨v,Y',H',I.jO,r,q⟩
theorem wd.Ga{st:List Ű}(h:wd X.Ga st t):wd X st t:=λpins s Y H D I hw =>ħ (h pins s Y H D (I.rO _) hw) (λ_ _ q=>q.jO) λ_ _ z=>Ϗ z
end
section
def Iq:TS:=λD Y H=>D.nx Y H
def LK(t u:TS):TS:=λD Y H=>t {D with nx:=u D } Y H
def bB:wd X [] Iq:=λ_ _ Y H _ I h=>Pu ⟨Y,H,I,h⟩
def af{st:Ű}{rest:List Ű}(h1:PS X st t)(h2:wd X rest u):wd X (st::rest) (LK t u):=by
 intro pins s Y H D I h;refine wpAny_execs_cons (cc (h1 pins s Y H {D with nx:=u D } I h) λf s1 q=>?_);cases f with
 |next =>obtain⟨Y',H',I',q⟩:=q;exact h2 pins s1 Y' H' D I' q
 |ret v=>exact q
 |brk=>exact q
 |cont=>exact q
def ao{st:Ű}(h1:PS X st t):wd X [st] t:=by
 intro pins s Y H D I h;refine wpAny_execs_cons (cc (h1 pins s Y H D I h) λf s1 q=>?_);cases f with
 |next=>exact Pu q
 |ret v=>exact q
 |brk=>exact q
 |cont=>exact q
def Inv.quiet(I:Inv X pins Y H s):interactive X.env=false:=by simp[interactive,I.ok.kind]
def wG(te:TE):TS:=λD Y H=>te Y H λ_ H1=>D.nx Y H1
def eO(he:PE X e te)(hs:PU e Á pos.line X.env=pure false:=by rfl):PS X (.Expr e pos) (wG te):=by intro pins s Y H D I h;exact wpAny_Expr_any (cc (he pins s Y H _ I h) λv s1 ⟨x,H1,I1,r1,q1⟩=>⟨Y,H1,I1,q1⟩) I.quiet hs
def DC(te:TE):TS:=λD Y H=>te Y H D.rt
def aK(he:PE X e te):PS X (.Return (À e) pos) (DC te):=by intro pins s Y H D I h;exact wpAny_Return_some (cc (he pins s Y H _ I h) λv s1 ⟨x,H1,I1,r1,q1⟩=>⟨x,Y,H1,I1,r1,q1⟩)
def LM(c:TT)(t u:TS):TS:=λD Y H=>c Y H λb H1=>if b=Â then t D Y H1 else u D Y H1
def cA(hc:PT X c tc)(ha:wd X a t)(hb:wd X b u):PS X (.If c a b pos) (LM tc t u):=by
 intro pins s Y H D I h;refine wpAny_If (cc (hc pins s Y H _ I h) λd s1 ⟨H1,I1,q1⟩=>?_);cases d with
 |true=>exact ha pins s1 Y H1 D I1 q1
 |false=>exact hb pins s1 Y H1 D I1 q1
def DH:TS:=λ_ _ _=>False
def En{st:Ű}:PS X st DH:=λ_ _ _ _ _ _ h=>h.elim
end
abbrev TG:=V->St->Hp->(St->Hp->Prop)->Prop
abbrev HZ:=List V->St->Hp->(St->Hp->Prop)->Prop
noncomputable def PG(X:Cx)(target:PZ)(t:TG):Prop :=
 ∀(pins:List (Ý×ϯ)) (s:ç) (Y:St) (H:Hp) (v:V) (u:Ù) (Q:St->Hp->Prop),Inv X pins Y H s->RelV v u->t v Y H Q ->
  í (model X.prog X.w) X.A (assign target X.env u) (λ_ s'=>∃ Y' H',Inv X pins Y' H' s'/\Q Y' H') X.xe s
noncomputable def Lm(X:Cx)(ts:List PZ)(t:HZ):Prop :=
 ∀(pins:List (Ý×ϯ)) (s:ç) (Y:St) (H:Hp) (vs:List V) (us:List Ù) (Q:St->Hp->Prop),Inv X pins Y H s->Vals vs us->t vs Y H Q ->
  í (model X.prog X.w) X.A (assignInOrder ((Ş ts X.env).map (·.2)) us) (λ_ s'=>∃ Y' H',Inv X pins Y' H' s'/\Q Y' H') X.xe s
abbrev Lj:=V->V->V->Hp->(Hp->Prop)->Prop
noncomputable def Ll(X:Cx)(t:Lj):Prop :=
 ∀(pins:List (Ý×ϯ)) (s:ç) (Y:St) (H:Hp) (o i v:V) (ov iv u:Ù) (Q:Hp->Prop),Inv X pins Y H s->RelV o ov->RelV i iv->RelV v u->t o i v H Q ->
  í (model X.prog X.w) X.A (setItem ov iv u) (λ_ s'=>∃H',Inv X pins Y H' s'/\Q H') X.xe s
abbrev MS:=V->V->Hp->VK->Prop
noncomputable def MT(X:Cx)(op:Operator)(t:MS):Prop :=
 ∀(pins:List (Ý×ϯ)) (s:ç) (Y:St) (H:Hp) (x y:V) (v u:Ù) (Q:VK),Inv X pins Y H s->RelV x v->RelV y u->t x y H Q ->
  í (model X.prog X.w) X.A (inplaceOp op v u) (EP X pins Y Q) X.xe s
section
def fz(i:Nat):TG:=λv Y H Q=>Q (Y.set i (À v)) H
def Ao(hN:X.N.Nodup)(hi:X.N[i]?=À x)(hx:Loc X.env.scope x)(hf:X.fn x=Â\/X.env.scope.names.lookup x=À .local:=by first |exact .inl rfl |exact .inr rfl |assumption):PG X (.Name x pos) (fz i):=by intro pins s Y H v u Q I r h;exact wpAny_assign_Name (pY I hN hi hx r (λs' I'=>⟨_,H,I',h⟩) hf)
def KU:HZ:=λvs Y H Q=>vs=[]/\Q Y H
def E7(t:TG)(u:HZ):HZ:=λvs Y H Q=>∃v r,vs=v::r/\t v Y H λY' H'=>u r Y' H' Q
def dQ:Lm X [] KU:=by intro pins s Y H vs us Q I r h;obtain⟨e,h⟩:=h;exact assignInOrder_nil ⟨Y,H,I,h⟩
def aT(h1:PG X e t)(h2:Lm X es u)
 (hs:(Ş (e::es) X.env).map (·.2)=assign e X.env::(Ş es X.env).map (·.2):=by rfl):Lm X (e::es) (E7 t u):=by
 intro pins s Y H vs us Q I r h;obtain⟨v,vr,e1,h⟩:=h;subst e1;cases r with
 |cons r rr =>rw[hs];exact assignInOrder_cons (cc (h1 pins s Y H _ _ _ I r h) λ_ s1 ⟨σ1,H1,I1,q1⟩=>h2 pins s1 σ1 H1 _ _ Q I1 rr q1)
def Mm(K:Í)(n:Nat)(t:HZ):TG:=λv Y H Q=>∃a xs,v=.ref a/\Gg K H a xs/\xs.length=n/\t xs Y H Q
def J8(hc:X.calm=Â)(h:Lm X es t)
 (hn:(Ş es X.env).length=n:=by rfl) (hst:(Ş es X.env).findIdx? (·.1)=none:=by rfl):PG X (.Tuple es k pos) (Mm X.K n t):=by
 intro pins s Y H v u Q I r hw;obtain⟨a,xs,e1,hq,hl,hw⟩:=hw;subst e1;cases r;obtain⟨its,rv,ht,hz⟩:=I.tuple hq;exact assign_Tuple_tuple (I.ok.hd hc) ht (by simp[hn,<-hl,rv.length]) hst λh' hx=>h pins _ Y H xs _ Q (I.kept λb o e=>hx b o (Ü (Ø e)) e) (by simpa using rv) hw
def KS(to ti:TE)(t:Lj):TG:=λv Y H Q=>to Y H λo H1=>ti Y H1 λi H2=>t o i v H2 λH3=>Q Y H3
def i8(ho:PE X o to)(hi:PE X i ti)(hs:Ll X t)
 (ha:∀v,assign (.Subscript o i pos) X.env v=(do
  let ov <-holding [v] (eval o X.env)
  let iv <-holding [v,ov] (eval i X.env)
  standAt pos
  holding [v,ov,iv] (setItem ov iv v)
  release [v,ov,iv] []):=by intro _;rfl):PG X (.Subscript o i pos) (KS to ti t):=by
 intro pins s Y H v u Q I r h;rw[ha];exact È (Ċ (cc (ho pins s Y H _ I h) λov s1 ⟨x,H1,I1,r1,q1⟩=>È (Ċ (cc (hi pins s1 Y H1 _ I1 q1) λiv s2 ⟨y,H2,I2,r2,q2⟩=>È (Pf (È (Ċ (cc (hs pins s2 Y H2 x y v ov iv u _ I2 r1 r2 r q2) λ_ s3 ⟨H3,I3,q3⟩=>wpAny_release ⟨Y,H3,I3,q3⟩))))))))
def pW(te:TE)(g:TG):TS:=λD Y H=>te Y H λx H1=>g x Y H1 D.nx
def f6(he:PE X e te)(hg:PG X tg g)(hs:swapsWithSole [tg] e pos.line X.env=pure false:=by rfl)(hw:swappedStores [tg] e X.env=pure none:=by rfl)
 (h1:(Ş [tg] X.env).map (·.2)=[assign tg X.env]:=by rfl):PS X (.Assign [tg] e pos) (pW te g):=by
 intro pins s Y H D I h;refine wpAny_Assign_stores (cc (he pins s Y H _ I h) λv s1 ⟨x,H1,I1,r1,q1⟩=>?_) hs hw;rw[h1];exact cc (hg pins s1 Y H1 x v _ I1 r1 q1) λ_ s2 q=>q
def J4(hN:X.N.Nodup)(hi:X.N[i]?=À x)(hx:Loc X.env.scope x)(he:PE X e te)(hs:PU e (À (.Name x pos')) pos.line X.env=pure false:=by rfl)(hf:X.fn x=Â\/X.env.scope.names.lookup x=À .local:=by first |exact .inl rfl |exact .inr rfl |assumption) :
 PS X (.Assign [.Name x pos'] e pos) (pW te (fz i)):=by
 intro pins s Y H D I h;exact wpAny_Assign_Name (cc (he pins s Y H _ I h) λv s1 ⟨y,H1,I1,r1,q1⟩=>pY I1 hN hi hx r1 (λs2 I2=>⟨_,H1,I2,q1⟩) hf) hs
def LN(i:Nat)(te:TE)(ti:MS):TS:=λD Y H=>∃x,Y[i]?=À (À x)/\te Y H λy H1=>ti x y H1 λz H2=>D.nx (Y.set i (À z)) H2
def yS(hN:X.N.Nodup)(hi:X.N[i]?=À x)(hx:Loc X.env.scope x)(he:PE X e te)(ho:MT X op ti)(hf:X.fn x=Â\/X.env.scope.names.lookup x=À .local:=by first |exact .inl rfl |exact .inr rfl |assumption) :
 PS X (.AugAssign (.Name x pos') op e pos) (LN i te ti):=by
 intro pins s Y H D I h;obtain⟨v,e1,h⟩:=h;obtain⟨m,hn,hl⟩:=I.loc;obtain⟨u,r,l⟩:=hl i x v hi e1 (by rcases hx with k |k;exact .inl k;exact .inr (.inl k));apply wpAny_AugAssign_Name;have go:í (model X.prog X.w) X.A (eval e X.env) (λw s₂=>í (model X.prog X.w) X.A (inplaceOp op u w) (λr s₃=>í (model X.prog X.w) X.A (storeName X.env x r) (λ_=>SP X pins D .next) X.xe s₃) X.xe s₂) X.xe s:=cc (he pins s Y H _ I h) λw s1 ⟨y,H1,I1,r1,q1⟩=>cc (ho pins s1 Y H1 v y u w _ I1 r r1 q1) λz s2 ⟨zv,H2,I2,r2,q2⟩=>pY I2 hN hi hx r2 (λs3 I3=>⟨_,H2,I3,q2⟩) hf;rcases l with⟨hk,hm⟩ |⟨hk,c,hc,hcell⟩
 ·exact RD I.ok.kind hk hn hm go
 ·rcases hk with hk |hk
  ·exact R3 I.ok.kind hk hc hcell go
  ·rcases hx with k |k
   ·have:X.env.scope.names.lookup x=À .free:=hk;rw[k]at this;cases this
   ·have:X.env.scope.names.lookup x=À .free:=hk;rw[k]at this;cases this
def tAugS(to ti te:TE)(tget:V->V->Hp->VK->Prop)(tip:MS)(tset:Lj):TS:=λD Y H=>to Y H λo H1=>ti Y H1 λi H2=>tget o i H2 λx H3=>te Y H3 λy H4=>tip x y H4 λz H5=>tset o i z H5 λH6=>D.nx Y H6
noncomputable def Ln(X:Cx)(t:V->V->Hp->VK->Prop):Prop :=
 ∀(pins:List (Ý×ϯ)) (s:ç) (Y:St) (H:Hp) (o i:V) (ov iv:Ù) (Q:VK),Inv X pins Y H s->RelV o ov->RelV i iv->t o i H Q ->
  í (model X.prog X.w) X.A (R1 ov iv) (EP X pins Y Q) X.xe s
def Am(ho:PE X o to)(hi:PE X i ti)(hg:Ln X tget)(he:PE X e te)(hp:MT X op tip)(hs:Ll X tset)
 (ha:∀ov iv new,augStore i ov iv new=(do holding [new,ov,iv] (setItem ov iv new);release [new,ov,iv] [];pure .next):=by intros;rfl):PS X (.AugAssign (.Subscript o i tpos) op e pos) (tAugS to ti te tget tip tset):=by
 intro pins s Y H D I h;exact wpAny_AugAssign_SubscriptAny (cc (ho pins s Y H _ I h) λov s1 ⟨x1,H1,I1,r1,q1⟩=>cc (hi pins s1 Y H1 _ I1 q1) λiv s2 ⟨x2,H2,I2,r2,q2⟩=>cc (hg pins s2 Y H2 x1 x2 ov iv _ I2 r1 r2 q2) λold s3 ⟨x3,H3,I3,r3,q3⟩=>cc (he pins s3 Y H3 _ I3 q3) λv s4 ⟨x4,H4,I4,r4,q4⟩=>cc (hp pins s4 Y H4 x3 x4 old v _ I4 r3 r4 q4) λnew s5 ⟨x5,H5,I5,r5,q5⟩=>cc (hs pins s5 Y H5 x1 x2 x5 ov iv new _ I5 r1 r2 r5 q5) λ_ s6 ⟨H6,I6,q6⟩=>⟨Y,H6,I6,q6⟩) ha
def ipI(f:Int->Int->Int):MS:=λx y H Q=>∃i j,x=.int i/\y=.int j/\Q (.int (f i j)) H
def zd:MT X .Add (ipI λi j=>i+j):=by intro pins s Y H x y v u Q I r1 r2 h;obtain⟨i,j,e1,e2,q⟩:=h;subst e1;subst e2;obtain⟨t,rfl⟩:=r1;obtain⟨t',rfl⟩:=r2;exact iadd_int ⟨.int _,H,I.tok _,⟨_,rfl⟩,q⟩
def EX:MT X .Sub (ipI λi j=>i-j):=by intro pins s Y H x y v u Q I r1 r2 h;obtain⟨i,j,e1,e2,q⟩:=h;subst e1;subst e2;obtain⟨t,rfl⟩:=r1;obtain⟨t',rfl⟩:=r2;exact isub_int ⟨.int _,H,I.tok _,⟨_,rfl⟩,q⟩
end
section
noncomputable def DA(c:TT)(tb:TS):TS:=λD Y H=>∃W:Nat->St->Hp->Prop,(∃m,W m Y H)/\∀m Y H,W m Y H ->
 c Y H λb H1=>if b=Â then ∃N:St->Hp->Prop,(∀ Y' H',N Y' H'->∃m',m'<m/\W m' Y' H')/\tb {D with nx:=N,ct:=N,bk:=D.nx } Y H1 else D.nx Y H1
def mn(hp:PassesOwn (model X.prog X.w) X.A X.env X.xe)(hc:PT X c tc)(hb:wd X body tb):PS X (.While c body [] pos) (DA tc tb):=by
 intro pins s Y H D I h;obtain⟨W,⟨m0,w0⟩,turn⟩:=h;refine wpAny_While (codeAny_whileLoop (λn s'=>∃ Y' H',Inv X pins Y' H' s'/\W n Y' H') ?_ m0 ⟨Y,H,I,w0⟩);rintro n s1 ⟨σ1,H1,I1,w1⟩;refine Η hp (cc (hc pins s1 σ1 H1 _ I1 (turn n σ1 H1 w1)) λb s2 ⟨H2,I2,q2⟩=>?_);cases b with
 |true =>
  obtain⟨N,hN,q2⟩:=q2;refine Η hp (cc (hb pins s2 σ1 H2 _ I2 q2) λf s3 q3=>?_);cases f with
  |next =>obtain⟨σ3,H3,I3,n3⟩:=q3;obtain⟨m',hm,w3⟩:=hN σ3 H3 n3;exact⟨m',hm,σ3,H3,I3,w3⟩
  |cont =>obtain⟨σ3,H3,I3,n3⟩:=q3;obtain⟨m',hm,w3⟩:=hN σ3 H3 n3;exact⟨m',hm,σ3,H3,I3,w3⟩
  |brk=>exact q3
  |ret v=>exact q3
 |false =>exact Pu ⟨σ1,H2,I2,q2⟩
end
structure It where
 go:Nat->Hp->Prop
 LC:Nat->Hp->V->Hp->Prop
 stop:Nat->Hp->Prop
def yb(X:Cx)(pins:List (Ý×ϯ))(H:Hp)(b:Ý):Prop :=
 H b=Á/\b≠X.env.locals/\b∉X.fs/\(b∈X.ex\/X.s₀.heap.objs.size<=b)/\(∀x c,X.env.cells.lookup x=À c->c≠b)/\∀p∈X.pn++pins,p.1≠b
def Inv.zh(I:Inv X pins Y H s)(hb:s.heap.objs.size<=b)(hn:H' b=Á):yb X pins H' b:=by
 refine⟨hn,ş (è I.lt hb),I.Nh hb,.inr (ø I.sz hb),λx c e z=>?_,λp hp z=>?_⟩
 ·obtain⟨v,q⟩:=I.cell x c e;exact absurd (è q.lt (by rw[z];exact hb)) (ĕ _)
 ·exact absurd (è (Ø (I.pin p hp).1) (by rw[z];exact hb)) (ĕ _)
structure Turn(P:Δ)(w:Ŷ)(K:Í)(tg:PZ)(J:It)(fp:List Ý)(it:Ý)(tn:Nat->Ő->Prop):Prop where
 mem:it∈fp
 obj:∀i h,tn i h->∀b∈fp,∃o,h.get? b=À o/\∀v,o.data≠.cell v
 keep:∀i h h',tn i h->(∀b∈fp,∀o,h.get? b=À o->h'.get? b=À o)->tn i h'
 item:∀(X:Cx),X.prog=P->X.w=w->X.K=K->X.calm=Â->∀(i:Nat) (pins:List (Ý×ϯ)) (s:ç) (Y:St) (H:Hp) (E:Ù->ç->Prop),Inv X pins Y H s->(∀b∈fp,yb X pins H b)->tn i s.heap->J.go i H ->
  í (model P w) X.A (ON (.ref it)) (λr s1=>∃u,r=À u /\
   í (model P w) X.A (Ri tg (.ref it) u) (λ_ s2=>∃x H',Inv X pins Y H' s2/\RelV x u/\J.LC i H x H'/\tn (i+1) s2.heap/\∀b∈fp,H' b=Á) E s1) E s
 done:∀(X:Cx),X.prog=P->X.w=w->X.K=K->X.calm=Â->∀(i:Nat) (pins:List (Ý×ϯ)) (s:ç) (Y:St) (H:Hp) (E:Ù->ç->Prop),Inv X pins Y H s->(∀b∈fp,yb X pins H b)->tn i s.heap->J.stop i H ->
  í (model P w) X.A (ON (.ref it)) (λr s1=>r=Á/\Inv X pins Y H s1) E s
 self:∀(A:Ŝ) (i:Nat) (s:ç) (Q:Ù->ç->Prop) (E:Ù->ç->Prop),tn i s.heap->Q (.ref it) s->í (model P w) A (Tj (.ref it)) Q E s
abbrev TI:=St->Hp->(It->Hp->Prop)->Prop
noncomputable def Oc(X:Cx)(pins:List (Ý×ϯ))(Y:St)(tg:PZ)(R:It->Hp->Prop)(itv:Ù)(s2:ç):Prop :=
 ∃(it:Ý) (fp:List Ý) (tn:Nat->Ő->Prop) (J:It) (H':Hp),itv=.ref it/\Inv X pins Y H' s2/\Turn X.prog X.w X.K tg J fp it tn/\tn 0 s2.heap/\(∀b∈fp,yb X pins H' b)/\R J H'
noncomputable def PI(X:Cx)(tg iter:PZ)(wi:TI):Prop :=
 ∀(pins:List (Ý×ϯ)) (s:ç) (Y:St) (H:Hp) (R:It->Hp->Prop),Inv X pins Y H s->wi Y H R ->
  í (model X.prog X.w) X.A (eval iter X.env) (λv s1=>í (model X.prog X.w) X.A (Tj v) (Oc X pins Y tg R) X.xe s1) X.xe s
def AZ(ho:s.heap.get? it=some o)(hc:o.cls=.type n)(hd:o.data=.fields vs)
    (hn:["enumerate", "zip", "dict_itemiterator", "dict_reverseitemiterator", "odict_iterator", "itertools.zip_longest", "itertools.pairwise"].contains n=Ã) (hQ:Q () s):í M A (Ri tg (.ref it) u) Q E s:=by
  cases tg <;> first
    |exact Ï hQ
    |(cases u <;> first
        |exact Ï hQ
        | (refine wpAny_bind (wpAny_load ho ?_)
           rw[hc,hd];show í M A (if (["enumerate", "zip", "dict_itemiterator", "dict_reverseitemiterator", "odict_iterator", "itertools.zip_longest", "itertools.pairwise"].contains n&&vs[0]?==À (ũ _))=Â then _ else _) Q E s;rw[if_neg (by intro h;rw[hn]at h;cases h)];exact Ï hQ))
def MV(K:Í)(a:Ý):It :=
 ⟨λi H=>∃xs x,cE K H a xs/\xs[i]?=À x,λi H x H'=>H'=H/\∀xs,cE K H a xs->xs[i]?=À x,λi H=>∃xs,cE K H a xs/\xs.length<=i⟩
def ME(lo:Int)(n:Nat):It:=⟨λi _=>i<n,λi H x H'=>H'=H/\x=.int (lo+i),λi _=>n<=i⟩
def Bu{K:Í}(a it:Ý):Turn P w K tg (MV K a) [it] it (λi h=>h.IsListIter it a i) where
 mem:=by simp
 obj:=λi h st b hb=>by obtain⟨o,e,c,d⟩:=st;simp_all
 keep:=λi h h' st k=>st.at λo e=>k it (by simp) o e
 item:=by intro X hP hw hK hc i pins s Y H E I hf st hg;subst hP hw hK;obtain⟨xs,x,hq,hx⟩:=hg;obtain⟨its,rv,p,hz⟩:=I.list hq;obtain⟨u,hu,ru⟩:=rv.get hx;obtain⟨f0,f1,f2,f3,f4,f5⟩:=hf it (by simp);refine QY st p.isList (by simpa using hu) λh' st' sb=>?_;obtain⟨o,e,c,d⟩:=id st';exact⟨u,rfl,AZ e c d (rfl) ⟨x,H,(I.turned (λb o hb e=>(sb.2 b hb).trans e) f0 f1 f3 f4 f5),ru,⟨rfl,λys hy=>by rw[I.jW hy hq];exact hx⟩,st',λb hb=>(hf b hb).1⟩⟩
 done:=by intro X hP hw hK hc i pins s Y H E I hf st hg;subst hP hw hK;obtain⟨xs,hq,hx⟩:=hg;obtain⟨its,rv,p,hz⟩:=I.list hq;obtain⟨f0,f1,f2,f3,f4,f5⟩:=hf it (by simp);have hl:=rv.length;exact Ru (I.ok.hd hc) st p.isList (by simp;exact hl ▸ hx) λh' eb=>⟨rfl,I.turned (λb o hb e=>eb b o hb e) f0 f1 f3 f4 f5⟩
 self:=λ_ _ _ _ _ st h=>wpAny_pyIter_listiter st h
def yu{K:Í}(it:Ý)(lo:Int)(n:Nat):Turn P w K tg (ME lo n) [it] it (λi h=>IsRangeIter h it (lo+(i:Nat)*1) ((n:Int)-(i:Nat)) 1) where
 mem:=by simp
 obj:=λi h st b hb=>by simp_all
 keep:=λi h h' st k=>k it (by simp) _ st
 item:=by intro X hP hw hK hc i pins s Y H E I hf st hg;obtain⟨f0,f1,f2,f3,f4,f5⟩:=hf it (by simp);refine(Walks.range (I.ok.hd hc) it lo 1 n).item i s _ _ hg st λv h' tk hv st' kk=>?_;obtain⟨t,rfl⟩:=hv;refine⟨_,rfl,AZ st' rfl rfl rfl ⟨.int (lo+i),H,(I.turned (λb o hb e=>kk b o (by simpa using hb) e) f0 f1 f3 f4 f5),⟨t,?_⟩,⟨rfl,rfl⟩,st',λb hb=>(hf b hb).1⟩⟩;rw[RE]
 done:=by intro X hP hw hK hc i pins s Y H E I hf st hg;obtain⟨f0,f1,f2,f3,f4,f5⟩:=hf it (by simp);exact wpAny_pyNext_range_end (I.ok.hd hc) st (by have:n<=i:=hg;lia) λh' eb=>⟨rfl,I.turned (λb o hb e=>eb b o hb e) f0 f1 f3 f4 f5⟩
 self:=λ_ _ _ _ _ st h=>wpAny_pyIter_rangeiter st h
section
def t6(K:Í)(tl:TE):TI:=λY H R=>tl Y H λx H1=>∃a,x=.ref a/\(∃xs,cE K H1 a xs)/\R (MV K a) H1
def He(hl:PE X l tl):PI X tg l (t6 X.K tl):=by
 intro pins s Y H R I h;refine cc (hl pins s Y H _ I h) λv s1 ⟨x,H1,I1,r1,q1⟩=>?_;obtain⟨a,e,⟨xs,hq⟩,q⟩:=q1;subst e;cases r1;obtain⟨its,rv,p,hz⟩:=I1.list hq;refine ϡ p.isList (⟨s1.heap.objs.size,[s1.heap.objs.size],_,_,H1,rfl,I1.kept λb o e=>Ì _ e,Bu a _,⟨_,å _ rfl,rfl,rfl⟩,λb hb=>?_,q⟩);have e:=by simpa using hb
 subst e;exact I1.zh (Õ _) (I1.bJ.fresh (Õ _))
def wX{lo:Int}(I:Inv X pins Y H s)(h1:-(2 ^ 62)<=lo)(h2:lo<2 ^ 62)(h3:-(2 ^ 62)<=hi)(h4:hi<2 ^ 62)
 (q:R (ME lo (hi-lo).toNat) H):í (model X.prog X.w) X.A (Tj (.ref s.heap.objs.size)) (Oc X pins Y tg R) E {s with heap:=s.heap.push {cls:=.type "range", data:=.fields #[.int lo t,.int hi u,.int 1 v] },toks:=tk }:=by
 apply wpAny_pyIter_range (IsRange.new ..) (small_one h1 h2 h3 h4);have I1:Inv X pins Y H {s with heap:=s.heap.push {cls:=.type "range", data:=.fields #[.int lo t,.int hi u,.int 1 v] },toks:=tk }:=I.kept λb o e=>Ì _ e
 refine⟨(s.heap.push {cls:=.type "range", data:=.fields #[.int lo t,.int hi u,.int 1 v] }).objs.size,[(s.heap.push {cls:=.type "range", data:=.fields #[.int lo t,.int hi u,.int 1 v] }).objs.size],_,_,H,rfl,
  I1.kept λb o e=>Ì _ e,yu _ lo (hi-lo).toNat,?_,λb hb=>?_,q⟩
 ·rw[(by simp:lo+((0:Nat))*1=lo),(by rw[rangeSize_one];split <;> lia:(((hi-lo).toNat))-((0:Nat))=Builtin.Range.rangeSize lo hi 1)];exact å _ rfl
 ·have e:b=(s.heap.push {cls:=.type "range", data:=.fields #[.int lo t,.int hi u,.int 1 v] }).objs.size:=by simpa using hb
  subst e;exact I1.zh (Õ _) (I1.bJ.fresh (Õ _))
def IQ(ta:TA):TI:=λY H R=>ta Y H λvs H1=>∃j:Int,vs=[.int j]/\-(2 ^ 62)<=j/\j<2 ^ 62/\R (ME 0 j.toNat) H1
def IP(ta:TA):TI:=λY H R=>ta Y H λvs H1=>∃i j:Int,vs=[.int i,.int j]/\(-(2 ^ 62)<=i/\i<2 ^ 62/\-(2 ^ 62)<=j/\j<2 ^ 62)/\R (ME i (j-i).toNat) H1
def cN(hg:Gl X "range")(hm:X.mg "range" = Á)(ha:PA X [a] ta)(hs:ġ [a] X.env=[(Ã,eval a X.env)]:=by rfl):PI X tg (.Call (.Name "range" p) [a] [] pos) (IQ ta):=by
 intro pins s Y H R I h;refine Call_ (eI I hg hm boot_range (Ğ (cc (ha pos pins s Y H _ I h) λus s1 ⟨vs,H1,I1,r1,q1⟩=>?_) hs rfl));obtain⟨j,e,q1,q2,q⟩:=q1;subst e;cases r1 with
 |cons r rr =>cases rr;obtain⟨t,rfl⟩:=r;exact call_range_1 (wX I1 (à _) (à _) q1 q2 (by simpa using q))
def tT(hg:Gl X "range")(hm:X.mg "range" = Á)(ha:PA X [a,b] ta)(hs:ġ [a,b] X.env=[(Ã,eval a X.env),(Ã,eval b X.env)]:=by rfl)(hs2:ġ [b] X.env=[(Ã,eval b X.env)]:=by rfl) :
 PI X tg (.Call (.Name "range" p) [a,b] [] pos) (IP ta):=by
 intro pins s Y H R I h;refine Call_ (eI I hg hm boot_range (Ğ (cc (ha pos pins s Y H _ I h) λus s1 ⟨vs,H1,I1,r1,q1⟩=>?_) (by rw[hs,hs2]) (by rw[hs2];rfl)));obtain⟨i,j,e,⟨q1,q2,q3,q4⟩,q⟩:=q1;subst e;cases r1 with
 |cons r rr =>
  cases rr with
  |cons r' rr =>cases rr;obtain⟨t,rfl⟩:=r;obtain⟨t',rfl⟩:=r';exact call_range_2 (wX I1 q1 q2 q3 q4 q)
noncomputable def DI(wi:TI)(g:TG)(tb:TS):TS:=λD Y H=>wi Y H λJ H1=>∃W:Nat->Nat->St->Hp->Prop,(∃m,W 0 m Y H1)/\∀i m Y H,W i m Y H ->
 (J.stop i H/\D.nx Y H)\/(J.go i H/\∃N:St->Hp->Prop,(∀ Y' H',N Y' H'->∃m',m'<m/\W (i+1) m' Y' H')/\∀x H',J.LC i H x H'->g x Y H' fun σ2 H2=>tb {D with nx:=N,ct:=N,bk:=D.nx } σ2 H2)
def qz(fp:List Ý)(h:Ő):List (Ý×ϯ):=fp.filterMap λb=>(h.get? b).map λo=>(b,o)
def i9(hb:b∈fp)(e:h.get? b=À o):(b,o)∈qz fp h:=ώ.mpr ⟨b,hb,by rw[e];rfl⟩
def B7(hp:p∈qz fp h):p.1∈fp/\h.get? p.1=À p.2:=by
 obtain⟨b,hb,e⟩:=ώ.mp hp;cases q:h.get? b with
 |none=>rw[q]at e;cases e
 |some o =>rw[q]at e;have e':=þ e;subst e';exact⟨hb,q⟩
def Inv.pinned(I:Inv X pins Y H s)(hf:∀b∈fp,yb X pins H b)(ho:∀b∈fp,∃o,s.heap.get? b=À o/\∀v,o.data≠.cell v):Inv X (pins++qz fp s.heap) Y H s :=
 I.kr λp hp=>(â.mp hp).elim (λz=>I.pin p (Ô _ z)) λz=>by obtain⟨hb,e⟩:=B7 z;obtain⟨f0,f1,f2,_⟩:=hf p.1 hb;obtain⟨o,e',d⟩:=ho p.1 hb;rw[e]at e';cases e';exact⟨e,f0,f1,f2,d⟩
def Inv.fT(I:Inv X (pins++pl) Y H s):Inv X pins Y H s:=I.kr λp hp=>I.pin p (Ô _ (ô _ hp))
def cQ(hp:PassesOwn (model X.prog X.w) X.A X.env X.xe)(hc:X.calm=Â)(hi:PI X tg iter wi)(hg:PG X tg g)(hb:wd X body tb)
 (hs:∀x,Ŏ iter X.env x=pure x:=by intro _;rfl):PS X (.For tg iter body [] pos) (DI wi g tb):=by
 intro pins s Y H D I h;refine wpAny_For (cc (hi pins s Y H _ I h) λv s1 h1=>cc h1 λitv s2 h2=>?_) hs;obtain⟨it,fp,tn,J,H2,e,I2,T,st2,f2,W,⟨m0,w0⟩,turn⟩:=h2;subst e;have stat:∀{H':Hp},(∀b∈fp,H' b=Á)->∀b∈fp,yb X pins H' b:=λhn b hb=>⟨hn b hb,(f2 b hb).2⟩
 refine codeAny_forLoop_any (λn s'=>∃i Y' H',Inv X pins Y' H' s'/\tn i s'.heap/\(∀b∈fp,H' b=Á)/\W i n Y' H') ?_ m0 ⟨0,Y,H2,I2,st2,λb hb=>(f2 b hb).1,w0⟩;rintro n s3 ⟨i,σ3,H3,I3,st3,fr3,w3⟩;rcases turn i n σ3 H3 w3 with⟨stop,qn⟩ |⟨go,N,hN,step⟩
 ·refine Η hp (cc (T.done X rfl rfl rfl hc i pins s3 σ3 H3 X.xe I3 (stat fr3) st3 stop) λr s4 ⟨hr,I4⟩=>?_);subst hr;exact Pu ⟨σ3,H3,I4,qn⟩
 ·refine Η hp (cc (T.item X rfl rfl rfl hc i pins s3 σ3 H3 X.xe I3 (stat fr3) st3 go) λr s4 ⟨u,hr,h4⟩=>?_);subst hr;refine Η hp (cc h4 λ_ s5 ⟨x,H5,I5,r5,y5,st5,fr5⟩=>?_);refine Η hp (cc (hg _ s5 σ3 H5 x u _ (I5.pinned (stat fr5) (T.obj _ _ st5)) r5 (step x H5 y5)) λ_ s6 ⟨σ6,H6,I6,q6⟩=>Η hp (cc (hb _ s6 σ6 H6 _ I6 q6) λf s7 q7=>?_));have again:∀{σ7:St} {H7:Hp},Inv X (pins++qz fp s5.heap) σ7 H7 s7->N σ7 H7->∃m,m<n/\∃i Y' H',Inv X pins Y' H' s7/\tn i s7.heap/\(∀b∈fp,H' b=Á)/\W i m Y' H':=λ{σ7 H7} I7 n7=>by obtain⟨m',hm,w7⟩:=hN σ7 H7 n7;refine⟨m',hm,i+1,σ7,H7,I7.fT,T.keep _ _ _ st5 λb hb o e=>(I7.pin (b,o) (Ô _ (Ô _ (i9 hb e)))).1,λb hb=>?_,w7⟩;obtain⟨o,e,d⟩:=T.obj _ _ st5 b hb;exact(I7.pin (b,o) (Ô _ (Ô _ (i9 hb e)))).2.1
  cases f with
  |next=>obtain⟨σ7,H7,I7,n7⟩:=q7;exact again I7 n7
  |cont=>obtain⟨σ7,H7,I7,n7⟩:=q7;exact again I7 n7
  |brk=>obtain⟨σ7,H7,I7,q7⟩:=q7;exact⟨σ7,H7,I7.fT,q7⟩
  |ret v=>obtain⟨x7,σ7,H7,I7,r7,q7⟩:=q7;exact⟨x7,σ7,H7,I7.fT,r7,q7⟩
end
abbrev R2:=V->V->Hp->VK->Prop
noncomputable def o6(X:Cx)(f:Ù->Ù->Sem Ù)(r:R2):Prop :=
 ∀(pins:List (Ý×ϯ)) (s:ç) (Y:St) (H:Hp) (x y:V) (v u:Ù) (Q:VK),Inv X pins Y H s->RelV x v->RelV y u->r x y H Q ->
  í (model X.prog X.w) X.A (f v u) (EP X pins Y Q) X.xe s
noncomputable def NI(X:Cx)(f:Ù->Sem Ù)(r:V->Hp->VK->Prop):Prop :=
 ∀(pins:List (Ý×ϯ)) (s:ç) (Y:St) (H:Hp) (x:V) (v:Ù) (Q:VK),Inv X pins Y H s->RelV x v->r x H Q ->
  í (model X.prog X.w) X.A (f v) (EP X pins Y Q) X.xe s
noncomputable def cG(X:Cx)(f:Ù)(r:List V->Hp->VK->Prop):Prop :=
 ∀(pins:List (Ý×ϯ)) (s:ç) (Y:St) (H:Hp) (xs:List V) (us:List Ù) (Q:VK),Inv X pins Y H s->Vals xs us->r xs H Q ->
  í (model X.prog X.w) X.A (call f us) (EP X pins Y Q) X.xe s
noncomputable def NJ(X:Cx)(r:V->Hp->(Bool->Hp->Prop)->Prop):Prop :=
 ∀(pins:List (Ý×ϯ)) (s:ç) (Y:St) (H:Hp) (x:V) (v:Ù) (Q:Bool->Hp->Prop),Inv X pins Y H s->RelV x v->r x H Q ->
  í (model X.prog X.w) X.A (truthy v) (TP X pins Y Q) X.xe s
def tOp(r:R2)(ta tb:TE):TE:=λY H Q=>ta Y H λx H1=>tb Y H1 λy H2=>r x y H2 Q
def NS(r:V->Hp->VK->Prop)(ta:TE):TE:=λY H Q=>ta Y H λx H1=>r x H1 Q
def rI(C:Int->Int->Prop)(g:Int->Int->V):R2:=λx y H Q=>∃i j,x=.int i/\y=.int j/\C i j/\Q (g i j) H
def yQ(g:Int->Int->V):R2:=λx y H Q=>∃i j,x=.int i/\y=.int j/\Q (g i j) H
def rU(g:Int->V):V->Hp->VK->Prop:=λx H Q=>∃i,x=.int i/\Q (g i) H
section
def Lf(ha:PE X a ta)(hb:PE X b tb){R:V->V->Hp->Prop}(I:Inv X pins Y H s)
 (h:ta Y H λx H1=>tb Y H1 λy H2=>R x y H2) {f:Ù->Ù->Sem Ù}
 (hf:∀v u s2 x y H2,Inv X pins Y H2 s2->RelV x v->RelV y u->R x y H2->í (model X.prog X.w) X.A (f v u) Q X.xe s2) :
 í (model X.prog X.w) X.A (eval a X.env) (λv s₁=>í (model X.prog X.w) X.A (eval b X.env) (λu s₂=>í (model X.prog X.w) X.A (f v u) Q X.xe s₂) X.xe s₁) X.xe s:=cc (ha pins s Y H _ I h) λv s1 ⟨x,H1,I1,r1,q1⟩=>cc (hb pins s1 Y H1 _ I1 q1) λu s2 ⟨y,H2,I2,r2,q2⟩=>hf v u s2 x y H2 I2 r1 r2 q2
def aq(ho:o6 X (Pg op) r)(ha:PE X a ta)(hb:PE X b tb):PE X (.BinOp a op b pos) (tOp r ta tb):=by intro pins s Y H Q I h;exact wpAny_BinOp (Lf ha hb I h λv u s2 x y H2 I2 rx ry q=>ho pins s2 Y H2 x y v u Q I2 rx ry q)
def jS(ho:NI X (unaryOp op) r)(ha:PE X a ta):PE X (.UnaryOp op a pos) (NS r ta):=by intro pins s Y H Q I h;exact UnaryOp_ (cc (ha pins s Y H _ I h) λv s1 ⟨x,H1,I1,r1,q1⟩=>ho pins s1 Y H1 x v Q I1 r1 q1)
def MM{g:Int->Int->Int}
 (rule:∀(i j:Int) (t u:Tok) (s:ç) (Q:Ù->ç->Prop) (E:Ù->ç->Prop),C i j->Q (.int (g i j) s.toks) {s with toks:=s.toks+1 }->í (model X.prog X.w) X.A (f (.int i t) (.int j u)) Q E s) :
 o6 X f (rI C λi j=>.int (g i j)):=by
 intro pins s Y H x y v u Q I rx ry h;obtain⟨i,j,rfl,rfl,hc,q⟩:=h;obtain⟨t,rfl⟩:=rx;obtain⟨t',rfl⟩:=ry;exact rule i j t t' s _ _ hc ⟨.int (g i j),H,I.tok _,⟨_,rfl⟩,q⟩
def Me{g:Int->Int->Int}
 (rule:∀(i j:Int) (t u:Tok) (s:ç) (Q:Ù->ç->Prop) (E:Ù->ç->Prop),Q (.int (g i j) s.toks) {s with toks:=s.toks+1 }->í (model X.prog X.w) X.A (f (.int i t) (.int j u)) Q E s) :
 o6 X f (yQ λi j=>.int (g i j)):=by
 intro pins s Y H x y v u Q I rx ry h;obtain⟨i,j,rfl,rfl,q⟩:=h;obtain⟨t,rfl⟩:=rx;obtain⟨t',rfl⟩:=ry;exact rule i j t t' s _ _ ⟨.int (g i j),H,I.tok _,⟨_,rfl⟩,q⟩
def Hm{g:Int->Int->Bool}
 (rule:∀(i j:Int) (t u:Tok) (s:ç) (Q:Ù->ç->Prop) (E:Ù->ç->Prop),Q (.bool (g i j)) s->í (model X.prog X.w) X.A (f (.int i t) (.int j u)) Q E s) :
 o6 X f (yQ λi j=>.bl (g i j)):=by
 intro pins s Y H x y v u Q I rx ry h;obtain⟨i,j,rfl,rfl,q⟩:=h;obtain⟨t,rfl⟩:=rx;obtain⟨t',rfl⟩:=ry;exact rule i j t t' s _ _ ⟨.bl (g i j),H,I,rfl,q⟩
def CQ(i j:Int):Prop:=0<=j/\j<=1000000/\i.natAbs<2 ^ 64
def Lp(i j:Int):Prop:=(-(2 ^ 64)<i/\i<2 ^ 64)\/(-(2 ^ 64)<j/\j<2 ^ 64)
def Lp.ok(h:Lp i j):RF i j:=by
 rcases h with⟨h1,h2⟩ |⟨h1,h2⟩
 ·exact .of_left (intBits_le_64 h1 h2)
 ·exact .of_right (intBits_le_64 h1 h2)
def bw:o6 X (Pg .Add) (yQ λi j=>.int (i+j)):=Me λ_ _ _ _ _ _ _ q=>add_int q
def cX:o6 X (Pg .Sub) (yQ λi j=>.int (i-j)):=Me λ_ _ _ _ _ _ _ q=>sub_int q
def bC:o6 X (Pg .Mod) (rI (λ_ j=>0<j) λi j=>.int (i % j)):=MM λi j _ _ _ _ _ hc q=>mod_int' (OO hc) (by rw[Int.fmod_eq_emod_of_nonneg i (OP hc)];exact q)
def EB:o6 X (Pg .Pow) (rI CQ λi j=>.int (i ^ j.toNat)):=MM λ_ _ _ _ _ _ _ hc q=>pow_int_small hc.1 hc.2.1 hc.2.2 q
def Gy{g:Int->Int}
 (rule:∀(i:Int) (t:Tok) (s:ç) (Q:Ù->ç->Prop) (E:Ù->ç->Prop),Q (.int (g i) s.toks) {s with toks:=s.toks+1 }->í (model X.prog X.w) X.A (f (.int i t)) Q E s) :
 NI X f (rU λi=>.int (g i)):=by
 intro pins s Y H x v Q I rx h;obtain⟨i,rfl,q⟩:=h;obtain⟨t,rfl⟩:=rx;exact rule i t s _ _ ⟨.int (g i),H,I.tok _,⟨_,rfl⟩,q⟩
def fU:NI X (unaryOp .USub) (rU λi=>.int (-i)):=Gy λ_ _ _ _ _ q=>neg_int q
end
noncomputable def lh:V->V->Bool
 |.non,.non=>Â |.non,.int _=>Â |.int _,.non=>Â |.non,.bl _=>Â |.bl _,.non=>Â |.non,.str _=>Â |.str _,.non=>Â
 |.int _,.int _=>Â |.bl _,.bl _=>Â |.str _,.str _=>Â |.byt _,.byt _=>Â
 |.int _,.str _=>Â |.str _,.int _=>Â |.bl _,.str _=>Â |.str _,.bl _=>Â
 |_,_=>Ã
def Oh:R2:=λx y H Q=>lh x y=Â/\Q (.bl (decide (x=y))) H
def Og:R2:=λx y H Q=>lh x y=Â/\Q (.bl (!decide (x=y))) H
def pJ:decide (V.int i=V.int j)=(i==j):=by rw[Ķ];simp
def vT:decide (V.bl i=V.bl j)=(i==j):=by rw[Ķ];simp
def pI:decide (V.str i=V.str j)=(i==j):=by rw[Ķ];simp
def Bb:decide (V.byt i=V.byt j)=(i.toList==j.toList):=by rw[Ķ];simp
section
def bz(I:Inv X pins Y H s)(q:Q (.bl k) H)(e:k=k'):EP X pins Y Q (.bool k') s:=by subst e;exact⟨.bl k,H,I,rfl,q⟩
def Au:o6 X (ū .Eq) Oh:=by
 intro pins s Y H x y v u Q I rx ry h;obtain⟨hs,q⟩:=h;cases x with
 |non =>
  cases rx;cases y with
  |non=>cases ry;exact PySem.EqNone.eq_none_none (bz I q (by simp))
  |bl j=>cases ry;exact PySem.EqNone.eq_none_bool (bz I q (by simp))
  |int j=>obtain⟨t',rfl⟩:=ry;exact PySem.EqNone.eq_none_int (bz I q (by simp))
  |str j=>obtain⟨t',rfl⟩:=ry;exact PySem.EqNone.eq_none_str (bz I q (by simp))
  |_=>exact absurd (show Ã=Â from hs) ñ
 |bl i =>
  cases rx;cases y with
  |non=>cases ry;exact PySem.EqNone.eq_bool_none (bz I q (by simp))
  |bl j=>cases ry;exact eq_bool (bz I q vT)
  |str j=>obtain⟨t',rfl⟩:=ry;exact PySem.EqMixed.eq_bool_str (bz I q (by simp))
  |_=>exact absurd (show Ã=Â from hs) ñ
 |int i =>
  obtain⟨t,rfl⟩:=rx;cases y with
  |non=>cases ry;exact PySem.EqNone.eq_int_none (bz I q (by simp))
  |int j=>obtain⟨t',rfl⟩:=ry;exact eq_int (bz I q pJ)
  |str j=>obtain⟨t',rfl⟩:=ry;exact PySem.EqMixed.eq_int_str (bz I q (by simp))
  |_=>exact absurd (show Ã=Â from hs) ñ
 |str i =>
  obtain⟨t,rfl⟩:=rx;cases y with
  |non=>cases ry;exact PySem.EqNone.eq_str_none (bz I q (by simp))
  |bl j=>cases ry;exact PySem.EqMixed.eq_str_bool (bz I q (by simp))
  |int j=>obtain⟨t',rfl⟩:=ry;exact PySem.EqMixed.eq_str_int (bz I q (by simp))
  |str j=>obtain⟨t',rfl⟩:=ry;exact eq_str (bz I q pI)
  |_=>exact absurd (show Ã=Â from hs) ñ
 |byt i =>
  obtain⟨t,rfl⟩:=rx;cases y with
  |byt j=>obtain⟨t',rfl⟩:=ry;exact PySem.W.eq_bytes (bz I q Bb)
  |_=>exact absurd (show Ã=Â from hs) ñ
 |_=>cases y <;> exact absurd (show Ã=Â from hs) ñ
def As:o6 X (ū .NotEq) Og:=by
 intro pins s Y H x y v u Q I rx ry h;obtain⟨hs,q⟩:=h;cases x with
 |non =>
  cases rx;cases y with
  |non=>cases ry;exact PySem.EqNone.ne_none_none (bz I q (by simp))
  |bl j=>cases ry;exact PySem.EqNone.ne_none_bool (bz I q (by simp))
  |int j=>obtain⟨t',rfl⟩:=ry;exact PySem.EqNone.ne_none_int (bz I q (by simp))
  |str j=>obtain⟨t',rfl⟩:=ry;exact PySem.EqNone.ne_none_str (bz I q (by simp))
  |_=>exact absurd (show Ã=Â from hs) ñ
 |bl i =>
  cases rx;cases y with
  |non=>cases ry;exact PySem.EqNone.ne_bool_none (bz I q (by simp))
  |bl j=>cases ry;exact ne_bool (bz I q (congrArg not vT))
  |str j=>obtain⟨t',rfl⟩:=ry;exact PySem.EqMixed.ne_bool_str (bz I q (by simp))
  |_=>exact absurd (show Ã=Â from hs) ñ
 |int i =>
  obtain⟨t,rfl⟩:=rx;cases y with
  |non=>cases ry;exact PySem.EqNone.ne_int_none (bz I q (by simp))
  |int j=>obtain⟨t',rfl⟩:=ry;exact ne_int (bz I q (congrArg not pJ))
  |str j=>obtain⟨t',rfl⟩:=ry;exact PySem.EqMixed.ne_int_str (bz I q (by simp))
  |_=>exact absurd (show Ã=Â from hs) ñ
 |str i =>
  obtain⟨t,rfl⟩:=rx;cases y with
  |non=>cases ry;exact PySem.EqNone.ne_str_none (bz I q (by simp))
  |bl j=>cases ry;exact PySem.EqMixed.ne_str_bool (bz I q (by simp))
  |int j=>obtain⟨t',rfl⟩:=ry;exact PySem.EqMixed.ne_str_int (bz I q (by simp))
  |str j=>obtain⟨t',rfl⟩:=ry;exact ne_str (bz I q (congrArg not pI))
  |_=>exact absurd (show Ã=Â from hs) ñ
 |byt i =>
  obtain⟨t,rfl⟩:=rx;cases y with
  |byt j=>obtain⟨t',rfl⟩:=ry;exact PySem.W.ne_bytes (bz I q (congrArg not Bb))
  |_=>exact absurd (show Ã=Â from hs) ñ
 |_=>cases y <;> exact absurd (show Ã=Â from hs) ñ
def jr:o6 X (ū .Lt) (yQ λi j=>.bl (decide (i<j))):=Hm λ_ _ _ _ _ _ _ q=>lt_int q
def tX:o6 X (ū .LtE) (yQ λi j=>.bl (decide (i<=j))):=Hm λ_ _ _ _ _ _ _ q=>le_int q
def kP:o6 X (ū .Gt) (yQ λi j=>.bl (decide (j<i))):=Hm λ_ _ _ _ _ _ _ q=>gt_int q
def qD:o6 X (ū .GtE) (yQ λi j=>.bl (decide (j<=i))):=Hm λ_ _ _ _ _ _ _ q=>ge_int q
def Kh:o6 X (ū .Is) (λx y H Q=>y=.non/\Q (.bl (decide (x=.non))) H):=by
 intro pins s Y H x y v u Q I rx ry h;obtain⟨rfl,q⟩:=h;cases ry;refine is_none_gen (bz I q ?_)
 cases x <;> first
  |(rfl)
  |(obtain⟨t,rfl⟩:=rx;rfl)
def Hl:o6 X (ū .IsNot) (λx y H Q=>y=.non/\Q (.bl (!decide (x=.non))) H):=by
 intro pins s Y H x y v u Q I rx ry h;obtain⟨rfl,q⟩:=h;cases ry;refine isnot_none_gen (bz I q ?_)
 cases x <;> first
  |(rfl)
  |(obtain⟨t,rfl⟩:=rx;rfl)
def aD(b:PZ)(h:op≠.In:=by decide)(h2:op≠.NotIn:=by decide):Pe op b=false:=by cases b <;> simp[Pe,(by lia:(op==CmpOp.In)=Ã),(by simp_all:(op==CmpOp.NotIn)=Ã)]
def dG(ho:o6 X (ū op) r)(ha:PE X a ta)(hb:PE X b tb)(hm:Pe op b=Ã):PE X (.Compare a [op] [b] pos) (tOp r ta tb):=by intro pins s Y H Q I h;exact wpAny_Compare1 (Lf ha hb I h λv u s2 x y H2 I2 rx ry q=>ho pins s2 Y H2 x y v u Q I2 rx ry q) hm
def Ik(t:TE):TT:=λY H Q=>t Y H λx H'=>∃k,x=.bl k/\Q k H'
def aF(ho:o6 X (ū op) r)(ha:PE X a ta)(hb:PE X b tb)(hm:Pe op b=Ã):PT X (.Compare a [op] [b] pos) (Ik (tOp r ta tb)):=by intro pins s Y H Q I h;refine Rt (cc (ha pins s Y H _ I h) λv s1 ⟨x,H1,I1,r1,q1⟩=>cc (hb pins s1 Y H1 _ I1 q1) λu s2 ⟨y,H2,I2,r2,q2⟩ =>cc (ho pins s2 Y H2 x y v u _ I2 r1 r2 q2) λc s3 ⟨z,H3,I3,r3,k,e,q3⟩=>?_) hm;subst e;cases r3;exact Ŭ ⟨H3,I3,q3⟩
noncomputable def FK(K:Í)(x:V)(H:Hp)(k:Bool):Prop :=
 match x with
 |.non=>k=Ã
 |.bl b=>k=b
 |.int i=>k=(i != 0)
 |.str y=>y.length<=Î/\k=((y.length:Int) != 0)
 |.byt y=>y.size<=Î/\k=((y.size:Int) != 0)
 |.ref p=>(∃xs,cE K H p xs/\k=!xs.isEmpty)\/(∃xs,Gg K H p xs/\k=!xs.isEmpty)\/∃kvs,H p=À (.dK kvs)/\k=!kvs.isEmpty
 |_=>False
def zc(r:KV kvs vs):(!vs.isEmpty)=!kvs.isEmpty:=by cases r <;> rfl
def qN(r:Vals xs its):(!its.toArray.isEmpty)=!xs.isEmpty:=by cases r <;> rfl
def nW:(Î:Nat)<2 ^ 63:=by decide
def Jk:NJ X (λx H Q=>∃k,FK X.K x H k/\Q k H):=by
 intro pins s Y H x v Q I rx h;obtain⟨k,e,q⟩:=h;have hl:=nW;have hs:Î=16777216:=ă;cases x with
 |non =>cases rx;have e':k=false:=e;subst e';exact truthy_none ⟨H,I,q⟩
 |bl b =>cases rx;have e':k=b:=e;subst e';exact Ŭ ⟨H,I,q⟩
 |int i =>obtain⟨t,rfl⟩:=rx;have e':k=(i != 0):=e;subst e';exact Ss ⟨H,I,q⟩
 |str y =>obtain⟨t,rfl⟩:=rx;obtain⟨hy,e'⟩:y.length<=Î/\k=((y.length:Int) != 0):=e;subst e';exact PySem.P.truthy_str (by lia) ⟨H,I.tok _,q⟩
 |byt y =>obtain⟨t,rfl⟩:=rx;obtain⟨hy,e'⟩:y.size<=Î/\k=((y.size:Int) != 0):=e;subst e';exact PySem.W.truthy_bytes (by lia) ⟨H,I.tok _,q⟩
 |ref p =>
  cases rx;have e':(∃xs,cE X.K H p xs/\k=!xs.isEmpty)\/(∃xs,Gg X.K H p xs/\k=!xs.isEmpty)\/∃kvs,H p=À (.dK kvs)/\k=!kvs.isEmpty:=e;rcases e' with⟨xs,hx,e'⟩ |⟨xs,hx,e'⟩ |⟨kvs,hx,e'⟩
  ·subst e';obtain⟨its,r,pl,hz⟩:=I.list hx;have hlen:=r.length;exact wpAny_truthy_list pl.isList (by simp only[ã];lia) ⟨H,I.tok _,by rw[qN r];exact q⟩
  ·subst e';obtain⟨its,r,pl,hz⟩:=I.tuple hx;have hlen:=r.length;exact truthy_tuple pl (by simp only[ã];lia) ⟨H,I.tok _,by rw[qN r];exact q⟩
  ·subst e';obtain⟨hz,hS,vs,r,m⟩:kvs.length<=Î/\(p==ů)=Ã/\∃vs,KV kvs vs/\s.heap.DictOf (cq X.prog X.w) p vs:=I.bJ p _ hx;have hlen:kvs.length=vs.length:=ň r;exact wpAny_truthy_dict hS m (by lia) ⟨H,I.tok _,by rw[zc r];exact q⟩
 |_=>exact(e).elim
def Em(ha:PE X a ta)(he:∀whole,isTrue a X.env whole=(do let v <-whole;standAt a.pos;holding [v] (truthy v))) :
 PT X a (λY H Q=>ta Y H λx H'=>∃k,FK X.K x H' k/\Q k H'):=by
 intro pins s Y H Q I h;exact isTrue_plain (cc (ha pins s Y H _ I h) λv s1 ⟨x,H1,I1,r1,q1⟩=>Jk pins s1 Y H1 x v Q I1 r1 q1) (he _)
def vals1(r:Vals [x] us):∃u,us=[u]/\RelV x u:=by
 cases r with
 |cons r1 r2=>cases r2;exact⟨_,rfl,r1⟩
def vals2(r:Vals [x,y] us):∃u w',us=[u,w']/\RelV x u/\RelV y w':=by
 cases r with
 |cons r1 r2 =>
  cases r2 with
  |cons r3 r4=>cases r4;exact⟨_,_,rfl,r1,r3⟩
def iK(hc:X.calm=Â):cG X (.builtin "max") (λxs H Q=>∃i j,xs=[.int i,.int j]/\Q (.int (if j > i then j else i)) H):=by
 intro pins s Y H xs us Q I r h;obtain⟨i,j,rfl,q⟩:=h;obtain⟨u,w',rfl,⟨t,rfl⟩,⟨t',rfl⟩⟩:=vals2 r;refine max_two_ints (I.ok.hd hc) λh' tk k=>⟨_,H,I.kept k,?_,q⟩
 by_cases hj:j > i
 ·rw[if_pos hj,if_pos hj];exact⟨_,rfl⟩
 ·rw[if_neg hj,if_neg hj];exact⟨_,rfl⟩
def ot(hc:X.calm=Â):cG X (.builtin "min") (λxs H Q=>∃i j,xs=[.int i,.int j]/\Q (.int (if j<i then j else i)) H):=by
 intro pins s Y H xs us Q I r h;obtain⟨i,j,rfl,q⟩:=h;obtain⟨u,w',rfl,⟨t,rfl⟩,⟨t',rfl⟩⟩:=vals2 r;refine min_two_ints (I.ok.hd hc) λh' tk k=>⟨_,H,I.kept k,?_,q⟩
 by_cases hj:j<i
 ·rw[if_pos hj,if_pos hj];exact⟨_,rfl⟩
 ·rw[if_neg hj,if_neg hj];exact⟨_,rfl⟩
def iL:cG X (.type "int") (λxs H Q=>(∃i,xs=[.int i]/\Q (.int i) H)\/∃k,xs=[.bl k]/\Q (.int (if k then 1 else 0)) H):=by
 intro pins s Y H xs us Q I r h;rcases h with⟨i,rfl,q⟩ |⟨k,rfl,q⟩
 ·obtain⟨u,rfl,t,rfl⟩:=vals1 r;exact call_int_int ⟨.int i,H,I,⟨_,rfl⟩,q⟩
 ·obtain⟨u,rfl,r1⟩:=vals1 r;cases r1;exact call_int_bool ⟨.int (if k then 1 else 0),H,I.tok _,⟨_,rfl⟩,q⟩
noncomputable def Ie(K:Í)(x:V)(H:Hp)(n:Nat):Prop :=
 match x with
 |.str y=>y.length<=Î/\n=y.length
 |.byt y=>y.size<=Î/\n=y.size
 |.ref p=>(∃xs,cE K H p xs/\n=xs.length)\/∃xs,Gg K H p xs/\n=xs.length
 |_=>False
def FC:cG X (.builtin "len") (λxs H Q=>∃x n,xs=[x]/\Ie X.K x H n/\Q (.int n) H):=by
 intro pins s Y H xs us Q I r h;obtain⟨x,n,rfl,e,q⟩:=h;obtain⟨u,rfl,rx⟩:=vals1 r;have hs:=ă;cases x with
 |str y =>obtain⟨t,rfl⟩:=rx;obtain⟨hy,e'⟩:y.length<=Î/\n=y.length:=e;subst e';exact len_str (by lia) ⟨.int _,H,I.tok _,⟨_,rfl⟩,q⟩
 |byt y =>obtain⟨t,rfl⟩:=rx;obtain⟨hy,e'⟩:y.size<=Î/\n=y.size:=e;subst e';exact PySem.W.len_bytes (by lia) ⟨.int _,H,I.tok _,⟨_,rfl⟩,q⟩
 |ref p =>
  cases rx;have e':=e;rcases e' with⟨xs,hx,e'⟩ |⟨xs,hx,e'⟩
  ·subst e';obtain⟨its,r',pl,hz⟩:=I.list hx;have hlen:=r'.length;exact Calls.call_len_list pl.isList (by simp only[ã];lia) ⟨.int xs.length,H,I.tok _,⟨_,by simp only[ã];rw[hlen]⟩,q⟩
  ·subst e';obtain⟨its,r',pl,hz⟩:=I.tuple hx;have hlen:=r'.length;exact len_tuple pl (by simp only[ã];lia) ⟨.int xs.length,H,I.tok _,⟨_,by simp only[ã];rw[hlen]⟩,q⟩
 |_=>exact e.elim
end
structure Lo(h:Ő)(x dx C:Ý)(mA:ĺ->Option Ù):Prop where
 obj:h.get? x=À (Rh C dx)
 ns:h.Ns1 dx mA
 ne:dx≠x
def Ca{h:Ő}(n:h.Ns1 dx mA):∃od,h.get? dx=À od/\∀name,RG name od=À (mA name):=by
 obtain⟨o,es,ep,ho,hd,hk,_,hm⟩:=n;refine⟨o,ho,λname=>?_⟩;have e:=hm name;unfold nsFind findBy at e;rw[<-Array.find?_toList]at e;unfold RG;rw[hd];dsimp only;split
 ·simp_all
 ·rename_i q;rw[q]at e;have a:es.toList.any (·.refKey)=false:=by rw[SN];intro y hy;obtain⟨z,t,hkey⟩:=hk y (Array.mem_toList_iff.mp hy);simp[DictEntry.refKey,hkey]
  rw[if_neg (by rw[a];exact ñ)];exact congrArg À e
def Lo.look(I:Lo h x dx C mA):∃od,PySem.W.InstAt h x (Rh C dx) C (À od)/\∀name,RG name od=À (mA name) :=
 let ⟨od,ho,hl⟩:=Ca I.ns
 ⟨od,⟨I.obj,rfl,rfl,ho⟩,hl⟩
def rJ.some_of(r:rJ (À v) o):∃u,o=À u/\RelV v u:=by
 cases o with
 |none=>exact r.elim
 |some u=>exact⟨u,rfl,r⟩
section
def Hz(bJ:ik P w H h)(e:H a=À (.ins C dx fs)):∃mA,Lo h a dx C mA/\(∀f,rJ (fs.lookup f) (mA f))/\UB mA (fs.map (·.1))/\fs.length<=1000/\H dx=À (.own a):=by
 obtain⟨d,z,ne,ob,mA,n,r,q⟩:=(bJ a _ e)
 exact⟨mA,⟨ob,n,ne⟩,r,q,z,d⟩
end
structure NO(K:Í)(C:Ý):Prop where
 pg:Tn K C Str.empty=Â
 hd:PySem.W.hasDictIn K C=Â
 po:PySem.W.plainOver K C=Â
 sa:TV K (.ref C) "__setattr__" = À (À (.builtin "object.__setattr__"))
def NO.get{K:Í}(c:NO K C)(f:ĺ):Tn K C f=true:=c.pg
section
inductive kL(K:Í)(H:Hp):V->Ù->Prop where
 |non:kL K H .non (.type "NoneType")
 |bl (x:Bool):kL K H (.bl x) (.type "bool")
 |int (i:Int):kL K H (.int i) (.type "int")
 |str (x:ĺ):kL K H (.str x) (.type "str")
 |flt (x:UInt64):kL K H (.flt x) (.type "float")
 |lst {a:Ý} {xs:List V} (e:H a=À (.lst xs)):kL K H (.ref a) (.type "list")
 |jM {a:Ý} {o:ϯ} {xs:List V} (e:H a=À (.jM o (.lst xs))):kL K H (.ref a) (.type "list")
 |tup {a:Ý} {xs:List V} (e:H a=À (.tup xs)):kL K H (.ref a) (.type "tuple")
 |dK {a:Ý} {kvs:List (Key×V)} (e:H a=À (.dK kvs)):kL K H (.ref a) (.type "dict")
 |dT {a:Ý} {kvs:List (List Key×V)} (e:H a=À (.dT kvs)):kL K H (.ref a) (.type "dict")
 |ins {a C dx:Ý} {fs:List (ĺ×V)} (e:H a=À (.ins C dx fs)) (cl:NO K C) (ha:TV K (.ref C) "__class__" = À (À (.builtin "object.__class__")))
  (hn:PySem.W.specialIn K (.builtin "object.__class__") "__get__" = À (À (.builtin "getset_descriptor.__get__"))) (htk:PySem.W.takesIn K (.builtin "object.__class__")=À Â)
  (hm:PySem.W.mroIn K C (.type "object")=À Â):kL K H (.ref a) (.ref C)
def Cq(I:Inv X pins Y H s)(rx:RelV x u)(ty:kL X.K H x t)(e:OQ X.K t c=À b)(h:∀tk,Q (.bool b) {s with toks:=tk }) :
 í (model X.prog X.w) A (call (.builtin "isinstance") [u,c]) Q E s:=by
 cases ty with
 |non=>cases (rx);exact ŉ PySem.W.kitx_none I.xp ϥ e (λz=>nomatch z) h
 |bl y=>cases (rx);exact ŉ PySem.W.kitx_bool I.xp ϥ e (λz=>nomatch z) h
 |int i=>obtain⟨t,q⟩:=(rx);cases q;exact ŉ PySem.W.kitx_int I.xp ϥ e (λz=>nomatch z) h
 |str y=>obtain⟨t,q⟩:=rx;cases q;exact ŉ PySem.W.kitx_str I.xp ϥ e (λz=>nomatch z) h
 |flt y=>obtain⟨t,q⟩:=rx;cases q;exact ŉ PySem.W.kitx_float I.xp ϥ e (λz=>nomatch z) h
 |@lst a xs ea =>
  cases rx;obtain⟨_,_,n,_,h1⟩:=(I.bJ a _ ea)
  exact ŉ SO I.xp ⟨_,h1,rfl⟩ e (λz=>nomatch z) h
 |@jM a ob xs ea =>
  cases rx;obtain⟨_,_,_,n,_,h1⟩:=(I.bJ a _ ea)
  exact ŉ SO I.xp ⟨_,h1,rfl⟩ e (λz=>nomatch z) h
 |@tup a xs ea =>
  cases rx;obtain⟨_,_,_,p⟩:=(I.bJ a _ ea)
  obtain⟨o,h1,h2,_⟩:=p;exact ŉ PySem.W.kitx_tuple I.xp ⟨o,h1,h2⟩ e (λz=>nomatch z) h
 |@dK a kvs ea =>
  cases (show u=Č a from rx);obtain⟨_,_,vs,_,p⟩:=(I.bJ a _ ea)
  obtain⟨o,es,ep,h1,h2,_⟩:=p;exact ŉ SQ I.xp ⟨o,h1,h2.1⟩ e (λz=>nomatch z) h
 |@dT a kvs ea =>
  cases (show u=Č a from rx);obtain⟨_,_,xs,_,o,es,ep,h1,h2,_⟩:=(I.bJ a _ ea)
  exact ŉ SQ I.xp ⟨o,h1,h2.1⟩ e (λz=>nomatch z) h
 |@ins a C dx fs ea cl ha hn htk hm =>cases rx;obtain⟨mA,O,_⟩:=Hz I.bJ ea;obtain⟨od,J,_⟩:=O.look;exact ŉ (PySem.W.kitx_own (cl.get _) cl.hd ha hn htk hm) I.xp J e (λz=>nomatch z) h
end
structure ej(k:Nat)(A:Ŝ):Prop where
 hd:A.handled=Á
 dp:A.depth+3*k+5<Ϧ
 un:A.units+16*k+200<O7
def ej.mono(r:ej k A)(h:j<=k):ej j A:=⟨r.hd,by have:=r.dp;lia,by have:=r.un;lia⟩
theorem ej.deeper(r:ej (k+1) A)(env:Ux):ej k (A.deeper env) :=
 ⟨r.hd,by have:=r.dp;show A.depth+1+3*k+5 < _;lia,by have:=r.un;show A.units+3+16*k+200 < _;lia⟩
theorem ej.depth(r:ej k A):A.depth<Ϧ:=by have:=r.dp;lia
theorem ej.units(r:ej k A):A.units+64<O7:=by have:=r.un;lia
def dv:TA:=λ_ H Q=>Q [] H
def a9(ta:TE)(tr:TA):TA:=λY H Q=>ta Y H λx H1=>tr Y H1 λxs H2=>Q (x::xs) H2
section
def aj:PA X [] dv:=λ_ _ _ _ H Q I h=>Qm ⟨[],H,I,.nil,h⟩
def aa(ha:PE X e te)(hr:PA X es t)(hs:ġ (e::es) X.env=(Ã,eval e X.env)::ġ es X.env:=by rfl):PA X (e::es) (a9 te t):=by intro pos pins s Y H Q I h;rw[hs];exact P1 (cc (ha pins s Y H _ I h) λu s1 ⟨x,H1,I1,r1,q1⟩=>cc (hr pos pins s1 Y H1 _ I1 q1) λus s2 ⟨xs,H2,I2,r2,q2⟩=>⟨x::xs,H2,I2,.cons r1 r2,q2⟩)
def LI(t:TA):TE:=λY H Q=>t Y H λxs H1=>xs.length<=Î/\∀p,H1 p=Á->Q (.ref p) (upd H1 p (.tup xs))
def wF(t:TA):TE:=λY H Q=>t Y H λxs H1=>xs.length<=Î/\∀p,H1 p=Á->Q (.ref p) (upd H1 p (.lst xs))
def vj(h:PA X es t):PE X (.Tuple es x1 pos) (LI t):=by intro pins s Y H Q I hq;exact wpAny_Tuple_spliced (cc (h pos pins s Y H _ I hq) λus s1 ⟨xs,H1,I1,r,z,q⟩=>⟨by rw[<-r.length];exact z,⟨.ref s1.heap.objs.size,upd H1 s1.heap.objs.size (.tup xs),I1.laid (λb u e=>Ì _ e) (Õ _) (⟨z,us,r,⟨_,å _ rfl,rfl,_,rfl⟩⟩),rfl,q _ (I1.bJ.fresh (Õ _))⟩⟩)
def aZ(h:PA X es t):PE X (.List es pos) (wF t):=by intro pins s Y H Q I hq;exact wpAny_List_spliced (cc (h pos pins s Y H _ I hq) λus s1 ⟨xs,H1,I1,r,z,q⟩=>⟨by rw[<-r.length];exact z,⟨.ref s1.heap.objs.size,upd H1 s1.heap.objs.size (.lst xs),I1.laid (λb u e=>Ì _ e) (Õ _) ⟨z,us,0,r,å _ rfl⟩,rfl,q _ (I1.bJ.fresh (Õ _))⟩⟩)
end
abbrev Sp:=List V->Hp->VK->XK->Prop
abbrev Lz:=List Ux->Hp->ç->XK->Ù->ç->Prop
structure Ig(P:Δ)(w:Ŷ)(K:Í)(mg:ĺ->Option Ù)(base:Ő)(A:Ŝ)(outer:List Ux)(s:ç)(H:Hp):Prop where
 frames:A.frames=À outer
 mod:Mod K mg base
 bs:∀b o,base.get? b=À o->s.heap.get? b=À o/\H b=Á
 CN:base.objs.size<=s.heap.objs.size
 n9:s.heap.FunFrames base outer
 Lu:∀b∈C0 outer,H b=Á
 bJ:ik P w H s.heap
 bare:QW s.gens
def CE(outer:List Ux)(P:Δ)(w:Ŷ)(H:Hp)(s:ç)(Q:VK)(u:Ù)(s':ç):Prop :=
 ∃v H',s'.os=s.os/\QW s'.gens/\Un (C0 outer) [] H H' s.heap s'.heap/\ik P w H' s'.heap/\RelV v u/\Q v H'
def CR(CX:Lz)(outer:List Ux)(P:Δ)(w:Ŷ)(H:Hp)(s:ç)(Q:VK)(E:XK)(r:Result)(s':ç):Prop :=
 match r with
 |.ok (.ret u)=>CE outer P w H s Q u s'
 |.ok _=>False
 |.error e=>CX outer H s E e s'
structure ck(P:Δ)(w:Ŷ)(K:Í)(mg:ĺ->Option Ù)(base:Ő)(CX:Lz)(k:Nat)(f:Ý)(fd:QG)(ps:List ĺ)(sp:Sp):Prop where
 len:∀vs H Q E,sp vs H Q E->vs.length=ps.length
 run:∀(A:Ŝ) (outer:List Ux) (s:ç) (H:Hp) (args:Args) (us:List Ù) (vs:List V) (Q:VK) (E:XK),ej k A->Ig P w K mg base A outer s H->SR s fd args (ps.zip us)->Vals vs us->sp vs H Q E ->
  OR (model P w) A (.call (.ref f) args) (CR CX outer P w H s Q E) s
def ck.imp{K:Í}(F:ck P w K mg base CX k f fd ps sp)
 (h:∀vs H Q E,sp' vs H Q E->sp vs H Q E):ck P w K mg base CX k f fd ps sp' :=
 ⟨λvs H Q E q=>F.len vs H Q E (h _ _ _ _ q),λA outer s H args us vs Q E hr he hb hv hs=>F.run A outer s H args us vs Q E hr he hb hv (h _ _ _ _ hs)⟩
section
def Inv.Nz(I:Inv X pins Y H s):Ig X.prog X.w X.K X.mg X.base X.A X.stack s H :=
 ⟨I.ok.frames,I.ok.mod,I.bs,ø I.ok.CN I.sz,I.stack,I.uL,I.bJ,I.bare⟩
def Inv.after(I:Inv X pins Y H s)(h:CE X.stack X.prog X.w H s Q u s'):EP X pins Y Q u s':=by obtain⟨v,H',os,bare,un,bJ,r,q⟩:=h;obtain⟨hh,g,d,t,os'⟩:=s';obtain rfl:os'=s.os:=os;exact⟨v,H',I.call un bJ bare λb z=>absurd z (by simp),r,q⟩
end
def tj(sp:Sp)(dvs:List V)(E:XK)(t:TA):TE:=λY H Q=>t Y H λvs H1=>sp (vs++dvs) H1 Q E
def Binds(K:Í)(fd:QG)(ps:List ĺ)(ds:List Ù):Prop :=
 ∀(s:ç) (us:List Ù),K.In s.heap->(us++ds).length=ps.length->SR s fd ⟨us,[]⟩ (ps.zip (us++ds))
def Binds.all{K:Í}(h:∀us:List Ù,us.length=ps.length->Ū fd ⟨us,[]⟩=pure (ps.zip us)):Binds K fd ps []:=λs us _ hl=>by rw[ě]at hl ⊢;exact .of_eq (h us hl)
def Passes(CX:Lz)(X:Cx)(E:XK):Prop:=∀(pins:List (Ý×ϯ)) (Y:St) (H:Hp) (s:ç) (e:Ù) (s':ç),Inv X pins Y H s->CX X.stack H s E e s'->X.xe e s'
section
def JU(F:ck X.prog X.w X.K X.mg X.base CX k f fd ps sp)(hr:ej k X.A)(hb:Binds X.K fd ps ds)(hd:Vals dvs ds)(hx:Passes CX X E)
 (I:Inv X pins Y H s) (r:Vals vs us) (h:sp (vs++dvs) H Q E):í (model X.prog X.w) X.A (call (.ref f) us) (EP X pins Y Q) X.xe s:=by
 have r2:=r.append hd;refine TX (ϐ (F.run X.A X.stack s H ⟨us,[]⟩ (us++ds) (vs++dvs) Q E hr I.Nz (hb s us I.xp (by rw[<-r2.length];exact F.len _ _ _ _ h)) r2 h) λr s' hq=>?_);cases r with
 |error e=>exact hx pins Y H s e s' I hq
 |ok fl =>
  cases fl with
  |ret u=>exact I.after hq
  |next=>exact Ϗ hq
  |brk=>exact Ϗ hq
  |cont=>exact Ϗ hq
def Hi(F:ck X.prog X.w X.K X.mg X.base CX k f fd ps sp)(hr:ej k X.A)(hg:Gl X x)(hm:X.mg x=À (.ref f))(hk:P2 X.K (.ref f)=Â)(hb:Binds X.K fd ps ds)(hd:Vals dvs ds)(hx:Passes CX X E)
 (ha:PA X (e::es) t) (hdb:(x==("__debug__" : ĺ))=false:=by decide) (he:ġ (e::es) X.env=(Ã,eval e X.env)::ġ es X.env:=by rfl) (hpl:(QX pos (ġ es X.env)).any (·.1)=false:=by rfl) :
 PE X (.Call (.Name x p) (e::es) [] pos) (tj sp dvs E t):=by
 intro pins s Y H Q I h;exact ť (AH I hg hm (PySem.W.callWith_K I.ok.mod.MP hk (cc (ha pos pins s Y H _ I h) λus s1 ⟨vs,H1,I1,r,q⟩=>⟨I1.xp,JU F hr hb hd hx I1 r q⟩) he hpl) hdb)
end
structure aL(N P:List ĺ)(sc:Ql):Prop where
 kind:sc.kind=.function
 co:sc.isCoroutine=Ã
 gen:sc.isGenerator=Ã
 nd:N.Nodup
 pre:N.take P.length=P
 par:∀x∈P,sc.names.lookup x=À .local\/sc.names.lookup x=À .cell
 y0:∀y∈sc.names,y.2≠.free
theorem uq{kindOf:ĺ->Option QH}:∀{binds:List (ĺ×Ù)} {m:ĺ->Option Ù},(∀v,(x,v)∉binds)->Uy kindOf binds m x=m x
 |[],_,_=>rfl
 |(n,v)::r,m,h=>by
  unfold Uy;rw[uq λw hw=>h w (Ñ _ hw)];split
  ·have:x≠n:=by rintro rfl;exact h v Ò
   simp[this]
  ·rfl
theorem uu{kindOf:ĺ->Option QH}:∀{binds:List (ĺ×Ù)} {m:ĺ->Option Ù},(∀v,(x,v)∉binds)->Uz kindOf binds m x=m x
 |[],_,_=>rfl
 |(n,v)::r,m,h=>by
  unfold Uz;rw[uu λw hw=>h w (Ñ _ hw)];split
  ·rfl
  ·have:x≠n:=by rintro rfl;exact h v Ò
   simp[this]
theorem ur{kindOf:ĺ->Option QH}:∀{P:List ĺ} {vs:List Ù} {i:Nat} {m:ĺ->Option Ù},P.Nodup->P[i]?=À x->vs[i]?=À v->kindOf x=À .local ->
 Uy kindOf (P.zip vs) m x=À v
 |[],_,_,_,_,h,_,_=>by simp at h
 |_::_,[],_,_,_,_,h,_=>by simp at h
 |p::P,w::vs,0,m,nd,h1,h2,hk=>by simp at h1 h2;subst h1;subst h2;show Uy kindOf ((p,w)::P.zip vs) m p=_;unfold Uy;rw[uq λv hv=>(ā.mp nd).1 (Ŕ hv).1,if_pos hk];simp
 |p::P,w::vs,i+1,m,nd,h1,h2,hk=>by show Uy kindOf ((p,w)::P.zip vs) m x=_;exact ur (ā.mp nd).2 (by simpa using h1) (by simpa using h2) hk
theorem uv{kindOf:ĺ->Option QH}:∀{P:List ĺ} {vs:List Ù} {i:Nat} {m:ĺ->Option Ù},P.Nodup->P[i]?=À x->vs[i]?=À v->kindOf x≠À .local ->
 Uz kindOf (P.zip vs) m x=À v
 |[],_,_,_,_,h,_,_=>by simp at h
 |_::_,[],_,_,_,_,h,_=>by simp at h
 |p::P,w::vs,0,m,nd,h1,h2,hk=>by simp at h1 h2;subst h1;subst h2;show Uz kindOf ((p,w)::P.zip vs) m p=_;unfold Uz;rw[uu λv hv=>(ā.mp nd).1 (Ŕ hv).1,if_neg hk];simp
 |p::P,w::vs,i+1,m,nd,h1,h2,hk=>by show Uz kindOf ((p,w)::P.zip vs) m x=_;exact uv (ā.mp nd).2 (by simpa using h1) (by simpa using h2) hk
def start(N:List ĺ)(vs:List V):St:=vs.map À++æ (N.length-vs.length) Á
noncomputable def sQ(CX:Lz)(P:Δ)(w:Ŷ)(K:Í)(mg:ĺ->Option Ù)(base:Ő)(N:List ĺ)(qual:ĺ)(scope:Ql)(f:Ý)(cd:Ù)(A:Ŝ)(outer:List Ux)(s:ç)(H:Hp)(E:XK):Cx where
 prog:=P
 w:=w
 K:=K
 mg:=mg
 base:=base
 A:=A.deeper (QZ qual scope s.heap.objs.size f cd)
 N:=N
 s₀:=s
 H₀:=H
 env:=QZ qual scope s.heap.objs.size f cd
 outer:=outer
 stack:=QZ qual scope s.heap.objs.size f cd::outer
 ex:=[]
 calm:=Â
 fn:=λ_=>Â
 pn:=[]
 xe:=λe s'=>í (model P w) (A.deeper (QZ qual scope s.heap.objs.size f cd)) (leaving (QZ qual scope s.heap.objs.size f cd) e) (λ_ s''=>CX outer H s E e s'') (λe' s''=>CX outer H s E e' s'') s'
def xW{sc:Ql}(h:sc.names.lookup x=À .cell):∃c,(ķ n sc.names []).lookup x=À c:=Qy.mp (OS sc.names n [] (.inl h))
def Cr{K:Í}
 (S:aL N ps scope) (hd:A.handled=Á) (e0:Ig P w K mg base A outer s H) (hl:vs.length=ps.length) (r:Vals vs us)
 (x:InCallC s s.heap.objs.size (Uy (QZ qual scope s.heap.objs.size f cd).kindOf (ps.zip us) λ_=>Á) (ķ (s.heap.objs.size+1) scope.names []) (Uz (QZ qual scope s.heap.objs.size f cd).kindOf (ps.zip us) λ_=>Á) s1) :
 Inv (sQ CX P w K mg base N qual scope f cd A outer s H E) [] (start N vs) H s1:=by
 have hpl:ps.length<=N.length:=by have:=congrArg RH S.pre;rw[İ]at this;lia
 obtain⟨h1,tk,rfl,hk⟩:=x.done;have noA:∀b,b∉(sQ CX P w K mg base N qual scope f cd A outer s H E).ex:=λb z=>absurd (show b∈([]) from z) (by simp)
 refine⟨⟨e0.mod,S.kind,rfl,rfl,Õ _,λy z c h1 h2=>?_,λy hy=>?_,λy c _ h=>?_,λ_=>hd,RI e0.frames,.inr ⟨rfl,rfl⟩,λb z=>absurd z (noA b),e0.bs,e0.CN,λb _ _=>noA b,λb z=>absurd z (noA b),e0.n9,e0.Lu⟩,
  rfl,e0.bare,Un.kept hk,⟨_,x.toInCall.ns,λi y v h1 h2 h3=>?_⟩,λy c h=>⟨_,x.cell y c h⟩,e0.bJ.fresh (Õ _),λy c h=>?_,λp hp=>absurd (show p∈([]) from hp) (by simp),e0.bJ.kept hk,?_⟩
 ·exact name_of_addr x.apart (Ō h1) (Ō h2)
 ·rcases hy with hy |hy
  ·exact xW hy
  ·exact absurd rfl (S.y0 _ (Ō hy))
 ·exact ĉ (x.above y c (Ō h))
 ·have hi:i<vs.length:=by
   unfold start at h2;by_cases hi:i<vs.length
   ·exact hi
   ·rw[ï (by simpa using hi)]at h2;rw[đ]at h2;split at h2 <;> cases h2
  have ha:vs[i]?=À v:=by
   unfold start at h2;rw[ú (by simpa using hi),Ö]at h2;cases e:vs[i]? with
   |none=>rw[e]at h2;cases h2
   |some a=>simp_all
  obtain⟨u,hu,rv⟩:=r.get ha;have hp:ps[i]?=À y:=by rw[<-S.pre,Λ (hl ▸ hi)];exact h1
  have ndP:ps.Nodup:=by rw[<-S.pre];exact S.nd.sublist (SS _ _)
  refine⟨u,rv,?_⟩;rcases S.par y (õ hp)with k |k
  ·exact .inl ⟨k,ur ndP hp hu k⟩
  ·obtain⟨c,e⟩:=xW k;refine .inr ⟨.inl k,c,e,?_⟩;have q:=x.cell y c e;rw[uv ndP hp hu (by show scope.names.lookup y≠_;rw[k];decide)]at q;exact q
 ·exact e0.bJ.fresh (ĉ (x.above y c (Ō h)))
 ·unfold start;show _=N.length;rw[á,Ê,ü]
  lia
def IU{K:Í}{kV:Ù}
 (lk:K.lookup f=À ⟨oc,od,.func (ϰ name qual params body scope dV kV doc pm an cdv ct),osl⟩) (hcd:P4 K cdv qual=Â) (S:aL N ps scope)
 (len:∀vs H Q E,sp vs H Q E->vs.length=ps.length)
 (hbody:∀(A:Ŝ) (outer:List Ux) (s:ç) (H:Hp) (vs:List V) (Q:VK) (E:XK),ej k (A.deeper (QZ qual scope s.heap.objs.size f cdv))->sp vs H Q E ->
  ∃t,wd (sQ CX P w K mg base N qual scope f cdv A outer s H E) body t/\t {nx:=λ_ H'=>Q .non H',rt:=Q } (start N vs) H) :
 ck P w K mg base CX (k+1) f (ϰ name qual params body scope dV kV doc pm an cdv ct) ps sp:=by
 refine⟨len,λA outer s H args us vs Q E hr e0 hb r hsp=>?_⟩;have KX:=e0.mod.MP.keeps λb o e=>(e0.bs b o e).1
 have hkind:∀y∈ps.zip us,scope.names.lookup y.1=À .local\/(scope.names.lookup y.1=À .cell/\((ķ (s.heap.objs.size+1) scope.names []).lookup y.1).isSome=Â):=λ⟨n,v⟩ hy=>by
  rcases S.par n (Ŕ hy).1 with q |q
  ·exact .inl q
  ·exact .inr ⟨q,OS _ _ _ (.inl q)⟩
 refine codeAny_call_function hr.depth (KX _ _ lk) rfl S.co S.gen rfl (PySem.W.codeRec_of KX hcd) (hb _ _ _ _ (wpAny_newFunctionEnv_cells S.kind hkind λenv he s1 x=>?_));subst he;refine⟨(e0.mod.nolimit.keeps λb o e=>(e0.bs b o e).1).keeps x.toInCall.keep,codeAny_func ?_⟩;obtain⟨t,ht,hq⟩:=hbody A outer s H vs Q E (hr.deeper _) hsp;refine ħ (ht [] s1 (start N vs) H _ (Cr S hr.hd e0 (len _ _ _ _ hsp) r x) hq) (λfl s' hs=>?_) λe s' hs=>hs
 have fin:∀{Y':St} {H':Hp} {v:V} {u:Ù},Inv (sQ CX P w K mg base N qual scope f cdv A outer s H E) [] Y' H' s'->RelV v u->Q v H'->CE outer P w H s Q u s' :=
  λ{Y' H' v u} J rv q=>⟨v,H',J.os,J.bare,J.base,J.bJ,rv,q⟩
 cases fl with
 |ret u =>obtain⟨v,Y',H',J,rv,q⟩:=hs;exact fin J rv q
 |next =>obtain⟨Y',H',J,q⟩:=hs;exact fin (v:=V.non) J rfl q
 |brk =>obtain⟨_,_,_,q⟩:=hs;exact Ϗ q
 |cont =>obtain⟨_,_,_,q⟩:=hs;exact Ϗ q
section
def wc(r:List V->Hp->VK->Prop)(t:TA):TE:=λY H Q=>t Y H λvs H1=>r vs H1 Q
def aw{id:String}(hc:cG X (.builtin id) r)(hg:Gl X x)(hm:X.mg x=Á)(hv:Ĝ x=À (.builtin id))(ha:PA X (e::es) t)(hn:x ≠ "__name__" := by decide)(hdb:(x==("__debug__" : ĺ))=false:=by decide)
 (he:ġ (e::es) X.env=(Ã,eval e X.env)::ġ es X.env:=by rfl) (hpl:(QX pos (ġ es X.env)).any (·.1)=false:=by rfl):PE X (.Call (.Name x p) (e::es) [] pos) (wc r t):=by
 intro pins s Y H Q I h;exact ť (eI I hg hm hv (O8 (cc (ha pos pins s Y H _ I h) λus s1 ⟨vs,H1,I1,r1,q1⟩=>hc pins s1 Y H1 vs us Q I1 r1 q1) he hpl) hn hdb)
def eE(hc:cG X (.type T) r)(hg:Gl X x)(hm:X.mg x=Á)(hv:Ĝ x=À (.type T))(ha:PA X (e::es) t)(hn:x ≠ "__name__" := by decide)(hdb:(x==("__debug__" : ĺ))=false:=by decide)
 (he:ġ (e::es) X.env=(Ã,eval e X.env)::ġ es X.env:=by rfl) (hpl:(QX pos (ġ es X.env)).any (·.1)=false:=by rfl):PE X (.Call (.Name x p) (e::es) [] pos) (wc r t):=by
 intro pins s Y H Q I h;exact ť (eI I hg hm hv (Ğ (cc (ha pos pins s Y H _ I h) λus s1 ⟨vs,H1,I1,r1,q1⟩=>hc pins s1 Y H1 vs us Q I1 r1 q1) he hpl) hn hdb)
end
end L2
namespace HT
open PySem PyProof.Rows
def lexLt:List Int->List Int->Bool
 |[],[]=>Ã
 |[],_::_=>Â
 |_::_,[]=>Ã
 |x::xs,y::ys=>if x=y then lexLt xs ys else decide (x<y)
section
def yc(n d:Nat):Option Int->Nat
 |none=>d
 |some v=>if v<0 then (v+(n:Int)).toNat else min v.toNat n
end
end HT
namespace L2
open PySem PySem.Spec PyProof.Rows
abbrev TO:=St->Hp->(Option Int->Hp->Prop)->Prop
noncomputable def PO(X:Cx)(e:Option PZ)(t:TO):Prop :=
 ∀(pins:List (Ý×ϯ)) (s:ç) (Y:St) (H:Hp) (Q:Option Int->Hp->Prop),Inv X pins Y H s->t Y H Q ->
  í (model X.prog X.w) X.A (evalPart e X.env) (λu s'=>∃o H',Inv X pins Y H' s'/\IsPart u o/\Q o H') X.xe s
def zU:TO:=λ_ H Q=>Q Á H
def Io(t:TE):TO:=λY H Q=>t Y H λx H1=>∃i,x=.int i/\Q (À i) H1
def intsAre_of:∀{us:List Ù},Vals (ns.map V.int) us->Ŧ us ns:=by
 induction ns with
 |nil=>intro us r;cases r;exact .nil
 |cons n ns ih =>
  intro us r;cases r with
  |cons r1 r2 =>obtain⟨t,e⟩:=r1;subst e;exact .cons n t (ih r2)
section
def gM:PO X Á zU:=by intro pins s Y H Q I h;exact Ï ⟨Á,H,I,.none,h⟩
def dF(h:PE X e te):PO X (À e) (Io te):=by intro pins s Y H Q I hw;refine cc (h pins s Y H _ I hw) λu s1 ⟨x,H1,I1,r1,q1⟩=>?_;obtain⟨i,rfl,q⟩:=q1;obtain⟨t,rfl⟩:=r1;exact⟨À i,H1,I1,.int i t,q⟩
noncomputable def NK(X:Cx)(r:V->Option Int->Option Int->Hp->VK->Prop):Prop :=
 ∀(pins:List (Ý×ϯ)) (s:ç) (Y:St) (H:Hp) (x:V) (v vl vu:Ù) (lo hi:Option Int) (sl:Ý) (Q:VK),Inv X pins Y H s->RelV x v->s.heap.IsSliceOf sl vl vu .none->IsPart vl lo->IsPart vu hi->r x lo hi H Q ->
  ∃T id,Su (.type T) "__getitem__" = pure (À (.builtin id))/\s.TypeIs v T/\í (model X.prog X.w) X.A (R1 v (.ref sl)) (EP X pins Y Q) X.xe s
def NT(r:V->Option Int->Option Int->Hp->VK->Prop)(te:TE)(tl th:TO):TE:=λY H Q=>te Y H λx H1=>tl Y H1 λl H2=>th Y H2 λu H3=>r x l u H3 Q
def Ex{lo:Option PZ}(hr:NK X r)(he:PE X e te)(hl:PO X lo tl)(hu:PO X hi th):PE X (.Subscript e (.Slice lo hi Á p2) pos) (NT r te tl th):=by intro pins s Y H Q I h;refine Sv (cc (he pins s Y H _ I h) λv s1 ⟨x,H1,I1,r1,q1⟩=>wpAny_Slice (cc (hl pins s1 Y H1 _ I1 q1) λvl s2 ⟨l,H2,I2,pl,q2⟩=>cc (hu pins s2 Y H2 _ I2 q2) λvu s3 ⟨u,H3,I3,pu,q3⟩=>?_));apply Ï;obtain⟨T,id,hT,ht,hg⟩:=hr pins {s3 with heap:=s3.heap.push {cls:=.type "slice", data:=.fields #[vl,vu,.none] } } Y H3 x v vl vu l u s3.heap.objs.size Q (I3.kept λb ob q=>Ì _ q) r1 (Sw ..) pl pu q3;exact tail_any ht hT hg (by with_unfolding_all rfl)
def CG(xs:List V)(lo hi:Option Int):List V:=(xs.drop (HT.yc xs.length 0 lo)).take (HT.yc xs.length xs.length hi-HT.yc xs.length 0 lo)
def oQ(xs:List V)(lo hi:Option Int):(CG xs lo hi).length<=xs.length:=by
 unfold CG;rw[İ,ğ]
 lia
end
def ixN(n:Nat)(i:Int):Option Nat:=if 0<=i then (if i<n then À i.toNat else Á) else if -(n:Int)<=i then À (i+n).toNat else Á
def kB{α:Type}(xs:List α)(i:Int):Option α:=(ixN xs.length i).bind λj=>xs[j]?
def AQ(h:ixN n i=À j):seqIndex? i n=À j/\j<n/\-(n:Int)<=i/\i<n:=by
 unfold ixN at h;by_cases h0:0<=i
 ·rw[if_pos h0]at h;by_cases h1:i<n
  ·rw[if_pos h1]at h;exact⟨by rw[RJ h0 h1,(þ h)],by lia,by lia,h1⟩
  ·simp_all
 ·rw[if_neg h0]at h;by_cases h1:-n<=i
  ·rw[if_pos h1]at h;exact⟨by rw[Q0 (ϑ.1 h0) h1,(þ h)],by lia,h1,by lia⟩
  ·simp_all
def pL(h:kB xs i=À v):∃j,seqIndex? i xs.length=À j/\xs[j]?=À v/\j<xs.length/\-(xs.length:Int)<=i/\i<xs.length:=by
 unfold kB at h;cases e:ixN xs.length i with
 |none=>rw[e]at h;cases h
 |some j =>rw[e]at h;obtain⟨h1,h2,h3,h4⟩:=AQ e;exact⟨j,h1,h,h2,h3,h4⟩
def Bm(b:PZ):Prop:=∀o i,RK b Ã o i=operate [o,i] (R1 o i)
noncomputable def Gh(X:Cx)(r:R2):Prop :=
 ∀(value slice:PZ) (pins:List (Ý×ϯ)) (s:ç) (Y:St) (H:Hp) (x y:V) (v u:Ù) (Q:VK),Inv X pins Y H s->RelV x v->RelV y u->r x y H Q ->
  RK slice Ã v u=operate [v,u] (R1 v u)->í (model X.prog X.w) X.A (subscriptTail value slice v u) (EP X pins Y Q) X.xe s
noncomputable def Ot(X:Cx)(id:String)(r:V->List V->Hp->VK->Prop):Prop :=
 ∀(pins:List (Ý×ϯ)) (s:ç) (Y:St) (H:Hp) (x:V) (xs:List V) (v:Ù) (us:List Ù) (Q:VK),Inv X pins Y H s->RelV x v->Vals xs us->r x xs H Q ->
  í (model X.prog X.w) X.A (call (.builtin id) (v::us)) (EP X pins Y Q) X.xe s
section
def Gh.or(h:Gh X r)(h':Gh X r'):Gh X (λx y H Q=>r x y H Q\/r' x y H Q):=by
 intro value slice pins s Y H x y v u Q I rx ry q hs;rcases q with q |q
 ·exact h value slice pins s Y H x y v u Q I rx ry q hs
 ·exact h' value slice pins s Y H x y v u Q I rx ry q hs
def Mc(hr:Gh X r)(ha:PE X a ta)(hb:PE X b tb)(hs:Bm b):PE X (.Subscript a b pos) (tOp r ta tb):=by intro pins s Y H Q I h;exact Sv (Lf ha hb I h λv u s2 x y H2 I2 rx ry q=>hr a b pins s2 Y H2 x y v u Q I2 rx ry q (hs _ _))
def rIxL(K:Í):R2:=λx y H Q=>∃p xs i v,x=.ref p/\y=.int i/\cE K H p xs/\kB xs i=À v/\Q v H
def L6(K:Í):R2:=λx y H Q=>∃p xs i v,x=.ref p/\y=.int i/\Gg K H p xs/\kB xs i=À v/\Q v H
def L7:R2:=λx y H Q=>∃z i c,x=.str z/\y=.int i/\z.length<=Î/\kB z.cps.toList i=À c/\Q (.str ⟨#[c]⟩) H
def Hv:Gh X (rIxL X.K):=by
 intro value slice pins s Y H x y v u Q I rx ry h hs;obtain⟨p,xs,i,z,rfl,rfl,hq,he,q⟩:=h;cases rx;obtain⟨t,rfl⟩:=ry;obtain⟨its,r,pl,hz⟩:=I.list hq;obtain⟨j,h1,h2,h3,h4,h5⟩:=pL he;obtain⟨w,ew,rw'⟩:=r.get h2;have hl:=r.length;have hn:=nW;have fin:EP X pins Y Q w s:=⟨z,H,I,rw',q⟩
 by_cases h0:0<=i
 ·have hj:=by rw[RJ h0 h5]at h1;exact þ h1
  exact item_listR pl.isList h0 (by lia) (by rw[hj];simpa using ew) fin hs
 ·have hj:(i+its.toArray.size).toNat=j:=by rw[Q0 (ϑ.1 h0) h4]at h1;rw[ã,<-hl];exact þ h1
  exact Q1 pl.isList.typeIs Qn.lookup
   (Q2 pl.isList (ϑ.1 h0) (by simp_all) (by lia) (by rw[hj];simpa using ew) ⟨rfl,fin⟩) hs
def KG:Gh X (L6 X.K):=by
 intro value slice pins s Y H x y v u Q I rx ry h hs;obtain⟨p,xs,i,z,rfl,rfl,hq,he,q⟩:=h;cases rx;obtain⟨t,rfl⟩:=ry;obtain⟨its,r,pl,hz⟩:=I.tuple hq;obtain⟨j,h1,h2,h3,h4,h5⟩:=pL he;obtain⟨w,ew,rw'⟩:=r.get h2;have hl:=r.length;have hn:=nW
 exact Q1 pl.typeIs slot_tuple_getitem.lookup
  (getItem_tuple (j:=j) pl (by lia) (by lia) (by simp_all) (by simpa using ew) ⟨rfl,⟨z,H,I,rw',q⟩⟩) hs
def KI:Gh X L7:=by intro value slice pins s Y H x y v u Q I rx ry h hs;obtain⟨z,i,c,rfl,rfl,hz,he,q⟩:=h;obtain⟨t,rfl⟩:=rx;obtain⟨t',rfl⟩:=ry;obtain⟨j,h1,h2,h3,h4,h5⟩:=pL he;rw[(by rfl:z.cps.toList.length=z.length)]at h1 h4 h5;have hn:=nW;exact tail_any (typeIs_str s z t) slot_str_getitem.lookup (getItem_str (by grind) (by rw[h1];simpa using h2) ⟨.str ⟨#[c]⟩,H,I.tok _,⟨_,rfl⟩,q⟩) hs
def rIx(K:Í):R2:=λx y H Q=>rIxL K x y H Q\/L6 K x y H Q\/L7 x y H Q
def KJ:Gh X (rIx X.K):=Hv.or (KG.or KI)
def y8(its:List Ù)(n j:Nat)(u:Ù):ù (·.setIfInBounds j u) {cls:=.type "list", data:=.seq its.toArray n }={cls:=.type "list", data:=.seq (its.set j u).toArray n }:=by simp[ù]
theorem Inv.lst{X:Cx}{pins:List (Ý×ϯ)}{Y:St}{H:Hp}{s:ç}{p:Ý}{xs:List V}(I:Inv X pins Y H s)(h:H p=À (.lst xs)) :
 ∃(its:List Ù) (n:Nat),Vals xs its/\s.heap.get? p=À {cls:=.type "list", data:=.seq its.toArray n }/\xs.length<=Î:=by
 obtain⟨z,its,n,r,e⟩:=I.bJ p _ h;exact⟨its,n,r,e,z⟩
def Inv.Kl{its:List Ù}(I:Inv X pins Y H s)(h:H p=À (.lst xs))
 (ho:s.heap.get? p=À {cls:=.type "list", data:=.seq its.toArray n }) (hf:f {cls:=.type "list", data:=.seq its.toArray n }={cls:=.type "list", data:=.seq its'.toArray n' }) (r:Vals ys its') (hz:ys.length<=Î) (t:Nat) :
 Inv X pins Y (upd H p (.lst ys)) {s with heap:=s.heap.update p f,toks:=t }:=by
 have e:(s.heap.update p f).get? p=À {cls:=.type "list", data:=.seq its'.toArray n' }:=by rw[ĝ f ho (by rw[hf] <;> rfl),hf]
 exact I.write (by rw[h];trivial) (.inl rfl) (λb u hb q=>(č _ _ (ĩ hb)).trans q) ⟨_,e⟩ ⟨hz,its',n',r,e⟩
def rSetL:V->V->V->Hp->(Hp->Prop)->Prop:=λo i v H Q=>∃p xs k j,o=.ref p/\i=.int k/\H p=À (.lst xs)/\ixN xs.length k=À j/\Q (upd H p (.lst (xs.set j v)))
def set_list:Ll X rSetL:=by
 intro pins s Y H o i v ov iv u Q I ro ri rv h;obtain⟨p,xs,k,j,rfl,rfl,hp,hj,q⟩:=h;cases ro;obtain⟨t,rfl⟩:=ri;obtain⟨its,n,r,ho,hz⟩:=I.lst hp;obtain⟨h1,h2,h3,h4⟩:=AQ hj;have hl:=r.length;have hn:=nW
 have I' :=
  I.Kl hp ho (y8 its n j u) (r.set rv j) (by simp_all) s.toks
 by_cases h0:0<=k
 ·have hk:=by rw[RJ h0 h4]at h1;exact þ h1
  exact PySem.W.ki_setAt ho h0 (by lia) (by simp_all) (by rw[hk];exact⟨_,I',q⟩)
 ·have hk:(k+its.toArray.size).toNat=j:=by rw[Q0 (ϑ.1 h0) h3]at h1;rw[ã,<-hl];exact þ h1
  exact PySem.W.ki_setBack ho (ϑ.1 h0) (by simp_all) (by lia) (by rw[hk];exact⟨_,I',q⟩)
def uU(lo hi:Option Int)(n:Nat):(ϧ lo hi Á n).1=((HT.yc n 0 lo:Nat):Int)/\(ϧ lo hi Á n).2.1=((HT.yc n n hi:Nat):Int)/\(ϧ lo hi Á n).2.2=1:=by
 refine⟨?_,?_,rfl⟩
 ·cases lo with
  |none=>rfl
  |some i =>
   simp only[ϧ,HT.yc,To,show (1:Int) > 0 by decide,if_true];by_cases h:i<0
   ·simp only[h,if_true] <;> lia
   ·simp only[h,if_false] <;> lia
 ·cases hi with
  |none=>rfl
  |some i =>
   simp only[ϧ,HT.yc,To,show (1:Int) > 0 by decide,if_true];by_cases h:i<0
   ·simp only[h,if_true] <;> lia
   ·simp only[h,if_false] <;> lia
def rT(its:List Ù)(lo hi:Option Int):Tp its.toArray lo hi Á=((its.drop (HT.yc its.length 0 lo)).take (HT.yc its.length its.length hi-HT.yc its.length 0 lo)).toArray:=by obtain⟨h1,h2,h3⟩:=uU lo hi its.toArray.size;unfold Tp;rw[h1,h2,h3];simp only[sliceRange_one,pick_run] <;> rfl
def JY(K:Í):V->Option Int->Option Int->Hp->VK->Prop:=λx lo hi H Q=>∃a xs,x=.ref a/\cE K H a xs/\∀p,H p=Á->Q (.ref p) (upd H p (.lst (CG xs lo hi)))
def GX:NK X (JY X.K):=by intro pins s Y H x v vl vu lo hi sl Q I rx hs pl pu h;obtain⟨a,xs,rfl,hx,q⟩:=h;cases rx;obtain⟨its,r,ht,hz⟩:=I.list hx;have hlen:=r.length;refine⟨"list", _,Qn.lookup,ht.isList.typeIs,Qz ht.isList hs pl pu .none (by simp) ?_ (by simp_all)⟩;rw[rT,<-hlen];exact⟨.ref s.heap.objs.size,_,I.laid (o:=.lst (CG xs lo hi)) (λb ob q=>Ì _ q) (Õ _) ⟨ø (oQ xs lo hi) hz,_,0,(r.drop (HT.yc xs.length 0 lo)).take (HT.yc xs.length xs.length hi-HT.yc xs.length 0 lo),å _ rfl⟩,rfl,q _ (I.bJ.fresh (Õ _))⟩
def cG.or(h:cG X f r)(h':cG X f r'):cG X f (λxs H Q=>r xs H Q\/r' xs H Q):=by
 intro pins s Y H xs us Q I rs q;rcases q with q |q
 ·exact h pins s Y H xs us Q I rs q
 ·exact h' pins s Y H xs us Q I rs q
def vY:cG X (.type "list") (λxs H Q=>∃p ys,xs=[.ref p]/\(cE X.K H p ys\/Gg X.K H p ys)/\∀l,H l=Á->Q (.ref l) (upd H l (.lst ys))):=by
 intro pins s Y H xs us Q I r h;obtain⟨p,ys,rfl,hq,q⟩:=h;obtain⟨u,rfl,rx⟩:=vals1 r;cases rx
 have fin:∀(its:List Ù),Vals ys its->ys.length<=Î->∀(h':Ő) (c':Nat),(∀b o',s.heap.get? b=À o'->h'.get? b=À o') ->
  h'.get? s.heap.objs.size=À {cls:=.type "list", dict:=Á,data:=.seq its.toArray c',slots:=#[] }->EP X pins Y Q (.ref s.heap.objs.size) {s with heap:=h' }:=λits r' hz h' c' kp e =>
  ⟨.ref s.heap.objs.size,_,I.laid kp (Õ _) (show cF X.prog X.w _ h' _ (.lst ys) from⟨hz,its,c',r',e⟩),rfl,q _ (I.bJ.fresh (Õ _))⟩
 rcases hq with hq |hq
 ·obtain⟨its,r',pl,hz⟩:=I.list hq;have hlen:=r'.length;obtain⟨o,ho,hc,n,hd⟩:=pl.isList;exact call_list_seq p (.inl rfl) ho hc hd (λh' c' kp e=>fin its r' hz h' c' kp e) (by simp_all)
 ·obtain⟨its,r',pl,hz⟩:=I.tuple hq;have hlen:=r'.length;obtain⟨o,ho,hc,n,hd⟩:=pl;exact call_list_seq p (.inr rfl) ho hc hd (λh' c' kp e=>fin its r' hz h' c' kp e) (by simp_all)
noncomputable def NR(K:Í)(T:String)(x:V)(H:Hp):Prop:=match x with
 |.str _=>T = "str"
 |.int _=>T = "int"
 |.ref p=>(T = "list" /\ ∃xs,cE K H p xs)\/(T = "tuple" /\ ∃o,K.lookup p=À o/\o.cls=.type "tuple" /\ o.dict=Á) \/
  (T = "dict" /\ ((∃kvs,H p=À (.dK kvs))\/∃kvs,H p=À (.dT kvs)))\/(T = "set" /\ ∃S n,H p=À (.set S n))
 |_=>False
def Jj(I:Inv X pins Y H s)(r:RelV x v)(ty:NR X.K T x H) :
 s.TypeIs v T/\∀a,v=.ref a->∃ob,s.heap.get? a=À ob/\ob.dict=none:=by
 cases x with
 |str z =>obtain⟨t,rfl⟩:=r;cases ty;exact⟨typeIs_str s z t,λ_ e=>nomatch e⟩
 |int i =>obtain⟨t,rfl⟩:=r;cases ty;exact⟨TY s i t,λ_ e=>nomatch e⟩
 |ref p =>
  cases r;rcases ty with⟨rfl,xs,hq⟩ |⟨rfl,o,hk,hc,hd⟩ |⟨rfl,hk⟩ |⟨rfl,S,n,hk⟩
  ·obtain⟨its,_,pl,_⟩:=I.list hq;refine⟨pl.isList.typeIs,λa e=>?_⟩;cases e;obtain⟨o,n,e,c,hd,_⟩:=pl;exact⟨o,e,hd⟩
  ·refine⟨⟨o,I.xp p o hk,hc⟩,λa e=>?_⟩;cases e;exact⟨o,I.xp _ o hk,hd⟩
  ·have z:∃o,s.heap.get? p=À o/\o.ExactDict:=by
    rcases hk with⟨kvs,hk⟩ |⟨kvs,hk⟩
    ·obtain⟨_,_,_,_,o,_,_,e,ex,_⟩:=I.bJ p _ hk;exact⟨o,e,ex⟩
    ·obtain⟨_,_,_,_,o,_,_,e,ex,_⟩:=I.bJ p _ hk;exact⟨o,e,ex⟩
   obtain⟨o,e,ex⟩:=z;refine⟨⟨o,e,ex.1⟩,λa e2=>?_⟩;cases e2;exact⟨o,e,ex.2.1⟩
  ·obtain⟨o,_,_,_,e,ex,_⟩:=I.bJ p _ hk;refine⟨⟨o,e,ex.1⟩,λa e2=>?_⟩;cases e2;exact⟨o,e,ex.2.1⟩
 |_=>exact Ϗ ty
def MJ(K:Í)(T:String)(r:V->List V->Hp->VK->Prop)(to:TE)(t:TA):TE:=λY H Q=>to Y H λx H1=>NR K T x H1/\t Y H1 λxs H2=>r x xs H2 Q
def mq{id:String}(pa:PlainAttrs T)(slot:Slot T name id)(hty:typeOf (.builtin id)=pure (.type "method_descriptor"))(hm:Ot X id r)(ho:PE X o to)(ha:PA X (e::es) t)
 (hbase:attributeBase o name X.env (eval o X.env)=eval o X.env:=by rfl)
 (hfew:((QX cpos (ġ (e::es) X.env)).all (λx=>!x.1)&&(backToKw cpos (keywordEach [] X.env)).all (λx=>x.1.isSome)
  && decide ((e::es).length+([]:List Keyword).length+(if ([]:List Keyword).isEmpty then 0 else 1)<30))=true:=by rfl)
 (hline:(apos.endLine==cpos.line)=true:=by rfl) (hs:ġ (e::es) X.env=(Ã,eval e X.env)::ġ es X.env:=by rfl) (hplain:(QX cpos (ġ es X.env)).any (·.1)=false:=by rfl) :
 PE X (.Call (.Attribute o name apos) (e::es) [] cpos) (MJ X.K T r to t):=by
 intro pins s Y H Q I h;refine wpAny_Call_method_late hbase hfew hline rfl (cc (ho pins s Y H _ I h) λv s1 ⟨x,H1,I1,r1,ty,q1⟩=>?_);obtain⟨h1,h2⟩:=Jj I1 r1 ty;refine⟨T,id,pa,slot,hty,h1,h2,?_⟩;have hA:=ha cpos pins s1 Y H1 _ I1 q1;rw[hs]at hA ⊢;exact Calls.callWith_builtin (by show (Ã || (QX cpos (ġ es X.env)).any (·.1))=Ã;rw[hplain] <;> rfl) (Calls.evalArgs_plain (cc hA λus s2 ⟨vs,H2,I2,r2,q2⟩=>hm pins s2 Y H2 x vs v us Q I2 r1 r2 q2))
end
noncomputable def Od(X:Cx)(id:String)(r:V->List V->Hp->VK->Prop):Prop :=
 ∀(pins:List (Ý×ϯ)) (s:ç) (Y:St) (H:Hp) (x:V) (xs:List V) (v:Ù) (us:List Ù) (Q:VK),Inv X pins Y H s->RelV x v->Vals xs us->r x xs H Q ->
  í (model X.prog X.w) X.A (call (.builtin id) (v::us)) (EP X pins Y Q) X.xe s
def Vals.one:∀{x:V} {us:List Ù},Vals [x] us->∃u,us=[u]/\RelV x u
 |_,_,.cons r .nil=>⟨_,rfl,r⟩
theorem Vals.rep(h:Vals xs us):∀k:Nat,Vals (æ k xs).flatten (æ k us).flatten
 | 0=>.nil
 |k+1=>Vals.append h (Vals.rep h k)
theorem foldl_rep(its:List Ù):∀(k:Nat) (acc:List Ù),
 TZ (λx1 x2=>x1++x2) acc.toArray (æ k its.toArray)=(acc++(æ k its).flatten).toArray
 | 0,acc=>by simp
 |k+1,acc=>by
  have e2:(acc++its)++(æ k its).flatten=acc++(æ (k+1) its).flatten:=by rw[R5,List.flatten_cons,ą]
  rw[<-e2,<-foldl_rep its k (acc++its),<-(by simp:acc.toArray++its.toArray=(acc++its).toArray),R5,Px]
section
def Inv.Mj{its:List Ù}(I:Inv X pins Y H s)(hH:H l=À (.lst xs))
 (e:s.heap.get? l=À {cls:=.type "list", data:=.seq its.toArray n }) (hf:f its.toArray=its'.toArray) (hv:Vals ys its') (hz:ys.length<=Î) :
 Inv X pins Y (upd H l (.lst ys)) {s with heap:=s.heap.update l (ù f),toks:=t' }:=by
 have q:=PySem.IsL.update e f;rw[hf]at q;exact I.write (by rw[hH];exact trivial) (.inl rfl) (λb' u hb hu=>(č s.heap (ù f) (ĩ hb)).trans hu) ⟨_,q⟩ ⟨hz,its',_,hv,q⟩
def Inv.Kt(I:Inv X pins Y H s)(hv:Vals ys its)(hz:ys.length<=Î) :
 Inv X pins Y (upd H s.heap.objs.size (.lst ys)) {s with heap:=s.heap.push {cls:=.type "list", data:=.seq its.toArray },toks:=t' } :=
 I.laid (λ_ _ q=>Ì _ q) (Õ _) ⟨hz,its,0,hv,å _ rfl⟩
theorem Inv.fresh(I:Inv X pins Y H s):H s.heap.objs.size=none:=I.bJ.fresh (Õ _)
def Inv.Km(I:Inv X pins Y H s)(hH:H l=À (.lst xs)):xs.length<=Î/\∃(its:List Ù) (n:Nat),Vals xs its/\xs.length=its.length/\s.heap.get? l=À {cls:=.type "list", data:=.seq its.toArray n }:=by obtain⟨z,its,n,r,e⟩:=I.bJ l _ hH;exact⟨z,its,n,r,r.length,e⟩
def xc(h:n<=Î):Oy n=false:=decide_eq_false (ņ.2 h)
end
section
def vf:V->List V->Hp->VK->Prop:=λx vs H Q=>∃l xs y,x=.ref l/\vs=[y]/\H l=À (.lst xs)/\xs.length<Î/\Q .non (upd H l (.lst (xs++[y])))
def eG:Od X "list.append" vf:=by intro pins s Y H x vs v us Q I rx rv h;obtain⟨l,xs,y,rfl,rfl,hH,hz,q⟩:=h;cases rx;obtain⟨u,rfl,ru⟩:=rv.one;obtain⟨z,its,n,r,hl,e⟩:=I.Km hH;refine Q3 F.slot_list_append ⟨_,e,rfl⟩ F.entry_list_append (F.args_list_append_2 _ _) (PySem.list_append l its.toArray n u (by simp_all)) ⟨e,⟨.non,_,I.Mj hH e (by simp) (r.append (.cons ru .nil)) ?_,rfl,q⟩⟩;rw[á,ĥ];exact hz
def L4:R2:=λx y H Q=>∃l k xs,x=.ref l/\y=.int k/\H l=À (.lst xs)/\-(2 ^ 63)<=k/\k<2 ^ 63/\xs.length*k.toNat<=Î /\
 ∀p,H p=Á->Q (.ref p) (upd H p (.lst (æ k.toNat xs).flatten))
def len_rep(xs:List α)(k:Nat):(æ k xs).flatten.length=k*xs.length:=by simp
def nR:o6 X (Pg .Mult) L4:=by
 intro pins s Y H x y v u Q I rx ry h;obtain⟨l,k,xs,rfl,rfl,hH,h1,h2,hz,q⟩:=h;cases rx;obtain⟨t,rfl⟩:=ry;obtain⟨z,its,n,r,hl,e⟩:=I.Km hH;have hlen:its.toArray.size*k.toNat<=Î:=by simp_all
 have hcap:¬its.toArray.size*k.toNat > (2 ^ 63-1) / 8:=by
  have:Î<=(2 ^ 63-1) / 8:=by decide
  lia
 have hfit:¬(!Builtin.List.listFitsIndex k)=true:=by rw[fitsIndex_both h1 h2];exact ñ
 have hlong:¬Oy (its.toArray.size*k.toNat)=true:=by rw[xc hlen];exact ñ
 have hnew:TZ (λx1 x2=>x1++x2) #[] (æ (if its.toArray.isEmpty=Â then 0 else k.toNat) its.toArray)=(æ k.toNat its).flatten.toArray:=by
  have f0:∀m,TZ (λx1 x2=>x1++x2) #[] (æ m its.toArray)=(æ m its).flatten.toArray:=λm=>by have:=foldl_rep its m [];exact this
  rw[f0];cases its with
  |nil=>simp
  |cons a r'=>rw[if_neg (by simp)]
 refine wpAny_binaryOp_repeat_ref rfl ⟨_,e,rfl⟩ (λs'=>TY s' k t) noFill_list_mul F.fills_int_mul F.slot_int_rmul repeat_list F.slot_int_index.lookup
  (Q3 F.slot_int_rmul (TY s k t) F.entry_int_rmul (F.args_int_rmul_2 _ _) (int___rmul___int_list k t l its.toArray n)
   ⟨e,rfl,⟨_,e,rfl⟩,Q3 F.slot_list_mul ⟨_,e,rfl⟩ F.entry_list_mul (F.args_list_mul_2 _ _) (AutoListH.list___mul___list_int_3 l its.toArray n k t hfit hcap hlong) ⟨e,?_⟩⟩)
 rw[hnew];exact⟨.ref _,_,I.Kt (r.rep k.toNat) (by rw[len_rep,Nat.mul_comm];exact hz),rfl,q _ I.fresh⟩
end
end L2
namespace NQ
open PySem PySem.W PySem.Calls PyProof.Rows
def oY:∀(ns:List Int) (vs:List Ù),WellAll P h vs (ns.map PV)->Ŧ vs ns:=by
 intro ns;induction ns with
 |nil =>intro vs w;cases w;exact .nil
 |cons n ns ih =>
  intro vs w;cases w with
  |cons a b =>cases a;exact .cons _ _ (ih _ b)
def BN{l:OpenLaw}(hn:l.most=À n)
 (hpre:l.row.toRowW.claim.pre args=Â) (hwl:WellAll P h vals args) :
 ∃a vs ns,vals=[Č a]/\args=[WData.list (ns.map PV)]/\h.get? a=À {cls:=.type "list", data:=.seq vs.toArray }/\Ŧ vs ns/\ns.length<=n:=by
 obtain⟨d,r,rfl,h1,h2⟩:=hasAllW_cons ((pre_splitW hpre).1);obtain rfl:=hasAllW_nil h2;obtain⟨xs,rfl,h3⟩:=hasW_list h1;obtain⟨ns,rfl⟩:=items_int h3
 have hlen:ns.length<=n:=by
  have h4:=by have h4:=(holds_andW ((pre_splitW hpre).2)).1;rw[hn]at h4;exact h4
  have h5:=condW_of h4 (w_not (w_lt w_lit (w_len_list (w_arg rfl))))
  first
   |simp_all
   |(rfl)
 cases hwl with
 |cons w1 w2 =>
  cases w2;cases w1 with
  |list ho hall=>exact⟨_,_,ns,rfl,rfl,ho,oY ns _ hall,hlen⟩
def B1(l:OpenLaw)(args:List WData):l.row.toRowW.claim.post args (.bool Â) args=Â :=
 postW_of
  (by first |rfl |decide |rfl)
  (w_eq_bool (w_res rfl) w_lit) rfl
section
def ledger(h:Ő)(L d:Ý):List (Ý×ϯ):=(ê h.objs.size).filterMap λa=>if a=L\/a=d then Á else (h.get? a).map λo=>(a,o)
end
end NQ
namespace L2
open PySem PySem.Spec PyProof.Rows
theorem iq:∀{vs:List Ù} {ns:List Int},Ŧ vs ns->Vals (ns.map V.int) vs
 |_,_,.nil=>.nil
 |_,_,.cons n t h=>.cons ⟨t,rfl⟩ (iq h)
abbrev Ov{K:Í}{h:Ő}(_:K.In h):Í:=K
def mH(s:Ű):Arguments:=match s with
 |.FunctionDef _ a _ _ _ _ _ _ _ _=>a
 |_=>{posonlyargs:=[],args:=[],vararg:=Á,kwonlyargs:=[],kw_defaults:=[],kwarg:=Á,defaults:=[] }
def dW(s:Ű):List Ű:=match s with
 |.FunctionDef _ _ b _ _ _ _ _ _ _=>b
 |_=>[]
def av(s:Ű):Ql:=match s with
 |.FunctionDef _ _ _ _ _ _ sc _ _ _=>sc
 |_=>{kind:=.function,names:=[],isGenerator:=Ã,isCoroutine:=Ã }
abbrev gE:Lz:=λ_ _ _ _ _ _=>False
abbrev E0:XK:=λ_ _ _=>False
def Md:Passes gE X E0:=λ_ _ _ _ _ _ _ h=>h.elim
structure gB(K:Í)(x qual:ĺ)(st:Ű)(f:Ý)(fd:QG):Prop where
 ex:∃(oc:Ù) (od:Option Ý) (kV doc pm:Ù) (an:Option Ý) (cdv ct:Ù) (osl:Array (Option Ù)),
  fd=ϰ x qual (mH st) (dW st) (av st) .none kV doc pm an cdv ct/\K.lookup f=À ⟨oc,od,.func fd,osl⟩/\P4 K cdv qual=Â
 kp:P2 K (.ref f)=Â
section
def gB.ok{K:Í}{st:Ű}(F:gB K x qual st f fd)(S:aL N ps (av st))(len:∀vs H Q E,sp vs H Q E->vs.length=ps.length)
 (hbody:∀(cdv:Ù) (A:Ŝ) (outer:List Ux) (s:ç) (H:Hp) (vs:List V) (Q:VK) (E:XK),ej k (A.deeper (QZ qual (av st) s.heap.objs.size f cdv))->sp vs H Q E ->
  ∃t,wd (sQ gE P w K mg base N qual (av st) f cdv A outer s H E).Ga (dW st) t/\t {nx:=λ_ H'=>Q .non H',rt:=Q } (start N vs) H):ck P w K mg base gE (k+1) f fd ps sp:=by
 obtain⟨oc,od,kV,doc,pm,an,cdv,ct,osl,rfl,lk,hcd⟩:=F.ex;refine IU lk hcd S len λA outer s H vs Q E hr hsp=>?_;obtain⟨t,h,q⟩:=hbody cdv A outer s H vs Q E hr hsp;exact⟨t,h.Ga,q⟩
def KW{K:Í}{st:Ű}{kV:Ù}(l:K.lookup f=À ⟨oc,od,.func (ϰ x qual (mH st) (dW st) (av st) .none kV doc pm an cdv ct),osl⟩)
 (c:P4 K cdv qual=Â) (k:P2 K (.ref f)=Â):gB K x qual st f (ϰ x qual (mH st) (dW st) (av st) .none kV doc pm an cdv ct):=⟨⟨oc,od,kV,doc,pm,an,cdv,ct,osl,rfl,l,c⟩,k⟩
end
def xw(hr:ej k A):A.units+1<O7:=OG (Nat.add_le_add_left (by decide) _) hr.units
section
def pv(i:Nat)(hN:X.N[i]?=À x:=by rfl)(hv:Mu X.env.scope x:=by first |exact Ė rfl |exact ĵ (Ė rfl) |exact ĵ (ĵ rfl))(hd:(x==("__debug__" : ĺ))=false:=by decide)
 (hcd:(x==("__classdict__" : ĺ))=false:=by decide):PE X (.Name x pos) (tVar i):=Kb hN hv hd hcd
end
def vH{A:Prop}(h:B):if Ã=Â then A else B:=by simp_all
def xq{A:Prop}(h:A):if Â=Â then A else B:=by simp_all
def aH(H H':Hp):Prop:=∀b o,H b=À o->H' b=À o
def aH.refl(H:Hp):aH H H:=λ_ _ h=>h
def aH.trans{H H1 H2:Hp}(a:aH H H1)(b:aH H1 H2):aH H H2:=λc o h=>b c o (a c o h)
def aH.free(e:aH H H')(h:H' l=UH):H l=UH:=by
 cases q:H l with
 |none=>rfl
 |some o =>rw[e l o q]at h;cases h
section
def cT:o6 X (Pg .Mult) (rI RF λi j=>.int (i*j)):=MM λ_ _ _ _ _ _ _ hc q=>mul_int q hc
def cB:o6 X (Pg .FloorDiv) (rI (λ_ j=>0<j/\j.natAbs.log2<9000) λi j=>.int (i / j)):=MM λi j _ _ _ _ _ hc q=>floordiv_int (OO hc.1) (by rw[Int.fdiv_eq_ediv_of_nonneg i (OP hc.1)];exact q) (.inl (PyProof.noPylong_of_log2 hc.2))
def Fz(hc:X.calm=Â):cG X (.builtin "sum") (λxs H Q=>∃(p:Ý) (ns:List Int),xs=[.ref p]/\cE X.K H p (ns.map V.int)/\Q (.int ns.sum) H):=by
 intro pins s Y H xs us Q I r h;obtain⟨p,ns,rfl,hq,q⟩:=h;obtain⟨u,rfl,rx⟩:=vals1 r;cases rx;obtain⟨its,r',pl,hz⟩:=I.list hq;have hi:=intsAre_of r';obtain⟨ys,hx⟩:=hi.allInts.items;refine sum_intListG (I.ok.hd hc) (hx ▸ pl.isList) λh' tk t' hk=>?_;have e1:ns=ys.toList.map (·.1):=by rw[<-Sj,<-hx];exact hi.numsOf.symm
 have e2:preSum (numAt ys) ys.size=ns.sum:=by rw[preSum_eq,Ĩ (by simp),e1]
 rw[e2];exact⟨.int ns.sum,H,I.kept hk,⟨_,rfl⟩,q⟩
def CK(hc:X.calm=Â):cG X (.builtin "max") (λxs H Q=>∃(p:Ý) (ns:List Int),xs=[.ref p]/\cE X.K H p (ns.map V.int)/\ns≠[]/\∀M,M∈ns->(∀a,a∈ns->a<=M)->Q (.int M) H):=by
 intro pins s Y H xs us Q I r h;obtain⟨p,ns,rfl,hq,hne,q⟩:=h;obtain⟨u,rfl,rx⟩:=vals1 r;cases rx;obtain⟨its,r',pl,hz⟩:=I.list hq;have hi:=intsAre_of r';obtain⟨ys,e⟩:=hi.allInts.items;have hns:ns=ys.toList.map (·.1):=by rw[<-hi.numsOf,<-Sj,<-e]
 have hsz:0<ys.size:=by have h3:=R6.mpr hne;rw[hns,Ê]at h3;exact h3
 have hl:=pl.isList;rw[e]at hl;refine max_intList (I.ok.hd hc) hl hsz λv h' tk hv hk=>?_;obtain⟨t,rfl⟩:=intItems_at hv;obtain⟨h1,h2⟩:=argBest_gt (numAt ys) (ys.size-1);refine⟨.int _,H,I.kept hk,⟨t,rfl⟩,q _ ?_ λa ha=>?_⟩
 ·rw[hns,T4];exact T5 (by rw[Ê,ß];lia)
 ·rw[hns]at ha;obtain⟨j,hj,rfl⟩:=mem_getD ha;rw[Ê,ß]at hj;rw[<-T4];exact h2 j (by lia)
def FD:cG X (.builtin "isinstance") (λxs H Q=>∃x n t b,xs=[x,.ty n]/\kL X.K H x t/\OQ X.K t (.type n)=À b/\Q (.bl b) H):=by intro pins s Y H xs us Q I r h;obtain⟨x,n,t,b,rfl,ty,e,q⟩:=h;obtain⟨u,w',rfl,rx,ry⟩:=vals2 r;cases ry;exact Cq I rx ty e λtk=>⟨.bl b,H,I.tok _,rfl,q⟩
def fE[DecidableEq α]{ns ms:List α}(d:α)(h:ns.length=ms.length):((ê ns.length).all λj=>decide (ns.getD j d=ms.getD j d))=decide (ns=ms):=by
 rw[Ķ,Ľ,decide_eq_true_iff];constructor
 ·intro H;refine Τ h λi h1 h2=>?_;have:=of_decide_eq_true (H i (ö.mpr h1));rw[Ë,Ë,É h1,É h2]at this;exact this
 ·rintro rfl i _;simp
def jb[DecidableEq α]{us ws:List Ù}{ns ms:List α}{d:α}(hl:us.length=ns.length)(hl2:ws.length=ms.length)
 (h:∀(j:Nat) (u v:Ù) (a b:α),us[j]?=À u->ws[j]?=À v->ns[j]?=À a->ms[j]?=À b->Ϩ A s u v (decide (a=b))) :
 ∀j (h1:j<us.toArray.size) (h2:j<ws.toArray.size),Ϩ A s us.toArray[j] ws.toArray[j] (decide (ns.getD j d=ms.getD j d)):=by
 grind
def qu[DecidableEq α][Inhabited α]{us ws:List Ù}{ns ms:List α}(p1:s.heap.IsList l us.toArray)(p2:s.heap.IsList b ws.toArray)(hl:us.length=ns.length)(hl2:ws.length=ms.length)(hu:A.units<O7)
 (h:∀(j:Nat) (u v:Ù) (a b:α),us[j]?=À u->ws[j]?=À v->ns[j]?=À a->ms[j]?=À b->Ϩ A.in1 s u v (decide (a=b))) :
 SeqAt.RcAt A s (.ref l) (.ref b) (decide (ns=ms)):=by
 by_cases hs:ns.length=ms.length
 ·have q:=SeqAt.RcAt.lists (e:=λj=>decide (ns.getD j default=ms.getD j default)) p1 p2 (by simp;lia) hu (jb hl hl2 h);have e:((ê us.toArray.size).all λj=>decide (ns.getD j default=ms.getD j default))=decide (ns=ms):=by rw[ã,hl];exact fE default hs
  rw[e]at q;exact q
 ·rw[(decide_eq_false λz=>hs (by rw[z]))];exact(Oz p1 p2 (by simp;lia) hu)
def ve[DecidableEq α][Inhabited α]{us ws:List Ù}{ns ms:List α}(p1:s.heap.IsList l us.toArray)(p2:s.heap.IsList b ws.toArray)(hl:us.length=ns.length)(hl2:ws.length=ms.length)(hu:A.units<O7)
 (h:∀(j:Nat) (u v:Ù) (a b:α),us[j]?=À u->ws[j]?=À v->ns[j]?=À a->ms[j]?=À b->Ϩ A.in1 s u v (decide (a=b))) :
 UC A s (.ref l) (.ref b) (!decide (ns=ms)):=by
 by_cases hs:ns.length=ms.length
 ·have q:=SeqAt.RcNeAt.lists (e:=λj=>decide (ns.getD j default=ms.getD j default)) p1 p2 (by simp;lia) hu (jb hl hl2 h);have e:((ê us.toArray.size).all λj=>decide (ns.getD j default=ms.getD j default))=decide (ns=ms):=by rw[ã,hl];exact fE default hs
  rw[e]at q;exact q
 ·rw[(decide_eq_false λz=>hs (by rw[z]))];exact(P5 p1 p2 (by simp;lia) hu)
end
open PySem.W in
theorem x8{ns:List Int}(h:Tq [WData.list (ns.map PV)]=Â):∀n∈ns,ō n<=1048576:=by
 have w:PK (.list (ns.map PV))<=2 ^ 20:=by unfold Tq WData.layable at h;simp only[List.all_cons,List.all_nil,Sk,Υ,decide_eq_true_eq]at h;exact h.2
 have key:∀(ms:List Int),∀n∈ms,ō n<=Rj (ms.map PV):=by
  intro ms;induction ms with
  |nil=>intro n hn;cases hn
  |cons m ms ih =>
   intro n hn;rw[Ā,Rj];rcases Ú.mp hn with rfl |hn
   ·have e:PK (.int n)=ō n:=by simp[PK,ō]
    lia
   ·have:=ih n hn
    lia
 intro n hn;have q:=key ns n hn;have e:PK (.list (ns.map PV))=Rj (ns.map PV):=by simp[PK]
 rw[e]at w;exact ø q w
section
def vU (I:Nat→Shared→Prop)
    (turn:∀n s,I n s->í (model prog w) A (ON it) (λr s₁=>match r with
      |none=>R (.ok .next) s₁
      |some v=>í (model prog w) A (Ri target it v) (λ_ s₀=>í (model prog w) A (assign target env v) (λ_ s₂ =>
          í (model prog w) A (forIn ifs Â λc r=>if r=Â then do let ok <-isTrue c env (eval c env);pure (ı ok) else pure (ı r)) (λok s₃ =>
            if ok=Â then í (model prog w) A (eval elt env) (λx s₄ =>í (model prog w) A (call (.builtin "list.append") [acc,x]) (λ_ s₅=>∃m,m<n/\I m s₅) (λ_ _=>False) s₄) (λ_ _=>False) s₃
            else ∃m,m<n/\I m s₃) (λ_ _=>False) s₂) (λ_ _=>False) s₀) (λ_ _=>False) s₁) (λ_ _=>False) s)
    (n:Nat) (h:I n s) :
    OR (model prog w) A (.compLoop (.ListComp elt [⟨target,iter,ifs,0⟩] scope pos) 0 it acc env) R s:=by
  refine codeAny_loop rfl I (λn s hI=>?_) n h;apply wpAny_noted;rw[compTurn_list];refine È (Pf (È (ħ (turn n s hI) (λr s₁ h₁=>?_) λ_ _ h'=>h'.elim)));cases r with
  |none=>exact Ï h₁
  |some v =>
    refine È (ħ h₁ (λ_ s₀ h₀=>È (ħ h₀ (λ_ s₂ h₂=>È (ħ h₂ (λok s₃ h₃=>?_) λ_ _ h'=>h'.elim)) λ_ _ h'=>h'.elim)) λ_ _ h'=>h'.elim);cases ok with
    |false=>exact Ï ⟨rfl,h₃⟩
    |true =>exact È (È (ħ h₃ (λx s₄ h₄=>È (ħ h₄ (λ_ s₅ h₅=>Ï (Ï ⟨rfl,h₅⟩)) λ_ _ h'=>h'.elim)) λ_ _ h'=>h'.elim))
end
noncomputable def I0(J:It)(g:TG)(tt:TT)(te:TE)(σ0:St)(H1:Hp)(Q:VK):Prop:=∀D,H1 D=Á->∃W:Nat->Nat->List V->Hp->Prop,(∃m,W 0 m [] (upd H1 D (.lst []))) /\
 ∀i m ys H,W i m ys H->(J.stop i H/\H D=À (.lst ys)/\Q (.ref D) H) \/
  (J.go i H/\∀x H',J.LC i H x H'->g x σ0 H' fun σ2 H2=>tt σ2 H2 λc H3 =>
   if c=Â then te σ2 H3 λv H4=>H4 D=À (.lst ys)/\ys.length<Î/\∃m',m'<m/\W (i+1) m' (ys++[v]) (upd H4 D (.lst (ys++[v])))
   else ∃m',m'<m/\W (i+1) m' ys H3)
def Bn(g:TG)(σ0:St):Prop:=∀x H (Q:St->Hp->Prop),g x σ0 H Q->g x σ0 H fun σ2 H2=>Q σ2 H2/\σ2.length=σ0.length/\∀(j:Nat) v,σ0[j]?=À (À v)->σ2[j]?=À (À v)
section
def jm(wi:TI)(g:TG)(tt:TT)(te:TE)(σ0:St->St):TE:=λY H Q=>wi Y H λJ H1=>I0 J g tt te (σ0 Y) H1 Q
def wD:TT:=λ_ H Q=>Q Â H
def tf(t:TE)(i:Nat):TS:=λD Y H=>t Y H λx H1=>D.nx (Y.set i (À x)) H1
end
section
def b9(hg:Gl X x)(hm:∃t,X.mg x=À (.int i t))(hd:(x==("__debug__" : ĺ))=false:=by decide):PE X (.Name x pos) (tC (.int i)):=by obtain⟨t,e⟩:=hm;exact Hh hg e ⟨t,rfl⟩ hd
end
def cy:Ĝ "len" = À (.builtin "len"):=by decide +kernel
def lI:Ĝ "max" = À (.builtin "max"):=by decide +kernel
def rq:Ĝ "min" = À (.builtin "min"):=by decide +kernel
def ou:Ĝ "sum" = À (.builtin "sum"):=by decide +kernel
def bY:Ĝ "isinstance" = À (.builtin "isinstance"):=by decide +kernel
def ox:Ĝ "sorted" = À (.builtin "sorted"):=by decide +kernel
def FH:Ĝ "all" = À (.builtin "all"):=by decide +kernel
def oy:Ĝ "int" = À (.type "int"):=by decide +kernel
def HW:Ĝ "bool" = À (.type "bool"):=by decide +kernel
def gW:Ĝ "list" = À (.type "list"):=by decide +kernel
def Lc:Ĝ "set" = À (.type "set"):=by decide +kernel
def FG:Ĝ "tuple" = À (.type "tuple"):=by decide +kernel
def vZ:Ĝ "enumerate" = À (.type "enumerate"):=by decide +kernel
def bq(h:H a=Á):aH H (upd H a o):=λb u e=>by rw[upd_ne (aO e h)];exact e
theorem Paired.mono{F G:α->β->Prop}:∀{as:List α} {bs:List β},Ł F as bs->(∀a b,a∈as->F a b->G a b)->Ł G as bs
 |_,_,.nil,_=>.nil
 |_,_,.cons r t,h=>.cons (h _ _ Ò r) (Paired.mono t λa b m=>h a b (Ñ _ m))
theorem Paired.append{F:α->β->Prop}:∀{as cs:List α} {bs ds:List β},Ł F as bs->Ł F cs ds->Ł F (as++cs) (bs++ds)
 |_,_,_,_,.nil,s=>s
 |_,_,_,_,.cons r t,s=>.cons r (Paired.append t s)
theorem Paired.take{F:α->β->Prop}:∀(n:Nat) {as:List α} {bs:List β},Ł F as bs->Ł F (as.take n) (bs.take n)
 | 0,_,_,_=>.nil
 |_+1,_,_,.nil=>.nil
 |n+1,_,_,.cons r t=>.cons r (Paired.take n t)
theorem Paired.drop{F:α->β->Prop}:∀(n:Nat) {as:List α} {bs:List β},Ł F as bs->Ł F (as.drop n) (bs.drop n)
 | 0,_,_,h=>h
 |_+1,_,_,.nil=>.nil
 |n+1,_,_,.cons _ t=>Paired.drop n t
section
def DY{K:Í}(h:X.K=K):NK X (JY K):=by subst h;exact GX
def kU{K:Í}(h:X.K=K):cG X (.type "list") (λxs H Q=>∃p ys,xs=[.ref p]/\(cE K H p ys\/Gg K H p ys)/\∀l,H l=Á->Q (.ref l) (upd H l (.lst ys))):=by subst h;exact vY
def dN{K:Í}(h:X.K=K):cG X (.builtin "isinstance") (λxs H Q=>∃x n t b,xs=[x,.ty n]/\kL K H x t/\OQ K t (.type n)=À b/\Q (.bl b) H):=by subst h;exact FD
def bI{K:Í}(h:X.K=K)(ha:PE X a ta)(he:∀whole,isTrue a X.env whole=(do let v <-whole;standAt a.pos;holding [v] (truthy v))) :
 PT X a (λY H Q=>ta Y H λx H'=>∃k,FK K x H' k/\Q k H'):=by subst h;exact Em ha he
end
noncomputable def MW(K:Í)(a:Ý):It :=
 ⟨λi H=>∃xs x,cE K H a xs/\xs[i]?=À x,λi H x H'=>∃(t:Ý) (v:V),x=.ref t/\H t=Á/\(∀xs,cE K H a xs->xs[i]?=À v)/\H'=upd H t (.tup [.int i,v]),λi H=>∃xs,cE K H a xs/\xs.length<=i⟩
def Bv{K:Í}(a e it:Ý)(hne:e≠it) :
 Turn P w K (.Tuple elts x1 pos) (MW K a) [e,it] e (λi h=>(∃old,IsEnum h e it (i:Nat) old)/\h.IsListIter it a i) where
 mem:=by simp
 obj:=λi h st b hb=>by
  obtain⟨⟨old,he⟩,hit⟩:=st;have hb':b=e\/b=it:=by simpa using hb
  rcases hb' with rfl |rfl
  ·exact⟨_,he,λv z=>by have z':Data.fields _=Tr v:=z;cases z'⟩
  ·obtain⟨o,ho,c,d⟩:=hit;exact⟨o,ho,λv z=>by rw[d]at z;cases z⟩
 keep:=λi h h' st k=>by obtain⟨⟨old,he⟩,hit⟩:=st;exact⟨⟨old,k e (by simp) _ he⟩,hit.at λo e=>k it (by simp) o e⟩
 item:=by
  intro X hP hw hK hc i pins s Y H E I hf st hg;subst hP hw hK;obtain⟨⟨old,he⟩,hit⟩:=st;obtain⟨xs,x,hq,hx⟩:=hg;obtain⟨its,rv,p,hz⟩:=I.list hq;obtain⟨u,hu,ru⟩:=rv.get hx;obtain⟨f0,f1,f2,f3,f4,f5⟩:=hf e (by simp);obtain⟨g0,g1,g2,g3,g4,g5⟩:=hf it (by simp);refine wpAny_pyNext_enum_item he hit p.isList (x:=u) (by simpa using hu) hne λh₁ heo hit₁ ht₁ hz₁ hk₁=>⟨_,rfl,?_⟩
  refine wpAny_letOwnedTupleGo_enum heo λh₂ he₂ hs₂=>?_;replace hs₂:Θ e h₁ h₂:=hs₂;have hlt:e<s.heap.objs.size:=Ø he;have k₂:∀b o,b∉[e,it]->s.heap.get? b=À o->h₂.get? b=À o:=λb o hb q=>by have b1:b≠e:=λz=>hb (by simp[z]);have b2:b≠it:=λz=>hb (by simp[z]);exact hs₂.extBut b o b1 (hk₁ b o b1 b2 q)
  have nit:∀b u',H b=À u'->b∉[e,it]:=λb u' q z=>by
   have z':b=e\/b=it:=by simpa using z
   rcases z' with rfl |rfl
   ·rw[f0]at q;cases q
   ·rw[g0]at q;cases q
  have I1:Inv X pins Y H {s with heap:=h₂,toks:=s.toks+1 }:=by
   refine I.step (g':=s.gens) (d':=s.drawn) (ch:=[e,it]) (λb hb=>?_) (λb o _ _ hc' q _=>k₂ b o hc' q) (λb o _ _ hc' q _=>⟨o.slots,k₂ b o hc' q⟩) (λ_ _ _ _ n=>n)
    (λb o hc' q=>⟨o,k₂ b o hc' q⟩) (λ_ _ q=>q) (λ_ _ _ q=>q) (λb ps q=>⟨#[],by rw[q];simp⟩) (λm hm=>?_) (λb u' q=>?_) I.bare
   ·have z':b=e\/b=it:=by simpa using hb
    rcases z' with rfl |rfl
    ·exact⟨f3,f1,f4,f5⟩
    ·exact⟨g3,g1,g4,g5⟩
   ·obtain⟨o,es,ep,ho,r⟩:=hm
    exact⟨o,es,ep,k₂ _ o (λz=>by
     have z':X.env.locals=e\/X.env.locals=it:=by simpa using z
     rcases z' with z' |z'
     ·exact f1 z'.symm
     ·exact g1 z'.symm) ho,r⟩
   ·refine(I.bJ b u' q).l6 (λc v hc' q'=>k₂ c v ?_ q') (λ_ q'=>q') λ_ _ q'=>q';rcases hc' with z |z
    ·rw[z];exact nit b u' q
    ·exact nit c _ z
  have nH:H s.heap.objs.size=none:=I.fresh;have tup₂:h₂.get? s.heap.objs.size=À {cls:=.type "tuple", data:=.seq #[.int i s.toks,u] }:=hs₂.extBut _ _ (ş hlt) ht₁
  have I2:Inv X pins Y (upd H s.heap.objs.size (.tup [.int i,x])) {s with heap:=h₂,toks:=s.toks+1 }:=by
   have ob:cF X.prog X.w (upd H s.heap.objs.size (.tup [.int i,x])) h₂ s.heap.objs.size (.tup [.int i,x]) :=
    ⟨by simp only[Û,ð];rw[ă];decide,[.int i s.toks,u],.cons ⟨_,rfl⟩ (.cons ru .nil),⟨_,tup₂,rfl,_,rfl⟩⟩
   have hk:ik X.prog X.w (upd H s.heap.objs.size (.tup [.int i,x])) h₂:=λb u' q=>by
    by_cases hb:b=s.heap.objs.size
    ·subst hb;rw[az]at q;cases q;exact ob
    ·rw[upd_ne hb]at q;exact(I1.bJ b u' q).l6 (λc v _ q'=>q') (λc q'=>by rw[upd_ne (aO q' nH)];exact q') λc xs' q'=>by rw[upd_ne (aO q' nH)];exact q'
   refine I.step (g':=s.gens) (d':=s.drawn) (ch:=[e,it]) (λb hb=>?_) (λb o _ _ hc' q _=>k₂ b o hc' q) (λb o _ _ hc' q _=>⟨o.slots,k₂ b o hc' q⟩) (λb o _ q n=>by rw[upd_ne (Ü (Ø q))];exact n)
    (λb o hc' q=>⟨o,k₂ b o hc' q⟩) (λb xs' q=>by rw[upd_ne (aO q nH)];exact q) (λb o u' q=>by rw[upd_ne (aO q nH)];exact q) (λb ps q=>⟨#[],by rw[upd_ne (aO q nH),q];simp⟩) (λm hm=>?_) hk I.bare
   ·have z':b=e\/b=it:=by simpa using hb
    rcases z' with rfl |rfl
    ·exact⟨f3,f1,f4,f5⟩
    ·exact⟨g3,g1,g4,g5⟩
   ·obtain⟨o,es,ep,ho,r⟩:=hm
    exact⟨o,es,ep,k₂ _ o (λz=>by
     have z':X.env.locals=e\/X.env.locals=it:=by simpa using z
     rcases z' with z' |z'
     ·exact f1 z'.symm
     ·exact g1 z'.symm) ho,r⟩
  refine⟨.ref s.heap.objs.size,_,I2,rfl,⟨_,x,rfl,nH,λys hy=>by rw[I.jW hy hq];exact hx,rfl⟩,⟨⟨u,?_⟩,hit₁.extBut hs₂.extBut (ĩ hne)⟩,λb hb=>?_⟩
  ·have e1:((i+1:Nat):Int)=(i:Int)+1:=by push_cast;rfl
   rw[e1];exact he₂
  ·have z':b=e\/b=it:=by simpa using hb
   rcases z' with rfl |rfl
   ·rw[upd_ne (Ü hlt)];exact f0
   ·rw[upd_ne (Ü (by obtain⟨o,ho,_⟩:=id hit;exact Ø ho))];exact g0
 done:=by intro X hP hw hK hc i pins s Y H E I hf st hg;subst hP hw hK;obtain⟨⟨old,he⟩,hit⟩:=st;obtain⟨xs,hq,hx⟩:=hg;obtain⟨its,rv,p,hz⟩:=I.list hq;obtain⟨g0,g1,g2,g3,g4,g5⟩:=hf it (by simp);have hl:=rv.length;exact wpAny_pyNext_enum_end (I.ok.hd hc) he hit p.isList (by simp;exact hl ▸ hx) λh' eb=>⟨rfl,I.turned (λb o hb e=>eb b o hb e) g0 g1 g3 g4 g5⟩
 self:=λ_ _ _ _ _ st h=>by obtain⟨⟨old,he⟩,_⟩:=st;exact wpAny_pyIter_enum he h
section
def AV(K:Í)(tl:TE):TI:=λY H R=>tl Y H λx H1=>∃a,x=.ref a/\(∃xs,cE K H1 a xs)/\R (MW K a) H1
def Hf(hg:Gl X "enumerate")(hm:X.mg "enumerate" = Á)(hl:PE X l tl)(hs:ġ [l] X.env=[(Ã,eval l X.env)]:=by rfl):PI X (.Tuple elts x1 tpos) (.Call (.Name "enumerate" p) [l] [] pos) (AV X.K tl):=by
 intro pins s Y H R I h;refine Call_ (eI I hg hm vZ (Ğ (cc ((aa hl aj hs) pos pins s Y H (λvs H1=>match vs with |[x]=>∃a,x=.ref a/\(∃xs,cE X.K H1 a xs)/\R (MW X.K a) H1 |_=>False) I h) λus s1 ⟨vs,H1,I1,r1,q1⟩=>?_) hs rfl))
 ·match vs,r1,q1 with
  |[x],r1,q1 =>
  obtain⟨a,rfl,⟨xs,hq⟩,q⟩:=q1;obtain⟨u,rfl,ru⟩:=vals1 r1;cases ru;obtain⟨its,rv,pl,hz⟩:=I1.list hq;refine call_enumerate_list pl.isList λh' he hit hz' hk=>?_;apply wpAny_pyIter_enum he;refine⟨s1.heap.objs.size+1,[s1.heap.objs.size+1,s1.heap.objs.size],_,_,H1,rfl,(I1.kept hk),Bv a _ _ (Nat.succ_ne_self _),⟨⟨_,he⟩,hit⟩,λb hb=>?_,q⟩;rcases(by simpa using hb)with rfl |rfl
  ·exact I1.zh (ţ _) (I1.bJ.fresh (ţ _))
  ·exact I1.zh (Õ _) (I1.bJ.fresh (Õ _))
end
section
theorem uh(hne:t≠it):∀(n i:Nat) (s:ç) (Q:List Ù->ç->Prop),s.heap.IsListIter it t i->s.heap.IsList t items->i+n<=items.size ->
 (∀h',h'.IsListIter it t (i+n)->Θ it s.heap h'->Q ((items.toList.drop i).take n) {s with heap:=h' })->í (model prog w) A (draw (.ref it) n) Q E s
 | 0,i,s,Q,hit,_,_,hQ=>Ï (by simpa using hQ s.heap hit (SU ..))
 |n+1,i,s,Q,hit,ht,hle,hQ=>by
  have hlt:i<items.size:=by lia
  refine È (QY hit ht (x:=items[i]) (by simp) λh₁ hit₁ hs₁=>È (Ċ (uh hne n (i+1) _ _ hit₁ (ht.extBut hs₁.extBut hne) (by lia) λh₂ hit₂ hs₂=>Ï ?_)));have:=hQ h₂ (by lia) (hs₁.trans hs₂);rw[(by simp[ó,hlt]:items.toList.drop i=items[i]::items.toList.drop (i+1))]at this;exact this
def nk(hh:A.handled=Á)(ht:s.heap.IsList t items)
 (hQ:∀h',RL s.heap.objs.size s.heap h'->Q items.toList {s with heap:=h' }):í (model prog w) A (unpackItems (.ref t) items.size Á) Q E s:=by
 have hlt:t≠s.heap.objs.size:=by obtain⟨o,ho,_⟩:=ht;exact Ü (Ø ho)
 apply È
 ·refine È (OD ht.typeIs F.slot_list_iter.lookup ?_);apply Ï;refine È (Ċ (ϡ ht (È (Ċ (uh hlt items.size 0 _ _ ⟨_,å _ rfl,rfl,rfl⟩ (ht.push _) (by lia) λh₁ hit₁ hs₁=>?_)))));have hall:List.take items.size (List.drop 0 items.toList)=items.toList:=Ĩ (by simp);rw[hall];rw[if_neg (by simp)];refine È (Ċ (Ru hh hit₁ ((ht.push _).extBut hs₁.extBut hlt) (by simp) λh₂ he₂=>Ï (hQ h₂ λb o hb e=>he₂ b o hb (hs₁.extBut b o hb (Ì _ e)))))
def mN(hh:A.handled=Á)(ht:s.heap.IsList t items)
 (hn:(Ş elts env).length=items.size) (hstar:(Ş elts env).findIdx? (·.1)=Á)
 (h:∀h',RL s.heap.objs.size s.heap h'->í (model prog w) A (assignInOrder ((Ş elts env).map (·.2)) items.toList) Q E {s with heap:=h' }) :
 í (model prog w) A (assign (.Tuple elts x1 pos) env (.ref t)) Q E s:=by
 refine È (Pf ?_);unfold unpack;rw[hn,hstar];exact È (Ċ (nk hh ht h))
end
section
def Mn(K:Í)(n:Nat)(t:HZ):TG:=λv Y H Q=>∃a xs,v=.ref a/\cE K H a xs/\xs.length=n/\t xs Y H Q
def Ka(hc:X.calm=Â)(h:Lm X es t)
 (hn:(Ş es X.env).length=n:=by rfl) (hst:(Ş es X.env).findIdx? (·.1)=none:=by rfl):PG X (.Tuple es k pos) (Mn X.K n t):=by
 intro pins s Y H v u Q I r hw;obtain⟨a,xs,e1,hq,hl,hw⟩:=hw;subst e1;cases r;obtain⟨its,rv,ht,hz⟩:=I.list hq;exact mN (I.ok.hd hc) ht.isList (by simp[hn,<-hl,rv.length]) hst λh' hx=>h pins _ Y H xs _ Q (I.kept λb o e=>hx b o (Ü (Ø e)) e) (by simpa using rv) hw
end
end L2
set_option maxHeartbeats 4000000
namespace L2
open PySem PySem.Spec PyProof.Rows
section
variable{Z:Type}[DecidableEq Z]
def pS(kvs:List (Z×V))(k:Z):Option V:=(kvs.find? λkv=>decide (kv.1=k)).map (·.2)
def putK(kvs:List (Z×V))(k:Z)(v:V):List (Z×V) :=
 if (kvs.any λkv=>decide (kv.1=k))=Â then kvs.map (λkv=>if kv.1=k then (kv.1,v) else kv) else kvs++[(k,v)]
theorem lU{p:Z×V}(e:p.1=k):pS (p::r) k=À p.2:=by simp[pS,e]
theorem lV{p:Z×V}(e:¬p.1=k):pS (p::r) k=pS r k:=by simp[pS,e]
theorem wB(k:Z):∀kvs:List (Z×V),(kvs.any λkv=>decide (kv.1=k))=(pS kvs k).isSome
 |[]=>rfl
 |p::r=>by
  rw[Sn];by_cases e:p.1=k
  ·simp only[lU e,decide_eq_true e,Bool.true_or,Option.isSome_some]
  ·rw[lV e,decide_eq_false e];exact wB k r
theorem oI(kvs:List (Z×V))(k:Z)(v:V):(putK kvs k v).length<=kvs.length+1:=by
 unfold putK;split
 ·simp
 ·simp
theorem rJ.nY(r:rJ o u):o.isSome=u.isSome:=by
 cases o with
 |none=>cases u with
  |none=>rfl
  |some _=>exact r.elim
 |some _=>cases u with
  |none=>exact r.elim
  |some _=>rfl
theorem KV.val{kvs:List (Z×V)}{vs:List (Z×Ù)}(r:KV kvs vs)(k:Z):rJ (pS kvs k) (SV vs k):=by
 induction r with
 |nil=>exact ϥ
 |@cons p q ps qs h t ih =>
  obtain⟨h1,h2⟩:=h;by_cases e:p.1=k
  ·have e':=h1.symm.trans e;rw[lU e,(by simp[SV,e']:SV (q::qs) k=À q.2)];exact h2
  ·have e':¬q.1=k:=λz=>e (h1.trans z);rw[lV e,(by simp[SV,e']:SV (q::qs) k=SV qs k)];exact ih
theorem KV.any(r:KV kvs vs)(k:Z):(kvs.any λkv=>decide (kv.1=k))=vs.any λkv=>decide (kv.1=k):=by
 induction r with
 |nil=>rfl
 |cons h t ih=>simp_all
theorem KV.JV(r:KV kvs vs)(k:Z)(ry:RelV y u) :
 KV (kvs.map λkv=>if kv.1=k then (kv.1,y) else kv) (vs.map λkv=>if kv.1=k then (kv.1,u) else kv):=by
 induction r with
 |nil=>exact .nil
 |@cons p q ps qs h t ih =>
  refine .cons ?_ ih;by_cases e:p.1=k
  ·simp_all
  ·simp_all
theorem KV.put(r:KV kvs vs)(k:Z)(ry:RelV y u):KV (putK kvs k y) (stored vs k u):=by
 unfold putK stored;rw[r.any k];by_cases e:(vs.any λkv=>decide (kv.1=k))=Â
 ·rw[if_pos e,if_pos e];exact r.JV k ry
 ·rw[if_neg e,if_neg e];exact UI r ⟨rfl,ry⟩
theorem KV.length{kvs:List (Z×V)}(r:KV kvs vs):kvs.length=vs.length:=ň r
end
def AN(r:RelV (kV k) u):(cq P w).is k u=true:=by
 cases k with
 |inl i=>obtain⟨t,e⟩:=r;subst e;exact xj P w i t
 |inr x=>obtain⟨t,e⟩:=r;subst e;exact xi P w x t
theorem t4:∀{ks:List Key} {us:List Ù},Vals (ks.map kV) us->ItemsAre (cq P w) ks us
 |[],_,r=>by cases r;exact .nil
 |k::ks,_,r=>by
  cases r with
  |cons h t=>exact .cons (AN h) (t4 t)
abbrev KT(H:Hp):List (List Key×V)->List (List Key×Ý×Ù)->Prop:=Ł λp q=>p.1=q.1/\H q.2.1=À (.tup (p.1.map kV))/\RelV p.2 q.2.2
def KT.val{H:Hp}{kvs:List (List Key×V)}{xs:List (List Key×Ý×Ù)}(r:KT H kvs xs)(k:List Key):rJ (pS kvs k) ((T8 xs k).map (·.2)):=by
 induction r with
 |nil=>exact ϥ
 |@cons p q ps qs h t ih =>
  obtain⟨h1,_,h2⟩:=h;by_cases e:p.1=k
  ·have e':=h1.symm.trans e;rw[lU e,(by simp[T8,e']:T8 (q::qs) k=À q.2)];exact h2
  ·have e':¬q.1=k:=λz=>e (h1.trans z);rw[lV e,(by simp[T8,e']:T8 (q::qs) k=T8 qs k)];exact ih
def KT.JV(r:KT H kvs xs)(k:List Key)(ry:RelV y u) :
 KT H (kvs.map λkv=>if kv.1=k then (kv.1,y) else kv) (xs.map (putAt k u)):=by
 induction r with
 |nil=>exact .nil
 |@cons p q ps qs h t ih =>
  rw[Ā];refine .cons ?_ ih;obtain⟨h1,h2,h3⟩:=h;unfold putAt;by_cases e:p.1=k
  ·rw[if_pos e,if_pos (h1.symm.trans e)];exact⟨h1,h2,ry⟩
  ·rw[if_neg e,if_neg λz=>e (h1.trans z)];exact⟨h1,h2,h3⟩
def KT.put(r:KT H kvs xs)(k:List Key)(hb:H b=À (.tup (k.map kV)))(ry:RelV y u) :
 KT H (putK kvs k y) (storedH xs k b u):=by
 have e:(kvs.any λkv=>decide (kv.1=k))=(T8 xs k).isSome:=by rw[wB,(r.val k).nY,Qo]
 unfold putK storedH;rw[e];by_cases q:(T8 xs k).isSome=Â
 ·rw[if_pos q,if_pos q];exact r.JV k ry
 ·rw[if_neg q,if_neg q];exact UI r ⟨rfl,hb,ry⟩
def KT.keeps(r:KT H kvs xs)(ht:∀b ys,H b=À (.tup ys)->H' b=À (.tup ys)):KT H' kvs xs :=
 Paired.Mh r λ_ _ z=>⟨z.1,ht _ _ z.2.1,z.2.2⟩
section
def ID(ok:ik P w H h)(e:Rd H a u):cF P w H h a u:=e.ok ok
def A9(ok:ik P w H h)(e:Rd H a (.dK kvs)):kvs.length<=Î/\(a==ů)=Ã/\∃vs,KV kvs vs/\h.DictOf (cq P w) a vs :=
 ID ok e
def Ms(ok:ik P w H h)(e:H a=À (.dK kvs)):kvs.length<=Î/\(a==ů)=Ã/\∃vs,KV kvs vs/\h.DictOf (cq P w) a vs:=A9 ok (.inl e)
def vF(ok:ik P w H h)(e:H a=À (.tup (ks.map kV))):(RZ (cq P w)).is h ks a:=by
 obtain⟨_,its,r,o,h1,h2,n,h3⟩:=(ok a _ e)
 exact⟨o,its.toArray,n,h1,h2,h3,by simpa using t4 r⟩
def A8(ok:ik P w H h)(e:Rd H a (.dT kvs)):kvs.length<=Î/\(a==ů)=Ã /\
 ∃xs,KT H kvs xs/\h.DictOfH (RZ (cq P w)) a xs:=by
 obtain⟨z,y,xs,r,o,es,ep,h1,h2,h3,h4,h5⟩:=(ID ok e)
 refine⟨z,y,xs,r,o,es,ep,h1,h2,h3,h4,λx hx=>?_,h5⟩
 have all:∀{l:List (List Key×V)} {m:List (List Key×Ý×Ù)},KT H l m->∀x∈m,(RZ (cq P w)).is h x.1 x.2.1:=by
  intro l m q;induction q with
  |nil=>simp
  |@cons p q ps qs hq t ih =>
   intro x hx;rcases Ú.mp hx with e |hx
   ·exact vF ok (by simp_all)
   ·exact ih x hx
 exact all r x hx
def Mp(ok:ik P w H h)(e:H a=À (.dT kvs)):kvs.length<=Î/\(a==ů)=Ã /\
 ∃xs,KT H kvs xs/\h.DictOfH (RZ (cq P w)) a xs:=A8 ok (.inl e)
end
def FX(H:Hp)(a:Ý)(y:V)(r:Option V):Prop :=
 (∃kvs k,Rd H a (.dK kvs)/\y=kV k/\r=pS kvs k)\/∃kvs k b,Rd H a (.dT kvs)/\y=.ref b/\H b=À (.tup (k.map kV))/\r=pS kvs k
noncomputable def MF(H:Hp)(a:Ý)(y v:V)(H':Hp):Prop :=
 (∃kvs k,H a=À (.dK kvs)/\y=kV k/\kvs.length<Î/\H'=upd H a (.dK (putK kvs k v))) \/
 ∃kvs k b,H a=À (.dT kvs)/\y=.ref b/\H b=À (.tup (k.map kV))/\kvs.length<Î/\H'=upd H a (.dT (putK kvs k v))
section
def Inv.big(I:Inv X pins Y H s):ů<s.heap.objs.size:=ϒ (by decide) ((I.mod.glob.keeps I.bk).lt)
def CB(hu:A.units+1<O7)(I:Inv X pins Y H s)(g:FX H a y (À v))(ry:RelV y u)(h:∀w' s',Inv X pins Y H s'->RelV v w'->Q w' s') :
 í (model X.prog X.w) A (R1 (.ref a) u) Q E s:=by
 rcases g with⟨kvs,k,e,ey,l⟩ |⟨kvs,k,b,e,ey,eb,l⟩
 ·subst ey;obtain⟨z,hd,vs,rel,dd⟩:=A9 I.bJ e;obtain⟨w',hw,rw'⟩:=rJ.some_of (by rw[l];exact rel.val k);exact wpAny_getItem_of (AN ry) dd.mapOf hw (h w' _ (I.tok _) rw')
 ·subst ey;cases ry;obtain⟨z,hd,xs,rel,dd⟩:=A8 I.bJ e;obtain⟨w',hw,rw'⟩:=rJ.some_of (by rw[l];exact rel.val k);obtain⟨p,hp,hp2⟩:=ė.mp hw;apply wpAny_getItem_heap (P6 hu) (vF I.bJ eb) dd hp;rw[hp2];exact h w' _ (I.tok _) rw'
def HM(hu:A.units+1<O7)(I:Inv X pins Y H s)(g:FX H a y o)(ry:RelV y u)(h:∀s',Inv X pins Y H s'->Q (.bool (!o.isSome)) s') :
 í (model X.prog X.w) A (ū .NotIn u (.ref a)) Q E s:=by
 rcases g with⟨kvs,k,e,ey,l⟩ |⟨kvs,k,b,e,ey,eb,l⟩
 ·subst ey;obtain⟨z,hd,vs,rel,dd⟩:=A9 I.bJ e;apply wpAny_notIn_of (AN ry) hd dd.mapOf;rw[<-(rel.val k).nY,<-l];exact h _ (I.tok _)
 ·subst ey;cases ry;obtain⟨z,hd,xs,rel,dd⟩:=A8 I.bJ e;apply wpAny_notIn_heap (P6 hu) (vF I.bJ eb) hd dd;have q:=(rel.val k).nY;rw[Qo]at q;rw[<-q,<-l];exact h _ (I.tok _)
def Bc(I:Inv X pins Y H s)(mu:Mz (H a))(hs:Θ a s.heap h')(he:∃q,h'.get? a=À q)(new:cF X.prog X.w (upd H a ob) h' a ob) :
 Inv X pins Y (upd H a ob) {s with heap:=h',toks:=t' } :=
 I.write mu (.inl rfl) (λb q hb z=>(hs.2 b hb).trans z) he new
def K5(z:kvs.length<=Î)(hd:(a==ů)=Ã)(rel:KV kvs vs)(dd:h'.DictOf (cq P w) a vs) :
 cF P w H' h' a (.dK kvs):=⟨z,hd,vs,rel,dd⟩
def CA(hu:A.units+1<O7)(I:Inv X pins Y H s)(g:MF H a y v H')(ry:RelV y u)(rv:RelV v r)(h:∀s',Inv X pins Y H' s'->Q () s') :
 í (model X.prog X.w) A (setItem (.ref a) u r) Q E s:=by
 rcases g with⟨kvs,k,e,ey,l,eH⟩ |⟨kvs,k,b,e,ey,eb,l,eH⟩
 ·subst ey eH;obtain⟨z,hd,vs,rel,dd⟩:=Ms I.bJ e;have hz:vs.length<=Î:=by rw[<-rel.length];exact z
  refine wpAny_setItem_pairs (AN ry) dd λh' dd' hs=>h _ ?_;exact Bc I (by rw[e];exact ϥ) hs (let ⟨q,_,_,hq,_⟩:=dd';⟨q,hq⟩) (K5 (by have:=oI kvs k v;lia) hd (rel.put k rv) dd')
 ·subst ey eH;cases (ry);obtain⟨z,hd,xs,rel,dd⟩:=Mp I.bJ e;have hz:xs.length<=Î:=by rw[<- ň rel];exact z
  refine wpAny_setItem_heap (P6 hu) (vF I.bJ eb) dd λh' dd' hs=>h _ ?_;obtain⟨q,es,ep,hq,h2,h3,h4,_,h5⟩:=dd';refine Bc I (by rw[e];exact ϥ) hs ⟨q,hq⟩ ⟨(by have:=oI kvs k v;lia),hd,_,(rel.put k eb rv).keeps λc ys ec=>?_,q,es,ep,hq,h2,h3,h4,h5⟩;rw[upd_ne (Mg ec e λz=>nomatch z)];exact ec
end
def Mx(i:PZ):Prop:=∀ov iv,RK i Ã ov iv=operate [ov,iv] (R1 ov iv)
def GG{id:String}
 (hl:Su (.type T) "__getitem__" = pure (À (.builtin id))) (hs:Mx slice)
 (h:í (model prog w) A (eval value env) (λo s₁=>í (model prog w) A (eval slice env) (λi s₂=>s₂.TypeIs o T/\í (model prog w) A (R1 o i) Q E s₂) E s₁) E s) :
 í (model prog w) A (eval (.Subscript value slice pos) env) Q E s:=by
 refine Sv (ħ h (λo s₁ h₁=>ħ h₁ (λi s₂ h₂=>?_) λ_ _ x=>x) λ_ _ x=>x);obtain⟨hT,h₂⟩:=h₂;apply È;refine È (OD hT hl ?_);have fin:í (model prog w) A (RK slice Ã o i) (λr s₃=>í (model prog w) A (letTemporaryGo value o r >>= λ_=>pure r) Q E s₃) E s₂:=by rw[hs o i];exact wpAny_operating (ħ h₂ (λr s₃ h₃=>È (wpAny_letTemporaryGo (Ï h₃))) λ_ _ x=>x)
 first
  |exact Ï (È fin)
  |lia
  |rfl
def xJ(I:Inv X pins Y H s)(g:FX H a y o):s.TypeIs (.ref a) "dict" := by
 rcases g with⟨kvs,k,e,_,_⟩ |⟨kvs,k,b,e,_,_,_⟩
 ·obtain⟨_,_,vs,_,dd⟩:=A9 I.bJ e;exact dd.typeIs
 ·obtain⟨_,_,xs,_,dd⟩:=A8 I.bJ e;exact dd.typeIs
def Iu(td ty:TE):TE:=λY H Q=>td Y H λx H1=>ty Y H1 λy H2=>∃a v,x=.ref a/\FX H2 a y (À v)/\Q v H2
def zV(ty td:TE):TE:=λY H Q=>ty Y H λy H1=>td Y H1 λx H2=>∃a o,x=.ref a/\FX H2 a y o/\Q (.bl (!o.isSome)) H2
def Eb(td ty tv:TE):TS:=λD Y H=>tv Y H λv H1=>td Y H1 λx H2=>ty Y H2 λy H3=>∃a H4,x=.ref a/\MF H3 a y v H4/\D.nx Y H4
section
def Aq(hu:X.A.units+1<O7)(ho:PE X o td)(hi:PE X i ty)(hs:Mx i):PE X (.Subscript o i pos) (Iu td ty):=by intro pins s Y H Q I h;refine GG PySem.F.slot_dict_getitem.lookup hs (cc (ho pins s Y H _ I h) λu s1 ⟨x,H1,I1,rx,q1⟩=>cc (hi pins s1 Y H1 _ I1 q1) λiv s2 ⟨y,H2,I2,ry,a,v,ex,g,q2⟩=>?_);subst ex;obtain rfl:u=Č a:=rx;exact⟨xJ I2 g,CB hu I2 g ry λw' s3 I3 rw'=>⟨v,H2,I3,rw',q2⟩⟩
def B2(hu:X.A.units+1<O7)(hi:PE X i ty)(ho:PE X o td):PC X .NotIn i o (zV ty td):=by intro pins s Y H Q I h;refine cc (hi pins s Y H _ I h) λiv s1 ⟨y,H1,I1,ry,q1⟩=>cc (ho pins s1 Y H1 _ I1 q1) λu s2 ⟨x,H2,I2,rx,a,ov,ex,g,q2⟩=>?_;subst ex;obtain rfl:u=Č a:=rx;exact HM hu I2 g ry λs3 I3=>⟨.bl (!ov.isSome),H2,I3,rfl,q2⟩
def Ak(hu:X.A.units+1<O7)(ho:PE X o td)(hi:PE X i ty)(hv:PE X value tv)(hs:PU value (À (.Subscript o i pos')) pos.line X.env=pure Ã) :
 PS X (.Assign [.Subscript o i pos'] value pos) (Eb td ty tv):=by
 intro pins s Y H D I h;refine wpAny_Assign_Subscript (cc (hv pins s Y H _ I h) λr s1 ⟨v,H1,I1,rv,q1⟩=>cc (ho pins s1 Y H1 _ I1 q1) λu s2 ⟨x,H2,I2,rx,q2⟩=>cc (hi pins s2 Y H2 _ I2 q2) λiv s3 ⟨y,H3,I3,ry,a,H4,ex,g,q3⟩=>?_) hs;subst ex;obtain rfl:u=Č a:=rx;exact CA hu I3 g ry rv λs4 I4=>⟨Y,H4,I4,q3⟩
end
def Fj(h:Ő)(hb:ů<h.objs.size):cF P w H (h.push {cls:=.type "dict", data:=.dict #[] }) h.objs.size (.dK []) :=
 ⟨Ą _,beq_eq_false_iff_ne.mpr (ĩ (Ü hb)),[],.nil,Heap.DictOf.new h⟩
def DJ:TE:=λ_ H Q=>∀p,H p=Á->Q (.ref p) (upd H p (.dK []))
section
def Ez:PE X (.Dict [] [] pos) DJ:=λpins s Y H Q I h =>wpAny_Dict_empty ⟨.ref s.heap.objs.size,_,I.laid (λ_ _ q=>Ì _ q) (Õ _) (Fj s.heap I.big),rfl,h _ (I.bJ.fresh (Õ _))⟩
end
end L2
namespace Tm
open PySem PyProof.Rows
def fF:Bool->Keyed->Array Keyed->Nat->Nat->Nat->StateT SortSt Sem (Option Nat):=sortPriv% PySem.Builtin.gallop
def qI:Array Keyed->Array Keyed->StateT SortSt Sem (Array Keyed):=sortPriv% PySem.Builtin.mergeLo
def qJ:Array Keyed->Array Keyed->StateT SortSt Sem (Array Keyed):=sortPriv% PySem.Builtin.mergeHi
abbrev setG(st:į)(g:Nat):į:=P7 (kindOf st) (Ď st) (Ć st) g (OT st)
def g9(g:Nat):StateT į Sem Unit:=modify λs=>setG s g
def zf(left:Bool)(key:ć)(arr:Array ć)(base n hint:Nat):fF left key arr base n hint=(do
 let beyond (i:Nat):StateT į Sem (Option Bool):=do
  let x <- ϩ arr (base+i)
  if left then lt' x key else return (<-lt' key x).map (!·)
 let mut lastofs:=0
 let mut ofs:=1
 let mut lo:=0
 let mut hi:=0
 let À right <-beyond hint |return Á
 if right then
  let maxofs:=n-hint
  for _ in [0:n] do
   if ofs >= maxofs then break
   let À more <-beyond (hint+ofs) |return Á
   if !more then break
   lastofs:=ofs
   ofs:=2*ofs+1
  lo:=hint+lastofs+1
  hi:=hint+min ofs maxofs
 else
  let maxofs:=hint+1
  for _ in [0:n] do
   if ofs >= maxofs then break
   let À found <-beyond (hint-ofs) |return Á
   if found then break
   lastofs:=ofs
   ofs:=2*ofs+1
  lo:=hint+1-min ofs maxofs
  hi:=hint-lastofs
 for _ in [0:n] do
  if lo >= hi then break
  let m:=lo+(hi-lo) / 2
  let À more <-beyond m |return Á
  if more then lo:=m+1 else hi:=m
 return À hi):=rfl
section
noncomputable def dB(M:Model)(A:Ŝ)(E:Ù->ç->Prop)(s:ç)(Z:Ϫ)(G:ć->Prop)(C:ć->ć->Bool):Prop :=
 ∀{x y:ć} {Q:Option Bool->į->Prop} {st:į},G x->G y->kindOf st=Z->Q (À (C x y)) st->Rv M A E s (lt' x y) Q st
def a8{st:į}(e:arr[i]?=À x)(h:Q x st):Rv M A E s (ϩ arr i) Q st:=by rw[elem'_eq,e];exact ì h
def Bh(left:Bool)(key:ć)(C:ć->ć->Bool)(x:ć):Bool:=if left=Â then C x key else !(C key x)
def yp(hC:dB M A E s Z G C){st:į}(hk:kindOf st=Z)(gk:G key)(e:arr[i]?=À x)(gx:G x)(h:Q (À (Bh left key C x)) st) :
 Rv M A E s (do let x <- ϩ arr i;if left=Â then lt' x key else do let r <-lt' key x;pure (r.map (!·))) Q st:=by
 refine ä (a8 e ?_);cases left with
 |true=>exact hC gx gk hk h
 |false=>exact ä (hC gk gx hk (ì h))
def yn(hC:dB M A E s Z G C){st:SortSt}(hk:kindOf st=Z)(gk:G key)(B:Nat->Bool)
    (hb:∀i,i<n->∃x,arr[base+i]?=À x/\G x/\Bh left key C x=B i) (mono:∀i j,i<=j->j<n->B j=Â->B i=Â) (hh:hint<n)
    (h:∀k,k<=n->(∀i,i<k->B i=Â)->(∀i,k<=i->i<n->B i=Ã)->Q (À k) st):Rv M A E s (fF left key arr base n hint) Q st:=by
  have ask:∀(i:Nat) (Q:Option Bool->į->Prop),i<n->Q (À (B i)) st->Rv M A E s (do let x <- ϩ arr (base+i);if left=Â then lt' x key else do let r <-lt' key x;pure (r.map (!·))) Q st:=λi Q hi q=>by obtain⟨x,e,gx,eb⟩:=hb i hi;exact yp hC hk gk e gx (by rw[eb];exact q)
  have monoF:∀i j,i<=j->j<n->B i=Ã->B j=false:=λi j hij hj e=>by
    cases q:B j with
    |false=>rfl
    |true=>rw[mono i j hij hj q]at e;cases e
  rw[zf];dsimp only;refine ä (ask hint _ hh ?_);dsimp only;cases hB:B hint with
  |true =>
    rw[if_pos rfl]
    refine ä (Φ (ł (I:=λx c st'=>st'=st/\∃la ofs,c=(Á,la,ofs)/\x+1<=ofs/\la<ofs/\la<n-hint/\B (hint+la)=Â)
      (Q:=λc st'=>st'=st/\∃la ofs,c=(Á,la,ofs)/\la<ofs/\la<n-hint/\B (hint+la)=Â/\(n-hint<=ofs\/(ofs<n-hint/\B (hint+ofs)=Ã))) ?step ?fin ⟨rfl,0,1,rfl,Õ _,Õ _,by lia,hB⟩) ?post)
    case fin =>rintro c st' ⟨rfl,la,ofs,rfl,a1,a2,a3,a4⟩;exact⟨rfl,la,ofs,rfl,a2,a3,a4,.inl (by lia)⟩
    case post =>
      rintro c st' ⟨rfl,la,ofs,rfl,a2,a3,a4,a5⟩;dsimp only
      have hhi:∀i,hint+min ofs (n-hint)<=i->i<n->B i=false:=λi h1 h2=>by
        rcases a5 with a5 |⟨a5,a6⟩
        · lia
        · exact monoF _ i (by lia) h2 a6
      refine ä (Φ (ł (I:=λx c st''=>st''=st'/\∃lo hi,c=(Á,lo,hi)/\lo<=hi/\hi<=n/\hi-lo<=n-x/\(∀i,i<lo->B i=Â)/\(∀i,hi<=i->i<n->B i=Ã))
        (Q:=λc st''=>st''=st'/\∃lo hi,c=(Á,lo,hi)/\lo=hi/\hi<=n/\(∀i,i<lo->B i=Â)/\(∀i,hi<=i->i<n->B i=Ã)) ?step2 ?fin2 ⟨rfl,hint+la+1,hint+min ofs (n-hint),rfl,by lia,by lia,by lia,λi hi=>mono i _ (by lia) (by lia) a4,hhi⟩) ?post2)
      case fin2 =>rintro c st'' ⟨rfl,lo,hi,rfl,a1,a2,a3,a4,a5⟩;exact⟨rfl,lo,hi,rfl,by lia,a2,a4,a5⟩
      case post2 =>rintro c st'' ⟨rfl,lo,hi,rfl,rfl,a2,a4,a5⟩;exact ì (h lo a2 a4 a5)
      case step2 =>
        rintro x c st'' _ hx ⟨rfl,lo,hi,rfl,a1,a2,a3,a4,a5⟩;dsimp only;by_cases c:lo >= hi
        · rw[if_pos c];exact ì ⟨rfl,lo,hi,rfl,by lia,a2,a4,a5⟩
        · rw[if_neg c];refine ä (ask _ _ (by lia) ?_);dsimp only;cases q:B (lo+(hi-lo) / 2)with
          |true =>rw[if_pos rfl];exact ì ⟨rfl,_,_,rfl,by lia,a2,by lia,λi hi'=>mono i _ (by lia) (by lia) q,a5⟩
          |false =>rw[if_neg ñ];exact ì ⟨rfl,_,_,rfl,ľ ..,by lia,by lia,a4,λi h1 h2=>monoF _ i h1 h2 q⟩
    case step =>
      rintro x c st' _ hx ⟨rfl,la,ofs,rfl,a1,a2,a3,a4⟩;dsimp only;by_cases c:ofs >= n-hint
      · rw[if_pos c];exact ì ⟨rfl,la,ofs,rfl,a2,a3,a4,.inl c⟩
      · rw[if_neg c];refine ä (ask _ _ (by lia) ?_);dsimp only;cases q:B (hint+ofs)with
        |true =>rw[if_neg (by decide)];exact ì ⟨rfl,_,_,rfl,by lia,by lia,O9.1 c,q⟩
        |false =>rw[if_pos (by decide)];exact ì ⟨rfl,_,_,rfl,a2,a3,a4,.inr ⟨O9.1 c,q⟩⟩
  |false =>
    rw[if_neg ñ]
    refine ä (Φ (ł (I:=λx c st'=>st'=st/\∃la ofs,c=(Á,la,ofs)/\x+1<=ofs/\la<ofs/\la<hint+1/\B (hint-la)=Ã)
      (Q:=λc st'=>st'=st/\∃la ofs,c=(Á,la,ofs)/\la<ofs/\la<hint+1/\B (hint-la)=Ã/\(hint+1<=ofs\/(ofs<hint+1/\B (hint-ofs)=Â))) ?step ?fin ⟨rfl,0,1,rfl,Õ _,Õ _,OU _,hB⟩) ?post)
    case fin =>rintro c st' ⟨rfl,la,ofs,rfl,a1,a2,a3,a4⟩;exact⟨rfl,la,ofs,rfl,a2,a3,a4,.inl (by lia)⟩
    case post =>
      rintro c st' ⟨rfl,la,ofs,rfl,a2,a3,a4,a5⟩;dsimp only
      have hlo:∀i,i<hint+1-min ofs (hint+1)->B i=true:=λi hi=>by
        rcases a5 with a5 |⟨a5,a6⟩
        · lia
        · exact mono i _ (by lia) (by lia) a6
      refine ä (Φ (ł (I:=λx c st''=>st''=st'/\∃lo hi,c=(Á,lo,hi)/\lo<=hi/\hi<=n/\hi-lo<=n-x/\(∀i,i<lo->B i=Â)/\(∀i,hi<=i->i<n->B i=Ã))
        (Q:=λc st''=>st''=st'/\∃lo hi,c=(Á,lo,hi)/\lo=hi/\hi<=n/\(∀i,i<lo->B i=Â)/\(∀i,hi<=i->i<n->B i=Ã)) ?step2 ?fin2 ⟨rfl,hint+1-min ofs (hint+1),hint-la,rfl,by lia,by lia,by lia,hlo,λi h1 h2=>monoF _ i h1 h2 a4⟩) ?post2)
      case fin2 =>rintro c st'' ⟨rfl,lo,hi,rfl,a1,a2,a3,a4,a5⟩;exact⟨rfl,lo,hi,rfl,by lia,a2,a4,a5⟩
      case post2 =>rintro c st'' ⟨rfl,lo,hi,rfl,rfl,a2,a4,a5⟩;exact ì (h lo a2 a4 a5)
      case step2 =>
        rintro x c st'' _ hx ⟨rfl,lo,hi,rfl,a1,a2,a3,a4,a5⟩;dsimp only;by_cases c:lo >= hi
        · rw[if_pos c];exact ì ⟨rfl,lo,hi,rfl,by lia,a2,a4,a5⟩
        · rw[if_neg c];refine ä (ask _ _ (by lia) ?_);dsimp only;cases q:B (lo+(hi-lo) / 2)with
          |true =>rw[if_pos rfl];exact ì ⟨rfl,_,_,rfl,by lia,a2,by lia,λi hi'=>mono i _ (by lia) (by lia) q,a5⟩
          |false =>rw[if_neg ñ];exact ì ⟨rfl,_,_,rfl,ľ ..,by lia,by lia,a4,λi h1 h2=>monoF _ i h1 h2 q⟩
    case step =>
      rintro x c st' _ hx ⟨rfl,la,ofs,rfl,a1,a2,a3,a4⟩;dsimp only;by_cases c:ofs >= hint+1
      · rw[if_pos c];exact ì ⟨rfl,la,ofs,rfl,a2,a3,a4,.inl c⟩
      · rw[if_neg c];refine ä (ask _ _ (by lia) ?_);dsimp only;cases q:B (hint-ofs)with
        |true =>rw[if_pos rfl];exact ì ⟨rfl,_,_,rfl,a2,a3,a4,.inr ⟨O9.1 c,q⟩⟩
        |false =>rw[if_neg ñ];exact ì ⟨rfl,_,_,rfl,by lia,by lia,O9.1 c,q⟩
end
section pure
structure fk{α:Type}(C:α->α->Bool):Prop where
 as:∀x y,C x y=Â->C y x=Ã
 tr:∀x y z,C y x=Ã->C z y=Ã->C z x=Ã
def Le{α:Type}(C:α->α->Bool)(x y:α):Prop:=C y x=Ã
abbrev uw{α:Type}(C:α->α->Bool)(l:List α):Prop:=l.Pairwise (Le C)
structure ML{α:Type}(C:α->α->Bool)(L out A B:List α):Prop where
 so:uw C out
 oa:∀x∈out,∀y∈A,Le C x y
 ob:∀x∈out,∀y∈B,Le C x y
 pm:(out++(A++B)).Perm L
 sa:uw C A
 sb:uw C B
def ML.len(h:ML C L out A B):out.length+A.length+B.length=L.length:=by
 have:=h.pm.length_eq;rw[á,á]at this
 lia
def ML.HS(h:ML C L out (X++A) B)(hx:∀x∈X,∀y∈B,Le C x y):ML C L (out++X) A B:=by
 obtain⟨s1,s2,s3⟩:=é.mp h.sa;refine⟨é.mpr ⟨h.so,s1,λx hx y hy=>h.oa x hx y (ô _ hy)⟩,λx hx' y hy=>?_,λx hx' y hy=>?_,?_,s2,h.sb⟩
 ·rcases â.mp hx' with z |z
  ·exact h.oa x z y (Ô _ hy)
  ·exact s3 x z y hy
 ·rcases â.mp hx' with z |z
  ·exact h.ob x z y hy
  ·exact hx x z y hy
 ·have:=h.pm;rw[ą]at this;rw[ą];exact this
def ML.HR(h:ML C L out A (X++B))(hx:∀x∈X,∀y∈A,Le C x y):ML C L (out++X) A B:=by
 obtain⟨s1,s2,s3⟩:=é.mp h.sb;refine⟨é.mpr ⟨h.so,s1,λx hx y hy=>h.ob x hx y (ô _ hy)⟩,λx hx' y hy=>?_,λx hx' y hy=>?_,?_,h.sa,s2⟩
 ·rcases â.mp hx' with z |z
  ·exact h.oa x z y hy
  ·exact hx x z y hy
 ·rcases â.mp hx' with z |z
  ·exact h.ob x z y (Ô _ hy)
  ·exact s3 x z y hy
 ·refine Rk ?_ h.pm;rw[ą];apply Ε out;rw[<- ą,<- ą];exact OV _ ϝ
def Done{α:Type}(C:α->α->Bool)(L r:List α):Prop:=uw C r/\r.Perm L
def ML.NC(h:ML C L out A B)(hB:B=[]):Done C L (out++A++B):=by subst hB;rw[ě];refine⟨é.mpr ⟨h.so,h.sa,h.oa⟩,?_⟩;have:=h.pm;rw[ě]at this;exact this
def ML.NB(h:ML C L out A B)(hA:A=[]):Done C L (out++A++B):=by subst hA;rw[ě];exact⟨é.mpr ⟨h.so,h.sb,h.ob⟩,h.pm⟩
def ML.NA(h:ML C L out A B)(hl:∀y∈B,∀x∈A,Le C y x):Done C L (out++B++A):=by
 refine⟨é.mpr ⟨é.mpr ⟨h.so,h.sb,h.ob⟩,h.sa,λx hx y hy=>?_⟩,?_⟩
 ·rcases â.mp hx with z |z
  ·exact h.oa x z y hy
  ·exact hl x z y hy
 ·refine Rk ?_ h.pm;rw[ą];exact Ε out ϝ
def le_of_lt(o:fk C)(h:C x y=Â):Le C x y:=o.as x y h
def le_head(o:fk C)(h:Le C x y)(s:uw C (y::l)):∀z∈y::l,Le C x z:=λz hz=>by
 rcases Ú.mp hz with rfl |hz
 ·exact h
 ·exact o.tr x y z h ((ď.mp s).1 z hz)
end pure
section
def le_refl(o:fk C)(x:ć):Le C x x:=by
 unfold Le;cases h:C x x with
 |false=>rfl
 |true=>rw[o.as x x h]at h;cases h
def uS{C:ć->ć->Bool}(o:fk C)(s:uw C l){i:Nat}(hij:i<=j)(hx:l[i]?=À x)(hy:l[j]?=À y):Le C x y:=by
 by_cases c:i=j
 ·subst c;rw[hx]at hy;cases hy;exact le_refl o x
 ·obtain⟨hi,rfl⟩:=Ó.mp hx;obtain⟨hj,rfl⟩:=Ó.mp hy;exact Ť.mp s i j hi hj (by lia)
def FI(o:fk C)(h:Le C x y)(e:Bh left key C y=Â):Bh left key C x=true:=by
 unfold Bh at *;cases left with
 |true =>
  cases q:C x key with
  |true=>rfl
  |false =>have:=o.tr key x y q h;rw[this]at e;cases e
 |false =>have:=o.tr x y key h (by simpa using e);rw[this];rfl
def kh(hC:dB M A E s Z G C)(o:fk C){st:į}(hk:kindOf st=Z)(gk:G key)(hs:seg=(arr.toList.drop base).take n)(hl:seg.length=n)(sr:uw C seg)(gs:∀x∈seg,G x)(hh:hint<n)
 (h:∀k,k<=n->(∀x∈seg.take k,Bh left key C x=Â)->(∀x∈seg.drop k,Bh left key C x=Ã)->Q (À k) st):Rv M A E s (fF left key arr base n hint) Q st:=by
 have at_:∀i,i<n->∃x,seg[i]?=À x/\arr[base+i]?=À x:=λi hi=>by have e:seg[i]?=À seg[i]:=É (hl ▸ hi);refine⟨seg[i],e,?_⟩;rw[<-e,hs,Λ hi,ž,Ē]
 refine yn hC hk gk (λi=>match seg[i]? with |some x=>Bh left key C x |none=>Ã) (λi hi=>?_) (λi j hij hj e=>?_) hh λk hk2 h1 h2=>h k hk2 (λx hx=>?_) λx hx=>?_
 ·obtain⟨x,e1,e2⟩:=at_ i hi;exact⟨x,e2,gs x (õ e1),by rw[e1]⟩
 ·obtain⟨x,e1,_⟩:=at_ i (OG hij hj);obtain⟨y,e2,_⟩:=at_ j hj;rw[e1];rw[e2]at e;exact FI o (uS o sr hij e1 e2) e
 ·obtain⟨i,hi⟩:=Ň hx;have hlt:=(Ó.mp hi).1;rw[İ]at hlt;rw[Λ (by lia)]at hi;have:=h1 i (by lia);rw[hi]at this;exact this
 ·obtain⟨i,hi⟩:=Ň hx;have hlt:=(Ó.mp hi).1;rw[ğ]at hlt;rw[ž]at hi;have:=h2 (k+i) (ľ ..) (by lia);rw[hi]at this;exact this
def ext_toList(a:Array ć)(i j:Nat):(a.extract i j).toList=(a.toList.drop i).take (j-i):=by simp
def pB(a:Array ć)(i:Nat):(a.extract i a.size).toList=a.toList.drop i:=by rw[ext_toList,Ĩ (by simp)]
def eQ{a:Array ć}(h:i<a.size):a.toList.drop i=a[i]::a.toList.drop (i+1):=by rw[ó (by simp_all),Array.getElem_toList]
def qZ(l:List ć)(i k:Nat):l.drop i=(l.drop i).take k++l.drop (i+k):=by rw[<- ſ,ē]
structure MA(C:ć->ć->Bool)(a b out:Array ć)(ia ib:Nat):Prop where
 ml:ML C (a.toList++b.toList) out.toList (a.toList.drop ia) (b.toList.drop ib)
 la:ia<=a.size
 lb:ib<=b.size
theorem MA.len(h:MA C a b out ia ib):out.size+(a.size-ia)+(b.size-ib)=a.size+b.size:=by have:=h.ml.len;rw[ğ,ğ,á]at this;exact this
def MA.tQ(h:MA C a b out ia ib)(hi:ia<a.size)(hx:∀y∈b.toList.drop ib,Le C a[ia] y):MA C a b (out.push a[ia]) (ia+1) ib:=by refine⟨?_,‹_›,h.lb⟩;rw[Š];have m:=h.ml;rw[eQ hi]at m;exact ML.HS m λx hx'=>by rw[Ð.mp hx'];exact hx
def MA.tP(h:MA C a b out ia ib)(hi:ib<b.size)(hx:∀y∈a.toList.drop ia,Le C b[ib] y):MA C a b (out.push b[ib]) ia (ib+1):=by refine⟨?_,h.la,‹_›⟩;rw[Š];have m:=h.ml;rw[eQ hi]at m;exact ML.HR m λx hx'=>by rw[Ð.mp hx'];exact hx
theorem MA.HS(h:MA C a b out ia ib)(hk:k<=a.size-ia)(hx:∀x∈(a.toList.drop ia).take k,∀y∈b.toList.drop ib,Le C x y):MA C a b (out++a.extract ia (ia+k)) (ia+k) ib:=by have:=h.la;refine⟨?_,by lia,h.lb⟩;rw[Ġ,ext_toList,show ia+k-ia=k by lia];have m:=h.ml;rw[qZ a.toList ia k]at m;exact ML.HS m hx
theorem MA.HR(h:MA C a b out ia ib)(hk:k<=b.size-ib)(hx:∀x∈(b.toList.drop ib).take k,∀y∈a.toList.drop ia,Le C x y):MA C a b (out++b.extract ib (ib+k)) ia (ib+k):=by have:=h.lb;refine⟨?_,h.la,by lia⟩;rw[Ġ,ext_toList,show ib+k-ib=k by lia];have m:=h.ml;rw[qZ b.toList ib k]at m;exact ML.HR m hx
abbrev Dn(C:ć->ć->Bool)(a b r:Array ć):Prop:=Done C (a.toList++b.toList) r.toList
def MA.done(h:MA C a b out ia ib)(e:ia=a.size\/ib=b.size):Dn C a b (out++a.extract ia a.size++b.extract ib b.size):=by
 unfold Dn;rw[Ġ,Ġ,pB,pB];rcases e with e |e
 ·exact h.ml.NB (OW (by simp_all))
 ·exact h.ml.NC (OW (by simp_all))
def MA.last(h:MA C a b out ia ib)(e:ia+1=a.size)(hl:∀y∈b.toList,∀x∈a.toList.drop (a.size-1),Le C y x):Dn C a b (out++b.extract ib b.size++a.extract ia a.size):=by unfold Dn;rw[Ġ,Ġ,pB,pB];exact h.ml.NA λy hy x hx=>hl y (Ģ hy) x (by rw[show a.size-1=ia by lia];exact hx)
end
abbrev SM:=StateT į Sem
section
variable{α β γ:Type}
abbrev S5(α β γ:Type):=Option (Array ć)×α×β×γ×Nat
abbrev S6(α β γ:Type):=Option (Array ć)×α×β×γ×Nat×Nat
abbrev S7(α β γ:Type):=Option (Array ć)×α×β×γ×Nat×Nat×Nat
noncomputable def mO(N:Nat)(fA:Nat->α->β->γ->Nat->Nat->SM (ForInStep (S6 α β γ)))(fG:α->β->γ->Nat->Nat->Nat->SM (ForInStep (S7 α β γ)))(c:S5 α β γ):SM (ForInStep (S5 α β γ)):=do
 let d <-forIn [0:N] ((Á,c.2.1,c.2.2.1,c.2.2.2.1,0,0):S6 α β γ) λ_ d=>fA c.2.2.2.2 d.2.1 d.2.2.1 d.2.2.2.1 d.2.2.2.2.1 d.2.2.2.2.2
 P8 (λ_=>SM (ForInStep (S5 α β γ))) d.1 (λr=>pure (.done (À r,d.2.1,d.2.2.1,d.2.2.2.1,c.2.2.2.2))) λ_=>do
  rule "list.sort.gallop"
  let e <-forIn [0:N] ((Á,d.2.1,d.2.2.1,d.2.2.2.1,c.2.2.2.2+1,d.2.2.2.2.1,d.2.2.2.2.2):S7 α β γ) λ_ c =>
   if c.2.2.2.2.1 > 1 then do g9 (c.2.2.2.2.1-1);fG c.2.1 c.2.2.1 c.2.2.2.1 (c.2.2.2.2.1-1) c.2.2.2.2.2.1 c.2.2.2.2.2.2
   else do g9 c.2.2.2.2.1;fG c.2.1 c.2.2.1 c.2.2.2.1 c.2.2.2.2.1 c.2.2.2.2.2.1 c.2.2.2.2.2.2
  P8 (λ_=>SM (ForInStep (S5 α β γ))) e.1 (λr=>pure (.done (À r,e.2.1,e.2.2.1,e.2.2.2.1,e.2.2.2.2.1))) λ_=>do
   g9 (e.2.2.2.2.1+1)
   pure (.yield (Á,e.2.1,e.2.2.1,e.2.2.2.1,e.2.2.2.2.1+1))
noncomputable def mM(N:Nat)(fA:Nat->α->β->γ->Nat->Nat->SM (ForInStep (S6 α β γ)))(fG:α->β->γ->Nat->Nat->Nat->SM (ForInStep (S7 α β γ)))(x:α)(y:β)(z:γ):SM (Array ć):=do
 let st <-get
 let c <-forIn [0:N] ((Á,x,y,z,RM st):S5 α β γ) λ_ c=>mO N fA fG c
 P8 (λ_=>SM (Array ć)) c.1 pure λ_=>unsupported "internal:list.sort.merge-bound"
def T6(r:Option (Array ć))(x:α)(y:β)(z:γ)(c:S6 α β γ):Prop:=∃ac bc,c=(r,x,y,z,ac,bc)
def T7(r:Option (Array ć))(x:α)(y:β)(z:γ)(c:S7 α β γ):Prop:=∃mg ac bc,c=(r,x,y,z,mg,ac,bc)
structure Rs{Y:Type}(D:Array ć->Prop)(K:α->β->γ->Prop)(sz:α->β->γ->Nat)(T:Option (Array ć)->α->β->γ->Y->Prop)(n:Nat)(st:į)(R:ForInStep Y->į->Prop):Prop where
 ret:∀{r x y z c},D r->T (À r) x y z c->R (.done c) st
 go:∀{x y z c},K x y z->n<=sz x y z->T Á x y z c->R (.done c) st/\R (.yield c) st
variable{M:Model}{A:Ŝ}{E:Ù->ç->Prop}{s:ç}{Z:Ϫ}
theorem f9{Y:Type}{c:Prop}[Decidable c]{P:Y->Prop}{x y:Y}(h1:P x)(h2:P y):P (if c then x else y):=by
 by_cases q:c
 ·rw[if_pos q];exact h1
 ·rw[if_neg q];exact h2
theorem Dh{D:Array ć->Prop}{K:α->β->γ->Prop}{sz:α->β->γ->Nat}{N:Nat}{fA:Nat->α->β->γ->Nat->Nat->SM (ForInStep (S6 α β γ))}{fG:α->β->γ->Nat->Nat->Nat->SM (ForInStep (S7 α β γ))}
 (hA:∀{mg x y z ac bc st R},kindOf st=Z->K x y z->Rs D K sz T6 (sz x y z+1) st R->Rv M A E s (fA mg x y z ac bc) R st)
 (hG:∀{mg x y z ac bc st R},kindOf st=Z->K x y z->Rs D K sz T7 (sz x y z) st R->Rv M A E s (fG x y z mg ac bc) R st)
 (hN:∀{x y z},K x y z->sz x y z<=N) {Q:Array ć->į->Prop} {st:į} (hk:kindOf st=Z) {x:α} {y:β} {z:γ} (k:K x y z) (h1:1<=sz x y z) (h:∀r g,D r->Q r (setG st g)):Rv M A E s (mM N fA fG x y z) Q st:=by
 refine ä (OX ?_)
 refine ä (Φ (ł
  (I:=λn (c:S5 α β γ) st'=>(∃g,st'=setG st g)/\∃x y z mg,c=(Á,x,y,z,mg)/\K x y z/\n+1<=sz x y z)
  (Q:=λ(c:S5 α β γ) st'=>(∃g,st'=setG st g)/\∃r d,c=(À r,d)/\D r) ?step ?fin ⟨⟨RM st,rfl⟩,_,_,_,_,rfl,k,h1⟩) ?post)
 case fin =>
  rintro c st' ⟨_,x,y,z,mg,rfl,k,h3⟩;have:=hN k
  lia
 case post =>rintro c st' ⟨⟨g,rfl⟩,r,d,rfl,h2⟩;exact ì (h _ _ h2)
 case step =>
  rintro n c st' _ hn ⟨⟨g,rfl⟩,x,y,z,mg,rfl,k,h3⟩
  refine ä (Φ (ł
   (I:=λi (c:S6 α β γ) st'=>st'=setG st g/\∃x' y' z' ac bc,c=(Á,x',y',z',ac,bc)/\K x' y' z'/\sz x y z+i<=sz x' y' z')
   (Q:=λ(c:S6 α β γ) st'=>st'=setG st g/\((∃r d,c=(À r,d)/\D r)\/∃x' y' z' ac bc,c=(Á,x',y',z',ac,bc)/\K x' y' z'/\sz x y z+1<=sz x' y' z'))
   ?step1 ?fin1 ⟨rfl,_,_,_,_,_,rfl,k,Õ _⟩) ?post1)
  case fin1 =>rintro c st' ⟨rfl,x',y',z',ac,bc,rfl,k',h4⟩;exact⟨rfl,.inr ⟨_,_,_,_,_,rfl,k',by lia⟩⟩
  case step1 =>
   rintro i c st' _ hi ⟨rfl,x',y',z',ac,bc,rfl,k',h4⟩;refine hA hk k' ⟨λd t=>?_,λd l t=>?_⟩
   ·obtain⟨_,_,rfl⟩:=t;exact⟨rfl,.inl ⟨_,_,rfl,d⟩⟩
   ·obtain⟨_,_,rfl⟩:=t;have l:sz x' y' z'+1<=_:=l;exact⟨⟨rfl,.inr ⟨_,_,_,_,_,rfl,d,by lia⟩⟩,rfl,_,_,_,_,_,rfl,d,by lia⟩
  case post1 =>
   rintro c st' ⟨rfl,⟨r,d,rfl,h2⟩ |⟨x',y',z',ac,bc,rfl,k',h4⟩⟩
   ·exact ì ⟨⟨g,rfl⟩,_,_,rfl,h2⟩
   refine ä (QI (Α ⟨rfl,ä (Φ (ł
    (I:=λi c st'=>(∃g,st'=setG st g)/\∃x'' y'' z'' mg ac bc,c=(Á,x'',y'',z'',mg,ac,bc)/\K x'' y'' z''/\sz x' y' z'<=sz x'' y'' z'')
    (Q:=λc st'=>(∃g,st'=setG st g)/\((∃r d,c=(À r,d)/\D r)\/∃x'' y'' z'' mg ac bc,c=(Á,x'',y'',z'',mg,ac,bc)/\K x'' y'' z''/\sz x' y' z'<=sz x'' y'' z''))
    ?step2 ?fin2 ⟨⟨g,rfl⟩,_,_,_,_,_,_,rfl,k',Õ _⟩) ?post2)⟩))
   case fin2 =>rintro c st' ⟨hg,h2⟩;exact⟨hg,.inr h2⟩
   case post2 =>
    rintro c st' ⟨⟨g2,rfl⟩,⟨r,d,rfl,h2⟩ |⟨x'',y'',z'',mg,ac,bc,rfl,k'',h5⟩⟩
    ·exact ì ⟨⟨g2,rfl⟩,_,_,rfl,h2⟩
    ·exact ä (Μ (ì ⟨⟨_,rfl⟩,_,_,_,_,rfl,k'',(show n+1+1<=sz x'' y'' z'' by lia)⟩))
   case step2 =>rintro i c st' _ hi ⟨⟨g2,rfl⟩,x'',y'',z'',mg,ac,bc,rfl,k'',h5⟩;refine(f9 (P:=λp=>Rv M A E s p _ _) ?_ ?_) <;> exact ä (Μ (hG hk k'' ⟨λd ⟨_,_,_,e⟩=>e ▸ ⟨⟨_,rfl⟩,.inl ⟨_,_,rfl,d⟩⟩,λd l ⟨_,_,_,e⟩=>e ▸ ⟨⟨⟨_,rfl⟩,.inr ⟨_,_,_,_,_,_,rfl,d,ø h5 l⟩⟩,⟨_,rfl⟩,_,_,_,_,_,_,rfl,d,ø h5 l⟩⟩))
end
section
variable(a b out:Array ć)(ia ib:Nat)
abbrev X7:=S7 (Array ć) Nat Nat
abbrev X6:=S6 (Array ć) Nat Nat
def IK:=out++a.extract ia a.size++b.extract ib b.size
def MO:=out++b.extract ib b.size++a.extract ia a.size
noncomputable def Nl(mg k k1:Nat):SM (ForInStep X7):=do
 let x <- ϩ a ia
 if (ia+1+1==a.size)=Â then pure (.done (À (MO a b (out.push x) (ia+1) ib),out.push x,ia+1,ib,mg,k,k1))
 else if (decide (k<7)&&decide (k1<7))=Â then pure (.done (Á,out.push x,ia+1,ib,mg,k,k1))
 else pure (.yield (Á,out.push x,ia+1,ib,mg,k,k1))
noncomputable def Nm(mg k bc:Nat):SM (ForInStep X7):=do
 let y <- ϩ b ib
 if (ib+1==b.size)=Â then pure (.done (À (IK a b (out.push y) ia (ib+1)),out.push y,ia,ib+1,mg,k,bc))
 else do
  let x <- ϩ a ia
  match <-fF Â x b (ib+1) (b.size-(ib+1)) 0 with
  |some k1 =>
   if k1 > 0 then
    if (ib+1+k1==b.size)=Â then pure (.done (À (IK a b (out.push y++b.extract (ib+1) (ib+1+k1)) ia (ib+1+k1)),out.push y++b.extract (ib+1) (ib+1+k1),ia,ib+1+k1,mg,k,k1))
    else Nl a b (out.push y++b.extract (ib+1) (ib+1+k1)) ia (ib+1+k1) mg k k1
   else Nl a b (out.push y) ia (ib+1) mg k k1
  |_=>pure (.done (À (IK a b (out.push y) ia (ib+1)),out.push y,ia,ib+1,mg,k,bc))
noncomputable def NZ(mg ac bc:Nat):SM (ForInStep X7):=do
 let y <- ϩ b ib
 match <-fF Ã y a ia (a.size-ia) 0 with
 |some k =>
  if k > 0 then
   if (ia+k+1==a.size)=Â then pure (.done (À (MO a b (out++a.extract ia (ia+k)) (ia+k) ib),out++a.extract ia (ia+k),ia+k,ib,mg,k,bc))
   else if (ia+k==a.size)=Â then pure (.done (À (IK a b (out++a.extract ia (ia+k)) (ia+k) ib),out++a.extract ia (ia+k),ia+k,ib,mg,k,bc))
   else Nm a b (out++a.extract ia (ia+k)) (ia+k) ib mg k bc
  else Nm a b out ia ib mg k bc
 |_=>pure (.done (À (IK a b out ia ib),out,ia,ib,mg,ac,bc))
noncomputable def N0(mg:Nat)(out:Array ć)(ia ib ac bc:Nat):SM (ForInStep X6):=do
 let y <- ϩ b ib
 let x <- ϩ a ia
 match <-lt' y x with
 |some w =>
  if w=Â then do
   let y <- ϩ b ib
   if (ib+1==b.size)=Â then pure (.done (À (IK a b (out.push y) ia (ib+1)),out.push y,ia,ib+1,0,bc+1))
   else if bc+1 >= mg then pure (.done (Á,out.push y,ia,ib+1,0,bc+1))
   else pure (.yield (Á,out.push y,ia,ib+1,0,bc+1))
  else do
   let x <- ϩ a ia
   if (ia+1+1==a.size)=Â then pure (.done (À (MO a b (out.push x) (ia+1) ib),out.push x,ia+1,ib,ac+1,0))
   else if ac+1 >= mg then pure (.done (Á,out.push x,ia+1,ib,ac+1,0))
   else pure (.yield (Á,out.push x,ia+1,ib,ac+1,0))
 |_=>pure (.done (À (IK a b out ia ib),out,ia,ib,ac,bc))
theorem xk:qI a b=(do
 rule "list.sort.merge-lo"
 let y <- ϩ b 0
 if (1==b.size)=Â then pure (IK a b #[y] 0 1)
 else if (0+1==a.size)=Â then pure (MO a b #[y] 0 1)
 else mM (a.size+b.size) (N0 a b) (NZ a b) #[y] 0 1):=rfl
end
section
variable{M:Model}{A:Ŝ}{E:Ù->ç->Prop}{s:ç}{Z:Ϫ}{G:ć->Prop}{C:ć->ć->Bool}{a b out:Array ć}{ia ib mg k k1 ac bc n:Nat}{st:į}
structure Ge(G:ć->Prop)(C:ć->ć->Bool)(a b:Array ć):Prop where
 ga:∀x∈a.toList,G x
 gb:∀x∈b.toList,G x
 sa:uw C a.toList
 sb:uw C b.toList
 fst:∀(h:0<b.size),∀x∈a.toList,Le C b[0] x
 lst:∀y∈b.toList,∀x∈a.toList.drop (a.size-1),Le C y x
def KL(C:ć->ć->Bool)(a b out:Array ć)(ia ib:Nat):Prop:=MA C a b out ia ib/\ia+1<a.size/\ib<b.size
def sL(out:Array ć)(_ _:Nat):Nat:=out.size
theorem AB(t:Ge G C a b)(m:MA C a b out ia ib)(h1:ia+1<a.size)(h2:ib<b.size)(hx:∀y∈b.toList.drop ib,Le C (a[ia]'(by lia)) y){R:ForInStep X7->į->Prop}(r:Rs (Dn C a b) (KL C a b) sL T7 n st R)(hn:n<=out.size+1) :
 Rv M A E s (Nl a b out ia ib mg k k1) R st:=by
 refine ä (a8 (x:=a[ia]'(by lia)) (Þ _) ?_);have m':=m.tQ _ hx;have hsz:n<=(out.push (a[ia]'(by lia))).size:=by simp_all
 by_cases q1:(ia+1+1==a.size)=Â
 ·rw[if_pos q1];exact ì (r.ret (m'.last (by simpa using q1) t.lst) ⟨_,_,_,rfl⟩)
 rw[if_neg q1];have g:=λc=>r.go (c:=c) ⟨m',by simp at q1;lia,h2⟩ hsz;exact f9 (P:=λp=>Rv M A E s p R st) (ì (g _ ⟨_,_,_,rfl⟩).1) (ì (g _ ⟨_,_,_,rfl⟩).2)
theorem AD(hC:dB M A E s Z G C)(o:fk C)(t:Ge G C a b)(hk:kindOf st=Z)(m:MA C a b out ia ib)(h1:ia+1<a.size)(h2:ib<b.size)(hx:∀x∈a.toList.drop ia,Le C (b[ib]'h2) x){R:ForInStep X7->į->Prop}(r:Rs (Dn C a b) (KL C a b) sL T7 n st R)(hn:n<=out.size) :
 Rv M A E s (Nm a b out ia ib mg k bc) R st:=by
 refine ä (a8 (x:=b[ib]) (Þ h2) ?_);have m':=m.tP h2 hx;have hsz:(out.push b[ib]).size=out.size+1:=ű _;by_cases q1:(ib+1==b.size)=Â
 ·rw[if_pos q1];exact ì (r.ret (m'.done (.inr (by simpa using q1))) ⟨_,_,_,rfl⟩)
 rw[if_neg q1];have hia:ia<a.size:=by lia
 refine ä (a8 (x:=a[ia]) (Þ hia) ?_);have mema:a[ia]∈a.toList:=by simp
 refine ä (kh hC o (seg:=b.toList.drop (ib+1)) hk (t.ga _ mema) ?_ (by rw[ğ,ß]) m'.ml.sb (λx hx=>t.gb x (Ģ hx)) (by lia) λk1 hk1 b1 b2=>?_)
 ·rw[Ĩ (by rw[ğ,ß];exact Õ _)]
 have b1:∀y∈(b.toList.drop (ib+1)).take k1,C y a[ia]=true:=b1;have b2:∀y∈b.toList.drop (ib+1+k1),Le C a[ia] y:=λy hy=>b2 y (by rw[ſ];exact hy);dsimp only;have sda:=m'.ml.sa;rw[eQ hia]at sda;by_cases q2:k1 > 0
 ·rw[if_pos q2];have m2:=m'.HR (k:=k1) hk1 λy hy x hx=>by rw[eQ hia]at hx;exact le_head o (le_of_lt o (b1 y hy)) sda x hx
  by_cases q3:(ib+1+k1==b.size)=Â
  ·rw[if_pos q3];exact ì (r.ret (m2.done (.inr (by simpa using q3))) ⟨_,_,_,rfl⟩)
  rw[if_neg q3];exact AB t m2 h1 (by simp at q3;lia) b2 r (by rw[SW];lia)
 ·rw[if_neg q2];exact AB t m' h1 (by simp at q1;lia) (by rw[(by lia:k1=0)]at b2;exact b2) r (by lia)
theorem Ks(hC:dB M A E s Z G C)(o:fk C)(t:Ge G C a b)(hk:kindOf st=Z)(m:KL C a b out ia ib){R:ForInStep X7->į->Prop}(r:Rs (Dn C a b) (KL C a b) sL T7 out.size st R):Rv M A E s (NZ a b out ia ib mg ac bc) R st:=by
 obtain⟨m,h1,h2⟩:=m;have memb:b[ib]∈b.toList:=by simp
 refine ä (a8 (x:=b[ib]) (Þ h2) (ä (kh hC o (seg:=a.toList.drop ia) hk (t.gb _ memb) (by rw[Ĩ (by rw[ğ,ß];exact Õ _)]) (by rw[ğ,ß]) m.ml.sa (λx hx=>t.ga x (Ģ hx)) (by lia) λk hk1 b1 b2=>?_)));have sdb:=m.ml.sb;rw[eQ h2]at sdb;have b1:∀x∈(a.toList.drop ia).take k,∀y∈b.toList.drop ib,Le C x y:=λx hx y hy=>by have:=b1 x hx;unfold Bh at this;rw[eQ h2]at hy;exact le_head o (by unfold Le;simpa using this) sdb y hy
 have b2:∀x∈a.toList.drop (ia+k),Le C b[ib] x:=λx hx=>by have:=b2 x (by simp_all);unfold Bh at this;exact le_of_lt o (by simpa using this)
 dsimp only;by_cases q0:k > 0
 ·rw[if_pos q0];have m2:=m.HS hk1 b1;by_cases q1:(ia+k+1==a.size)=Â
  ·rw[if_pos q1];exact ì (r.ret (m2.last (by simpa using q1) t.lst) ⟨_,_,_,rfl⟩)
  rw[if_neg q1];by_cases q2:(ia+k==a.size)=Â
  ·rw[if_pos q2];exact ì (r.ret (m2.done (.inl (by simpa using q2))) ⟨_,_,_,rfl⟩)
  rw[if_neg q2];exact AD hC o t hk m2 (by simp at q1 q2;have:=m2.la;lia) h2 b2 r (by simp)
 ·rw[if_neg q0];exact AD hC o t hk m h1 h2 (by rw[(by lia:k=0)]at b2;exact b2) r (Õ _)
theorem Kr(hC:dB M A E s Z G C)(o:fk C)(t:Ge G C a b)(hk:kindOf st=Z)(m:KL C a b out ia ib){R:ForInStep X6->į->Prop}(r:Rs (Dn C a b) (KL C a b) sL T6 (out.size+1) st R):Rv M A E s (N0 a b mg out ia ib ac bc) R st:=by
 obtain⟨m,h1,h2⟩:=m;have ea:a[ia]?=À a[ia]:=Þ (by lia);have eb:b[ib]?=À b[ib]:=Þ h2;have mema:a[ia]∈a.toList:=by simp
 have memb:b[ib]∈b.toList:=by simp
 refine ä (a8 eb (ä (a8 ea (ä (hC (t.gb _ memb) (t.ga _ mema) hk ?_)))));dsimp only;have sda:=m.ml.sa;have sdb:=m.ml.sb;rw[eQ (by lia)]at sda sdb;cases w:C b[ib] a[ia]with
 |true =>
  rw[if_pos rfl];refine ä (a8 eb ?_);have m':=m.tP h2 (by rw[eQ (show ia<a.size by lia)];exact le_head o (le_of_lt o w) sda);by_cases q1:(ib+1==b.size)=Â
  ·rw[if_pos q1];exact ì (r.ret (m'.done (.inr (by simpa using q1))) ⟨_,_,rfl⟩)
  rw[if_neg q1];have g:=λc=>r.go (c:=c) ⟨m',h1,by simp at q1;lia⟩ (by unfold sL;rw[ű];exact Õ _);exact f9 (P:=λp=>Rv M A E s p R st) (ì (g _ ⟨_,_,rfl⟩).1) (ì (g _ ⟨_,_,rfl⟩).2)
 |false =>
  refine ä (a8 ea ?_);have m':=m.tQ (by lia) (by rw[eQ h2];exact le_head o w sdb);by_cases q1:(ia+1+1==a.size)=Â
  ·rw[if_pos q1];exact ì (r.ret (m'.last (by simpa using q1) t.lst) ⟨_,_,rfl⟩)
  rw[if_neg q1];have g:=λc=>r.go (c:=c) ⟨m',by simp at q1;lia,h2⟩ (by unfold sL;rw[ű];exact Õ _);exact f9 (P:=λp=>Rv M A E s p R st) (ì (g _ ⟨_,_,rfl⟩).1) (ì (g _ ⟨_,_,rfl⟩).2)
theorem wt(hC:dB M A E s Z G C)(o:fk C)(t:Ge G C a b){Q:Array ć->į->Prop}(hk:kindOf st=Z)(ha:0<a.size)(hb:0<b.size)
 (h:∀r g,Dn C a b r->Q r (setG st g)) :
 Rv M A E s (qI a b) Q st:=by
 rw[xk];refine ä (QI (Α ⟨rfl,ä (a8 (Þ hb) ?_)⟩))
 have m0:=by
  have:MA C a b #[] 0 0:=⟨⟨Qp,λx hx=>(by cases hx),λx hx=>(by cases hx),RN _,t.sa,t.sb⟩,Ą _,Ą _⟩
  exact this.tP hb (t.fst hb)
 by_cases c1:(1==b.size)=Â
 ·rw[if_pos c1];exact ì (h _ (RM st) (m0.done (.inr (by simpa using c1))))
 rw[if_neg c1];by_cases c2:(0+1==a.size)=Â
 ·rw[if_pos c2];exact ì (h _ (RM st) (m0.last (by simpa using c2) t.lst))
 rw[if_neg c2];exact Dh (λhk m r=>Kr hC o t hk m r) (λhk m r=>Ks hC o t hk m r) λk=>by have:=k.1.len;unfold sL;lia hk ⟨m0,by simp at c2;lia,by simp at c1;lia⟩ (Õ _) h
end
section pure
structure MH{α:Type}(C:α->α->Bool)(L S A B:List α):Prop where
 so:uw C S
 oa:∀x∈A,∀z∈S,Le C x z
 ob:∀x∈B,∀z∈S,Le C x z
 pm:((A++B)++S).Perm L
 sa:uw C A
 sb:uw C B
def MH.len(h:MH C L S A B):S.length+A.length+B.length=L.length:=by
 have:=h.pm.length_eq;rw[á,á]at this
 lia
def MH.HS(h:MH C L S (A++X) B)(hx:∀y∈B,∀x∈X,Le C y x):MH C L (X++S) A B:=by
 obtain⟨s1,s2,s3⟩:=é.mp h.sa;refine⟨é.mpr ⟨s2,h.so,λx hx z hz=>h.oa x (Ô _ hx) z hz⟩,λx hx' z hz=>?_,λy hy z hz=>?_,?_,s1,h.sb⟩
 ·rcases â.mp hz with q |q
  ·exact s3 x hx' z q
  ·exact h.oa x (ô _ hx') z q
 ·rcases â.mp hz with q |q
  ·exact hx y hy z q
  ·exact h.ob y hy z q
 ·refine Rk ?_ h.pm;rw[<- ą];apply OV S;rw[ą,ą];exact Ε A ϝ
def MH.HR(h:MH C L S A (B++X))(hx:∀y∈A,∀x∈X,Le C y x):MH C L (X++S) A B:=by
 obtain⟨s1,s2,s3⟩:=é.mp h.sb;refine⟨é.mpr ⟨s2,h.so,λx hx z hz=>h.ob x (Ô _ hx) z hz⟩,λx hx' z hz=>?_,λy hy z hz=>?_,?_,h.sa,s1⟩
 ·rcases â.mp hz with q |q
  ·exact hx x hx' z q
  ·exact h.oa x hx' z q
 ·rcases â.mp hz with q |q
  ·exact s3 y hy z q
  ·exact h.ob y (ô _ hy) z q
 ·have:=h.pm;rw[<- ą]at this;rw[<- ą];exact this
def MH.end_(h:MH C L S A B)(e:A=[]\/B=[]):Done C L (A++B++S):=by
 refine⟨é.mpr ⟨?_,h.so,λx hx z hz=>?_⟩,h.pm⟩
 ·rcases e with e |e
  ·subst e;exact h.sb
  ·subst e;rw[ě];exact h.sa
 ·rcases â.mp hx with q |q
  ·exact h.oa x q z hz
  ·exact h.ob x q z hz
def MH.first(h:MH C L S A B)(hl:∀y∈B,∀x∈A,Le C y x):Done C L (B++A++S):=by
 refine⟨é.mpr ⟨é.mpr ⟨h.sb,h.sa,hl⟩,h.so,λx hx z hz=>?_⟩,?_⟩
 ·rcases â.mp hx with q |q
  ·exact h.ob x q z hz
  ·exact h.oa x q z hz
 ·exact(OV S ϝ).trans h.pm
def le_last(o:fk C)(h:Le C y x)(s:uw C (l++[y])):∀z∈l++[y],Le C z x:=λz hz=>by
 rcases â.mp hz with q |q
 ·exact o.tr z y x ((é.mp s).2.2 z q y (Ð.mpr rfl)) h
 ·simp_all
end pure
section
structure MB(C:ć->ć->Bool)(a b out:Array ć)(na nb:Nat):Prop where
 mh:MH C (a.toList++b.toList) out.toList.reverse (a.toList.take na) (b.toList.take nb)
 la:na<=a.size
 lb:nb<=b.size
theorem MB.len(h:MB C a b out na nb):out.size+na+nb=a.size+b.size:=by
 have:=h.mh.len;have:=h.la;have:=h.lb;rw[Ϸ,İ,İ,á,ß,ß,ß]at *
 lia
def gF{a:Array ć}(h:i<a.size):a.toList.take (i+1)=a.toList.take i++[a[i]]:=by rw[SX,Ē,Þ h];rfl
def pV(l:List ć)(h:i<=k):l.take k=l.take i++(l.take k).drop i:=by
 have:l.take i=(l.take k).take i:=by rw[OY,Ϛ h]
 rw[this,ē]
def MB.tQ(h:MB C a b out (na+1) nb)(hi:na<a.size)(hx:∀y∈b.toList.take nb,Le C y a[na]):MB C a b (out.push a[na]) na nb:=by refine⟨?_,ĉ hi,h.lb⟩;rw[Š,PF];have m:=h.mh;rw[gF hi]at m;exact MH.HS m λy hy x hx'=>by rw[Ð.mp hx'];exact hx y hy
def MB.tP(h:MB C a b out na (nb+1))(hi:nb<b.size)(hx:∀y∈a.toList.take na,Le C y b[nb]):MB C a b (out.push b[nb]) na nb:=by refine⟨?_,h.la,ĉ hi⟩;rw[Š,PF];have m:=h.mh;rw[gF hi]at m;exact MH.HR m λy hy x hx'=>by rw[Ð.mp hx'];exact hx y hy
def A4(a out:Array ć)(i j:Nat)(h:j<=a.size):(out++(a.extract i j).reverse).toList.reverse=(a.toList.take j).drop i++out.toList.reverse:=by rw[Ġ,PF,Ph,RO,ext_toList,RP]
theorem MB.HS(h:MB C a b out na nb)(hk:k<=na)(hx:∀y∈b.toList.take nb,∀x∈(a.toList.take na).drop k,Le C y x):MB C a b (out++(a.extract k na).reverse) k nb:=by have:=h.la;refine⟨?_,ø hk this,h.lb⟩;rw[A4 _ _ _ _ h.la];have m:=h.mh;rw[pV a.toList hk]at m;exact MH.HS m hx
theorem MB.HR(h:MB C a b out na nb)(hk:k<=nb)(hx:∀y∈a.toList.take na,∀x∈(b.toList.take nb).drop k,Le C y x):MB C a b (out++(b.extract k nb).reverse) na k:=by have:=h.lb;refine⟨?_,h.la,ø hk this⟩;rw[A4 _ _ _ _ h.lb];have m:=h.mh;rw[pV b.toList hk]at m;exact MH.HR m hx
def pC(a:Array ć)(i:Nat):(a.extract 0 i).toList=a.toList.take i:=by simp
def MB.done(h:MB C a b out na nb)(e:na=0\/nb=0):Dn C a b (a.extract 0 na++b.extract 0 nb++out.reverse):=by unfold Dn;rw[Ġ,Ġ,pC,pC,Ph];exact h.mh.end_ (e.imp λe=>by rw[e];rfl λe=>by rw[e];rfl)
theorem MB.first(h:MB C a b out na nb)(e:nb=1)(hb:0<b.size)(hl:∀x∈a.toList,Le C b[0] x):Dn C a b (b.extract 0 nb++a.extract 0 na++out.reverse):=by unfold Dn;rw[Ġ,Ġ,pC,pC,Ph];refine h.mh.first λy hy x hx=>?_;rw[e,gF hb]at hy;rw[Ð.mp hy];exact hl x (ģ hx)
end
section
variable(a b:Array ć)(na nb:Nat)(out:Array ć)
abbrev Y7:=S7 Nat Nat (Array ć)
abbrev Y6:=S6 Nat Nat (Array ć)
def IT:=a.extract 0 na++b.extract 0 nb++out.reverse
def MQ:=b.extract 0 nb++a.extract 0 na++out.reverse
noncomputable def Nt(mg k k1:Nat):SM (ForInStep Y7):=do
 let x <- ϩ a (na-1)
 if (na-1==0)=Â then pure (.done (À (IT a b (na-1) nb (out.push x)),na-1,nb,out.push x,mg,k,k1))
 else if (decide (k<7)&&decide (k1<7))=Â then pure (.done (Á,na-1,nb,out.push x,mg,k,k1))
 else pure (.yield (Á,na-1,nb,out.push x,mg,k,k1))
noncomputable def Nu(mg k bc:Nat):SM (ForInStep Y7):=do
 let y <- ϩ b (nb-1)
 if (nb-1==1)=Â then pure (.done (À (MQ a b na (nb-1) (out.push y)),na,nb-1,out.push y,mg,k,bc))
 else do
  let x <- ϩ a (na-1)
  match <-fF Â x b 0 (nb-1) (nb-1-1)with
  |some k1 =>
   if nb-1-k1 > 0 then
    if (k1==1)=Â then pure (.done (À (MQ a b na k1 (out.push y++(b.extract k1 (nb-1)).reverse)),na,k1,out.push y++(b.extract k1 (nb-1)).reverse,mg,k,nb-1-k1))
    else if (k1==0)=Â then pure (.done (À (IT a b na k1 (out.push y++(b.extract k1 (nb-1)).reverse)),na,k1,out.push y++(b.extract k1 (nb-1)).reverse,mg,k,nb-1-k1))
    else Nt a b na k1 (out.push y++(b.extract k1 (nb-1)).reverse) mg k (nb-1-k1)
   else Nt a b na (nb-1) (out.push y) mg k (nb-1-k1)
  |_=>pure (.done (À (IT a b na (nb-1) (out.push y)),na,nb-1,out.push y,mg,k,bc))
noncomputable def N7(mg ac bc:Nat):SM (ForInStep Y7):=do
 let y <- ϩ b (nb-1)
 match <-fF Ã y a 0 na (na-1)with
 |some k =>
  if na-k > 0 then
   if (k==0)=Â then pure (.done (À (IT a b k nb (out++(a.extract k na).reverse)),k,nb,out++(a.extract k na).reverse,mg,na-k,bc))
   else Nu a b k nb (out++(a.extract k na).reverse) mg (na-k) bc
  else Nu a b na nb out mg (na-k) bc
 |_=>pure (.done (À (IT a b na nb out),na,nb,out,mg,ac,bc))
noncomputable def N8(mg na nb:Nat)(out:Array ć)(ac bc:Nat):SM (ForInStep Y6):=do
 let y <- ϩ b (nb-1)
 let x <- ϩ a (na-1)
 match <-lt' y x with
 |some w =>
  if w=Â then do
   let x <- ϩ a (na-1)
   if (na-1==0)=Â then pure (.done (À (IT a b (na-1) nb (out.push x)),na-1,nb,out.push x,ac+1,0))
   else if ac+1 >= mg then pure (.done (Á,na-1,nb,out.push x,ac+1,0))
   else pure (.yield (Á,na-1,nb,out.push x,ac+1,0))
  else do
   let y <- ϩ b (nb-1)
   if (nb-1==1)=Â then pure (.done (À (MQ a b na (nb-1) (out.push y)),na,nb-1,out.push y,0,bc+1))
   else if bc+1 >= mg then pure (.done (Á,na,nb-1,out.push y,0,bc+1))
   else pure (.yield (Á,na,nb-1,out.push y,0,bc+1))
 |_=>pure (.done (À (IT a b na nb out),na,nb,out,ac,bc))
theorem xl:qJ a b=(do
 rule "list.sort.merge-hi"
 let x <- ϩ a (a.size-1)
 if (a.size-1==0)=Â then pure (IT a b (a.size-1) b.size #[x])
 else if (b.size==1)=Â then pure (MQ a b (a.size-1) b.size #[x])
 else mM (a.size+b.size) (N8 a b) (N7 a b) (a.size-1) b.size #[x]):=rfl
end
section
variable{M:Model}{A:Ŝ}{E:Ù->ç->Prop}{s:ç}{Z:Ϫ}{G:ć->Prop}{C:ć->ć->Bool}{a b out:Array ć}{na nb mg k k1 ac bc n:Nat}{st:į}
def KH(C:ć->ć->Bool)(a b:Array ć)(na nb:Nat)(out:Array ć):Prop:=MB C a b out na nb/\0<na/\1<nb
def sH(_ _:Nat)(out:Array ć):Nat:=out.size
theorem uF(o:fk C){n:Nat}(h0:0<n)(h:n-1<a.size)(sr:uw C (a.toList.take n)):∀x∈a.toList.take n,Le C x a[n-1]:=by
 obtain⟨n,rfl⟩:∃k,n=k+1:=⟨n-1,by lia⟩
 have h':n<a.size:=h;rw[gF h']at sr ⊢;exact le_last o (le_refl o _) sr
theorem AW(m:MB C a b out na nb)(h1:0<na)(h2:1<nb)(hx:∀(h:na-1<a.size),∀y∈b.toList.take nb,Le C y a[na-1]){R:ForInStep Y7->į->Prop}(r:Rs (Dn C a b) (KH C a b) sH T7 n st R)(hn:n<=out.size+1) :
 Rv M A E s (Nt a b na nb out mg k k1) R st:=by
 have la:=m.la;obtain⟨na,rfl⟩:∃n,na=n+1:=⟨na-1,by lia⟩
 have hna:=‹_›
 refine ä (a8 (Þ hna) ?_);have m':=m.tQ hna (hx hna);by_cases q1:(na+1-1==0)=Â
 ·rw[if_pos q1];exact ì (r.ret (m'.done (.inl (by simpa using q1))) ⟨_,_,_,rfl⟩)
 rw[if_neg q1];have g:=λc=>r.go (c:=c) ⟨m',by simp at q1;lia,h2⟩ (by simp_all:n<=(out.push a[na]).size);exact f9 (P:=λp=>Rv M A E s p R st) (ì (g _ ⟨_,_,_,rfl⟩).1) (ì (g _ ⟨_,_,_,rfl⟩).2)
theorem AX(hC:dB M A E s Z G C)(o:fk C)(t:Ge G C a b)(hb0:0<b.size)(hk:kindOf st=Z)(m:MB C a b out na nb)(h1:0<na)(h2:1<nb)(hx:∀(h:nb-1<b.size),∀x∈a.toList.take na,Le C x b[nb-1]){R:ForInStep Y7->į->Prop}(r:Rs (Dn C a b) (KH C a b) sH T7 n st R)(hn:n<=out.size) :
 Rv M A E s (Nu a b na nb out mg k bc) R st:=by
 have la:=m.la;have lb:=m.lb;obtain⟨nb,rfl⟩:∃n,nb=n+1:=⟨nb-1,by lia⟩
 have hnb:nb<b.size:=lb;refine ä (a8 (x:=b[nb]) (Þ hnb) ?_);rw[Nat.add_sub_cancel]at *;have m':=m.tP hnb (hx hnb);have hsz:(out.push b[nb]).size=out.size+1:=ű _;by_cases q1:(nb==1)=Â
 ·rw[if_pos q1];exact ì (r.ret (m'.first (by simpa using q1) hb0 (t.fst hb0)) ⟨_,_,_,rfl⟩)
 rw[if_neg q1];have hna:na-1<a.size:=by lia
 refine ä (a8 (x:=a[na-1]) (Þ hna) ?_);have mema:a[na-1]∈a.toList:=by simp
 refine ä (kh hC o (seg:=b.toList.take nb) hk (t.ga _ mema) (by rw[RQ]) (by rw[İ,ß];lia) m'.mh.sb (λx hx=>t.gb x (ģ hx)) (by lia) λk1 hk1 b1 b2=>?_);have b1:∀y∈b.toList.take k1,Le C y a[na-1]:=λy hy=>le_of_lt o (b1 y (by rw[OY,Ϛ hk1];exact hy));have b2:∀y∈(b.toList.take nb).drop k1,Le C a[na-1] y:=b2;dsimp only;by_cases q2:nb-k1 > 0
 ·rw[if_pos q2];have m2:=m'.HR (k:=k1) hk1 λx hx y hy=>o.tr x a[na-1] y (uF o h1 hna m'.mh.sa x hx) (b2 y hy);by_cases q3:(k1==1)=Â
  ·rw[if_pos q3];exact ì (r.ret (m2.first (by simpa using q3) hb0 (t.fst hb0)) ⟨_,_,_,rfl⟩)
  rw[if_neg q3];by_cases q4:(k1==0)=Â
  ·rw[if_pos q4];exact ì (r.ret (m2.done (.inr (by simpa using q4))) ⟨_,_,_,rfl⟩)
  rw[if_neg q4];exact AW m2 h1 (by simp at q3 q4;lia) (λ_=>b1) r (by rw[SW];lia)
 ·rw[if_neg q2];exact AW m' h1 (by simp at q1;lia) (λ_=>by rw[(by lia:k1=nb)]at b1;exact b1) r (by lia)
theorem KP(hC:dB M A E s Z G C)(o:fk C)(t:Ge G C a b)(hb:0<b.size)(hk:kindOf st=Z)(m:KH C a b na nb out){R:ForInStep Y7->į->Prop}(r:Rs (Dn C a b) (KH C a b) sH T7 out.size st R):Rv M A E s (N7 a b na nb out mg ac bc) R st:=by
 obtain⟨m,h1,h2⟩:=m;have la:=m.la;have lb:=m.lb;have hnb:nb-1<b.size:=by lia
 have memb:b[nb-1]∈b.toList:=by simp
 refine ä (a8 (x:=b[nb-1]) (Þ hnb) ?_);refine ä (kh hC o (seg:=a.toList.take na) hk (t.gb _ memb) (by rw[RQ]) (by rw[İ,ß];lia) m.mh.sa (λx hx=>t.ga x (ģ hx)) (by lia) λk hk1 b1 b2=>?_);have b1:∀x∈a.toList.take k,Le C x b[nb-1]:=λx hx=>by have:=b1 x (by rw[OY,Ϛ hk1];exact hx);unfold Bh at this;unfold Le;simpa using this
 have b2:=λy hy x hx=>by have:=b2 x hx;unfold Bh at this;exact o.tr y b[nb-1] x ((uF o (by lia) hnb m.mh.sb) y hy) (le_of_lt o (by simpa using this))
 dsimp only;by_cases q0:na-k > 0
 ·rw[if_pos q0];have m2:=m.HS hk1 b2;by_cases q1:(k==0)=Â
  ·rw[if_pos q1];exact ì (r.ret (m2.done (.inl (by simpa using q1))) ⟨_,_,_,rfl⟩)
  rw[if_neg q1];exact AX hC o t hb hk m2 (by simp at q1;lia) h2 (λ_=>b1) r (by simp)
 ·rw[if_neg q0];exact AX hC o t hb hk m h1 h2 (λ_=>by rw[(by lia:k=na)]at b1;exact b1) r (Õ _)
theorem KO(hC:dB M A E s Z G C)(o:fk C)(t:Ge G C a b)(hb:0<b.size)(hk:kindOf st=Z)(m:KH C a b na nb out){R:ForInStep Y6->į->Prop}(r:Rs (Dn C a b) (KH C a b) sH T6 (out.size+1) st R):Rv M A E s (N8 a b mg na nb out ac bc) R st:=by
 obtain⟨m,h1,h2⟩:=m;have la:=m.la;have lb:=m.lb;obtain⟨na,rfl⟩:∃n,na=n+1:=⟨na-1,by lia⟩
 obtain⟨nb,rfl⟩:∃n,nb=n+1:=⟨nb-1,by lia⟩
 have hna:na<a.size:=la;have hnb:nb<b.size:=lb;have ea:a[na]?=À a[na]:=Þ hna;have eb:=Þ hnb;refine ä (a8 eb (ä (a8 ea (ä (hC (t.gb _ (by simp)) (t.ga _ (by simp)) hk ?_)))));have sda:=m.mh.sa;have sdb:=m.mh.sb;rw[gF hna]at sda;rw[gF hnb]at sdb;cases w:C b[nb] a[na]with
 |true =>
  refine ä (a8 ea ?_);have m':=m.tQ hna (by rw[gF hnb];exact le_last o (le_of_lt o w) sdb);by_cases q1:(na+1-1==0)=Â
  ·rw[if_pos q1];exact ì (r.ret (m'.done (.inl (by simpa using q1))) ⟨_,_,rfl⟩)
  rw[if_neg q1];have g:=λc=>r.go (c:=c) ⟨m',by simp at q1;lia,h2⟩ (by unfold sH;rw[ű];exact Õ _);exact f9 (P:=λp=>Rv M A E s p R st) (ì (g _ ⟨_,_,rfl⟩).1) (ì (g _ ⟨_,_,rfl⟩).2)
 |false =>
  refine ä (a8 eb ?_);have m':=m.tP hnb (by rw[gF hna];exact le_last o w sda);by_cases q1:(nb+1-1==1)=Â
  ·rw[if_pos q1];exact ì (r.ret (m'.first (by simpa using q1) hb (t.fst hb)) ⟨_,_,rfl⟩)
  rw[if_neg q1];have g:=λc=>r.go (c:=c) ⟨m',h1,by simp at q1;lia⟩ (by unfold sH;rw[ű];exact Õ _);exact f9 (P:=λp=>Rv M A E s p R st) (ì (g _ ⟨_,_,rfl⟩).1) (ì (g _ ⟨_,_,rfl⟩).2)
theorem wu(hC:dB M A E s Z G C)(o:fk C)(t:Ge G C a b){Q:Array ć->į->Prop}(hk:kindOf st=Z)(ha:0<a.size)(hb:0<b.size)
 (h:∀r g,Dn C a b r->Q r (setG st g)) :
 Rv M A E s (qJ a b) Q st:=by
 rw[xl];refine ä (QI (Α ⟨rfl,?_⟩));have hl:a.size-1<a.size:=by lia
 refine ä (a8 (Þ hl) ?_)
 have m0:=by
  have:MB C a b #[] (a.size-1+1) b.size:=by refine⟨?_,‹_›,Õ _⟩;rw[Ĩ (by rw[ß];lia),Ĩ (by simp)];exact⟨Qp,λx _ z hz=>(by cases hz),λx _ z hz=>(by cases hz),(by simp),t.sa,t.sb⟩
  refine this.tQ hl λy hy=>t.lst y (ģ hy) _ ?_;rw[eQ hl];exact Ò
 by_cases c1:(a.size-1==0)=Â
 ·rw[if_pos c1];exact ì (h _ (RM st) (m0.done (.inl (by simpa using c1))))
 rw[if_neg c1];by_cases c2:(b.size==1)=Â
 ·rw[if_pos c2];exact ì (h _ (RM st) (m0.first (by simpa using c2) hb (t.fst hb)))
 rw[if_neg c2];exact Dh (λhk m r=>KO hC o t hb hk m r) (λhk m r=>KP hC o t hb hk m r) λk=>by have:=k.1.len;unfold sH;lia hk ⟨m0,by simp at c1;lia,by simp at c2;lia⟩ (Õ _) h
end
def gk(xs:Array ć)(i:Nat):ć:=xs[i]?.getD (.none,.none)
def gT(h:i<xs.size):xs[i]?=À (gk xs i):=by unfold gk;rw[Þ h];rfl
def j0(h:xs[i]?=ys[j]?):gk xs i=gk ys j:=by unfold gk;rw[h]
def nZ(hs:src<xs.size)(hd:d<=src)(k:Nat):gk (bubble xs src d) k=if k=src-d then gk xs src else if src-d<k/\k<=src then gk xs (k-1) else gk xs k:=by
 have e:=getElem?_bubble hs d hd k;by_cases h1:k=src-d
 ·rw[if_pos h1]at e ⊢;exact j0 e
 ·rw[if_neg h1]at e ⊢;by_cases h2:src-d<k/\k<=src
  ·rw[if_pos h2]at e ⊢;exact j0 e
  ·rw[if_neg h2]at e ⊢;exact j0 e
def dh(hj:j<=xs.size)(k:Nat):gk (mirror xs i j ((j-i) / 2)) k=if i<=k/\k<j then gk xs (i+j-1-k) else gk xs k:=by
 have e:=getElem?_mirror_all (i:=i) hj k;by_cases h1:i<=k/\k<j
 ·rw[if_pos h1]at e ⊢;exact j0 e
 ·rw[if_neg h1]at e ⊢;exact j0 e
def Up(C:ć->ć->Bool)(xs:Array ć)(lo hi:Nat):Prop:=∀i j,lo<=i->i<=j->j<hi->Le C (gk xs i) (gk xs j)
def Dw(C:ć->ć->Bool)(xs:Array ć)(lo hi:Nat):Prop:=∀i j,lo<=i->i<=j->j<hi->Le C (gk xs j) (gk xs i)
structure SB(Z:Ϫ)(a₀:Array ć)(st:į):Prop where
 perm:(Ď st).Perm a₀
 kind:kindOf st=Z
 failed:OT st=Á
theorem SB.size{st:į}(h:SB Z a₀ st):(Ď st).size=a₀.size:=h.perm.size_eq
theorem SB.setArr{st:į}(h:SB Z a₀ st)(hp:xs.Perm (Ď st)):SB Z a₀ (PyProof.Rows.setArr st xs):=⟨hp.trans h.perm,h.kind,h.failed⟩
def Good(G:ć->Prop)(a₀:Array ć):Prop:=∀x∈a₀.toList,G x
def SB.good{st:į}(h:SB Z a₀ st)(g:Good G a₀)(hi:i<a₀.size):G (gk (Ď st) i):=by refine g _ ((Β.mp h.perm).mem_iff.mp ?_);have:=gT (by rw[h.size];exact hi);rw[<- Ē]at this;exact õ this
section
def lR(hC:dB M A E s Z G C)(g:Good G a₀){st:į}(hB:SB Z a₀ st)(hi:i<a₀.size)(hj:j<a₀.size)
 (h:Q (À (C (gk (Ď st) i) (gk (Ď st) j))) st):Rv M A E s (ltAt' i j) Q st:=ä (OX (ä (a8 (gT (by rw[hB.size];exact hi)) (ä (a8 (gT (by rw[hB.size];exact hj)) (hC (hB.good g hi) (hB.good g hj) hB.kind h))))))
def yo(hC:dB M A E s Z G C)(o:fk C)(g:Good G a₀){st:į}{lo:Nat}(hn:lo+n<=a₀.size)(bJ:ok<=n)(hB:SB Z a₀ st)(hs:Up C (Ď st) lo (lo+ok))
 (h:∀xs,SB Z a₀ (setArr st xs)->(∀k,k<lo\/lo+n<=k->gk xs k=gk (Ď st) k)->Up C xs lo (lo+n)->Q Â (setArr st xs)):Rv M A E s (binarySort' lo n ok) Q st:=by
 rw[binarySort'_eq]
 refine ä (Φ (ł (I:=λk c st'=>c=(Á,())/\∃xs,st'=setArr st xs/\SB Z a₀ st'/\(∀k,k<lo\/lo+n<=k->gk xs k=gk (Ď st) k)/\Up C xs lo (lo+min k n))
  (Q:=λc st'=>c=(Á,())/\∃xs,st'=setArr st xs/\SB Z a₀ st'/\(∀k,k<lo\/lo+n<=k->gk xs k=gk (Ď st) k)/\Up C xs lo (lo+n)) ?step ?fin ?init) ?post)
 case post =>rintro c st' ⟨rfl,xs,rfl,hB',hf,hs'⟩;exact ì (h xs hB' hf hs')
 case init =>
  refine⟨rfl,Ď st,rfl,hB,λ_ _=>rfl,λi j h1 hij hj=>?_⟩;by_cases h1:ok=0
  ·have:i=j:=by lia
   subst this;exact le_refl o _
  ·exact hs i j (by lia) hij (by lia)
 case fin =>
  rintro c st' ⟨hc,xs,e,hB',hf,hs'⟩;refine⟨hc,xs,e,hB',hf,?_⟩
  rwa [show min (max (max ok 1) n) n=n by lia]at hs'
 case step =>
  rintro k c st' hak hkn ⟨rfl,xs,rfl,hB',hf,hs'⟩;rw[show min k n=k by lia]at hs';have hk:lo+k<a₀.size:=by lia
  refine ä (Φ (ł (I:=λx c st''=>st''=setArr st xs/\∃l r,c=(Á,l,r)/\l<=r/\r<=k/\r-l<=k-x /\
   (∀i,i<l->Le C (gk xs (lo+i)) (gk xs (lo+k)))/\(∀i,r<=i->i<k->Le C (gk xs (lo+k)) (gk xs (lo+i))))
   (Q:=λc st''=>st''=setArr st xs/\∃l r,c=(Á,l,r)/\l<=k /\
    (∀i,i<l->Le C (gk xs (lo+i)) (gk xs (lo+k)))/\(∀i,l<=i->i<k->Le C (gk xs (lo+k)) (gk xs (lo+i)))) ?istep ?ifin ?iinit) ?ipost)
  case iinit=>exact⟨rfl,0,k,rfl,Ą _,Õ _,Õ _,λi hi=>by lia,λi h1 h2=>by lia⟩
  case ifin =>
   rintro c st'' ⟨rfl,l,r,rfl,hlr,hrk,hm,hlo,hhi⟩;have:l=r:=by lia
   subst this;exact⟨rfl,l,l,rfl,hrk,hlo,hhi⟩
  case istep =>
   rintro x c st'' _ hxk ⟨rfl,l,r,rfl,hlr,hrk,hm,hlo,hhi⟩;dsimp only;by_cases hge:l >= r
   ·rw[if_pos hge];have:l=r:=by lia
    subst this;exact ì ⟨rfl,l,l,rfl,hrk,hlo,hhi⟩
   ·rw[if_neg hge];refine ä (lR hC g hB' hk (by lia) ?_);cases w:C (gk (Ď (setArr st xs)) (lo+k)) (gk (Ď (setArr st xs)) (lo+(l+r) / 2))with
    |true =>dsimp only;rw[if_pos rfl];refine ì ⟨rfl,l,(l+r) / 2,rfl,by lia,by lia,by lia,hlo,λi h1 h2=>?_⟩;exact o.tr _ _ _ (le_of_lt o w) (hs' _ _ (ľ ..) (by lia) (by lia))
    |false =>dsimp only;rw[if_neg ñ];refine ì ⟨rfl,(l+r) / 2+1,r,rfl,by lia,hrk,by lia,λi h1=>?_,hhi⟩;exact o.tr _ _ _ (hs' _ _ (ľ ..) (show lo+i<=lo+(l+r) / 2 by lia) (by lia)) w
  case ipost =>
   rintro c st'' ⟨rfl,l,r,rfl,hlk,hlo,hhi⟩;show Rv _ _ _ _ (do moveDown' (lo+k) (lo+l);pure (ı (Á,()))) _ _;rw[moveDown'_eq];have hks:lo+k<(Ď (setArr st xs)).size:=by rw[hB'.size];exact hk
   refine ä (Μ (ì ⟨rfl,bubble xs (lo+k) (lo+k-(lo+l)),rfl,hB'.setArr (bubble_perm _ _ _),λi hi=>?_,?_⟩))
   ·rw[nZ hks (T9 ..),if_neg (by lia),if_neg (by lia)];exact hf i hi
   rw[show min (k+1) n=k+1 by lia];have hks:lo+k<xs.size:=hks;intro i j hli hij hj;show Le C (gk (bubble xs (lo+k) (lo+k-(lo+l))) i) (gk (bubble xs (lo+k) (lo+k-(lo+l))) j);rw[nZ hks (T9 ..),nZ hks (T9 ..),show lo+k-(lo+k-(lo+l))=lo+l by lia];have hlo':∀i,lo<=i->i<lo+l->Le C (gk xs i) (gk xs (lo+k)):=λi h1 h2=>by have:=hlo (i-lo) (by lia);rwa [show lo+(i-lo)=i by lia]at this
   have hhi':∀i,lo+l<=i->i<lo+k->Le C (gk xs (lo+k)) (gk xs i):=λi h1 h2=>by have:=hhi (i-lo) (by lia) (by lia);rwa [show lo+(i-lo)=i by lia]at this
   repeat' split
   all_goals first
    |(exfalso;lia)
    |exact le_refl o _
    |exact hlo' _ (by lia) (by lia)
    |exact hhi' _ (by lia) (by lia)
    |exact hs' _ _ (by lia) (by lia) (by lia)
end
end Tm
set_option pp.maxSteps 1000000
set_option pp.deepTerms true
namespace Tm
open PySem PyProof.Rows
section
def AG(o:fk C)(h:i=j):Le C (gk xs i) (gk xs j):=by subst h;exact le_refl o _
structure Run(Z:Ϫ)(a₀:Array ć)(st:į)(lo nrem:Nat)(xs:Array ć):Prop where
 sb:SB Z a₀ (setArr st xs)
 out:∀k,k<lo\/lo+nrem<=k->gk xs k=gk (Ď st) k
theorem Run.size{st:į}{lo:Nat}(r:Run Z a₀ st lo nrem xs):xs.size=a₀.size:=r.sb.size
theorem Run.mirror{st:į}{lo:Nat}(r:Run Z a₀ st lo nrem xs)(hi:lo<=i)(hj:j<=lo+nrem)(hn:lo+nrem<=a₀.size):Run Z a₀ st lo nrem (mirror xs i j ((j-i) / 2)):=by refine⟨r.sb.setArr (mirror_perm _ _ _ _),λk hk=>?_⟩;rw[dh (by rw[r.size];exact ø hj hn),if_neg (by lia)];exact r.out k hk
def lQ{st:į}(h:Q () (setArr st (mirror (Ď st) i j ((j-i) / 2)))):Rv M A E s (QA i j) Q st:=Μ h
def uA(hC:dB M A E s Z G C)(o:fk C)(g:Good G a₀){st:į}{lo:Nat}(hn:lo+nrem<=a₀.size)(ha:1<=a)(han:a<=nrem)(r:Run Z a₀ st lo nrem xs)(hs:Up C xs lo (lo+a))
 (h:∀n,a<=n->n<=nrem->Up C xs lo (lo+n)->(n=nrem\/C (gk xs (lo+n)) (gk xs (lo+n-1))=Â)->Q (Á,n) (setArr st xs)) :
 Rv M A E s (forIn [a:nrem] ((Á,a):Option (Option Nat)×Nat) λ_ __s=>do
  let __x <-ltAt' (lo+__s.snd) (lo+__s.snd-1)
  match __x with
  |some smaller=>if smaller=Â then pure (Ua (Á,__s.snd)) else pure (ı (Á,__s.snd+1))
  |_=>pure (Ua (À Á,__s.snd))) Q (setArr st xs):=by
 refine ł (I:=λx c st'=>st'=setArr st xs/\c=(Á,x)/\Up C xs lo (lo+x)) ?step ?fin ⟨rfl,rfl,hs⟩;case fin =>simp_all
 case step =>
  rintro x c st' hax hxn ⟨rfl,rfl,hs'⟩;dsimp only;refine ä (lR hC g r.sb (by lia) (by lia) ?_);cases w:C (gk (Ď (setArr st xs)) (lo+x)) (gk (Ď (setArr st xs)) (lo+x-1))with
  |true =>exact ì (h x hax (ĉ hxn) hs' (.inr w))
  |false =>
   refine ì ⟨rfl,rfl,λi j hi hij hj=>?_⟩;by_cases hjx:j<lo+x
   ·exact hs' i j hi hij hjx
   ·have hj':j=lo+x:=by lia
    subst hj';by_cases hi':i=lo+x
    ·subst hi';exact le_refl o _
    ·exact o.tr _ _ _ (hs' i (lo+x-1) hi (by lia) (by lia)) w
noncomputable def IZ(lo n nrem:Nat):StateT į Sem (Option Nat):=do
 let mut n:=n
 rule "list.sort.descending-run"
 n:=n+1
 let mut neq:=0
 for _ in [n:nrem] do
  let À smaller <-ltAt' (lo+n) (lo+n-1) |return Á
  if smaller then
   if neq > 0 then QA (lo+n-(neq+1)) (lo+n)
   neq:=0
  else
   let À larger <-ltAt' (lo+n-1) (lo+n) |return Á
   if larger then break
   neq:=neq+1
  n:=n+1
 if neq > 0 then QA (lo+n-(neq+1)) (lo+n)
 QA lo (lo+n)
 for _ in [n:nrem] do
  let À smaller <-ltAt' (lo+n) (lo+n-1) |return Á
  if smaller then break
  n:=n+1
 return À n
def sV (hC:dB M A E s Z G C) (o:fk C) (g:Good G a₀) {st:SortSt} {lo:Nat} (hn:lo+nrem≤a₀.size) (hnn:n+1≤nrem) (r:Run Z a₀ st lo nrem xs) (hs:Dw C xs lo (lo+(n+1)))
    (h:∀m ys,Run Z a₀ st lo nrem ys->1<=m->m<=nrem->Up C ys lo (lo+m)->Q (À m) (setArr st ys)):Rv M A E s (IZ lo n nrem) Q (setArr st xs):=by
  have tail:∀(m:Nat) (ys:Array ć),Run Z a₀ st lo nrem ys->1<=m->m<=nrem->Dw C ys lo (lo+m)->Run Z a₀ st lo nrem (mirror ys lo (lo+m) ((lo+m-lo) / 2))/\Up C (mirror ys lo (lo+m) ((lo+m-lo) / 2)) lo (lo+m):=λm ys r1 h1 h2 hd=>by
    refine⟨r1.mirror (Õ _) (by lia) hn,λi j hi hij hj=>?_⟩;have hsz:lo+m<=ys.size:=by rw[r1.size];lia
    rw[dh hsz,dh hsz,if_pos (by lia),if_pos (by lia)];exact hd _ _ (by lia) (by lia) (by lia)
  have eqv:∀(ys:Array ć) (m q:Nat),Run Z a₀ st lo nrem ys->m<=nrem->q+1<=m->Dw C ys lo (lo+m)->(∀i j,lo+m-(q+1)<=i->i<lo+m->lo+m-(q+1)<=j->j<lo+m->Le C (gk ys i) (gk ys j))->Dw C (mirror ys (lo+m-(q+1)) (lo+m) ((lo+m-(lo+m-(q+1))) / 2)) lo (lo+m):=λys m q r1 h1 h2 hd he i j hi hij hj=>by
    have hsz:lo+m<=ys.size:=by rw[r1.size];lia
    rw[dh hsz,dh hsz]
    repeat' split
    all_goals first
      |(exfalso;lia)
      |exact he _ _ (by lia) (by lia) (by lia) (by lia)
      |exact hd _ _ hi (by lia) (by lia)
  unfold IZ;refine ä (QI (Α ⟨rfl,?_⟩));dsimp only
  refine ä (Φ (ł (I:=λx (c:Option (Option Nat)×Nat×Nat) st'=>∃neq ys,c=(Á,x,neq)/\st'=setArr st ys/\Run Z a₀ st lo nrem ys/\Dw C ys lo (lo+x)/\neq+1<=x/\(∀i j,lo+x-(neq+1)<=i->i<lo+x->lo+x-(neq+1)<=j->j<lo+x->Le C (gk ys i) (gk ys j)))
    (Q:=λ(c:Option (Option Nat)×Nat×Nat) st'=>∃m neq ys,c=(Á,m,neq)/\st'=setArr st ys/\Run Z a₀ st lo nrem ys/\1<=m/\m<=nrem/\Dw C ys lo (lo+m)/\neq+1<=m/\(∀i j,lo+m-(neq+1)<=i->i<lo+m->lo+m-(neq+1)<=j->j<lo+m->Le C (gk ys i) (gk ys j))) ?step ?fin ?init) ?post)
  case init=>exact⟨0,xs,rfl,rfl,r,hs,OU _,λi j h1 h2 h3 h4=>AG o (by lia)⟩
  case fin =>rintro c st' ⟨neq,ys,rfl,rfl,r1,hd,h1,h2⟩;rw[show max (n+1) nrem=nrem by lia]at hd h1 h2 ⊢;exact⟨nrem,neq,ys,rfl,rfl,r1,by lia,Õ _,hd,h1,h2⟩
  case step =>
    rintro x c st' hax hxn ⟨neq,ys,rfl,rfl,r1,hd,h1,h2⟩;dsimp only;refine ä (lR hC g r1.sb (by lia) (by lia) ?_)
    have one:∀(zs:Array ć) (i j:Nat),lo+(x+1)-(0+1)<=i->i<lo+(x+1)->lo+(x+1)-(0+1)<=j->j<lo+(x+1)->Le C (gk zs i) (gk zs j):=λzs i j h1 h2 h3 h4=>by
      have:i=j:=by lia
      subst this;exact le_refl o _
    cases w:C (gk (Ď (setArr st ys)) (lo+x)) (gk (Ď (setArr st ys)) (lo+x-1))with
    |true =>
      dsimp only;rw[if_pos rfl]
      have grow:∀zs:Array ć,Dw C zs lo (lo+x)->gk zs (lo+x)=gk ys (lo+x)->Le C (gk ys (lo+x)) (gk zs (lo+x-1))->Dw C zs lo (lo+(x+1)):=λzs hz e1 e2 i j hi hij hj=>by
        by_cases hjx:j<lo+x
        · exact hz i j hi hij hjx
        · have hj':j=lo+x:=by lia
          subst hj';by_cases hi':i=lo+x
          · subst hi';exact le_refl o _
          · rw[e1];exact o.tr _ _ _ e2 (hz i (lo+x-1) hi (by lia) (by lia))
      have w':C (gk ys (lo+x)) (gk ys (lo+x-1))=true:=w;by_cases hq:neq > 0
      · rw[if_pos hq];refine ä (lQ (ì ⟨0,_,rfl,rfl,r1.mirror (by lia) (by lia) hn,grow _ (eqv ys x neq r1 (ĉ hxn) h1 hd h2) ?_ ?_,OU _,one _⟩))
        · rw[dh (show lo+x<=ys.size by rw[r1.size];lia),if_neg (by lia)]
        · rw[dh (show lo+x<=ys.size by rw[r1.size];lia),if_pos (by lia)];exact o.tr _ _ _ (le_of_lt o w') (h2 _ _ (by lia) (by lia) (by lia) (by lia))
      · rw[if_neg hq];exact ì ⟨0,ys,rfl,rfl,r1,grow ys hd rfl (le_of_lt o w'),OU _,one _⟩
    |false =>
      dsimp only;rw[if_neg ñ];refine ä (lR hC g r1.sb (by lia) (by lia) ?_);cases w2:C (gk (Ď (setArr st ys)) (lo+x-1)) (gk (Ď (setArr st ys)) (lo+x))with
      |true =>dsimp only;rw[if_pos rfl];exact ì ⟨x,neq,ys,rfl,rfl,r1,by lia,ĉ hxn,hd,h1,h2⟩
      |false =>
        dsimp only;rw[if_neg ñ];have w':Le C (gk ys (lo+x-1)) (gk ys (lo+x)):=w;have w2':Le C (gk ys (lo+x)) (gk ys (lo+x-1)):=w2;refine ì ⟨neq+1,ys,rfl,rfl,r1,λi j hi hij hj=>?_,by lia,λi j a1 a2 a3 a4=>?_⟩
        · by_cases hjx:j<lo+x
          · exact hd i j hi hij hjx
          · have hj':j=lo+x:=by lia
            subst hj';by_cases hi':i=lo+x
            · subst hi';exact le_refl o _
            · exact o.tr _ _ _ w2' (hd i (lo+x-1) hi (by lia) (by lia))
        · by_cases c1:i=lo+x
          · by_cases c2:j=lo+x
            · rw[c1,c2];exact le_refl o _
            · rw[c1];exact o.tr _ _ _ w2' (h2 _ _ (by lia) (by lia) (by lia) (by lia))
          · by_cases c2:j=lo+x
            · rw[c2];exact o.tr _ _ _ (h2 _ _ (by lia) (by lia) (by lia) (by lia)) w'
            · exact h2 _ _ (by lia) (by lia) (by lia) (by lia)
  case post =>
    rintro c st' ⟨m,neq,ys,rfl,rfl,r1,hm1,hm2,hd,h1,h2⟩;dsimp only;by_cases hq:neq > 0
    · rw[if_pos hq];refine ä (lQ ?_);have r2:=r1.mirror (i:=lo+m-(neq+1)) (j:=lo+m) (by lia) (by lia) hn;obtain⟨r3,u3⟩:=tail m _ r2 hm1 hm2 (eqv ys m neq r1 hm2 h1 hd h2);refine ä (lQ ?_);exact ä (uA (st:=st) hC o g hn hm1 hm2 r3 u3 λk a1 a2 a3 _=>ì (h k _ r3 (ø hm1 a1) a2 a3))
    · rw[if_neg hq];obtain⟨r3,u3⟩:=tail m _ r1 hm1 hm2 hd;refine ä (lQ ?_);exact ä (uA (st:=st) hC o g hn hm1 hm2 r3 u3 λk a1 a2 a3 _=>ì (h k _ r3 (ø hm1 a1) a2 a3))
def Bt(hC:dB M A E s Z G C)(o:fk C)(g:Good G a₀){st:į}{lo:Nat}(hn:lo+nrem≤a₀.size)(h1:1≤nrem)(hB:SB Z a₀ st)
    (h:∀m ys,Run Z a₀ st lo nrem ys->1<=m->m<=nrem->Up C ys lo (lo+m)->Q (À m) (setArr st ys)):Rv M A E s (countRun' lo nrem) Q st:=by
  rw[countRun'_eq];dsimp only;have r0:Run Z a₀ st lo nrem (Ď st):=⟨hB,λ_ _=>rfl⟩
  have hst:setArr st (Ď st)=st:=rfl;refine ä (uA (st:=st) (xs:=Ď st) hC o g hn (Õ 1) h1 r0 (λi j hi hij hj=>AG o (by lia)) λn a1 a2 a3 a4=>?_);dsimp only;by_cases hnn:n=nrem
  · rw[if_pos (by simpa using hnn)];exact ì (h n _ r0 a1 a2 a3)
  rw[if_neg (by simpa using hnn)];have hlt:=a4.resolve_left hnn;by_cases hgt:n > 1
  · rw[if_pos hgt];refine ä (lR hC g hB (by lia) (by lia) ?_);cases w:C (gk (Ď st) lo) (gk (Ď st) (lo+n-1))with
    |true =>dsimp only;rw[if_pos rfl];exact ì (h n _ r0 a1 a2 a3)
    |false =>
      dsimp only;rw[if_neg ñ];have eqv:∀i j,lo<=i->i<lo+n->lo<=j->j<lo+n->Le C (gk (Ď st) i) (gk (Ď st) j):=λi j h1 h2 h3 h4 =>o.tr _ _ _ (a3 i (lo+n-1) h1 (by lia) (by lia)) (o.tr _ _ _ w (a3 lo j (Õ _) h3 h4));refine ä (lQ ?_);have hsz:lo+n<=(Ď st).size:=by rw[hB.size];lia
      refine sV (lo:=lo) (n:=n) hC o g hn (by lia) (r0.mirror (Õ _) (by lia) hn) (λi j hi hij hj=>?_) h;rw[dh hsz,dh hsz]
      repeat' split
      all_goals first
        |(exfalso;lia)
        |exact eqv _ _ (by lia) (by lia) (by lia) (by lia)
        |exact le_refl o _
        | (have hj':j=lo+n:=by lia
           subst hj';exact o.tr _ _ _ (le_of_lt o hlt) (eqv _ _ (by lia) (by lia) (by lia) (by lia)))
        | (have:i=j:=by lia
           subst this;exact le_refl o _)
  · rw[if_neg hgt];have hn1:n=1:=by lia
    subst hn1;refine sV (lo:=lo) (n:=1) (xs:=Ď st) hC o g hn (by lia) r0 (λi j hi hij hj=>?_) h;by_cases hi':i=j
    · subst hi';exact le_refl o _
    · have hi0:i=lo:=by lia
      have hj1:j=lo+1:=by lia
      subst hi0;subst hj1;exact le_of_lt o hlt
end
def xm(i:Nat):mergeAt' i=(do
 let s <-get
 let (À (sa,na,power),À (sb,nb,_)):=((Ć s)[i]?,(Ć s)[i+1]?) |unsupported "internal:list.sort.pending"
 set (OH s (((Ć s).setIfInBounds i (sa,na+nb,power)).eraseIdxIfInBounds (i+1)))
 let À k <-fF Ã (<- ϩ (Ď s) sb) (Ď s) sa na 0 |return Ã
 let (sa,na):=(sa+k,na-k)
 if na==0 then return Â
 let À nb <-fF Â (<- ϩ (Ď s) (sa+na-1)) (Ď s) sb nb (nb-1) |return Ã
 if nb==0 then return Â
 let x:=(Ď s).extract sa sb
 let y:=(Ď s).extract sb (sb+nb)
 let merged <-if na<=nb then qI x y else qJ x y
 modify λs=>setArr s (merged.toList.zipIdx.foldl (λa (p,j)=>a.setIfInBounds (sa+j) p) (Ď s))
 return (OT (<-get)).isNone):=rfl
section
def Gw{x:Y}{Q:PUnit->Y->Prop}{st:Y}(h:Q ⟨⟩ x):Rv M A E s (set x:StateT Y Sem PUnit) Q st:=Ï ⟨rfl,h⟩
def A0(xs:Array ć)(k:Nat):gk xs k=(xs.toList[k]?).getD (.none,.none):=by unfold gk;rw[Ē]
def kq{lo:Nat}(h:lo+n<=xs.size)(hi:i<n):((xs.toList.drop lo).take n)[i]?=À (gk xs (lo+i)):=by rw[Λ hi,ž,Ē];exact gT (by lia)
def ko{xs:Array ć}{lo:Nat}(h:lo+n<=xs.size):((xs.toList.drop lo).take n).length=n:=by rw[İ,ğ,ß];lia
def nj(o:fk C){lo:Nat}(h:lo+n<=xs.size)(sr:uw C ((xs.toList.drop lo).take n)):Up C xs lo (lo+n):=λi j hi hij hj=>by have e1:=kq (i:=i-lo) h (by lia);have e2:=kq (i:=j-lo) h (by lia);rw[show lo+(i-lo)=i by lia]at e1;rw[show lo+(j-lo)=j by lia]at e2;exact uS o sr (by lia) e1 e2
def tw{lo:Nat}(h:lo+n<=xs.size)(u:Up C xs lo (lo+n)):uw C ((xs.toList.drop lo).take n):=by refine Ť.mpr λi j hi hj hij=>?_;rw[ko h]at hi hj;have e1:=kq h hi;have e2:=kq h hj;rw[É (by rw[ko h];exact hi)]at e1;rw[É (by rw[ko h];exact hj)]at e2;rw[þ e1,þ e2];exact u _ _ (ľ ..) (by lia) (by lia)
theorem Aj(p:Nat):∀(l:List ć) (n:Nat) (xs:Array ć),p+n+l.length<=xs.size->((l.zipIdx n).foldl (λa q=>a.setIfInBounds (p+q.2) q.1) xs).toList=xs.toList.take (p+n)++l++xs.toList.drop (p+n+l.length)
 |[],n,xs,_=>by simp
 |x::l,n,xs,h=>by rw[Û]at h;rw[List.zipIdx_cons,Px,Aj p l (n+1) _ (by rw[Array.size_setIfInBounds];lia),P9];rw[show p+(n+1)=p+n+1 from rfl,SX,List.take_set_of_le (Õ _),ļ (by rw[ß];lia),List.drop_set_of_lt (ľ ..)];rw[show p+n+1+l.length=p+n+(l.length+1) by lia];simp
def wx (hC:dB M A E s Z G C) (o:fk C) (g:Good G a₀) {st:SortSt} (hB:SB Z a₀ st) (hp:(pendingOf st).toList=L1++(sa,na,pw)::(sb,nb,pw2)::L2) (hi:L1.length=i)
    (hab:sb=sa+na) (hna:0<na) (hnb:0<nb) (hsz:sb+nb<=a₀.size) (ua:Up C (Ď st) sa sb) (ub:Up C (Ď st) sb (sb+nb))
    (h:∀st',SB Z a₀ st'->(Ć st').toList=L1++(sa,na+nb,pw)::L2->(∀k,k<sa\/sb+nb<=k->gk (Ď st') k=gk (Ď st) k)->Up C (Ď st') sa (sa+(na+nb))->Q Â st'):Rv M A E s (mergeAt' i) Q st:=by
  subst hab;have hs0:=hB.size;generalize hxs:Ď st=xs at *;rw[xm];refine ä (OX ?_);have e1:(Ć st)[i]?=À (sa,na,pw):=by rw[<- Ē,hp,<-hi,ï (Õ _),Q4];rfl
  have e2:(Ć st)[i+1]?=À (sa+na,nb,pw2):=by rw[<- Ē,hp,<-hi,ï (ţ _),show L1.length+1-L1.length=1 by lia];rfl
  rw[e1,e2];dsimp only;refine ä (Gw ?_);generalize hst1:OH st (((Ć st).setIfInBounds i (sa,na+nb,pw)).eraseIdxIfInBounds (i+1))=st1;have hP:(Ć st1).toList=L1++(sa,na+nb,pw)::L2:=by rw[<-hst1];show (((Ć st).setIfInBounds i (sa,na+nb,pw)).eraseIdxIfInBounds (i+1)).toList=_;rw[Array.toList_eraseIdxIfInBounds,P9,hp,<-hi,Rw _ _ (Õ _),Q4,List.eraseIdx_append_of_length_le (ţ _),show L1.length+1-L1.length=1 by lia];rfl
  have hA1:Ď st1=xs:=by rw[<-hst1];exact hxs
  have hB1:SB Z a₀ st1:=by rw[<-hst1];exact⟨hB.perm,hB.kind,hB.failed⟩
  have hk1:kindOf st1=Z:=hB1.kind;clear hst1 e1 e2 hp;rw[hxs]
  let sg (lo n:Nat):List ć:=(xs.toList.drop lo).take n
  have gs:∀x∈xs.toList,G x:=λx hx=>g x ((Β.mp (hxs ▸ hB.perm)).mem_iff.mp hx);have sA:=tw (n:=na) (by lia) ua;have sB:=tw (n:=nb) (hs0 ▸ hsz) ub;have hb0:sa+na<xs.size:=by lia
  have eB:(xs.toList.drop (sa+na)).take nb=gk xs (sa+na)::((xs.toList.drop (sa+na)).take nb).drop 1:=by
    have:=kq (xs:=xs) (lo:=sa+na) (n:=nb) (i:=0) (hs0 ▸ hsz) hnb;cases q:(xs.toList.drop (sa+na)).take nb with
    |nil=>rw[q]at this;cases this
    |cons a r=>rw[q]at this;rw[show gk xs (sa+na)=a from(þ this).symm];rfl
  refine ä (a8 (gT hb0) ?_);have gb0:G (gk xs (sa+na)):=gs _ (by have:=gT hb0;rw[<- Ē]at this;exact õ this);refine ä (kh hC o (seg:=(xs.toList.drop sa).take na) hk1 gb0 rfl (ko (ĉ hb0)) sA (λx hx=>gs x (Ģ (ģ hx))) hna λk hk b1 b2=>?_);generalize hLA:(xs.toList.drop sa).take na=LA at *;generalize hLB:(xs.toList.drop (sa+na)).take nb=LB at *;have lA:LA.length=na:=by rw[<-hLA];exact ko (ĉ hb0)
  have lB:LB.length=nb:=by rw[<-hLB];exact ko (hs0 ▸ hsz)
  have b1:∀x∈LA.take k,∀y∈LB,Le C x y:=λx hx y hy=>by have:=b1 x hx;unfold Bh at this;rw[eB]at hy sB;exact le_head o (show Le C x _ by unfold Le;simpa using this) sB y hy
  have b2:∀x∈LA.drop k,Le C (gk xs (sa+na)) x:=λx hx=>by have:=b2 x hx;unfold Bh at this;exact le_of_lt o (by simpa using this)
  have hsplit:xs.toList=xs.toList.take sa++(LA++(LB++xs.toList.drop (sa+na+nb))):=by
    rw[<-hLA,<-hLB]
    conv=>lhs;rw[<- ē sa xs.toList]
    congr 1
    conv=>lhs;rw[<- ē na (xs.toList.drop sa),ſ]
    congr 1
    conv=>lhs;rw[<- ē nb (xs.toList.drop (sa+na)),ſ]
  have both:((xs.toList.drop sa).take (na+nb))=LA++LB:=by rw[<-hLA,<-hLB,So,ſ]
  dsimp only;have same:Up C xs sa (sa+(na+nb))->Q Â st1:=λu=>h st1 hB1 hP (λk _=>by rw[hA1]) (by rw[hA1];exact u);by_cases q1:(na-k==0)=Â
  · rw[if_pos q1];have ek:k=na:=by simp at q1;lia
    refine ì (same (nj o (by lia) ?_));rw[both];refine é.mpr ⟨sA,sB,λx hx y hy=>b1 x ?_ y hy⟩;rw[ek,Ĩ (ŕ lA)];exact hx
  rw[if_neg q1];have q1:0<na-k:=by simp at q1;lia
  have hlast:sa+k+(na-k)-1<xs.size:=by lia
  refine ä (a8 (gT hlast) ?_);have elast:LA[na-1]?=À (gk xs (sa+k+(na-k)-1)):=by have:=kq (xs:=xs) (lo:=sa) (n:=na) (i:=na-1) (ĉ hb0) (by lia);rw[hLA]at this;rw[this,show sa+(na-1)=sa+k+(na-k)-1 by lia]
  generalize hal:gk xs (sa+k+(na-k)-1)=al at *;have mal:al∈LA:=õ elast;have gal:G al:=gs _ (by rw[hsplit];exact Ô _ (ô _ mal));have toal:∀x∈LA,Le C x al:=λx hx=>by obtain⟨j,hj⟩:=Ň hx;have:=(Ó.mp hj).1;exact uS o sA (by lia) hj elast
  refine ä (kh hC o (seg:=LB) hk1 gal hLB.symm lB sB (λx hx=>gs x (by rw[hsplit];exact Ô _ (Ô _ (ô _ hx)))) (by lia) λk2 hk2 d1 d2=>?_);have d1:∀y∈LB.take k2,Le C y al:=λy hy=>le_of_lt o (d1 y hy);have d2:∀y∈LB.drop k2,Le C al y:=d2;dsimp only;by_cases q2:(k2==0)=Â
  · rw[if_pos q2];have ek:k2=0:=by simpa using q2
    refine ì (same (nj o (by lia) ?_));rw[both];refine é.mpr ⟨sA,sB,λx hx y hy=>o.tr x al y (toal x hx) (d2 y ?_)⟩;rw[ek,RQ];exact hy
  rw[if_neg q2];have q2:0<k2:=by simp at q2;lia
  have ex:(xs.extract (sa+k) (sa+na)).toList=LA.drop k:=by rw[ext_toList,<-hLA,RP,ſ,show sa+na-(sa+k)=na-k by lia]
  have ey:(xs.extract (sa+na) (sa+na+k2)).toList=LB.take k2:=by rw[ext_toList,<-hLB,OY,Ϛ hk2,show sa+na+k2-(sa+na)=k2 by lia]
  have lx:(xs.extract (sa+k) (sa+na)).size=na-k:=by rw[<- ß,ex,ğ,lA]
  have ly:(xs.extract (sa+na) (sa+na+k2)).size=k2:=by rw[<- ß,ey,İ,lB];lia
  have sA':=sA;rw[<- ē k LA]at sA';obtain⟨sA1,sA2,sA3⟩:=é.mp sA';have sB':=sB;rw[<- ē k2 LB]at sB';obtain⟨sB1,sB2,sB3⟩:=é.mp sB'
  have t:Ge G C (xs.extract (sa+k) (sa+na)) (xs.extract (sa+na) (sa+na+k2)):=by
    refine⟨λx hx=>?_,λx hx=>?_,by rw[ex];exact sA2,by rw[ey];exact sB1,λh0 x hx=>?_,λy hy x hx=>?_⟩
    · rw[ex]at hx;exact gs x (by rw[hsplit];exact Ô _ (ô _ (Ģ hx)))
    · rw[ey]at hx;exact gs x (by rw[hsplit];exact Ô _ (Ô _ (ô _ (ģ hx))))
    · rw[ex]at hx;have:(xs.extract (sa+na) (sa+na+k2))[0]=gk xs (sa+na):=by rw[Array.getElem_extract];have:=gT hb0;rw[Þ hb0]at this;exact þ this
      rw[this];exact b2 x hx
    · rw[ey]at hy;rw[ex,lx]at hx;have:x=al:=by obtain⟨j,hj⟩:=Ň hx;have hlt:=(Ó.mp hj).1;rw[ğ,ğ,lA]at hlt;rw[ž,ž,show k+(na-k-1+j)=na-1 by lia,elast]at hj;exact(þ hj).symm
      rw[this];exact d1 y hy
  have fin:∀(r:Array ć) (gg:Nat),Dn C (xs.extract (sa+k) (sa+na)) (xs.extract (sa+na) (sa+na+k2)) r->Rv M A E s (do
      modify λs=>setArr s (r.toList.zipIdx.foldl (λa (x:ć×Nat)=>match x with |(p,j)=>a.setIfInBounds (sa+k+j) p) (Ď s))
      let x <-get
      pure (OT x).isNone) Q (setG st1 gg):=λr gg d=>by
    have d:Done C (LA.drop k++LB.take k2) r.toList:=by have d':=d;unfold Dn at d';rw[ex,ey]at d';exact d'
    have lr:r.toList.length=na-k+k2:=by rw[d.2.length_eq,á,ğ,İ,lA,lB];lia
    have efold:(r.toList.zipIdx.foldl (λa (x:ć×Nat)=>match x with |(p,j)=>a.setIfInBounds (sa+k+j) p) xs).toList=xs.toList.take (sa+k)++r.toList++xs.toList.drop (sa+k+r.toList.length):=by have:=Aj (sa+k) r.toList 0 xs (by lia);rw[Nat.add_zero]at this;exact this
    generalize hys:(r.toList.zipIdx.foldl (λa (x:ć×Nat)=>match x with |(p,j)=>a.setIfInBounds (sa+k+j) p) xs)=ys at efold;have t1:xs.toList.take (sa+k)=xs.toList.take sa++LA.take k:=by rw[So,<-hLA,OY,Ϛ hk]
    have t2:xs.toList.drop (sa+k+r.toList.length)=LB.drop k2++xs.toList.drop (sa+na+nb):=by
      have e3:xs.toList.drop (sa+na+nb)=(xs.toList.drop (sa+na+k2)).drop (nb-k2):=by rw[ſ,show sa+na+k2+(nb-k2)=sa+na+nb by lia]
      rw[lr,show sa+k+(na-k+k2)=sa+na+k2 by lia,<-hLB,RP,ſ,e3,ē]
    have eys:ys.toList=xs.toList.take sa++(LA.take k++(r.toList++(LB.drop k2++xs.toList.drop (sa+na+nb)))):=by rw[efold,t1,t2];simp
    generalize hPRE:xs.toList.take sa=PRE at *;generalize hRST:xs.toList.drop (sa+na+nb)=RST at *;have lPRE:PRE.length=sa:=by rw[<-hPRE,İ,ß];lia
    have e:LA++(LB++RST)=LA.take k++((LA.drop k++LB.take k2)++(LB.drop k2++RST)):=by rw[ą (LA.drop k),<- ą (LB.take k2),ē,<- ą (LA.take k),ē]
    have pm:ys.toList.Perm xs.toList:=by rw[eys,hsplit,e];exact Ε _ (Ε _ (List.Perm.append d.2 (RN _)))
    have lmid:(LA.take k++(r.toList++LB.drop k2)).length=na+nb:=by rw[á,á,İ,ğ,lr,lA,lB];lia
    have eys2:ys.toList=PRE++((LA.take k++(r.toList++LB.drop k2))++RST):=by rw[eys];simp
    have exs2:xs.toList=PRE++((LA++LB)++RST):=by rw[hsplit];simp
    have lys:ys.size=xs.size:=by rw[<- ß,<- ß];exact pm.length_eq
    refine ä (Μ (ä (OX (ì ?_))));show Q (OT st1).isNone _;rw[hB1.failed];have harr:Ď (setG st1 gg)=xs:=hA1;rw[harr,hys];refine h _ ⟨?_,hB1.kind,hB1.failed⟩ hP (λj hj=>?_) ?_
    · refine(Β.mpr ?_:Array.Perm ys xs).trans (hxs ▸ hB.perm);exact pm
    · show gk ys j=gk xs j;rw[A0,A0,eys2,exs2];rcases hj with hj |hj
      · rw[ú (lPRE ▸ hj),ú (lPRE ▸ hj)]
      · rw[ï (by lia),ï (by lia),ï (by lia),ï (by rw[á];lia),lmid,á,lA,lB]
    · show Up C ys sa (sa+(na+nb));refine nj o (by lia) ?_;rw[eys2,List.drop_append_of_le_length (ŕ lPRE.symm),Ź (ŕ lPRE),Py,<-lmid,List.take_left']
      · refine é.mpr ⟨sA1,é.mpr ⟨d.1,sB2,λx hx y hy=>?_⟩,λx hx y hy=>?_⟩
        · rcases â.mp (d.2.mem_iff.mp hx)with z |z
          · exact o.tr x al y (toal x (Ģ z)) (d2 y hy)
          · exact sB3 x z y hy
        · rcases â.mp hy with z |z
          · rcases â.mp (d.2.mem_iff.mp z)with z |z
            · exact sA3 x hx y z
            · exact b1 x hx y (ģ z)
          · exact b1 x hx y (Ģ z)
      · rfl
  by_cases q3:na-k<=k2
  · rw[if_pos q3];refine ä (wt hC o t hk1 (lx ▸ q1) (by lia) λr gg d=>?_);exact fin r gg d
  · rw[if_neg q3];exact ä (wu hC o t hk1 (lx ▸ q1) (by lia) λr gg d=>fin r gg d)
end
def nM(st:į):List (Nat×Nat):=(Ć st).toList.map λq=>(q.1,q.2.1)
def Runs(C:ć->ć->Bool)(xs:Array ć):Nat->List (Nat×Nat)->Nat->Prop
 |a,[],e=>a=e
 |a,q::r,e=>q.1=a/\0<q.2/\Up C xs a (a+q.2)/\Runs C xs (a+q.2) r e
section
theorem Runs.le:∀{l:List (Nat×Nat)} {a e:Nat},Runs C xs a l e->a+l.length<=e
 |[],a,e,h=>by have h:a=e:=h;simp;exact ŕ h
 |q::r,a,e,h=>by
  have:=Runs.le h.2.2.2;have:=h.2.1;rw[Û]
  lia
theorem Runs.app:∀{l1 l2:List (Nat×Nat)} {a e:Nat},Runs C xs a (l1++l2) e↔∃m,Runs C xs a l1 m/\Runs C xs m l2 e
 |[],l2,a,e=>⟨λh=>⟨a,rfl,h⟩,λ⟨m,h1,h2⟩=>by subst h1;exact h2⟩
 |q::l1,l2,a,e=>by
  constructor
  ·rintro⟨h1,h2,h3,h4⟩;obtain⟨m,k1,k2⟩:=Runs.app.mp h4;exact⟨m,⟨h1,h2,h3,k1⟩,k2⟩
  ·rintro⟨m,⟨h1,h2,h3,k1⟩,k2⟩;exact⟨h1,h2,h3,Runs.app.mpr ⟨m,k1,k2⟩⟩
def Up.congr{lo:Nat}(h:Up C xs lo hi)(e:∀k,lo<=k->k<hi->gk ys k=gk xs k):Up C ys lo hi:=λi j hi' hij hj=>by rw[e i hi' (OG hij hj),e j (ø hi' hij) hj];exact h i j hi' hij hj
theorem Runs.congr:∀{l:List (Nat×Nat)} {a e:Nat},Runs C xs a l e->(∀k,a<=k->k<e->gk ys k=gk xs k)->Runs C ys a l e
 |[],a,e,h,_=>h
 |q::r,a,e,h,g=>by have:=Runs.le h.2.2.2;exact⟨h.1,h.2.1,h.2.2.1.congr λk h1 h2=>g k h1 (by lia),Runs.congr h.2.2.2 λk h1 h2=>g k (by lia) h2⟩
def Jy(h:i+1<l.length):∃L1 a b L2,l=L1++a::b::L2/\L1.length=i:=by
 refine⟨l.take i,l[i],l[i+1],l.drop (i+2),?_,by grind⟩
 conv=>lhs;rw[<- ē i l,ó (by lia),ó ‹_›]
def g8(hC:dB M A E s Z G C)(o:fk C)(g:Good G a₀){st:į}(hB:SB Z a₀ st)(hr:Runs C (Ď st) 0 (nM st) e)(he:e<=a₀.size)(hi:i+1<(Ć st).size)
 (h:∀st',SB Z a₀ st'->Runs C (Ď st') 0 (nM st') e->(∀k,e<=k->gk (Ď st') k=gk (Ď st) k)->(Ć st').size+1=(Ć st).size->Q Â st'):Rv M A E s (mergeAt' i) Q st:=by
 obtain⟨L1,⟨sa,na,pw⟩,⟨sb,nb,pw2⟩,L2,hp,hl⟩:=Jy (l:=(Ć st).toList) (i:=i) (by simp_all);have hr':=hr;unfold nM at hr';rw[hp,î]at hr';obtain⟨m,r1,r2⟩:=Runs.app.mp hr';obtain⟨ea,h1,ua,eb,h2,ub,r3⟩:=r2;have l3:=Runs.le r3;subst ea;subst eb;refine wx hC o g hB hp hl rfl h1 h2 (by lia) ua ub λst' hB' hp' ho hu=>h st' hB' ?_ (λk hk=>ho k (by lia)) ?_
 ·unfold nM;rw[hp',î];refine Runs.app.mpr ⟨sa,r1.congr λk a1 a2=>ho k (.inl a2),rfl,?_,hu,?_⟩
  ·lia
  ·rw[<-Nat.add_assoc];exact r3.congr λk a1 a2=>ho k (.inr a1)
 ·rw[<- ß,<- ß,hp,hp'];simp;exact rfl
def Hd(c:Prop)[Decidable c](h:¬n<=1):(if c then n-2-1 else n-2)+1<n:=by split <;> lia
def qK(g:α->β)(f:α->α)(h:∀x,g (f x)=g x)(l:List α)(i:Nat):(l.modify i f).map g=l.map g:=by
 refine Ń λj=>?_;rw[Ö,Ö,List.getElem?_modify];cases l[j]? with
 |none=>rfl
 |some x =>
  show À (g (if i=j then f x else x))=À (g x);split
  ·rw[h]
  ·rfl
def wq (hC:dB M A E s Z G C) (o:fk C) (g:Good G a₀) {st:SortSt} (hB:SB Z a₀ st) (hp:pendingOf st=#[]) (h2:2≤a₀.size)
    (h:∀st',(Ď st').Perm a₀->OT st'=Á->Up C (Ď st') 0 a₀.size->Q () st'):Rv M A E s sortRuns' Q st:=by
  rw[sortRuns'_eq];refine ä (OX ?_);dsimp only;simp only[hB.size];generalize minRun' a₀.size a₀.size 0=mr
  refine ä (Φ (ł
    (I:=λx (c:Option Unit×Nat) st'=>∃lo,c=(Á,lo)/\SB Z a₀ st'/\Runs C (Ď st') 0 (nM st') lo/\lo<=a₀.size/\min x a₀.size<=lo)
    (Q:=λ(c:Option Unit×Nat) st'=>c=(Á,a₀.size)/\SB Z a₀ st'/\Runs C (Ď st') 0 (nM st') a₀.size) ?step ?fin ?init) ?post)
  case init=>exact⟨0,rfl,hB,by unfold nM;rw[hp];rfl,Ą _,Õ _⟩
  case fin =>
    rintro c st' ⟨lo,rfl,hB',hr,h1,h3⟩;have:lo=a₀.size:=by lia
    subst this;exact⟨rfl,hB',hr⟩
  case step =>
    rintro x c st' _ hx ⟨lo,rfl,hB',hr,h1,h3⟩;dsimp only;by_cases c1:lo >= a₀.size
    · rw[if_pos c1];have:lo=a₀.size:=by lia
      subst this;exact ì ⟨rfl,hB',hr⟩
    rw[if_neg c1];refine ä (Bt hC o g (by lia) (by lia) hB' λm ys r1 m1 m2 u1=>?_);dsimp only;by_cases c2:m<mr
    · rw[if_pos c2];refine ä (QI (Α ⟨rfl,?_⟩));refine ä (yo hC o g (by lia) (by lia) r1.sb u1 λzs sz oz hz=>?_);rw[if_neg (by decide)];have rz:Run Z a₀ st' lo (a₀.size-lo) zs:=⟨sz,λk hk=>(oz k (by lia)).trans (r1.out k hk)⟩
      have ho:=rz.out;have hr2:Runs C (Ď (setArr st' zs)) 0 (nM (setArr st' zs)) lo:=Runs.congr (l:=nM st') hr λk _ h2=>ho k (.inl h2);have push:∀st2:į,SB Z a₀ st2->Runs C (Ď st2) 0 (nM st2) lo->Up C (Ď st2) lo (lo+(min (a₀.size-lo) mr))->(∃lo',((Á,lo+(min (a₀.size-lo) mr)):Option Unit×Nat)=(Á,lo')/\SB Z a₀ (OH st2 ((Ć st2).push (lo,(min (a₀.size-lo) mr),0)))/\Runs C (Ď (OH st2 ((Ć st2).push (lo,(min (a₀.size-lo) mr),0)))) 0 (nM (OH st2 ((Ć st2).push (lo,(min (a₀.size-lo) mr),0)))) lo'/\lo'<=a₀.size/\min (x+1) a₀.size<=lo'):=λst2 hb hr hu=>by refine⟨lo+(min (a₀.size-lo) mr),rfl,⟨hb.perm,hb.kind,hb.failed⟩,?_,by lia,by lia⟩;unfold nM;show Runs C (Ď st2) 0 (((Ć st2).push (lo,(min (a₀.size-lo) mr),0)).toList.map λq=>(q.1,q.2.1)) (lo+(min (a₀.size-lo) mr));rw[Š,î];exact Runs.app.mpr ⟨lo,hr,rfl,by show 0<(min (a₀.size-lo) mr);lia,hu,rfl⟩
      refine ä (OX ?_);cases hb:(Ć (setArr st' zs)).back? with
      |none=>exact ä (Μ (ì (push _ rz.sb hr2 hz)))
      |some q =>
        obtain⟨s1,n1,p1⟩:=q;dsimp only
        refine ä (Φ (ł
          (I:=λy (c:Option Unit×Unit) st2=>c=(Á,())/\SB Z a₀ st2/\Runs C (Ď st2) 0 (nM st2) lo/\Up C (Ď st2) lo (lo+(min (a₀.size-lo) mr)))
          (Q:=λ(c:Option Unit×Unit) st2=>c=(Á,())/\SB Z a₀ st2/\Runs C (Ď st2) 0 (nM st2) lo/\Up C (Ď st2) lo (lo+(min (a₀.size-lo) mr))) ?_ (λ_ _ hh=>hh) ⟨rfl,rz.sb,hr2,hz⟩) ?_)
        · rintro y c st2 _ _ ⟨rfl,hb2,hr3,hu⟩;refine ä (OX ?_);by_cases q1:(Ć st2).size > 1
          · rw[if_pos q1,Þ (show (Ć st2).size-2<(Ć st2).size by lia)];generalize (Ć st2)[(Ć st2).size-2]'(show (Ć st2).size-2<(Ć st2).size by lia)=pq;obtain⟨p1,p2,p3⟩:=pq;dsimp only;split
            · exact ì ⟨rfl,hb2,hr3,hu⟩
            · refine ä (g8 hC o g hb2 hr3 h1 (by lia) λst3 hb3 hr4 ho3 _=>?_);exact ì ⟨rfl,hb3,hr4,hu.congr λk a1 a2=>ho3 k a1⟩
          · rw[if_neg q1];exact ì ⟨rfl,hb2,hr3,hu⟩
        · rintro c st2 ⟨rfl,hb2,hr3,hu⟩;dsimp only;refine ä (Μ (ä (Μ (ì (push _ ⟨hb2.perm,hb2.kind,hb2.failed⟩ ?_ hu)))));show Runs C (Ď st2) 0 (((Ć st2).modify ((Ć st2).size-1) _).toList.map λq=>(q.1,q.2.1)) lo;rw[R7];refine Eq.mpr (congrArg (λl=>Runs C (Ď st2) 0 l lo) (qK _ _ ?_ _ _)) hr3;intro x;rfl
    · rw[if_neg c2];have rz:=r1;have ho:=rz.out;have hz:=u1;generalize ys=zs at *;have hr2:Runs C (Ď (setArr st' zs)) 0 (nM (setArr st' zs)) lo:=Runs.congr (l:=nM st') hr λk _ h2=>ho k (.inl h2);have push:∀st2:į,SB Z a₀ st2->Runs C (Ď st2) 0 (nM st2) lo->Up C (Ď st2) lo (lo+m)->(∃lo',((Á,lo+m):Option Unit×Nat)=(Á,lo')/\SB Z a₀ (OH st2 ((Ć st2).push (lo,m,0)))/\Runs C (Ď (OH st2 ((Ć st2).push (lo,m,0)))) 0 (nM (OH st2 ((Ć st2).push (lo,m,0)))) lo'/\lo'<=a₀.size/\min (x+1) a₀.size<=lo'):=λst2 hb hr hu=>by refine⟨lo+m,rfl,⟨hb.perm,hb.kind,hb.failed⟩,?_,by lia,by lia⟩;unfold nM;show Runs C (Ď st2) 0 (((Ć st2).push (lo,m,0)).toList.map λq=>(q.1,q.2.1)) (lo+m);rw[Š,î];exact Runs.app.mpr ⟨lo,hr,rfl,by show 0<m;lia,hu,rfl⟩
      refine ä (OX ?_);cases hb:(Ć (setArr st' zs)).back? with
      |none=>exact ä (Μ (ì (push _ rz.sb hr2 hz)))
      |some q =>
        obtain⟨s1,n1,p1⟩:=q;dsimp only
        refine ä (Φ (ł
          (I:=λy (c:Option Unit×Unit) st2=>c=(Á,())/\SB Z a₀ st2/\Runs C (Ď st2) 0 (nM st2) lo/\Up C (Ď st2) lo (lo+m))
          (Q:=λ(c:Option Unit×Unit) st2=>c=(Á,())/\SB Z a₀ st2/\Runs C (Ď st2) 0 (nM st2) lo/\Up C (Ď st2) lo (lo+m)) ?_ (λ_ _ hh=>hh) ⟨rfl,rz.sb,hr2,hz⟩) ?_)
        · rintro y c st2 _ _ ⟨rfl,hb2,hr3,hu⟩;refine ä (OX ?_);by_cases q1:(Ć st2).size > 1
          · rw[if_pos q1,Þ (show (Ć st2).size-2<(Ć st2).size by lia)];generalize (Ć st2)[(Ć st2).size-2]'(show (Ć st2).size-2<(Ć st2).size by lia)=pq;obtain⟨p1,p2,p3⟩:=pq;dsimp only;split
            · exact ì ⟨rfl,hb2,hr3,hu⟩
            · refine ä (g8 hC o g hb2 hr3 h1 (by lia) λst3 hb3 hr4 ho3 _=>?_);exact ì ⟨rfl,hb3,hr4,hu.congr λk a1 a2=>ho3 k a1⟩
          · rw[if_neg q1];exact ì ⟨rfl,hb2,hr3,hu⟩
        · rintro c st2 ⟨rfl,hb2,hr3,hu⟩;dsimp only;refine ä (Μ (ä (Μ (ì (push _ ⟨hb2.perm,hb2.kind,hb2.failed⟩ ?_ hu)))));show Runs C (Ď st2) 0 (((Ć st2).modify ((Ć st2).size-1) _).toList.map λq=>(q.1,q.2.1)) lo;rw[R7];refine Eq.mpr (congrArg (λl=>Runs C (Ď st2) 0 l lo) (qK _ _ ?_ _ _)) hr3;intro x;rfl
  case post =>
    rintro c st' ⟨rfl,hB',hr⟩;dsimp only
    refine ä (Φ (ł
      (I:=λx (c:Option Unit×Unit) st2=>c=(Á,())/\SB Z a₀ st2/\Runs C (Ď st2) 0 (nM st2) a₀.size/\(Ć st2).size<=max 1 (a₀.size-x))
      (Q:=λ(c:Option Unit×Unit) st2=>c=(Á,())/\SB Z a₀ st2/\Runs C (Ď st2) 0 (nM st2) a₀.size/\(Ć st2).size<=1) ?_ ?_ ⟨rfl,hB',hr,?_⟩) ?_)
    · rintro x c st2 _ hx ⟨rfl,hb2,hr3,hl⟩;refine ä (OX ?_);by_cases q1:(Ć st2).size<=1
      · rw[if_pos q1];exact ì ⟨rfl,hb2,hr3,q1⟩
      rw[if_neg q1];refine ä (g8 hC o g hb2 hr3 (Õ _) (Hd _ q1) λst3 hb3 hr4 _ hs=>?_);exact ì ⟨rfl,hb3,hr4,by lia⟩
    · rintro c st2 ⟨rfl,hb2,hr3,hl⟩;exact⟨rfl,hb2,hr3,by lia⟩
    · have:=hr.le;unfold nM at this;rw[Ê,ß]at this
      lia
    · rintro c st2 ⟨rfl,hb2,hr3,hl⟩;refine ì (h st2 hb2.perm hb2.failed ?_);cases hq:nM st2 with
      |nil =>
        rw[hq]at hr3;have:0=a₀.size:=hr3
        lia
      |cons q r =>
        have hlen:(nM st2).length=(Ć st2).size:=by unfold nM;rw[Ê,ß]
        rw[hq,Û]at hlen;have hr0:r=[]:=ό (by lia);subst hr0;rw[hq]at hr3;obtain⟨k1,k2,k3,k4⟩:=hr3;have k4:0+q.2=a₀.size:=k4;rw[k4]at k3;exact k3
end
def GI(x:ć):Prop:=∃n t,x.1=.int n t
def CI(x y:ć):Bool:=decide (numOf x.1<numOf y.1)
def Nf:fk CI:=by
 refine⟨λx y h=>?_,λx y z h1 h2=>?_⟩
 ·unfold CI at *;exact decide_eq_false (by lia)
 ·unfold CI at *;exact decide_eq_false (by lia)
section
def NF:dB (model prog w) A E s Ub GI CI:=λ{x y Q st} gx gy hk h=>by obtain⟨a,t,ea⟩:=gx;obtain⟨b,u,eb⟩:=gy;rw[lt'_eq];refine ä (OX ?_);rw[hk,ea,eb];refine ä (QI (ż (oneLt_int ⟨rfl,ì ?_⟩)));unfold CI at h;rw[ea,eb]at h;exact h
def MD(xs:Array ć)(i:Nat):K xs i=numOf (gk xs i).1:=by unfold K gk;cases xs[i]? <;> rfl
def jV(ho:s.heap.get? a=À (û "list" vs.toArray n))
 (hI:Ŧ vs ns) (h64:vs.length<=100000)
 (h:∀(out:Array Ù) (ns':List Int),Ŧ out.toList ns'->ns'.Perm ns->ns'.Pairwise (·<=·)->P (.done (.ret .none)) {s with heap:=Uc s.heap a vs out }) :
 í (model prog w) A (ŭ.«list.sort» ⟨[.ref a],[]⟩) P E s:=by
 rw[Rl];have ha:a<s.heap.objs.size:=Ø ho;refine È (PL ho rfl ?_);refine È (ŝ ho rfl ?_ (hsz:=by rw[ã,ă];lia));obtain⟨e1,ho1⟩:∃e1,(s.heap.update a (ù λ_=>#[])).get? a=À (û "list" #[] e1):=⟨_,Ų ho (λ_=>#[])⟩
 refine È (ύ ho1 rfl ?_);refine È (OZ ?_);refine È (Ž ?_);refine Ċ ?_;have ho6:(((s.heap.update a (ù λ_=>#[])).push (û "tuple" vs.toArray 0)).push (û "list" #[] 0)).get? a=À (û "list" #[] e1):=by rw[O0 _ _ _ (by rw[ų,Ř];exact Ü (ÿ ha)),O0 _ _ _ (by rw[Ř];exact Ü ha)];exact ho1
 show í (model prog w) A _ P E {s with heap:=((s.heap.update a (ù λ_=>#[])).push (û "tuple" vs.toArray 0)).push (û "list" #[] 0) };dsimp only;have hsz:vs.toArray.size=vs.length:=by simp
 have fin:∀st':į,(Ď st').Perm (SY vs)->SortedTo (Ď st') (SY vs).size->P (.done (.ret .none)) {s with heap:=Uc s.heap a vs ((Ď st').map (·.2)) }:=by intro st' hp hs;obtain⟨ns',h1,h2,h3⟩:=sorted_out hI hp hs;exact h _ ns' h1 h2 h3
 by_cases h2:vs.toArray.size<2
 ·rw[if_pos h2,if_pos h2];refine È (Ï ?_);rw[StateT.run_pure];refine È (Ï ?_);dsimp only;refine È (ύ ho6 rfl ?_);refine È (ŝ ho6 rfl ?_ (hsz2:=by rw[Ud];show (SY vs).size<=_;rw[Q5,ă];lia));simp only[bne_self_eq_false,ϓ,if_false];refine Ï (fin (P7 general' (vs.toArray.zip vs.toArray) #[] 7 Á) (Rm _) ?_);intro i j hij hj;have:i=j:=by rw[Q5]at hj;lia
  subst this;exact ř _
 ·rw[if_neg h2,if_neg h2]
  obtain⟨v₁,v₂,rest,rfl⟩:∃v₁ v₂ rest,vs=v₁::v₂::rest:=by
   match vs,hsz,h2 with
   |[],_,h2=>simp at h2
   |[_],_,h2=>simp at h2
   |v₁::v₂::rest,_,_=>exact⟨v₁,v₂,rest,rfl⟩
  rw[keyKind_ints hI];refine È (Ï ?_)
  refine È (ħ (wq (Z:=Ub) (G:=GI) (C:=CI) (a₀:=SY (v₁::v₂::rest)) (st:=P7 Ub ((v₁::v₂::rest).toArray.zip (v₁::v₂::rest).toArray) #[] 7 Á)
   (Q:=λ_ st'=>(Ď st').Perm (SY (v₁::v₂::rest))/\OT st'=Á/\SortedTo (Ď st') (SY (v₁::v₂::rest)).size)
   NF Nf hI.intKeys ⟨Rm _,rfl,rfl⟩ rfl (by rw[Q5];simp) λst' a1 a2 a3=>⟨a1,a2,λi j hij hj=>?_⟩) ?_ λ_ _ e=>e)
  ·have:=a3 i j (Ą _) hij hj;unfold Le CI at this;have:=of_decide_eq_false this;rw[MD,MD];exact Qa.1 this
  rintro⟨⟨⟩,st'⟩ s' ⟨rfl,hp,hf,hs⟩;dsimp only;refine È (ύ ho6 rfl (È (ŝ ho6 rfl ?_ (hsz2:=by refine ø (ŕ ((Ud ..).trans (hp.size_eq.trans (Q5 _)))) ?_;rw[ă];lia))));rw[hf];simp;exact Ï (fin st' hp hs)
end
end Tm
namespace VL
open PySem L2
section
open Classical
inductive D where
 |non |bl (b:Bool) |int (i:Int) |str (x:ĺ) |ty (n:String)
 |lst (xs:List D) |tup (xs:List D) |ins (C:Ý) |scr (ns:List Int) |dct (kvs:List (Int×Int)) |dsk (C:Ý) (ks:List ĺ) (ds:List D)
def lG(p:Int×Int):Key×V:=(.inl p.1,.int p.2)
abbrev No:Ý->Prop:=λ_=>False
def KL(K:Í)(a:Ý)(xs:List V):Prop :=
 ∃(o:ϯ) (its:Array Ù) (n:Nat),K.lookup a=À o/\o.cls=.type "list" /\ o.dict=Á/\o.data=.seq its n/\its.size<=Î/\Vals xs its.toList
mutual
inductive Is(K:Í)(H:Hp)(Z:Ý->Prop):V->D->Prop
 |non:Is K H Z .non .non
 |bl (b:Bool):Is K H Z (.bl b) (.bl b)
 |int (i:Int):Is K H Z (.int i) (.int i)
 |str (x:ĺ):Is K H Z (.str x) (.str x)
 |ty (n:String):Is K H Z (.ty n) (.ty n)
 |lst {a:Ý} {vs:List V} {ds:List D} (hz:¬Z a) (h:Rd H a (.lst vs)) (hl:vs.length<=Î) (r:IsL K H Z vs ds):Is K H Z (.ref a) (.lst ds)
 |tup {a:Ý} {vs:List V} {ds:List D} (hz:¬Z a) (h:H a=À (.tup vs)) (hl:vs.length<=Î) (r:IsL K H Z vs ds):Is K H Z (.ref a) (.tup ds)
 |ins {a C dx:Ý} (hz:¬Z a) (h:H a=À (.ins C dx [])):Is K H Z (.ref a) (.ins C)
 |dct {a:Ý} {kvs:List (Int×Int)} (hz:¬Z a) (h:Rd H a (.dK (kvs.map lG))) (hl:kvs.length<=Î):Is K H Z (.ref a) (.dct kvs)
 |dsk {a C dx p:Ý} {kvs:List (Key×V)} {ks:List ĺ} {ds:List D} (hz:¬Z a) (hy:¬Z p) (h:H a=À (.ins C dx [("floors", .ref p)])) (hp:H p=À (.dK kvs)) (hk:kvs.map (·.1)=ks.map QU) (hl:kvs.length<=1000) (r:IsL K H Z (kvs.map (·.2)) ds):Is K H Z (.ref a) (.dsk C ks ds)
 |scr {a:Ý} {ns:List Int} (hz:¬Z a) (h:Rd H a (.lst (ns.map V.int))) (hl:ns.length<=Î):Is K H Z (.ref a) (.scr ns)
 |scrK {a:Ý} {ns:List Int} (h:KL K a (ns.map V.int)) (hl:ns.length<=Î):Is K H Z (.ref a) (.scr ns)
inductive IsL(K:Í)(H:Hp)(Z:Ý->Prop):List V->List D->Prop
 |nil:IsL K H Z [] []
 |cons {v:V} {d:D} {vs:List V} {ds:List D} (h:Is K H Z v d) (r:IsL K H Z vs ds):IsL K H Z (v::vs) (d::ds)
end
def Kp(Z:Ý->Prop)(H:Hp)(Z':Ý->Prop)(H':Hp):Prop:=∀a o,H a=À o->¬Z a->H' a=À o/\¬Z' a
def Kp.refl:Kp Z H Z H:=λ_ _ h z=>⟨h,z⟩
def Kp.trans{Z Z1 Z2:Ý->Prop}{H H1 H2:Hp}(a:Kp Z H Z1 H1)(b:Kp Z1 H1 Z2 H2):Kp Z H Z2 H2:=λc o h z=>b c o (a c o h z).1 (a c o h z).2
def Kp.same(s:aH H H'):Kp Z H Z H':=λ_ _ h z=>⟨s _ _ h,z⟩
def Kp.less(h:∀a,Z' a->Z a):Kp Z H Z' H:=λa _ e z=>⟨e,λq=>z (h a q)⟩
def Rd.kp(k:Kp Z H Z' H')(hz:¬Z a)(h:Rd H a u):Rd H' a u/\¬Z' a:=by
 rcases h with h |⟨o,h⟩
 ·exact⟨.inl (k _ _ h hz).1,(k _ _ h hz).2⟩
 ·exact⟨.inr ⟨o,(k _ _ h hz).1⟩,(k _ _ h hz).2⟩
theorem Is.kp(k:Kp Z H Z' H')(h:Is K H Z v d):Is K H' Z' v d :=
 Is.rec .non .bl .int .str .ty (λhz h hl _ r=>.lst (Rd.kp k hz h).2 (Rd.kp k hz h).1 hl r) (λhz h hl _ r=>.tup (k _ _ h hz).2 (k _ _ h hz).1 hl r) (λhz h=>.ins (k _ _ h hz).2 (k _ _ h hz).1) (λhz h hl=>.dct (Rd.kp k hz h).2 (Rd.kp k hz h).1 hl)
  (λhz hy h hp hk hl _ r=>.dsk (k _ _ h hz).2 (k _ _ hp hy).2 (k _ _ h hz).1 (k _ _ hp hy).1 hk hl r) (λhz h hl=>.scr (Rd.kp k hz h).2 (Rd.kp k hz h).1 hl) (λh hl=>.scrK h hl) .nil (λ_ _ a b=>.cons a b) h
theorem IsL.kp(k:Kp Z H Z' H')(h:IsL K H Z v d):IsL K H' Z' v d:=by
 induction v generalizing d with
 |nil=>cases h;exact .nil
 |cons v vs ih=>cases h with |cons a r=>exact .cons (a.kp k) (ih r)
theorem Is.same(h:Is K H Z v d)(s:aH H H'):Is K H' Z v d:=h.kp (Kp.same s)
theorem IsL.same(h:IsL K H Z v d)(s:aH H H'):IsL K H' Z v d:=h.kp (Kp.same s)
def Is.all(h:Is K H Z v d):Is K H No v d:=h.kp (Kp.less λ_ z=>z.elim)
def IsL.all(h:IsL K H Z v d):IsL K H No v d:=h.kp (Kp.less λ_ z=>z.elim)
def D.lh:D->Bool
 |.lst _=>Ã
 |.tup _=>Ã
 |.ins _=>Ã
 |.scr _=>Ã
 |.dct _=>Ã
 |.dsk _ _ _=>Ã
 |_=>Â
theorem Is.lh(h:Is K H Z v d)(e:d.lh=Â):Is K H' Z' v d:=by
 cases h with
 |non=>exact .non
 |bl b=>exact .bl b
 |int b=>exact .int b
 |str b=>exact .str b
 |ty b=>exact .ty b
 |lst _ _ _ _=>cases e
 |tup _ _ _ _=>cases e
 |ins _ _=>cases e
 |dct _ _ _=>cases e
 |dsk _ _ _ _ _ _ _=>cases e
 |scr _ _ _=>cases e
 |scrK _ _=>cases e
section
def IsL.paired(h:IsL K H Z vs ds):Ł (Is K H Z) vs ds:=by
 induction vs generalizing ds with
 |nil=>cases h;exact .nil
 |cons v vs ih=>cases h with |cons a r=>exact .cons a (ih r)
def IsL.of(h:Ł (Is K H Z) vs ds):IsL K H Z vs ds:=by
 induction h with
 |nil=>exact .nil
 |cons a _ ih=>exact .cons a ih
theorem IsL.length(h:IsL K H Z vs ds):vs.length=ds.length:=ň h.paired
def IsL.get{i:Nat}(h:IsL K H Z vs ds)(e:ds[i]?=À d):∃v,vs[i]?=À v/\Is K H Z v d:=by
 induction vs generalizing ds i with
 |nil=>cases h;cases e
 |cons v vs ih =>
  cases h with
  |cons a r =>
   cases i with
   |zero=>simp_all
   |succ i=>exact ih r e
theorem IsL.append(a:IsL K H Z vs ds)(b:IsL K H Z us es):IsL K H Z (vs++us) (ds++es):=.of (Paired.append a.paired b.paired)
theorem IsL.take(n:Nat)(a:IsL K H Z vs ds):IsL K H Z (vs.take n) (ds.take n):=.of (Paired.take n a.paired)
theorem IsL.drop(n:Nat)(a:IsL K H Z vs ds):IsL K H Z (vs.drop n) (ds.drop n):=.of (Paired.drop n a.paired)
theorem IsL.set(q:Is K H Z v d)(n:Nat)(h:IsL K H Z vs ds):IsL K H Z (vs.set n v) (ds.set n d):=by
 induction vs generalizing ds n with
 |nil=>cases h;exact .nil
 |cons x vs ih =>
  cases h with
  |cons a r =>
   cases n with
   |zero=>exact .cons q r
   |succ n=>exact .cons a (ih n r)
def IsL.one{H:Hp}{Z:Ý->Prop}{v:V}{d:D}(q:Is K H Z v d):IsL K H Z [v] [d]:=.cons q .nil
def IsL.ints{ns:List Int}(h:IsL K H Z vs (ns.map D.int)):vs=ns.map V.int:=by
 induction ns generalizing vs with
 |nil=>cases h;rfl
 |cons n ns ih =>
  cases h with
  |cons a r =>cases a;rw[ih r];rfl
theorem IsL.ofInts:∀(ns:List Int),IsL K H Z (ns.map V.int) (ns.map D.int)
 |[]=>.nil
 |n::ns=>.cons (.int n) (IsL.ofInts ns)
end
inductive Sl where
 |un |pu (d:D) |bo (d:D) |ol (ds:List D) |om (rows:List (List D)) |od (kvs:List (Int×Int))
 |pm (a:Ý) (ps:List Ý) (rows:List (List D)) |pd (a:Ý) (kvs:List (Int×Int))
 |dk (C:Ý) (ks:List ĺ) (ds:List D) |pk (x dx p C:Ý) (ks:List ĺ) (ds:List D) |bk (C:Ý) (ks:List ĺ) (ds:List D)
abbrev aW:=List Sl
abbrev Own:=Nat->List Ý
def bD(Z:Ý->Prop)(os:Own):Ý->Prop:=λa=>Z a\/∃i,a∈os i
noncomputable def Gj(K:Í)(H:Hp)(T:Ý->Prop)(x dx p C:Ý)(ks:List ĺ)(ds:List D):Prop :=
 H x=À (.ins C dx [("floors", .ref p)])/\H dx=À (.own x)/\∃kvs,H p=À (.dK kvs)/\kvs.map (·.1)=ks.map QU/\kvs.length<=1000/\IsL K H T (kvs.map (·.2)) ds
def Gj.is(h:Gj K H T x dx p C ks ds):Is K H No (.ref x) (.dsk C ks ds):=by obtain⟨h1,_,kvs,h2,h3,h4,h5⟩:=h;exact .dsk (λz=>z) (λz=>z) h1 h2 h3 h4 h5.all
theorem Gj.kp(h:Gj K H T x dx p C ks ds)(k:Kp T H T' H')(ho:∀a∈[x,dx,p],∀u,H a=À u->H' a=À u):Gj K H' T' x dx p C ks ds:=by obtain⟨h1,h0,kvs,h2,h3,h4,h5⟩:=h;exact⟨ho _ (by simp) _ h1,ho _ (by simp) _ h0,kvs,ho _ (by simp) _ h2,h3,h4,h5.kp k⟩
def Gj.pH(h:Gj K H T x dx p C ks ds)(ha:a∈[x,dx,p]):∃u,H a=À u:=by
 obtain⟨h1,h0,kvs,h2,_⟩:=h;simp only[Ú,Ĥ,or_false]at ha;rcases ha with rfl |rfl |rfl
 ·exact⟨_,h1⟩
 ·exact⟨_,h0⟩
 ·exact⟨_,h2⟩
noncomputable def Ly(K:Í)(B H:Hp)(T:Ý->Prop)(x dx p C:Ý)(ks:List ĺ)(ds:List D):Prop :=
 B x=À (.ins C dx [("floors", .ref p)])/\B dx=À (.own x)/\∃kvs,B p=À (.dK kvs)/\kvs.map (·.1)=ks.map QU/\kvs.length<=1000/\IsL K H T (kvs.map (·.2)) ds
theorem Ly.h(h:Ly K B H T x dx p C ks ds)(s:aH B H):Gj K H T x dx p C ks ds:=by obtain⟨h1,h0,kvs,h2,h3,h4,h5⟩:=h;exact⟨s _ _ h1,s _ _ h0,kvs,s _ _ h2,h3,h4,h5⟩
theorem Ly.kp(h:Ly K B H T x dx p C ks ds)(k:Kp T H T' H')(s:aH B B'):Ly K B' H' T' x dx p C ks ds:=by obtain⟨h1,h0,kvs,h2,h3,h4,h5⟩:=h;exact⟨s _ _ h1,s _ _ h0,kvs,s _ _ h2,h3,h4,h5.kp k⟩
noncomputable def sS(K:Í)(B H:Hp)(T:Ý->Prop)(o:List Ý):Sl->Option V->Prop
 |.un,_=>o=[]
 |.pu d,v=>o=[]/\∃u,v=À u/\Is K H T u d
 |.bo d,v=>o=[]/\∃u,v=À u/\Is K B No u d
 |.ol ds,v=>∃a vs,o=[a]/\v=À (.ref a)/\H a=À (.lst vs)/\vs.length<=Î/\IsL K H T vs ds
 |.om rows,v=>∃a ps,o=a::ps/\v=À (.ref a)/\H a=À (.lst (ps.map V.ref))/\ps.length<=Î/\Ł (λp ds=>∃vs,H p=À (.lst vs)/\vs.length<=Î/\IsL K H T vs ds) ps rows
 |.od kvs,v=>∃a,o=[a]/\v=À (.ref a)/\H a=À (.dK (kvs.map lG))/\kvs.length<=Î
 |.pm a ps rows,v=>o=a::ps/\v=À (.ref a)/\H a=À (.lst (ps.map V.ref))/\ps.length<=Î/\Ł (λp ds=>∃vs,H p=À (.lst vs)/\vs.length<=Î/\IsL K H T vs ds) ps rows
 |.pd a kvs,v=>o=[a]/\v=À (.ref a)/\H a=À (.dK (kvs.map lG))/\kvs.length<=Î
 |.dk C ks ds,v=>∃x dx p,o=[x,dx,p]/\v=À (.ref x)/\Gj K H T x dx p C ks ds
 |.pk x dx p C ks ds,v=>o=[x,dx,p]/\v=À (.ref x)/\Gj K H T x dx p C ks ds
 |.bk C ks ds,v=>o=[]/\∃x dx p,v=À (.ref x)/\Ly K B H T x dx p C ks ds
class aV where
 ts:List (Ý×ĺ)
def rE[aV](H:Hp):Prop:=∀p∈aV.ts,∃t,H p.1=À (.tbl #[.str p.2 t])
def rE.same[aV](h:rE H)(s:aH H H'):rE H':=λp hp=>let ⟨t,e⟩:=h p hp;⟨t,s _ _ e⟩
def ZT[aV](Z:Ý->Prop)(H:Hp):Prop:=(∀a,Z a->∃o,H a=À o)/\rE H
structure Fr[aV](K:Í)(B:Hp)(Z:Ý->Prop)(os:Own)(O:aW)(Y:St)(H:Hp):Prop where
 keep:aH B H
 C6:∀a,Z a->∃o,H a=À o
 len:Y.length=O.length
 nd:∀i,(os i).Nodup
 dj:∀i j a,a∈os i->a∈os j->i=j
 new:∀i a,a∈os i->B a=Á/\¬Z a
 sl:∀i,sS K B H (bD Z os) (os i) (O.getD i .un) ((Y[i]?).join)
 tab:rE B
variable[aV]
def Fr.lY{os:Own}(f:Fr K B Z os O Y H):rE H:=f.tab.same f.keep
def Paired.any(p:Ł F as bs)(h:a∈as):∃b,F a b:=by
 induction p with
 |nil=>cases h
 |cons r _ ih =>
  rcases Ú.mp h with rfl |h
  ·exact⟨_,r⟩
  ·exact ih h
theorem sS.pH(h:sS K B H T o s v)(ha:a∈o):∃u,H a=À u:=by
 cases s with
 |un=>cases h;cases ha
 |pu d=>obtain⟨rfl,_⟩:=h;cases ha
 |bo d=>obtain⟨rfl,_⟩:=h;cases ha
 |ol ds =>obtain⟨b,vs,rfl,_,e,_⟩:=h;cases Ð.mp ha;exact⟨_,e⟩
 |om rows =>
  obtain⟨b,ps,rfl,_,e,_,r⟩:=h;rcases Ú.mp ha with rfl |ha
  ·exact⟨_,e⟩
  ·obtain⟨_,vs,q,_⟩:=Paired.any r ha;exact⟨_,q⟩
 |od kvs =>obtain⟨b,rfl,_,e,_⟩:=h;cases Ð.mp ha;exact⟨_,e⟩
 |pm b ps rows =>
  obtain⟨rfl,_,e,_,r⟩:=h;rcases Ú.mp ha with rfl |ha
  ·exact⟨_,e⟩
  ·obtain⟨_,vs,q,_⟩:=Paired.any r ha;exact⟨_,q⟩
 |pd b kvs =>obtain⟨rfl,_,e,_⟩:=h;cases Ð.mp ha;exact⟨_,e⟩
 |dk C ks ds=>obtain⟨x,dx,p,rfl,_,q⟩:=h;exact q.pH ha
 |pk x dx p C ks ds=>obtain⟨rfl,_,q⟩:=h;exact q.pH ha
 |bk C ks ds=>obtain⟨rfl,_⟩:=h;cases ha
theorem sS.kp(h:sS K B H T o s v)(k:Kp T H T' H')(hb:aH B B')(ho:∀a∈o,∀u,H a=À u->H' a=À u):sS K B' H' T' o s v:=by
 cases s with
 |un=>exact h
 |pu d=>obtain⟨e,u,e2,i⟩:=h;exact⟨e,u,e2,i.kp k⟩
 |bo d=>obtain⟨e,u,e2,i⟩:=h;exact⟨e,u,e2,i.same hb⟩
 |ol ds=>obtain⟨a,vs,rfl,e2,e3,hl,i⟩:=h;exact⟨a,vs,rfl,e2,ho _ (Ð.mpr rfl) _ e3,hl,i.kp k⟩
 |om rows =>obtain⟨a,ps,rfl,e2,e3,hl,i⟩:=h;exact⟨a,ps,rfl,e2,ho _ Ò _ e3,hl,Paired.mono i λp ds hp ⟨vs,q,hv,j⟩=>⟨vs,ho _ (Ñ _ hp) _ q,hv,j.kp k⟩⟩
 |od kvs=>obtain⟨a,rfl,e2,e3,hl⟩:=h;exact⟨a,rfl,e2,ho _ (Ð.mpr rfl) _ e3,hl⟩
 |pm a ps rows =>obtain⟨rfl,e2,e3,hl,i⟩:=h;exact⟨rfl,e2,ho _ Ò _ e3,hl,Paired.mono i λp ds hp ⟨vs,q,hv,j⟩=>⟨vs,ho _ (Ñ _ hp) _ q,hv,j.kp k⟩⟩
 |pd a kvs=>obtain⟨rfl,e2,e3,hl⟩:=h;exact⟨rfl,e2,ho _ (Ð.mpr rfl) _ e3,hl⟩
 |dk C ks ds=>obtain⟨x,dx,p,rfl,e2,q⟩:=h;exact⟨x,dx,p,rfl,e2,q.kp k ho⟩
 |pk x dx p C ks ds=>obtain⟨rfl,e2,q⟩:=h;exact⟨rfl,e2,q.kp k ho⟩
 |bk C ks ds=>obtain⟨e,x,dx,p,e2,q⟩:=h;exact⟨e,x,dx,p,e2,q.kp k hb⟩
section
def Fr.grow{os:Own}(f:Fr K B Z os O Y H)(s:aH H H'):Fr K B Z os O Y H' where
 keep:=f.keep.trans s
 C6:=λa z=>let ⟨o,e⟩:=f.C6 a z;⟨o,s _ _ e⟩
 len:=f.len
 nd:=f.nd
 dj:=f.dj
 new:=f.new
 sl:=λi=>(f.sl i).kp (Kp.same s) (aH.refl _) λa _ u e=>s _ _ e
 tab:=f.tab
def Fr.out{os:Own}(f:Fr K B Z os O Y H)(hp:H p=Á):¬bD Z os p:=by
 rintro(z |⟨i,z⟩)
 ·obtain⟨o,e⟩:=f.C6 p z;rw[hp]at e;cases e
 ·obtain⟨xs,e⟩:=(f.sl i).pH z;rw[hp]at e;cases e
def h9(os:Own)(i:Nat)(o:List Ý):Own:=λj=>if j=i then o else os j
def aX{os:Own}:h9 os i o i=o:=if_pos rfl
def bM{os:Own}(h:j≠i):h9 os i o j=os j:=if_neg h
def cO{l:List α}{x d:α}(h:i<l.length):(l.set i x).getD i d=x:=by simp_all
def gU{l:List α}{x d:α}(h:j≠i):(l.set i x).getD j d=l.getD j d:=by rw[Ë,Ļ (ĩ h),<- Ë]
def Fr.step{B H H':Hp}{Z:Ý->Prop}{os:Own}{O:aW}{Y:St}(f:Fr K B Z os O Y H){i:Nat}(hi:i < O.length){o:List Ý}{s:Sl}{v:Option V}
 (hk:∀a u,H a=À u->a∉os i->H' a=À u) (hs:∀a,a∈os i->∃u,H' a=À u) (hn:o.Nodup) (ho:∀a∈o,a∈os i\/H a=Á) (ok:sS K B H' (bD Z (h9 os i o)) o s v) :
 Fr K B Z (h9 os i o) (O.set i s) (Y.set i v) H'/\Kp (bD Z os) H (bD Z (h9 os i o)) H':=by
 have no:∀a u,H a=À u->a∉os i->a∉o:=λa u e n q=>by
  rcases ho a q with z |z
  ·exact n z
  ·rw[z]at e;cases e
 have kp:Kp (bD Z os) H (bD Z (h9 os i o)) H':=λa u e t=>by
  have ni:=λq=>t (.inr ⟨i,q⟩);refine⟨hk a u e ni,?_⟩;rintro(z |⟨j,z⟩)
  ·exact t (.inl z)
  ·by_cases hj:j=i
   ·subst hj;rw[aX]at z;exact no a u e ni z
   ·rw[bM hj]at z;exact t (.inr ⟨j,z⟩)
 refine⟨⟨λa u e=>hk a u (f.keep a u e) λq=>?_,λa z=>?_,?_,λj=>?_,λj k a h1 h2=>?_,λj a h=>?_,λj=>?_,f.tab⟩,kp⟩
 ·have:=(f.new i a q).1;rw[e]at this;cases this
 ·obtain⟨u,e⟩:=f.C6 a z;exact⟨u,hk a u e λq=>(f.new i a q).2 z⟩
 ·rw[Ħ,Ħ];exact f.len
 ·by_cases hj:j=i
  ·subst hj;rw[aX];exact hn
  ·rw[bM hj];exact f.nd j
 ·have pH:∀k,a∈os k->∃u,H a=À u:=λk z=>let ⟨xs,e⟩:=(f.sl k).pH z;⟨_,e⟩
  by_cases hj:j=i
  ·by_cases hk':k=i
   ·rw[hj,hk']
   ·subst hj;rw[aX]at h1;rw[bM hk']at h2;rcases ho a h1 with z |z
    ·exact f.dj _ _ a z h2
    ·obtain⟨u,e⟩:=pH k h2;rw[z]at e;cases e
  ·by_cases hk':k=i
   ·subst hk';rw[bM hj]at h1;rw[aX]at h2;rcases ho a h2 with z |z
    ·exact f.dj _ _ a h1 z
    ·obtain⟨u,e⟩:=pH j h1;rw[z]at e;cases e
   ·rw[bM hj]at h1;rw[bM hk']at h2;exact f.dj _ _ a h1 h2
 ·by_cases hj:j=i
  ·subst hj;rw[aX]at h;rcases ho a h with z |z
   ·exact f.new _ a z
   ·exact⟨aH.free f.keep z,λq=>f.out z (.inl q)⟩
  ·rw[bM hj]at h;exact f.new j a h
 ·by_cases hj:j=i
  ·subst hj;rw[aX,cO hi,ļ (by rw[f.len];exact hi)];exact ok
  ·rw[bM hj,gU hj,Ļ (ĩ hj)];exact(f.sl j).kp kp (aH.refl _) λa ha u e=>hk a u e λq=>hj (f.dj _ _ a ha q)
def Fr.put{os:Own}(f:Fr K B Z os O Y H)(hi:i < O.length)(h:Is K H (bD Z os) v d) :
 Fr K B Z (h9 os i []) (O.set i (.pu d)) (Y.set i (À v)) H/\Kp (bD Z os) H (bD Z (h9 os i [])) H:=by
 refine f.step hi (λa u e _=>e) (λa ha=>let ⟨xs,e⟩:=(f.sl i).pH ha;⟨_,e⟩) ī (λa h=>by cases h) ⟨rfl,v,rfl,h.kp (Kp.less ?_)⟩;rintro a (z |⟨j,z⟩)
 ·exact .inl z
 ·by_cases hj:j=i
  ·subst hj;rw[aX]at z;cases z
  ·rw[bM hj]at z;exact .inr ⟨j,z⟩
end
end
section
open Classical
section
abbrev DE:=aW->Option D
section
variable[aV]
def SemB(K:Í)(t:TE)(e:DE):Prop:=∀{B:Hp} {Z:Ý->Prop} {os:Own} {O:aW} {Y:L2.St} {H:Hp} {Q:VK} {d:D},Fr K B Z os O Y H->e O=À d->(∀v H',aH H H'->Is K H' No v d->Q v H')->t Y H Q
def aN(K:Í)(t:TE)(e:DE):Prop:=∀{B:Hp} {Z:Ý->Prop} {os:Own} {O:aW} {Y:L2.St} {H:Hp} {Q:VK} {d:D},Fr K B Z os O Y H->e O=À d->(∀v H',aH H H'->Is K H' (bD Z os) v d->Q v H')->t Y H Q
noncomputable def cZ(K:Í)(t:TE)(e:aW->Option (List D)):Prop:=∀{B:Hp} {Z:Ý->Prop} {os:Own} {O:aW} {Y:L2.St} {H:Hp} {Q:VK} {ds:List D},Fr K B Z os O Y H->e O=À ds ->
 (∀p vs H',aH H H'->H p=Á->H' p=À (.lst vs)->vs.length<=Î->IsL K H' (λa=>a=p\/bD Z os a) vs ds->Q (.ref p) H')->t Y H Q
def jI(K:Í)(t:TT)(e:aW->Option Bool):Prop:=∀{B:Hp} {Z:Ý->Prop} {os:Own} {O:aW} {Y:L2.St} {H:Hp} {Q:Bool->Hp->Prop} {b:Bool},Fr K B Z os O Y H->e O=À b->(∀H',aH H H'->Q b H')->t Y H Q
inductive Args(K:Í)(H:Hp)(T:Ý->Prop):List Bool->List V->List D->Prop
 |nil:Args K H T [] [] []
 |own {ms:List Bool} {v:V} {d:D} {vs:List V} {ds:List D}:Is K H T v d->Args K H T ms vs ds->Args K H T (true::ms) (v::vs) (d::ds)
 |any {ms:List Bool} {v:V} {d:D} {vs:List V} {ds:List D}:Is K H No v d->Args K H T ms vs ds->Args K H T (false::ms) (v::vs) (d::ds)
noncomputable def rH(K:Í)(ms:List Bool)(t:TA)(e:aW->Option (List D)):Prop:=∀{B:Hp} {Z:Ý->Prop} {os:Own} {O:aW} {Y:L2.St} {H:Hp} {Q:List V->Hp->Prop} {ds:List D},Fr K B Z os O Y H->e O=À ds->(∀vs H',aH H H'->Args K H' (bD Z os) ms vs ds->Q vs H')->t Y H Q
def Args.len(a:Args K H T ms vs ds):vs.length=ms.length/\ds.length=ms.length:=by
 induction a with
 |nil=>exact⟨rfl,rfl⟩
 |own h _ ih=>simp[ih.1,ih.2]
 |any h _ ih=>simp[ih.1,ih.2]
theorem Args.Ko:∀{n:Nat} {vs:List V} {ds:List D},Args K H T (æ n Â) vs ds->IsL K H T vs ds
 | 0,_,_,.nil=>.nil
 |_+1,_,_,.own h r=>.cons h r.Ko
def aN.b(h:aN K t e):SemB K t e:=λf q k=>h f q λv H' s i=>k v H' s i.all
theorem cZ.i(h:cZ K t e):aN K t (λO=>(e O).map D.lst):=λ{B Z os O Y H Q d} f q k=>by
 dsimp only at q;cases q1:e O with
 |none=>rw[q1]at q;cases q
 |some ds =>rw[q1]at q;cases q;refine h f q1 λp vs H' s hp hp' hl i=>k _ _ s (.lst (f.out hp) (.inl hp') hl (i.kp (Kp.less λa z=>.inr z)))
def Kq:D->Option (List D)
 |.lst ds=>À ds
 |.scr ns=>À (ns.map D.int)
 |_=>Á
def Is.seq(h:Is K H Z v d)(e:Kq d=À ds):∃p vs,v=.ref p/\vs.length<=Î/\vs.length=ds.length/\∀H' Z',Kp Z H Z' H'->cE K H' p vs/\IsL K H' Z' vs ds:=by
 cases h with
 |lst hz h hl r=>cases e;exact⟨_,_,rfl,hl,r.length,λH' Z' k=>⟨.inl (Rd.kp k hz h).1,r.kp k⟩⟩
 |scr hz h hl=>cases e;exact⟨_,_,rfl,by simp_all,by simp,λH' Z' k=>⟨.inl (Rd.kp k hz h).1,.ofInts _⟩⟩
 |scrK h hl=>cases e;exact⟨_,_,rfl,by simp_all,by simp,λH' Z' k=>⟨.inr h,.ofInts _⟩⟩
 |_=>cases e
def gScal(e:DE):DE:=λO=>match e O with
 |some d=>if d.lh=Â then À d else Á
 |none=>Á
theorem SemB.i(h:SemB K t e):aN K t (gScal e):=λ{B Z os O Y H Q d} f q k=>by
 unfold gScal at q;cases q1:e O with
 |none=>rw[q1]at q;cases q
 |some d' =>
  rw[q1]at q;have q':(if d'.lh=Â then À d' else Á)=À d:=q;by_cases c:d'.lh=Â
  ·rw[if_pos c]at q';cases q';exact h f q1 λv H' s i=>k v H' s (i.lh c)
  ·simp_all
noncomputable def dVar(i:Nat):DE:=λO=>match O.getD i .un with
 |.pu d=>À d
 |.bo d=>À d
 |.ol ds=>À (.lst ds)
 |.om rows=>À (.lst (rows.map D.lst))
 |.od kvs=>À (.dct kvs)
 |.pm _ _ rows=>À (.lst (rows.map D.lst))
 |.pd _ kvs=>À (.dct kvs)
 |.dk C ks ds=>À (.dsk C ks ds)
 |.pk _ _ _ C ks ds=>À (.dsk C ks ds)
 |.bk C ks ds=>À (.dsk C ks ds)
 |.un=>Á
def dVarI(i:Nat):DE:=λO=>match O.getD i .un with
 |.pu d=>À d
 |_=>Á
omit [aV] in
theorem join_some{α:Type}{o:Option (Option α)}{u:α}(h:o.join=À u):o=À (À u):=by
 cases o with
 |none=>cases h
 |some x=>rw[show x=À u from h]
def gL(h:Ł (λp ds=>∃vs,H p=À (.lst vs)/\vs.length<=Î/\IsL K H T vs ds) ps rows):IsL K H No (ps.map V.ref) (rows.map D.lst):=by
 induction h with
 |nil=>exact .nil
 |cons a _ ih =>obtain⟨vs,e,hl,i⟩:=a;exact .cons (.lst (λz=>z) (.inl e) hl i.all) ih
def bG(i:Nat):SemB K (tVar i) (dVar i):=λ{B Z os O Y H Q d} f q k=>by
 have s:=f.sl i;unfold dVar at q;cases e:O.getD i .un with
 |un=>rw[e]at q;cases q
 |pu d' =>rw[e]at q s;cases q;obtain⟨_,u,hu,i⟩:=s;exact⟨u,join_some hu,k u H (aH.refl _) i.all⟩
 |bo d' =>rw[e]at q s;cases q;obtain⟨_,u,hu,i⟩:=s;exact⟨u,join_some hu,k u H (aH.refl _) (i.same f.keep)⟩
 |ol ds =>rw[e]at q s;cases q;obtain⟨a,vs,_,hu,hH,hl,i⟩:=s;exact⟨_,join_some hu,k _ H (aH.refl _) (.lst (λz=>z) (.inl hH) hl i.all)⟩
 |om rows =>rw[e]at q s;cases q;obtain⟨a,ps,_,hu,hH,hl,i⟩:=s;exact⟨_,join_some hu,k _ H (aH.refl _) (.lst (λz=>z) (.inl hH) (by simp_all) (gL i))⟩
 |od kvs =>rw[e]at q s;cases q;obtain⟨a,_,hu,hH,hl⟩:=s;exact⟨_,join_some hu,k _ H (aH.refl _) (.dct (λz=>z) (.inl hH) hl)⟩
 |pm a ps rows =>rw[e]at q s;cases q;obtain⟨_,hu,hH,hl,i⟩:=s;exact⟨_,join_some hu,k _ H (aH.refl _) (.lst (λz=>z) (.inl hH) (by simp_all) (gL i))⟩
 |pd a kvs =>rw[e]at q s;cases q;obtain⟨_,hu,hH,hl⟩:=s;exact⟨_,join_some hu,k _ H (aH.refl _) (.dct (λz=>z) (.inl hH) hl)⟩
 |dk C ks ds =>rw[e]at q s;cases q;obtain⟨x,dx,p,_,hu,h⟩:=s;exact⟨_,join_some hu,k _ H (aH.refl _) h.is⟩
 |pk x dx p C ks ds =>rw[e]at q s;cases q;obtain⟨_,hu,h⟩:=s;exact⟨_,join_some hu,k _ H (aH.refl _) h.is⟩
 |bk C ks ds =>rw[e]at q s;cases q;obtain⟨_,x,dx,p,hu,h⟩:=s;exact⟨_,join_some hu,k _ H (aH.refl _) (h.h f.keep).is⟩
def cI(i:Nat):aN K (tVar i) (dVarI i):=λ{B Z os O Y H Q d} f q k=>by
 have s:=f.sl i;unfold dVarI at q;cases e:O.getD i .un with
 |pu d' =>rw[e]at q s;cases q;obtain⟨_,u,hu,i⟩:=s;exact⟨u,join_some hu,k u H (aH.refl _) i⟩
 |_=>rw[e]at q;cases q
def dC(d:D):DE:=λ_=>À d
def fV:aN K (tC (.int i)) (dC (.int i)):=λf q k=>by cases q;exact k _ _ (aH.refl _) (.int i)
def jP:aN K (tC (.bl i)) (dC (.bl i)):=λf q k=>by cases q;exact k _ _ (aH.refl _) (.bl i)
def yF:aN K (tC .non) (dC .non):=λf q k=>by cases q;exact k _ _ (aH.refl _) .non
def nc(f:Int->Int->Option D)(a b:DE):DE:=λO=>match a O with
 |some (.int i)=>(match b O with
  |some (.int j)=>f i j
  |_=>Á)
 |_=>Á
def mJ(h:nc f a b O=À d):∃i j,a O=À (.int i)/\b O=À (.int j)/\f i j=À d:=by
 unfold nc at h;split at h
 ·rename_i i e1;split at h
  ·rename_i j e2;exact⟨i,j,e1,e2,h⟩
  ·cases h
 ·cases h
def Is.isInt(h:Is K H Z v (.int i)):v=.int i:=by cases h;rfl
def Is.Hy(h:Is K H Z v (.bl i)):v=.bl i:=by cases h;rfl
def nv(gd:Int->Int->D)(hg:∀i j H Z,Is K H Z (g i j) (gd i j))(ha:SemB K ta a)(hb:SemB K tb b):aN K (tOp (yQ g) ta tb) (nc (λi j=>À (gd i j)) a b):=λ{B Z os O Y H Q d} f q k=>by obtain⟨i,j,e1,e2,e3⟩:=mJ q;cases e3;exact ha f e1 λv H1 s1 i1=>hb (f.grow s1) e2 λu H2 s2 i2=>⟨i,j,i1.isInt,i2.isInt,k _ _ (s1.trans s2) (hg i j _ _)⟩
def gC(C:Int->Int->Prop)(g:Int->Int->D):Int->Int->Option D:=λi j=>if C i j then À (g i j) else Á
def vK(h:C i j):gC C g i j=À (g i j):=if_pos h
def uW(gd:Int->Int->D)(hg:∀i j H Z,Is K H Z (g i j) (gd i j))(ha:SemB K ta a)(hb:SemB K tb b):aN K (tOp (rI C g) ta tb) (nc (gC C gd) a b):=λ{B Z os O Y H Q d} f q k=>by
 obtain⟨i,j,e1,e2,e3⟩:=mJ q;unfold gC at e3;by_cases c:C i j
 ·rw[if_pos c]at e3;cases e3;exact ha f e1 λv H1 s1 i1=>hb (f.grow s1) e2 λu H2 s2 i2=>⟨i,j,i1.isInt,i2.isInt,c,k _ _ (s1.trans s2) (hg i j _ _)⟩
 ·simp_all
def dAdd:DE->DE->DE:=nc λi j=>À (.int (i+j))
def gA:DE->DE->DE:=nc λi j=>À (.int (i-j))
def fg:DE->DE->DE:=nc (gC RF λi j=>.int (i*j))
def cM:DE->DE->DE:=nc (gC (λ_ j=>0<j/\j.natAbs.log2<9000) λi j=>.int (i / j))
def cj:DE->DE->DE:=nc (gC (λ_ j=>0<j) λi j=>.int (i % j))
def sN:DE->DE->DE:=nc (gC CQ λi j=>.int (i ^ j.toNat))
def xP:DE->DE->DE:=nc λi j=>À (.bl (decide (i<j)))
def Gd:DE->DE->DE:=nc λi j=>À (.bl (decide (i<=j)))
def xS:DE->DE->DE:=nc λi j=>À (.bl (decide (j<i)))
def C1:DE->DE->DE:=nc λi j=>À (.bl (decide (j<=i)))
def yG(ha:SemB K ta a)(hb:SemB K tb b):aN K (tOp (yQ λi j=>.int (i+j)) ta tb) (dAdd a b):=nv (λi j=>.int (i+j)) (λ_ _ _ _=>.int _) ha hb
def DZ(ha:SemB K ta a)(hb:SemB K tb b):aN K (tOp (yQ λi j=>.int (i-j)) ta tb) (gA a b):=nv (λi j=>.int (i-j)) (λ_ _ _ _=>.int _) ha hb
def JC(ha:SemB K ta a)(hb:SemB K tb b):aN K (tOp (rI RF λi j=>.int (i*j)) ta tb) (fg a b):=uW (λi j=>.int (i*j)) (λ_ _ _ _=>.int _) ha hb
def G4(ha:SemB K ta a)(hb:SemB K tb b):aN K (tOp (rI (λ_ j=>0<j/\j.natAbs.log2<9000) λi j=>.int (i / j)) ta tb) (cM a b):=uW (λi j=>.int (i / j)) (λ_ _ _ _=>.int _) ha hb
def JD(ha:SemB K ta a)(hb:SemB K tb b):aN K (tOp (rI (λ_ j=>0<j) λi j=>.int (i % j)) ta tb) (cj a b):=uW (λi j=>.int (i % j)) (λ_ _ _ _=>.int _) ha hb
def JB(ha:SemB K ta a)(hb:SemB K tb b):aN K (tOp (rI CQ λi j=>.int (i ^ j.toNat)) ta tb) (sN a b):=uW (λi j=>.int (i ^ j.toNat)) (λ_ _ _ _=>.int _) ha hb
def LR(ha:SemB K ta a)(hb:SemB K tb b):aN K (tOp (yQ λi j=>.bl (decide (i<j))) ta tb) (xP a b):=nv (λi j=>.bl (decide (i<j))) (λ_ _ _ _=>.bl _) ha hb
def LS(ha:SemB K ta a)(hb:SemB K tb b):aN K (tOp (yQ λi j=>.bl (decide (i<=j))) ta tb) (Gd a b):=nv (λi j=>.bl (decide (i<=j))) (λ_ _ _ _=>.bl _) ha hb
def LV(ha:SemB K ta a)(hb:SemB K tb b):aN K (tOp (yQ λi j=>.bl (decide (j<i))) ta tb) (xS a b):=nv (λi j=>.bl (decide (j<i))) (λ_ _ _ _=>.bl _) ha hb
def IA(ha:SemB K ta a)(hb:SemB K tb b):aN K (tOp (yQ λi j=>.bl (decide (j<=i))) ta tb) (C1 a b):=nv (λi j=>.bl (decide (j<=i))) (λ_ _ _ _=>.bl _) ha hb
def iI(a:DE):DE:=λO=>match a O with
 |some (.int i)=>À (.int (-i))
 |_=>Á
def D0(ha:SemB K ta a):aN K (NS (rU λi=>.int (-i)) ta) (iI a):=λ{B Z os O Y H Q d} f q k=>by
 unfold iI at q;split at q
 ·rename_i i e1;cases q;exact ha f e1 λv H1 s1 i1=>⟨i,i1.isInt,k _ _ s1 (.int _)⟩
 ·cases q
def dT(a:DE):aW->Option Bool:=λO=>match a O with
 |some (.bl b)=>À b
 |_=>Á
def uM(ha:SemB K ta a):jI K (Ik ta) (dT a):=λ{B Z os O Y H Q d} f q k=>by
 unfold dT at q;split at q
 ·rename_i b e;cases q;exact ha f e λv H1 s1 i1=>⟨_,i1.Hy,k _ s1⟩
 ·cases q
noncomputable def Dx:D->Option Bool
 |.non=>À Ã
 |.bl b=>À b
 |.int i=>À (i != 0)
 |.str y=>if y.length<=Î then À ((y.length:Int) != 0) else Á
 |.lst ds=>À (!ds.isEmpty)
 |.tup ds=>À (!ds.isEmpty)
 |.scr ns=>À (!ns.isEmpty)
 |_=>Á
def qO(h:IsL K H Z vs ds):vs.isEmpty=ds.isEmpty:=by cases h <;> rfl
def Jl(h:Is K H Z v d)(e:Dx d=À b):FK K v H b:=by
 cases h with
 |non=>cases e;rfl
 |bl b=>cases e;rfl
 |int i=>cases e;rfl
 |str x =>
  have e:(if x.length<=Î then À ((x.length:Int) != 0) else Á)=À b:=e;by_cases c:x.length<=Î
  ·rw[if_pos c]at e;cases e;exact⟨c,rfl⟩
  ·simp_all
 |ty n=>cases e
 |lst hz h hl r=>cases e;exact .inl ⟨_,.inl h,by rw[qO r]⟩
 |tup hz h hl r=>cases e;exact .inr (.inl ⟨_,.inl (.inl h),by rw[qO r]⟩)
 |ins _ _=>cases e
 |dct _ _ _=>cases e
 |dsk _ _ _ _ _ _ _=>cases e
 |scr hz h hl=>cases e;exact .inl ⟨_,.inl h,by simp⟩
 |scrK h hl=>cases e;exact .inl ⟨_,.inr h,by simp⟩
def ij(a:DE):aW->Option Bool:=λO=>match a O with
 |some d=>Dx d
 |none=>Á
def Jo(ha:SemB K ta a):jI K (λY H Q=>ta Y H λx H'=>∃k,FK K x H' k/\Q k H') (ij a):=λ{B Z os O Y H Q b} f q k=>by
 unfold ij at q;split at q
 ·rename_i d e;exact ha f e λv H1 s1 i1=>⟨b,Jl i1 q,k _ s1⟩
 ·cases q
def sP(x y:aW->Option Bool):aW->Option Bool:=λO=>match x O with
 |some Â=>y O
 |some Ã=>À Ã
 |none=>Á
def rh(x y:aW->Option Bool):aW->Option Bool:=λO=>match x O with
 |some Â=>À Â
 |some Ã=>y O
 |none=>Á
def kK(x:aW->Option Bool):aW->Option Bool:=λO=>match x O with
 |some b=>À (!b)
 |none=>Á
def Ju(ha:jI K tA x)(hb:jI K tB' y):jI K (LO tA tB') (sP x y):=λ{B Z os O Y H Q b} f q k=>by
 unfold sP at q;split at q
 ·rename_i e;exact ha f e λH1 s1=>xq (hb (f.grow s1) q λH2 s2=>k _ (s1.trans s2))
 ·rename_i e;cases q;exact ha f e λH1 s1=>vH (k _ s1)
 ·cases q
def LP(ha:jI K tA x)(hb:jI K tB' y):jI K (NU tA tB') (rh x y):=λ{B Z os O Y H Q b} f q k=>by
 unfold rh at q;split at q
 ·rename_i e;cases q;exact ha f e λH1 s1=>xq (k _ s1)
 ·rename_i e;exact ha f e λH1 s1=>vH (hb (f.grow s1) q λH2 s2=>k _ (s1.trans s2))
 ·cases q
def Jp(ha:jI K tA x):jI K (LL tA) (kK x):=λ{B Z os O Y H Q b} f q k=>by
 unfold kK at q;split at q
 ·rename_i c e;cases q;exact ha f e λH1 s1=>k _ s1
 ·cases q
def dTrue:aW->Option Bool:=λ_=>À Â
def gG:jI K wD dTrue:=λf q k=>by cases q;exact k _ (aH.refl _)
def oP(a b:DE):DE:=λO=>match a O with
 |some (.bl Â)=>b O
 |some (.bl Ã)=>À (.bl Ã)
 |_=>Á
def xN(a:DE):DE:=λO=>match a O with
 |some (.bl c)=>À (.bl (!c))
 |_=>Á
def G5(ha:SemB K ta a)(hb:aN K tb b):aN K (Iy ta tb) (oP a b):=λ{B Z os O Y H Q d} f q k=>by
 unfold oP at q;split at q
 ·rename_i e;exact ha f e λv H1 s1 i1=>⟨Â,i1.Hy,xq (hb (f.grow s1) q λv H2 s2=>k _ _ (s1.trans s2))⟩
 ·rename_i e;cases q;exact ha f e λv H1 s1 i1=>⟨Ã,i1.Hy,vH (k _ _ s1 (.bl _))⟩
 ·cases q
def GY(ha:SemB K ta a):aN K (Ip ta) (xN a):=λ{B Z os O Y H Q d} f q k=>by
 unfold xN at q;split at q
 ·rename_i c e;cases q;exact ha f e λv H1 s1 i1=>⟨c,i1.Hy,k _ _ s1 (.bl _)⟩
 ·cases q
def Mt(x:aW->Option Bool)(a b:DE):DE:=λO=>match x O with
 |some Â=>a O
 |some Ã=>b O
 |none=>Á
def LU(h:jI K tA x)(ha:aN K ta a)(hb:aN K tb b):aN K (NV tA ta tb) (Mt x a b):=λ{B Z os O Y H Q d} f q k=>by
 unfold Mt at q;split at q
 ·rename_i e;exact h f e λH1 s1=>xq (ha (f.grow s1) q λv H2 s2=>k _ _ (s1.trans s2))
 ·rename_i e;exact h f e λH1 s1=>vH (hb (f.grow s1) q λv H2 s2=>k _ _ (s1.trans s2))
 ·cases q
def zu(a:DE):DE:=λO=>match a O with
 |some .non=>À (.bl Â)
 |some _=>À (.bl Ã)
 |none=>Á
def D.EV:D->Bool
 |.non=>Â
 |_=>Ã
def EW(h:Is K H Z v d):decide (v=.non)=d.EV:=by cases h <;> rfl
def HN(e:a O=À d):zu a O=À (.bl d.EV):=by unfold zu;rw[e];cases d <;> rfl
def uk(e:zu a O=À d):∃d',a O=À d'/\d=.bl d'.EV:=by
 cases q:a O with
 |none=>unfold zu at e;rw[q]at e;cases e
 |some d'=>rw[HN q]at e;simp_all
def JK(ha:SemB K ta a)(hb:SemB K tb (dC .non)):aN K (tOp (λx y H Q=>y=.non/\Q (.bl (decide (x=.non))) H) ta tb) (zu a):=λ{B Z os O Y H Q d} f q k=>by
 obtain⟨d',e,rfl⟩:=uk q;refine ha f e λv H1 s1 i1=>hb (f.grow s1) rfl λu H2 s2 i2=>⟨by cases i2;rfl,?_⟩
 rw[EW i1];exact k _ _ (s1.trans s2) (.bl _)
def Fs(a:DE):DE:=xN (zu a)
def GZ(ha:SemB K ta a)(hb:SemB K tb (dC .non)):aN K (tOp (λx y H Q=>y=.non/\Q (.bl (!decide (x=.non))) H) ta tb) (Fs a):=λ{B Z os O Y H Q d} f q k=>by
 unfold Fs xN at q;split at q
 ·rename_i c e;obtain⟨d',e',e2⟩:=uk e;cases q;refine ha f e' λv H1 s1 i1=>hb (f.grow s1) rfl λu H2 s2 i2=>⟨by cases i2;rfl,?_⟩
  rw[EW i1];rw[<-D.bl.inj e2];exact k _ _ (s1.trans s2) (.bl _)
 ·cases q
end
end
end
end VL
namespace L2
open PySem PySem.Spec PyProof.Rows
section
def Inv.mB(I:Inv X pins Y H s)(hH:Rd H l (.lst xs)):xs.length<=Î/\∃(its:List Ù) (n:Nat),Vals xs its/\xs.length=its.length/\s.heap.get? l=À {cls:=.type "list", data:=.seq its.toArray n }:=by obtain⟨z,its,n,r,e⟩:=hH.ok I.bJ;exact⟨z,its,n,r,r.length,e⟩
def IG:R2:=λx y H Q=>∃l b xs zs,x=.ref l/\y=.ref b/\Rd H l (.lst xs)/\Rd H b (.lst zs)/\xs.length+zs.length<=Î/\∀p,H p=Á->Q (.ref p) (upd H p (.lst (xs++zs)))
def my:o6 X (Pg .Add) IG:=by intro pins s Y H x y v u Q I rx ry h;obtain⟨l,b,xs,zs,rfl,rfl,hH,hB,hz,q⟩:=h;cases rx;cases ry;obtain⟨z,its,n,r,hl,e⟩:=I.mB hH;obtain⟨z2,its2,n2,r2,hl2,e2⟩:=I.mB hB;refine PySem.P.add_list e e2 ?_ (by grind);rw[(by simp:its.toArray++its2.toArray=(its++its2).toArray)];exact⟨.ref _,_,I.Kt (r.append r2) (by simp_all),rfl,q _ I.fresh⟩
def IF:V->List V->Hp->VK->Prop:=λx vs H Q=>∃l b xs zs,x=.ref l/\vs=[.ref b]/\H l=À (.lst xs)/\Rd H b (.lst zs)/\xs.length+zs.length<=Î/\Q .non (upd H l (.lst (xs++zs)))
def vA:Od X "list.extend" IF:=by
 intro pins s Y H x vs v us Q I rx rv h;obtain⟨l,b,xs,zs,rfl,rfl,hH,hB,hz,q⟩:=h;cases rx;obtain⟨u,rfl,ru⟩:=rv.one;cases ru;obtain⟨z,its,n,r,hl,e⟩:=I.Km hH;obtain⟨z2,its2,n2,r2,hl2,e2⟩:=I.mB hB;have hsz:its.toArray.size+its2.toArray.size<=Î:=by grind
 have hlong:¬(!its.toArray.isEmpty&&Oy (its.toArray.size+its2.toArray.size))=true:=by rw[xc hsz,Bool.and_false];exact ñ
 refine Q3 F.slot_list_extend ⟨_,e,rfl⟩ F.entry_list_extend (F.args_list_extend_2 _ _)
  (AutoSeq1.list_extend_list_list_0 l its.toArray n b its2.toArray n2 hlong (by lia) (by lia)) ⟨e,e2,⟨.non,_,I.Mj hH e (by simp) (r.append r2) ?_,rfl,q⟩⟩
 rw[á];exact hz
def Hu{K:Í}(h:X.K=K):Gh X (rIx K):=by subst h;exact KJ
def aY{K:Í}(h:X.K=K):cG X (.builtin "len") (λxs H Q=>∃x n,xs=[x]/\Ie K x H n/\Q (.int n) H):=by subst h;exact FC
def fR{K:Í}(hc:X.calm=Â)(h:X.K=K):cG X (.builtin "sum") (λxs H Q=>∃(p:Ý) (ns:List Int),xs=[.ref p]/\cE K H p (ns.map V.int)/\Q (.int ns.sum) H):=by subst h;exact Fz hc
def rp{K:Í}(hc:X.calm=Â)(h:X.K=K):cG X (.builtin "max") (λxs H Q=>∃(p:Ý) (ns:List Int),xs=[.ref p]/\cE K H p (ns.map V.int)/\ns≠[]/\∀M,M∈ns->(∀a,a∈ns->a<=M)->Q (.int M) H):=by subst h;exact CK hc
end
end L2
namespace VL
open PySem L2
section
open Classical
section
section
variable[aV]
def dCons(a:DE)(es:aW->Option (List D)):aW->Option (List D):=λO=>match a O with
 |some d=>(match es O with
  |some ds=>À (d::ds)
  |none=>Á)
 |none=>Á
def dNil:aW->Option (List D):=λ_=>À []
def jd(h:dCons a es O=À ds):∃d r,a O=À d/\es O=À r/\ds=d::r:=by
 unfold dCons at h;split at h
 ·rename_i d e1;split at h
  ·rename_i r e2;exact⟨d,r,e1,e2,(þ h).symm⟩
  ·cases h
 ·cases h
def fX:rH K [] dv dNil:=λf q k=>by cases q;exact k _ _ (aH.refl _) .nil
def cg(ha:aN K ta a)(hr:rH K ms tr es):rH K (true::ms) (a9 ta tr) (dCons a es):=λ{B Z os O Y H Q ds} f q k=>by obtain⟨d,r,e1,e2,rfl⟩:=jd q;exact ha f e1 λv H1 s1 i1=>hr (f.grow s1) e2 λvs H2 s2 i2=>k _ _ (s1.trans s2) (.own (i1.same s2) i2)
def JR(ha:SemB K ta a)(hr:rH K ms tr es):rH K (false::ms) (a9 ta tr) (dCons a es):=λ{B Z os O Y H Q ds} f q k=>by obtain⟨d,r,e1,e2,rfl⟩:=jd q;exact ha f e1 λv H1 s1 i1=>hr (f.grow s1) e2 λvs H2 s2 i2=>k _ _ (s1.trans s2) (.any (i1.same s2) i2)
def jY(hp:H p=Á):Kp T H (λa=>a=p\/T a) (upd H p o):=λa u e z=>by have hne:=aO e hp;exact⟨by rw[upd_ne hne];exact e,λq=>q.elim hne z⟩
def ny(h:rH K (æ n Â) t es)(hn:n<=Î):cZ K (wF t) es:=λ{B Z os O Y H Q ds} f q k=>by
 refine h f q λvs H1 s1 a=>?_;have hl:vs.length<=Î:=by have:=a.len.1;rw[ü]at this;exact this ▸ hn
 exact⟨hl,λp hp=>k p vs _ (s1.trans (bq hp)) (aH.free s1 hp) az hl (a.Ko.kp (jY hp))⟩
def dTup(es:aW->Option (List D)):DE:=λO=>(es O).map D.tup
def uV(h:rH K (æ n Â) t es)(hn:n<=Î):aN K (LI t) (dTup es):=λ{B Z os O Y H Q d} f q k=>by
 unfold dTup at q;cases q1:es O with
 |none=>rw[q1]at q;cases q
 |some ds =>
  rw[q1]at q;cases q;refine h f q1 λvs H1 s1 a=>?_;have hl:vs.length<=Î:=by have:=a.len.1;rw[ü]at this;exact this ▸ hn
  exact⟨hl,λp hp=>k _ _ (s1.trans (bq hp)) (.tup ((f.grow s1).out hp) az hl ((a.Ko.kp (jY hp)).kp (Kp.less λa z=>.inr z)))⟩
def dLst(es:aW->Option (List D)):DE:=λO=>(es O).map D.lst
def cZ.l(h:cZ K t e):aN K t (dLst e):=h.i
def yf:D->Int->Option D
 |.lst ds,i=>kB ds i
 |.tup ds,i=>kB ds i
 |.scr ns,i=>(kB ns i).map D.int
 |.str z,i=>if z.length<=Î then (kB z.cps.toList i).map λc=>.str ⟨#[c]⟩ else Á
 |_,_=>Á
def zB(r:IsL K H Z vs ds)(h:kB ds i=À d):∃v,kB vs i=À v/\Is K H Z v d:=by
 unfold kB at h ⊢;rw[r.length];cases e:ixN ds.length i with
 |none=>rw[e]at h;cases h
 |some j =>rw[e]at h;obtain⟨v,e1,i1⟩:=r.get h;exact⟨v,e1,i1⟩
def x9(h:kB ns i=À n):kB (ns.map V.int) i=À (.int n):=by
 unfold kB at h ⊢;cases e:ixN ns.length i with
 |none=>rw[e]at h;cases h
 |some j =>simp_all
def IL(h:Is K H Z v d)(q:yf d i=À e)(k:∀u,Is K H Z u e->Q u H):rIx K v (.int i) H Q:=by
 cases h with
 |lst hz h hl r =>obtain⟨u,e1,i1⟩:=zB r q;exact .inl ⟨_,_,i,u,rfl,rfl,.inl h,e1,k u i1⟩
 |tup hz h hl r =>obtain⟨u,e1,i1⟩:=zB r q;exact .inr (.inl ⟨_,_,i,u,rfl,rfl,.inl (.inl h),e1,k u i1⟩)
 |str z =>
  have q:(if z.length<=Î then (kB z.cps.toList i).map λc=>D.str ⟨#[c]⟩ else Á)=À e:=q;by_cases c:z.length<=Î
  ·rw[if_pos c]at q;cases e2:kB z.cps.toList i with
   |none=>rw[e2]at q;cases q
   |some cp =>rw[e2]at q;cases q;exact .inr (.inr ⟨z,i,cp,rfl,rfl,c,e2,k _ (.str _)⟩)
  ·simp_all
 |@scr p ns hz h hl =>
  have q:(kB ns i).map D.int=À e:=q;cases e2:kB ns i with
  |none=>rw[e2]at q;cases q
  |some n=>rw[e2]at q;cases q;exact .inl ⟨_,_,i,_,rfl,rfl,.inl h,x9 e2,k _ (.int n)⟩
 |@scrK p ns h hl =>
  have q:(kB ns i).map D.int=À e:=q;cases e2:kB ns i with
  |none=>rw[e2]at q;cases q
  |some n=>rw[e2]at q;cases q;exact .inl ⟨_,_,i,_,rfl,rfl,.inr h,x9 e2,k _ (.int n)⟩
 |_=>cases q
def dIx(a b:DE):DE:=λO=>match a O with
 |some d=>(match b O with
  |some (.int i)=>yf d i
  |_=>Á)
 |none=>Á
def xR(h:dIx a b O=À d):∃e i,a O=À e/\b O=À (.int i)/\yf e i=À d:=by
 unfold dIx at h;split at h
 ·rename_i e e1;split at h
  ·rename_i i e2;exact⟨e,i,e1,e2,h⟩
  ·cases h
 ·cases h
def qc(ha:SemB K ta a)(hb:SemB K tb b):SemB K (tOp (rIx K) ta tb) (dIx a b):=λ{B Z os O Y H Q d} f q k=>by obtain⟨e,i,e1,e2,e3⟩:=xR q;refine ha f e1 λv H1 s1 i1=>hb (f.grow s1) e2 λu H2 s2 i2=>?_;rw[i2.isInt];exact IL (i1.same s2) e3 λw i3=>k _ _ (s1.trans s2) i3
def D1(ha:aN K ta a)(hb:SemB K tb b):aN K (tOp (rIx K) ta tb) (dIx a b):=λ{B Z os O Y H Q d} f q k=>by obtain⟨e,i,e1,e2,e3⟩:=xR q;refine ha f e1 λv H1 s1 i1=>hb (f.grow s1) e2 λu H2 s2 i2=>?_;rw[i2.isInt];exact IL (i1.same s2) e3 λw i3=>k _ _ (s1.trans s2) i3
def o4(i:Nat)(b:DE):DE:=λO=>match O.getD i .un with
 |.ol ds=>(match b O with
  |some (.int k)=>kB ds k
  |_=>Á)
 |_=>Á
def JI(hb:SemB K tb b):aN K (tOp (rIx K) (tVar i) tb) (o4 i b):=λ{B Z os O Y H Q d} f q k=>by
 have s:=f.sl i;unfold o4 at q;split at q
 ·rename_i ds e0;rw[e0]at s;obtain⟨x,vs,_,hu,hH,hl,i⟩:=s;split at q
  ·rename_i j e2;refine⟨_,join_some hu,hb f e2 λu H2 s2 i2=>?_⟩;rw[i2.isInt];obtain⟨w,e3,i3⟩:=zB i q;exact .inl ⟨_,_,j,w,rfl,rfl,.inl (.inl (s2 _ _ hH)),e3,k _ _ s2 (i3.same s2)⟩
  ·cases q
 ·cases q
def D.v:D->V
 |.bl b=>.bl b
 |.int i=>.int i
 |.str x=>.str x
 |.ty n=>.ty n
 |_=>.non
def D.v_is(h:d.lh=Â):Is K H Z d.v d:=by
 cases d with
 |non=>exact .non
 |bl b=>exact .bl b
 |int b=>exact .int b
 |str b=>exact .str b
 |ty b=>exact .ty b
 |_=>cases h
def dy(g:D->Option D)(a:DE):DE:=λO=>match a O with
 |some d=>g d
 |none=>Á
def tG(hg:∀{H v d e} {Q:VK},Is K H No v d->g d=À e->e.lh=Â/\(Q e.v H->r [v] H Q))(ha:SemB K ta a):aN K (wc r (a9 ta dv)) (dy g a):=λ{B Z os O Y H Q d} f q k=>by
 unfold dy at q;split at q
 ·rename_i e e1;refine ha f e1 λv H1 s1 i1=>?_;obtain⟨hs,hr⟩:=hg i1 q;exact hr (k _ _ s1 (D.v_is hs))
 ·cases q
def du:D->Option D
 |.lst ds=>À (.int ds.length)
 |.tup ds=>À (.int ds.length)
 |.scr ns=>À (.int ns.length)
 |.str y=>if y.length<=Î then À (.int y.length) else Á
 |_=>Á
def Ku{Q:VK}(h:Is K H No v d)(q:du d=À e):e.lh=Â/\(Q e.v H->∃x n,[v]=[x]/\Ie K x H n/\Q (.int n) H):=by
 cases h with
 |lst hz h hl r=>cases q;exact⟨rfl,λk=>⟨_,_,rfl,.inl ⟨_,.inl h,rfl⟩,by rw[r.length];exact k⟩⟩
 |tup hz h hl r=>cases q;exact⟨rfl,λk=>⟨_,_,rfl,.inr ⟨_,.inl (.inl h),rfl⟩,by rw[r.length];exact k⟩⟩
 |str z =>
  have q:(if z.length<=Î then À (D.int z.length) else Á)=À e:=q;by_cases c:z.length<=Î
  ·rw[if_pos c]at q;cases q;exact⟨rfl,λk=>⟨_,_,rfl,⟨c,rfl⟩,k⟩⟩
  ·simp_all
 |scr hz h hl=>cases q;exact⟨rfl,λk=>⟨_,_,rfl,.inl ⟨_,.inl h,rfl⟩,by rw[Ê];exact k⟩⟩
 |scrK h hl=>cases q;exact⟨rfl,λk=>⟨_,_,rfl,.inl ⟨_,.inr h,rfl⟩,by rw[Ê];exact k⟩⟩
 |_=>cases q
def JG(ha:SemB K ta a):aN K (wc (λxs H Q=>∃x n,xs=[x]/\Ie K x H n/\Q (.int n) H) (a9 ta dv)) (dy du a):=tG (λh q=>Ku h q) ha
def eK:List D->Option (List Int)
 |[]=>À []
 |.int i::r=>(eK r).map (i::·)
 |_=>Á
theorem gc:∀(ns:List Int),eK (ns.map D.int)=À ns
 |[]=>rfl
 |n::ns=>by show (eK (ns.map D.int)).map (n::·)=_;rw[gc ns];rfl
theorem fj:∀{ds:List D} {ns:List Int},eK ds=À ns->ds=ns.map D.int
 |[],ns,h=>by cases h;rfl
 |.int i::r,ns,h=>by
  have h:(eK r).map (i::·)=À ns:=h;cases e:eK r with
  |none=>rw[e]at h;cases h
  |some ms=>rw[e]at h;cases h;rw[fj e];rfl
 |.non::_,_,h=>by cases h
 |.bl _::_,_,h=>by cases h
 |.str _::_,_,h=>by cases h
 |.ty _::_,_,h=>by cases h
 |.lst _::_,_,h=>by cases h
 |.tup _::_,_,h=>by cases h
 |.ins _::_,_,h=>by cases h
 |.dct _::_,_,h=>by cases h
 |.dsk _ _ _::_,_,h=>by cases h
 |.scr _::_,_,h=>by cases h
def ofInts(g:List Int->Option D):D->Option D
 |.lst ds=>(eK ds).bind g
 |_=>Á
def eF(g:List Int->Option D)(ns:List Int):ofInts g (.lst (ns.map D.int))=g ns:=by show (eK (ns.map D.int)).bind g=g ns;rw[gc];rfl
def jU(h:ofInts g d=À e):∃ns,d=.lst (ns.map D.int)/\g ns=À e:=by
 cases d with
 |lst ds =>
  have h:(eK ds).bind g=À e:=h;cases q:eK ds with
  |none=>rw[q]at h;cases h
  |some ns=>rw[q]at h;exact⟨ns,by rw[fj q],h⟩
 |_=>cases h
theorem Is.ints{ns:List Int}(h:Is K H Z v (.lst (ns.map D.int))):∃p,v=.ref p/\Rd H p (.lst (ns.map V.int)):=by
 generalize e:D.lst (ns.map D.int)=d at h;cases h with
 |lst hz h hl r=>cases e;rw[<-r.ints];exact⟨_,rfl,h⟩
 |_=>cases e
def oU:D->Option D:=ofInts λns=>À (.int ns.sum)
def JA(ha:SemB K ta a):aN K (wc (λxs H Q=>∃(p:Ý) (ns:List Int),xs=[.ref p]/\cE K H p (ns.map V.int)/\Q (.int ns.sum) H) (a9 ta dv)) (dy oU a):=by refine tG (λh q=>?_) ha;obtain⟨ns,rfl,e⟩:=jU q;cases e;obtain⟨p,rfl,r⟩:=h.ints;exact⟨rfl,λk=>⟨p,ns,rfl,.inl r,k⟩⟩
def nU(x:Int)(r:List Int):Int:=r.foldl max x
def su(x:Int)(r:List Int):Int:=r.foldl min x
theorem fQ:∀(r:List Int) (x:Int),nU x r∈x::r/\∀a∈x::r,a<=nU x r
 |[],x=>⟨Ò,λa h=>by rw[Ð.mp h];exact ř _⟩
 |y::r,x=>by
  obtain⟨h1,h2⟩:=fQ r (max x y);have e:nU x (y::r)=nU (max x y) r:=rfl;rw[e];refine⟨?_,λa ha=>?_⟩
  ·rcases Ú.mp h1 with q |q
   ·rw[q];rcases Int.le_total x y with z |z
    ·rw[Int.max_eq_right z];simp
    ·rw[Int.max_eq_left z];simp
   ·simp[q]
  ·have hm:=h2 (max x y) Ò;rcases Ú.mp ha with rfl |ha
   ·lia
   ·rcases Ú.mp ha with rfl |ha
    ·lia
    ·exact h2 a (Ñ _ ha)
theorem iC:∀(r:List Int) (x:Int),su x r∈x::r/\∀a∈x::r,su x r<=a
 |[],x=>⟨Ò,λa h=>by rw[Ð.mp h];exact ř _⟩
 |y::r,x=>by
  obtain⟨h1,h2⟩:=iC r (min x y);have e:su x (y::r)=su (min x y) r:=rfl;rw[e];refine⟨?_,λa ha=>?_⟩
  ·grind
  ·have hm:=h2 (min x y) Ò;rcases Ú.mp ha with rfl |ha
   ·lia
   ·rcases Ú.mp ha with rfl |ha
    ·lia
    ·exact h2 a (Ñ _ ha)
def EF{ns:List Int}(h1:M∈ns)(h2:∀a∈ns,a<=M)(h3:N∈ns)(h4:∀a∈ns,a<=N):M=N:=by
 have:=h2 N h3;have:=h4 M h1
 lia
def EE{ns:List Int}(h1:M∈ns)(h2:∀a∈ns,M<=a)(h3:N∈ns)(h4:∀a∈ns,N<=a):M=N:=by
 have:=h2 N h3;have:=h4 M h1
 lia
def maxD:D->Option D:=ofInts λns=>match ns with
 |[]=>Á
 |x::r=>À (.int (nU x r))
def JF(ha:SemB K ta a):aN K (wc (λxs H Q=>∃(p:Ý) (ns:List Int),xs=[.ref p]/\cE K H p (ns.map V.int)/\ns≠[]/\∀M,M∈ns->(∀a,a∈ns->a<=M)->Q (.int M) H) (a9 ta dv)) (dy maxD a):=by
 refine tG (λh q=>?_) ha;obtain⟨ns,rfl,e⟩:=jU q;obtain⟨p,rfl,r⟩:=h.ints;cases ns with
 |nil=>cases e
 |cons x t =>cases e;refine⟨rfl,λk=>⟨p,x::t,rfl,.inl r,by simp,λM h1 h2=>?_⟩⟩;rw[EF h1 h2 (fQ t x).1 (fQ t x).2];exact k
def oO:DE->DE->DE:=nc λi j=>À (.int (if j > i then j else i))
def ui:DE->DE->DE:=nc λi j=>À (.int (if j<i then j else i))
def G1(ha:SemB K ta a)(hb:SemB K tb b):aN K (wc (λxs H Q=>∃i j,xs=[.int i,.int j]/\Q (.int (if j > i then j else i)) H) (a9 ta (a9 tb dv))) (oO a b):=λ{B Z os O Y H Q d} f q k=>by obtain⟨i,j,e1,e2,e3⟩:=mJ q;cases e3;refine ha f e1 λv H1 s1 i1=>hb (f.grow s1) e2 λu H2 s2 i2=>⟨i,j,by rw[i1.isInt,i2.isInt],k _ _ (s1.trans s2) (.int _)⟩
def G0(ha:SemB K ta a)(hb:SemB K tb b):aN K (wc (λxs H Q=>∃i j,xs=[.int i,.int j]/\Q (.int (if j<i then j else i)) H) (a9 ta (a9 tb dv))) (ui a b):=λ{B Z os O Y H Q d} f q k=>by obtain⟨i,j,e1,e2,e3⟩:=mJ q;cases e3;refine ha f e1 λv H1 s1 i1=>hb (f.grow s1) e2 λu H2 s2 i2=>⟨i,j,by rw[i1.isInt,i2.isInt],k _ _ (s1.trans s2) (.int _)⟩
def intD:D->Option D
 |.int i=>À (.int i)
 |.bl b=>À (.int (if b=Â then 1 else 0))
 |_=>Á
def G2(ha:SemB K ta a):aN K (wc (λxs H Q=>(∃i,xs=[.int i]/\Q (.int i) H)\/∃k,xs=[.bl k]/\Q (.int (if k then 1 else 0)) H) (a9 ta dv)) (dy intD a):=by
 refine tG (λh q=>?_) ha;cases h with
 |int i=>cases q;exact⟨rfl,λk=>.inl ⟨i,rfl,k⟩⟩
 |bl b=>cases q;exact⟨rfl,λk=>.inr ⟨b,rfl,k⟩⟩
 |_=>cases q
noncomputable def D.MI:D->String
 |.non => "NoneType"
 |.bl _ => "bool"
 |.int _ => "int"
 |.str _ => "str"
 |.lst _ => "list"
 |.tup _ => "tuple"
 |.ty _ => "type"
 |.ins _ => "object"
 |.dct _ => "object"
 |.dsk _ _ _ => "object"
 |.scr _ => "script"
noncomputable def Nr:List (String×String×Bool):=[("int", "int", Â),("int", "bool", Ã),("int", "list", Ã),("int", "tuple", Ã),("int", "str", Ã),("bool", "int", Â),("bool", "bool", Â),("bool", "list", Ã),("bool", "tuple", Ã),("list", "list", Â),("list", "tuple", Ã),("list", "int", Ã),("list", "str", Ã),("tuple", "tuple", Â),("tuple", "list", Ã),("tuple", "int", Ã),("str", "str", Â),("str", "list", Ã),("str", "int", Ã),("NoneType", "int", Ã),("NoneType", "list", Ã),("NoneType", "tuple", Ã)]
def Hw(x n:String):Option Bool:=(Nr.find? λt=>decide (t.1=x)&&decide (t.2.1=n)).map λt=>t.2.2
def sO(n:String)(a:DE):DE:=λO=>match a O with
 |some d=>(Hw d.MI n).map D.bl
 |none=>Á
def EU(h:Hw x n=À b):OQ K (.type x) (.type n)=À b:=by
 obtain⟨t,e,rfl⟩:=ė.mp h;have hm:=List.mem_of_find?_eq_some e;have hp:=List.find?_some e;rw[Υ,decide_eq_true_iff,decide_eq_true_iff]at hp;obtain⟨rfl,rfl⟩:=hp;clear e h;revert t
 repeat' (first |exact λt h=>absurd h Ĥ |refine List.forall_mem_cons.mpr ⟨?_,?_⟩)
 all_goals first |rfl |with_unfolding_all rfl
def Gz(h:Is K H No v d)(e:Hw d.MI n=À b):kL K H v (.type d.MI):=by
 cases h with
 |non=>exact .non
 |bl b=>exact .bl b
 |int b=>exact .int b
 |str b=>exact .str b
 |lst hz h hl r=>rcases h with h |⟨o,h⟩;exact .lst h;exact .jM h
 |tup hz h hl r=>exact .tup h
 |_=>exact nomatch (show Á=À b from e)
def JJ(ha:SemB K ta a):aN K (wc (λxs H Q=>∃x n t b,xs=[x,.ty n]/\kL K H x t/\OQ K t (.type n)=À b/\Q (.bl b) H) (a9 ta (a9 (tC (.ty n)) dv))) (sO n a):=λ{B Z os O Y H Q d} f q k=>by
 unfold sO at q;split at q
 ·rename_i e e1;cases q1:Hw e.MI n with
  |none=>rw[q1]at q;cases q
  |some b =>rw[q1]at q;cases q;exact ha f e1 λv H1 s1 i1=>⟨v,n,_,b,rfl,Gz i1 q1,EU q1,k _ _ s1 (.bl b)⟩
 ·cases q
def CH{α:Type}(xs:List α)(lo hi:Option Int):List α:=(xs.drop (HT.yc xs.length 0 lo)).take (HT.yc xs.length xs.length hi-HT.yc xs.length 0 lo)
def K7(r:IsL K H Z vs ds):IsL K H Z (CG vs lo hi) (CH ds lo hi):=by unfold CG CH;rw[r.length];exact(r.drop _).take _
noncomputable def zE(K:Í)(t:TO)(e:aW->Option (Option Int)):Prop:=∀{B:Hp} {Z:Ý->Prop} {os:Own} {O:aW} {Y:L2.St} {H:Hp} {Q:Option Int->Hp->Prop} {o:Option Int},Fr K B Z os O Y H->e O=À o->(∀H',aH H H'->Q o H')->t Y H Q
def gP:aW->Option (Option Int):=λ_=>À Á
def eA(a:DE):aW->Option (Option Int):=λO=>match a O with
 |some (.int i)=>À (À i)
 |_=>Á
def GW:zE K zU gP:=λf q k=>by cases q;exact k _ (aH.refl _)
def GU(ha:SemB K ta a):zE K (Io ta) (eA a):=λ{B Z os O Y H Q o} f q k=>by
 unfold eA at q;split at q
 ·rename_i i e;cases q;exact ha f e λv H1 s1 i1=>⟨i,i1.isInt,k _ s1⟩
 ·cases q
def asL(a:DE):aW->Option (List D):=λO=>match a O with
 |some d=>Kq d
 |none=>Á
def cu(h:asL a O=À ds):∃d,a O=À d/\Kq d=À ds:=by
 unfold asL at h;split at h
 ·exact⟨_,‹_›,h⟩
 ·cases h
noncomputable def Lv(a:DE)(lo hi:aW->Option (Option Int)):aW->Option (List D):=λO=>match asL a O with
 |some ds=>(match lo O with
  |some l=>(match hi O with
   |some h=>À (CH ds l h)
   |none=>Á)
  |none=>Á)
 |_=>Á
def Fp(h:Lv a lo hi O=À ds):∃es l u,asL a O=À es/\lo O=À l/\hi O=À u/\ds=CH es l u:=by
 unfold Lv at h;split at h
 ·rename_i es e1;split at h
  ·rename_i l e2;split at h
   ·rename_i u e3;exact⟨es,l,u,e1,e2,e3,(þ h).symm⟩
   ·cases h
  ·cases h
 ·cases h
def Is.t5(h:Is K H Z v (.lst ds)):∃p vs,v=.ref p/\¬Z p/\Rd H p (.lst vs)/\vs.length<=Î/\IsL K H Z vs ds:=by
 cases h with
 |lst hz h hl r=>exact⟨_,_,rfl,hz,h,hl,r⟩
def Is.isTup(h:Is K H Z v (.tup ds)):∃p vs,v=.ref p/\¬Z p/\H p=À (.tup vs)/\vs.length<=Î/\IsL K H Z vs ds:=by
 cases h with
 |tup hz h hl r=>exact⟨_,_,rfl,hz,h,hl,r⟩
def LX(ha:aN K ta a)(hl:zE K tl lo)(hh:zE K th hi):cZ K (NT (JY K) ta tl th) (Lv a lo hi):=λ{B Z os O Y H Q ds} f q k=>by obtain⟨es,l,u,e1,e2,e3,rfl⟩:=Fp q;obtain⟨d,e1,ed⟩:=cu e1;refine ha f e1 λv H1 s1 i1=>hl (f.grow s1) e2 λH2 s2=>hh (f.grow (s1.trans s2)) e3 λH3 s3=>?_;obtain⟨p,vs,rfl,hn,_,hr⟩:=i1.seq ed;obtain⟨hr,r⟩:=hr H3 _ (Kp.same (s2.trans s3));have s13:=(s1.trans s2).trans s3;exact⟨p,vs,rfl,hr,λn hn'=>k n _ _ (s13.trans (bq hn')) (aH.free s13 hn') az (ø (oQ _ _ _) hn) ((K7 r).kp (jY hn'))⟩
def kT(ds:List D):Bool:=ds.all D.lh
def IsL.flat(h:IsL K H Z vs ds)(e:kT ds=Â):IsL K H' Z' vs ds:=by
 induction vs generalizing ds with
 |nil=>cases h;exact .nil
 |cons v vs ih =>
  cases h with
  |cons a r =>have e:=(Υ _ _).mp e;exact .cons (a.lh e.1) (ih r e.2)
def t8(e:aW->Option (List D)):aW->Option (List D):=λO=>match e O with
 |some ds=>if kT ds=Â then À ds else Á
 |none=>Á
def zg(h:t8 e O=À ds):e O=À ds/\kT ds=true:=by
 unfold t8 at h;split at h
 ·grind
 ·cases h
def xQ(a:DE):aW->Option (List D):=λO=>match a O with
 |some (.tup ds)=>À ds
 |some d=>Kq d
 |_=>Á
def uj(h:xQ a O=À ds):a O=À (.tup ds)\/∃d,a O=À d/\Kq d=À ds:=by
 unfold xQ at h;split at h
 ·rename_i es e;cases h;exact .inl e
 ·rename_i d _ e;exact .inr ⟨d,e,h⟩
 ·cases h
def G9(ha:aN K ta a):cZ K (wc (λxs H Q=>∃p ys,xs=[.ref p]/\(cE K H p ys\/Gg K H p ys)/\∀l,H l=Á->Q (.ref l) (upd H l (.lst ys))) (a9 ta dv)) (xQ a):=λ{B Z os O Y H Q ds} f q k=>by
 rcases uj q with e1 |⟨d,e1,ed⟩
 ·refine ha f e1 λv H1 s1 i1=>?_;obtain⟨p,vs,rfl,hz,hr,hn,r⟩:=i1.isTup;exact⟨p,vs,rfl,.inr (.inl (.inl hr)),λn hn'=>k n _ _ (s1.trans (bq hn')) (aH.free s1 hn') az hn (r.kp (jY hn'))⟩
 ·refine ha f e1 λv H1 s1 i1=>?_;obtain⟨p,vs,rfl,hn,_,hr⟩:=i1.seq ed;obtain⟨hr,r⟩:=hr H1 _ Kp.refl;exact⟨p,vs,rfl,.inl hr,λn hn'=>k n _ _ (s1.trans (bq hn')) (aH.free s1 hn') az hn (r.kp (jY hn'))⟩
def D3(ha:SemB K ta a):cZ K (wc (λxs H Q=>∃p ys,xs=[.ref p]/\(cE K H p ys\/Gg K H p ys)/\∀l,H l=Á->Q (.ref l) (upd H l (.lst ys))) (a9 ta dv)) (t8 (xQ a)):=λ{B Z os O Y H Q ds} f q k=>by
 obtain⟨q,hf⟩:=zg q;rcases uj q with e1 |⟨d,e1,ed⟩
 ·refine ha f e1 λv H1 s1 i1=>?_;obtain⟨p,vs,rfl,hz,hr,hn,r⟩:=i1.isTup;exact⟨p,vs,rfl,.inr (.inl (.inl hr)),λn hn'=>k n _ _ (s1.trans (bq hn')) (aH.free s1 hn') az hn (r.flat hf)⟩
 ·refine ha f e1 λv H1 s1 i1=>?_;obtain⟨p,vs,rfl,hn,_,hr⟩:=i1.seq ed;obtain⟨hr,r⟩:=hr H1 _ Kp.refl;exact⟨p,vs,rfl,.inl hr,λn hn'=>k n _ _ (s1.trans (bq hn')) (aH.free s1 hn') az hn (r.flat hf)⟩
def rm(a b:DE):aW->Option (List D):=λO=>match a O with
 |some (.lst ds)=>(match b O with
  |some (.lst es)=>if ds.length+es.length<=Î then À (ds++es) else Á
  |_=>Á)
 |_=>Á
def CF(h:rm a b O=À ds):∃xs ys,a O=À (.lst xs)/\b O=À (.lst ys)/\xs.length+ys.length<=Î/\ds=xs++ys:=by
 unfold rm at h;split at h
 ·split at h
  ·simp_all
  ·cases h
 ·cases h
def JQ(ha:aN K ta a)(hb:aN K tb b):cZ K (tOp IG ta tb) (rm a b):=λ{B Z os O Y H Q ds} f q k=>by
 obtain⟨xs,ys,e1,e2,hc,rfl⟩:=CF q;refine ha f e1 λv H1 s1 i1=>hb (f.grow s1) e2 λu H2 s2 i2=>?_;obtain⟨p,vs,rfl,hz,hr,hn,r⟩:=(i1.same s2).t5;obtain⟨p2,us,rfl,hz2,hr2,hn2,r2⟩:=i2.t5;have hl:vs.length+us.length<=Î:=by rw[r.length,r2.length];exact hc
 have s12:=s1.trans s2;exact⟨p,p2,vs,us,rfl,rfl,hr,hr2,hl,λn hn'=>k n _ _ (s12.trans (bq hn')) (aH.free s12 hn') az (by simp_all) ((r.append r2).kp (jY hn'))⟩
noncomputable def mI(a:aW->Option (List D))(b:DE):aW->Option (List D):=λO=>match a O with
 |some ds=>(match b O with
  |some (.int n)=>if -(2 ^ 63)<=n/\n<2 ^ 63/\ds.length*n.toNat<=Î then À (æ n.toNat ds).flatten else Á
  |_=>Á)
 |none=>Á
theorem IsL.rep(r:IsL K H Z vs ds):∀n,IsL K H Z (æ n vs).flatten (æ n ds).flatten
 | 0=>.nil
 |n+1=>r.append (r.rep n)
def JP(ha:cZ K ta a)(hb:SemB K tb b):cZ K (tOp L4 ta tb) (mI a b):=λ{B Z os O Y H Q ds} f q k=>by
 unfold mI at q;split at q
 ·rename_i es e1;split at q
  ·rename_i n e2;by_cases c:-(2 ^ 63)<=n/\n<2 ^ 63/\es.length*n.toNat<=Î
   ·rw[if_pos c]at q;cases q;refine ha f e1 λp vs H1 s1 hp hp' hl i1=>hb (f.grow s1) e2 λu H2 s2 i2=>?_;rw[i2.isInt];have hlen:vs.length*n.toNat<=Î:=by rw[i1.length];exact c.2.2
    have s12:=s1.trans s2;refine⟨p,n,vs,rfl,rfl,s2 _ _ hp',c.1,c.2.1,hlen,λx hx=>k x _ _ (s12.trans (bq hx)) (aH.free s12 hx) az ?_ ((((i1.same s2).kp (Kp.less λa z=>.inr z)).rep _).kp (jY hx))⟩;rw[len_rep,Nat.mul_comm];exact hlen
   ·rw[if_neg c]at q;cases q
  ·cases q
 ·cases q
end
end
end
section
open Classical
section
instance:Inhabited D:=⟨.non⟩
def JW(h:Rd H a (.lst xs))(h':Rd H a (.lst ys)):xs=ys:=by rcases h with h |⟨o,h⟩ <;> rcases h' with h' |⟨o',h'⟩ <;> rw[h]at h' <;> cases h' <;> rfl
noncomputable def fJ:Nat->D->D->Bool
 |_,.int _,.int _=>Â
 |_,.bl _,.bl _=>Â
 |_,.str _,.str _=>Â
 |_,.non,.non=>Â
 |n+1,.lst xs,.lst ys=>decide (xs.length≠ys.length) || (Pj xs ys).all λp=>fJ n p.1 p.2
 |n+1,.tup xs,.tup ys=>decide (xs.length=ys.length)&&(Pj xs ys).all λp=>fJ n p.1 p.2
 |_,_,_=>Ã
def C5{xs ys:List D}{j:Nat}(h:(Pj xs ys).all p=Â)(e1:xs[j]?=À a)(e2:ys[j]?=À b):p (a,b)=Â :=
 Ľ.mp h _ (õ (List.getElem?_zip_eq_some.mpr ⟨e1,e2⟩))
inductive Cm:Nat->D->D->Prop
 |int {n:Nat} (a b:Int):Cm n (.int a) (.int b)
 |bl {n:Nat} (a b:Bool):Cm n (.bl a) (.bl b)
 |str {n:Nat} (a b:ĺ):Cm n (.str a) (.str b)
 |non {n:Nat}:Cm n .non .non
 |lst {n:Nat} {xs ys:List D} (h:xs.length=ys.length->(Pj xs ys).all (λp=>fJ n p.1 p.2)=Â):Cm (n+1) (.lst xs) (.lst ys)
 |tup {n:Nat} {xs ys:List D} (hl:xs.length=ys.length) (h:(Pj xs ys).all (λp=>fJ n p.1 p.2)=Â):Cm (n+1) (.tup xs) (.tup ys)
def mL(hc:fJ n d e=Â):Cm n d e:=by
 unfold fJ at hc;split at hc
 ·exact .int _ _
 ·exact .bl _ _
 ·exact .str _ _
 ·exact .non
 ·exact .lst λhl=>by simpa [hl]using hc
 ·rw[Υ]at hc;exact .tup (of_decide_eq_true hc.1) hc.2
 ·cases hc
def Is.lW(i:Is K H Z v (.int a)):v=.int a:=by cases i;rfl
def Is.uC(i:Is K H Z v (.bl a)):v=.bl a:=by cases i;rfl
def Is.oF(i:Is K H Z v (.str a)):v=.str a:=by cases i;rfl
def Is.sZ(i:Is K H Z v .non):v=.non:=by cases i;rfl
def Is.kM(i:Is K H Z v (.lst ds)):∃a vs,v=.ref a/\¬Z a/\Rd H a (.lst vs)/\vs.length<=Î/\IsL K H Z vs ds:=by cases i with |lst hz h hl r=>exact⟨_,_,rfl,hz,h,hl,r⟩
def Is.oE(i:Is K H Z v (.tup ds)):∃a vs,v=.ref a/\¬Z a/\H a=À (.tup vs)/\vs.length<=Î/\IsL K H Z vs ds:=by cases i with |tup hz h hl r=>exact⟨_,_,rfl,hz,h,hl,r⟩
def Is.inj:∀(n:Nat) {v:V} {d e:D},fJ n d e=Â->Is K H Z v d->Is K H Z' v e->d=e:=by
 intro n;induction n using Pz with |ind n ih=>?_
 have lists:∀{m:Nat},m<n->∀{vs:List V} {ds es:List D},(Pj ds es).all (λp=>fJ m p.1 p.2)=Â->IsL K H Z vs ds->IsL K H Z' vs es->ds=es:=by intro m hm vs ds es hc r r';have l1:=r.length;have l2:=r'.length;refine Τ (by lia) λk h1 h2=>?_;obtain⟨v,e1,i1⟩:=r.get (É h1);obtain⟨v',e2,i2⟩:=r'.get (É h2);rw[e1]at e2;cases e2;exact ih m hm (C5 hc (É h1) (É h2)) i1 i2
 intro v d e hc i j;cases mL hc with
 |int=>have h:=i.lW;rw[j.lW]at h;cases h;rfl
 |bl=>have h:=i.uC;rw[j.uC]at h;cases h;rfl
 |str=>have h:=i.oF;rw[j.oF]at h;cases h;rfl
 |non=>rfl
 |lst h =>obtain⟨p,xs,rfl,z1,h1,l1,g1⟩:=i.kM;obtain⟨q,ys,e,z2,h2,l2,g2⟩:=j.kM;cases e;have e:=JW h1 h2;subst e;rw[lists (ĸ _) (h (by have:=g1.length;have:=g2.length;lia)) g1 g2]
 |tup hl h =>obtain⟨p,xs,rfl,z1,h1,l1,g1⟩:=i.oE;obtain⟨q,ys,e,z2,h2,l2,g2⟩:=j.oE;cases e;rw[h1]at h2;cases h2;rw[lists (ĸ _) h g1 g2]
section
def vS(xs ys:List D):decide (D.lst xs=D.lst ys)=decide (xs=ys):=by simp
def vR(xs ys:List D):decide (D.tup xs=D.tup ys)=decide (xs=ys):=by simp
def pJ(a b:Int):decide (D.int a=D.int b)=(a==b):=by rw[Ķ];simp
def vT(a b:Bool):decide (D.bl a=D.bl b)=(a==b):=by rw[Ķ];simp
def pI(a b:ĺ):decide (D.str a=D.str b)=(a==b):=by rw[Ķ];simp
def Ah{us ws:List Ù}{ns:List D}(p1:s.heap.IsTuple l us.toArray)(p2:s.heap.IsTuple b ws.toArray)(hl:us.length=ns.length)(hl2:ws.length=ms.length)(hs:ns.length=ms.length)(hu:A.units<O7)
 (h:∀(j:Nat) (u v:Ù) (a b:D),us[j]?=À u->ws[j]?=À v->ns[j]?=À a->ms[j]?=À b->Ϩ A.in1 s u v (decide (a=b))) :
 SeqAt.RcAt A s (.ref l) (.ref b) (decide (ns=ms)):=by
 have q:=SeqAt.RcAt.tuples (e:=λj=>decide (ns.getD j default=ms.getD j default)) p1 p2 hu (jb hl hl2 h);have e:((ê (min us.toArray.size ws.toArray.size)).all λj=>decide (ns.getD j default=ms.getD j default))=decide (ns=ms):=by rw[ã,ã,hl,hl2,<-hs,S0];exact fE default hs
 rw[e,(by simp;lia:(us.toArray.size==ws.toArray.size)=Â),Sk]at q;exact q
def BZ{us ws:List Ù}{ns:List D}(p1:s.heap.IsTuple l us.toArray)(p2:s.heap.IsTuple b ws.toArray)(hl:us.length=ns.length)(hl2:ws.length=ms.length)(hs:ns.length=ms.length)(hu:A.units<O7)
 (h:∀(j:Nat) (u v:Ù) (a b:D),us[j]?=À u->ws[j]?=À v->ns[j]?=À a->ms[j]?=À b->Ϩ A.in1 s u v (decide (a=b))) :
 UC A s (.ref l) (.ref b) (!decide (ns=ms)):=by
 have q:=SeqAt.RcNeAt.tuples (e:=λj=>decide (ns.getD j default=ms.getD j default)) p1 p2 hu (jb hl hl2 h);have e:((ê (min us.toArray.size ws.toArray.size)).all λj=>decide (ns.getD j default=ms.getD j default))=decide (ns=ms):=by rw[ã,ã,hl,hl2,<-hs,S0];exact fE default hs
 rw[e,(by simp;lia:(us.toArray.size==ws.toArray.size)=Â),Sk]at q;exact q
def in1_units{A:Ŝ}:A.in1.units=A.units+1:=rfl
def iG(hc:(Pj ds es).all (λp=>fJ n p.1 p.2)=Â)(r1:Vals xs us)(r2:Vals ys ws)(g1:IsL K H No xs ds)(g2:IsL K H No ys es)
 (ih:∀{v w:V} {d e:D} {u x:Ù},RelV v u->RelV w x->Is K H No v d->Is K H No w e->fJ n d e=Â->Ϩ A s u x (decide (d=e))) :
 ∀(j:Nat) (u v:Ù) (a b:D),us[j]?=À u->ws[j]?=À v->ds[j]?=À a->es[j]?=À b->Ϩ A s u v (decide (a=b)):=by
 intro j u v a b e1 e2 e3 e4;obtain⟨x,f1,i1⟩:=g1.get e3;obtain⟨y,f2,i2⟩:=g2.get e4;obtain⟨u',q1,k1⟩:=r1.get f1;obtain⟨v',q2,k2⟩:=r2.get f2;rw[e1]at q1;cases q1;rw[e2]at q2;cases q2;exact ih k1 k2 i1 i2 (C5 hc e3 e4)
def pF(I:Inv X pins Y H s):∀(n:Nat) {A:Ŝ},A.units+n<O7->∀{v w:V} {d e:D} {u x:Ù},RelV v u->RelV w x->Is K H No v d->Is K H No w e->fJ n d e=Â->Ϩ A s u x (decide (d=e)):=by
 intro n;induction n using Pz with |ind n ih=>?_
 intro A hu v w d e u x r1 r2 i1 i2 hc;have hc0:=hc;cases mL hc with
 |int a b=>rw[i1.lW]at r1;rw[i2.lW]at r2;obtain⟨t,rfl⟩:=r1;obtain⟨t',rfl⟩:=r2;rw[pJ];exact Qb a t b t'
 |bl a b=>rw[i1.uC]at r1;rw[i2.uC]at r2;cases r1;cases r2;rw[vT];exact SeqAt.EqAt.bool_bool a b
 |str a b=>rw[i1.oF]at r1;rw[i2.oF]at r2;obtain⟨t,rfl⟩:=r1;obtain⟨t',rfl⟩:=r2;rw[pI];exact SeqAt.EqAt.str_str a t b t'
 |non=>rw[i1.sZ]at r1;rw[i2.sZ]at r2;cases r1;cases r2;rw[decide_eq_true rfl];exact Rn _
 |@lst n ds es h =>
  have j1:=i1;have j2:=i2;obtain⟨p,xs,rfl,z1,h1,l1,g1⟩:=i1.kM;obtain⟨q,ys,rfl,z2,h2,l2,g2⟩:=i2.kM;cases r1;cases r2;by_cases hpq:p=q
  ·subst hpq;rw[decide_eq_true (Is.inj _ hc0 j1 j2)];exact Rn _
  ·obtain⟨_,us,m1,k1,n1,o1⟩:=I.mB h1;obtain⟨_,ws,m2,k2,n2,o2⟩:=I.mB h2;rw[vS];have e1:=g1.length;have e2:=g2.length;refine Sx hpq ?_;by_cases hl:ds.length=es.length
   ·exact qu ⟨_,o1,rfl,_,rfl⟩ ⟨_,o2,rfl,_,rfl⟩ (by lia) (by lia) (by lia) (iG (h hl) k1 k2 g1 g2 (ih n (ĸ _) (by rw[in1_units];lia)))
   ·have q:=Oz (A:=A) (s:=s) (items:=us.toArray) (items2:=ws.toArray) ⟨_,o1,rfl,_,rfl⟩ ⟨_,o2,rfl,_,rfl⟩ (by simp;lia) (by lia);have e:decide (ds=es)=false:=decide_eq_false λz=>hl (by rw[z]);rw[e];exact q
 |@tup n ds es hl h =>
  have j1:=i1;obtain⟨p,xs,rfl,z1,h1,l1,g1⟩:=i1.oE;obtain⟨q,ys,rfl,z2,h2,l2,g2⟩:=i2.oE;cases r1;cases r2;by_cases hpq:p=q
  ·subst hpq;rw[decide_eq_true (Is.inj _ hc0 j1 i2)];exact Rn _
  ·obtain⟨us,k1,o1,_⟩:=I.tuple (.inl (.inl h1));obtain⟨ws,k2,o2,_⟩:=I.tuple (.inl (.inl h2));rw[vR];have e1:=g1.length;have e2:=g2.length;have n1:=k1.length;have n2:=k2.length;exact Sx hpq (Ah o1 o2 (by lia) (by lia) hl (by lia) (iG h k1 k2 g1 g2 (ih n (ĸ _) (by rw[in1_units];lia))))
def JZ(K:Í)(neg:Bool):R2:=λx y H Q=>∃d e,Is K H No x d/\Is K H No y e/\fJ 20 d e=Â/\Q (.bl (if neg=Â then !decide (d=e) else decide (d=e))) H
def dS(hu:X.A.units+64<O7):o6 X (ū .Eq) (JZ K Ã):=by
 intro pins s Y H x y v u Q I rx ry h;obtain⟨d,e,i1,i2,hc,h⟩:=h;rw[if_neg ñ]at h;cases mL hc with
 |int a b=>obtain rfl:=i1.lW;obtain rfl:=i2.lW;exact Au pins s Y H _ _ v u Q I rx ry ⟨rfl,by rw[show decide (V.int a=V.int b)=decide (D.int a=D.int b) from decide_eq_decide.mpr ⟨λq=>by cases q;rfl,λq=>by cases q;rfl⟩];exact h⟩
 |bl a b=>obtain rfl:=i1.uC;obtain rfl:=i2.uC;exact Au pins s Y H _ _ v u Q I rx ry ⟨rfl,by rw[show decide (V.bl a=V.bl b)=decide (D.bl a=D.bl b) from decide_eq_decide.mpr ⟨λq=>by cases q;rfl,λq=>by cases q;rfl⟩];exact h⟩
 |str a b=>obtain rfl:=i1.oF;obtain rfl:=i2.oF;exact Au pins s Y H _ _ v u Q I rx ry ⟨rfl,by rw[show decide (V.str a=V.str b)=decide (D.str a=D.str b) from decide_eq_decide.mpr ⟨λq=>by cases q;rfl,λq=>by cases q;rfl⟩];exact h⟩
 |non=>obtain rfl:=i1.sZ;obtain rfl:=i2.sZ;exact Au pins s Y H _ _ v u Q I rx ry ⟨rfl,by rw[show decide (V.non=V.non)=decide (D.non=D.non) from decide_eq_decide.mpr ⟨λq=>rfl,λq=>rfl⟩];exact h⟩
 |@lst n ds es hh =>
  obtain⟨p,xs,rfl,z1,h1,l1,g1⟩:=i1.kM;obtain⟨q,ys,rfl,z2,h2,l2,g2⟩:=i2.kM;cases rx;cases ry;obtain⟨_,us,m1,k1,n1,o1⟩:=I.mB h1;obtain⟨_,ws,m2,k2,n2,o2⟩:=I.mB h2;rw[vS]at h;have e1:=g1.length;have e2:=g2.length;by_cases hl:ds.length=es.length
  ·exact qu ⟨_,o1,rfl,_,rfl⟩ ⟨_,o2,rfl,_,rfl⟩ (by lia) (by lia) (by lia) (iG (hh hl) k1 k2 g1 g2 (pF I 19 (by rw[in1_units];lia))) X.prog X.w X.xe _ ⟨.bl _,H,I,rfl,h⟩
  ·have q:=Oz (A:=X.A) ⟨_,o1,rfl,_,rfl⟩ ⟨_,o2,rfl,_,rfl⟩ (by simp;lia) (by lia);rw[(decide_eq_false λz=>hl (by rw[z]))]at h;exact q X.prog X.w X.xe _ ⟨.bl _,H,I,rfl,h⟩
 |@tup n ds es hl hh =>obtain⟨p,xs,rfl,z1,h1,l1,g1⟩:=i1.oE;obtain⟨q,ys,rfl,z2,h2,l2,g2⟩:=i2.oE;cases rx;cases ry;obtain⟨us,k1,o1,_⟩:=I.tuple (.inl (.inl h1));obtain⟨ws,k2,o2,_⟩:=I.tuple (.inl (.inl h2));rw[vR]at h;have e1:=g1.length;have e2:=g2.length;have n1:=k1.length;have n2:=k2.length;exact Ah o1 o2 (by lia) (by lia) hl (by lia) (iG hh k1 k2 g1 g2 (pF I 19 (by rw[in1_units];lia))) X.prog X.w X.xe _ ⟨.bl _,H,I,rfl,h⟩
def qC(hu:X.A.units+64<O7):o6 X (ū .NotEq) (JZ K Â):=by
 intro pins s Y H x y v u Q I rx ry h;obtain⟨d,e,i1,i2,hc,h⟩:=h;rw[if_pos rfl]at h;cases mL hc with
 |int a b=>obtain rfl:=i1.lW;obtain rfl:=i2.lW;exact As pins s Y H _ _ v u Q I rx ry ⟨rfl,by rw[show decide (V.int a=V.int b)=decide (D.int a=D.int b) from decide_eq_decide.mpr ⟨λq=>by cases q;rfl,λq=>by cases q;rfl⟩];exact h⟩
 |bl a b=>obtain rfl:=i1.uC;obtain rfl:=i2.uC;exact As pins s Y H _ _ v u Q I rx ry ⟨rfl,by rw[show decide (V.bl a=V.bl b)=decide (D.bl a=D.bl b) from decide_eq_decide.mpr ⟨λq=>by cases q;rfl,λq=>by cases q;rfl⟩];exact h⟩
 |str a b=>obtain rfl:=i1.oF;obtain rfl:=i2.oF;exact As pins s Y H _ _ v u Q I rx ry ⟨rfl,by rw[show decide (V.str a=V.str b)=decide (D.str a=D.str b) from decide_eq_decide.mpr ⟨λq=>by cases q;rfl,λq=>by cases q;rfl⟩];exact h⟩
 |non=>obtain rfl:=i1.sZ;obtain rfl:=i2.sZ;exact As pins s Y H _ _ v u Q I rx ry ⟨rfl,by rw[show decide (V.non=V.non)=decide (D.non=D.non) from decide_eq_decide.mpr ⟨λq=>rfl,λq=>rfl⟩];exact h⟩
 |@lst n ds es hh =>
  obtain⟨p,xs,rfl,z1,h1,l1,g1⟩:=i1.kM;obtain⟨q,ys,rfl,z2,h2,l2,g2⟩:=i2.kM;cases rx;cases ry;obtain⟨_,us,m1,k1,n1,o1⟩:=I.mB h1;obtain⟨_,ws,m2,k2,n2,o2⟩:=I.mB h2;rw[vS]at h;have e1:=g1.length;have e2:=g2.length;by_cases hl:ds.length=es.length
  ·exact ve ⟨_,o1,rfl,_,rfl⟩ ⟨_,o2,rfl,_,rfl⟩ (by lia) (by lia) (by lia) (iG (hh hl) k1 k2 g1 g2 (pF I 19 (by rw[in1_units];lia))) X.prog X.w X.xe _ ⟨.bl _,H,I,rfl,h⟩
  ·have q:=P5 (A:=X.A) ⟨_,o1,rfl,_,rfl⟩ ⟨_,o2,rfl,_,rfl⟩ (by simp;lia) (by lia);rw[(decide_eq_false λz=>hl (by rw[z]))]at h;exact q X.prog X.w X.xe _ ⟨.bl _,H,I,rfl,h⟩
 |@tup n ds es hl hh =>obtain⟨p,xs,rfl,z1,h1,l1,g1⟩:=i1.oE;obtain⟨q,ys,rfl,z2,h2,l2,g2⟩:=i2.oE;cases rx;cases ry;obtain⟨us,k1,o1,_⟩:=I.tuple (.inl (.inl h1));obtain⟨ws,k2,o2,_⟩:=I.tuple (.inl (.inl h2));rw[vR]at h;have e1:=g1.length;have e2:=g2.length;have n1:=k1.length;have n2:=k2.length;exact BZ o1 o2 (by lia) (by lia) hl (by lia) (iG hh k1 k2 g1 g2 (pF I 19 (by rw[in1_units];lia))) X.prog X.w X.xe _ ⟨.bl _,H,I,rfl,h⟩
end
section
def jG(neg:Bool)(a b:DE):DE:=λO=>match a O with
 |some d=>(match b O with
  |some e=>if fJ 20 d e=Â then À (.bl (if neg=Â then !decide (d=e) else decide (d=e))) else Á
  |none=>Á)
 |none=>Á
def LW[aV](ha:SemB K ta a)(hb:SemB K tb b):aN K (tOp (JZ K neg) ta tb) (jG neg a b):=λ{B Z os O Y H Q d} f q k=>by
 unfold jG at q;split at q
 ·rename_i x e1;split at q
  ·rename_i y e2;by_cases c:fJ 20 x y=Â
   ·rw[if_pos c]at q;cases q;exact ha f e1 λv H1 s1 i1=>hb (f.grow s1) e2 λu H2 s2 i2=>⟨x,y,i1.same s2,i2,c,k _ _ (s1.trans s2) (.bl _)⟩
   ·simp_all
  ·cases q
 ·cases q
end
end
end
end VL
namespace L2
open PySem PySem.Spec PyProof.Rows
section
def HE(K:Í)(n:Nat)(t:HZ):TG:=λv Y H Q=>Mm K n t v Y H Q\/Mn K n t v Y H Q
def J9(hc:X.calm=Â)(h:Lm X es t)
 (hn:(Ş es X.env).length=n:=by rfl) (hst:(Ş es X.env).findIdx? (·.1)=none:=by rfl):PG X (.Tuple es k pos) (HE X.K n t):=by
 intro pins s Y H v u Q I r hw;rcases hw with hw |hw
 ·exact J8 hc h hn hst pins s Y H v u Q I r hw
 ·exact Ka hc h hn hst pins s Y H v u Q I r hw
def dR{K:Í}(hK:X.K=K)(hc:X.calm=Â)(h:Lm X es t)
 (hn:(Ş es X.env).length=n:=by rfl) (hst:(Ş es X.env).findIdx? (·.1)=none:=by rfl):PG X (.Tuple es k pos) (HE K n t):=by
 subst hK;exact J9 hc h hn hst
end
end L2
namespace VL
open PySem L2
section
open Classical
section
variable[aV]
def FL(K:Í)(t:TE)(e:DE):Prop:=∀{B:Hp} {Z:Ý->Prop} {os:Own} {O:aW} {Y:L2.St} {H:Hp} {Q:VK} {d:D},Fr K B Z os O Y H->e O=À d->(∀v H',aH H H'->Is K B No v d->Q v H')->t Y H Q
def q9(i:Nat):DE:=λO=>match O.getD i .un with
 |.bo d=>À d
 |_=>Á
def Jz(i:Nat):FL K (tVar i) (q9 i):=λ{B Z os O Y H Q d} f q k=>by
 have s:=f.sl i;unfold q9 at q;cases e:O.getD i .un with
 |bo d' =>rw[e]at q s;cases q;obtain⟨_,u,hu,i⟩:=s;exact⟨u,join_some hu,k u H (aH.refl _) i⟩
 |_=>rw[e]at q;cases q
def ER(K:Í)(m:Bool)(Bx H:Hp)(T:Ý->Prop)(x:V)(d:D):Prop:=match m with
 |true=>Is K H T x d
 |false=>Is K Bx No x d
structure Walk(K:Í)(m:Bool)(Bx:Hp)(J:It)(H1:Hp)(T:Ý->Prop)(ds:List D):Prop where
 len:ds.length<=Î
 go:∀(i:Nat) (d:D) (H2:Hp) (T2:Ý->Prop),Kp T H1 T2 H2->aH Bx H2->(∀a,T2 a->∃o,H2 a=À o)->ds[i]?=À d->J.go i H2/\∀x H3,J.LC i H2 x H3->aH H2 H3/\ER K m Bx H3 T2 x d
 stop:∀(i:Nat) (H2:Hp) (T2:Ý->Prop),Kp T H1 T2 H2->aH Bx H2->ds.length=i->J.stop i H2
noncomputable def o5(K:Í)(m:Bool)(wi:TI)(e:aW->Option (List D)):Prop:=∀{B:Hp} {Z:Ý->Prop} {os:Own} {O:aW} {Y:L2.St} {H:Hp} {R:It->Hp->Prop} {ds:List D},Fr K B Z os O Y H->e O=À ds->(∀J H1,aH H H1->Walk K m B J H1 (bD Z os) ds->R J H1)->wi Y H R
noncomputable def rG(K:Í)(m:Bool)(wi:TI)(e:aW->Option (List D)):Prop:=∀{B:Hp} {Z:Ý->Prop} {os:Own} {O:aW} {Y:L2.St} {H:Hp} {R:It->Hp->Prop} {ds:List D},Fr K B Z os O Y H->e O=À ds->(∀J H1,aH H H1->Walk K m H1 J H1 (bD Z os) ds->R J H1)->wi Y H R
def o5.c(h:o5 K Â wi e):rG K Â wi e:=λf q k=>h f q λJ H1 s w=>k J H1 s ⟨w.len,λi d H2 T2 kp sm hd e=>w.go i d H2 T2 kp ((f.keep.trans s).trans sm) hd e,λi H2 T2 kp sm hl=>w.stop i H2 T2 kp ((f.keep.trans s).trans sm) hl⟩
def Rd.same(h:Rd H a u)(s:aH H H'):Rd H' a u:=by
 rcases h with h |⟨o,h⟩
 ·exact .inl (s _ _ h)
 ·exact .inr ⟨o,s _ _ h⟩
def nh(hl:ds.length<=Î)(hd0:∀H2 T2,Kp T H1 T2 H2->aH Bx H2->cE K H2 p vs)(hn:vs.length=ds.length)
 (hi:∀H2 T2 (i:Nat) v d,Kp T H1 T2 H2->aH Bx H2->vs[i]?=À v->ds[i]?=À d->ER K m Bx H2 T2 v d):Walk K m Bx (MV K p) H1 T ds:=by
 refine⟨hl,λi d H2 T2 kp sb hd e=>?_,λi H2 T2 kp sb hi=>⟨vs,hd0 H2 T2 kp sb,by lia⟩⟩;have hr2:=hd0 H2 T2 kp sb;have hi':i<vs.length:=by rw[hn];exact(Ó.mp e).1
 have e1:=É hi';refine⟨⟨vs,_,hr2,e1⟩,λx H3 ⟨e3,hx⟩=>?_⟩;subst e3;have:=hx vs hr2;rw[e1]at this;cases this;exact⟨aH.refl _,hi _ T2 i _ d kp sb e1 e⟩
def zW(ha:aN K tl a):o5 K Â (t6 K tl) (asL a):=λ{B Z os O Y H R ds} f q k=>by obtain⟨d,q,ed⟩:=cu q;refine ha f q λv H1 s1 i1=>?_;obtain⟨p,vs,rfl,hl,hn,hr⟩:=i1.seq ed;refine⟨p,rfl,⟨vs,(hr H1 _ Kp.refl).1⟩,k _ _ s1 (nh (hn ▸ hl) (λH2 T2 kp _=>(hr H2 T2 kp).1) hn λH2 T2 i v d kp _ e1 e2=>?_)⟩;obtain⟨v',f1,i2⟩:=(hr H2 T2 kp).2.get e2;rw[e1]at f1;cases f1;exact i2
def tq(ha:SemB K tl a):rG K Ã (t6 K tl) (asL a):=λ{B Z os O Y H R ds} f q k=>by obtain⟨d,q,ed⟩:=cu q;refine ha f q λv H1 s1 i1=>?_;obtain⟨p,vs,rfl,hl,hn,hr⟩:=i1.seq ed;refine⟨p,rfl,⟨vs,(hr H1 _ Kp.refl).1⟩,k _ _ s1 (nh (hn ▸ hl) (λH2 T2 kp sb=>(hr H2 No (Kp.same sb)).1) hn λH2 T2 i v d kp sb e1 e2=>?_)⟩;obtain⟨v',f1,i2⟩:=(hr H1 No Kp.refl).2.get e2;rw[e1]at f1;cases f1;exact i2
def CT(lo:Int)(n:Nat):List D:=(ê n).map λ(i:Nat)=>.int (lo+(i:Int))
def lX:(CT lo n).length=n:=by unfold CT;rw[Ê,Ę]
def zN(h:(CT lo n)[i]?=À d):i<n/\d=.int (lo+i):=by
 unfold CT at h;by_cases hi:i<n
 ·simp_all
 ·simp_all
def pR(hn:n<=Î):Walk K m Bx (ME lo n) H1 T (CT lo n):=by
 refine⟨by rw[lX];exact hn,λi d H2 T2 kp _ hd e=>?_,λi H2 T2 kp _ hi=>by rw[lX]at hi;exact ŕ hi⟩;obtain⟨hi,rfl⟩:=zN e;refine⟨hi,λx H3 ⟨e3,ex⟩=>?_⟩;subst e3 ex;cases m
 ·exact⟨aH.refl _,.int _⟩
 ·exact⟨aH.refl _,.int _⟩
def jF(a:DE):aW->Option (List D):=λO=>match a O with
 |some (.int j)=>if -(2 ^ 62)<=j/\j.toNat<=Î then À (CT 0 j.toNat) else Á
 |_=>Á
noncomputable def CD(a b:DE):aW->Option (List D):=λO=>match a O with
 |some (.int i)=>(match b O with
  |some (.int j)=>if -(2 ^ 62)<=i/\i<2 ^ 62/\-(2 ^ 62)<=j/\j<2 ^ 62/\(j-i).toNat<=Î then À (CT i (j-i).toNat) else Á
  |_=>Á)
 |_=>Á
def BB(ha:SemB K ta a):o5 K Â (IQ (a9 ta dv)) (jF a):=λ{B Z os O Y H R ds} f q k=>by
 unfold jF at q;split at q
 ·rename_i j e;by_cases c:-(2 ^ 62)<=j/\j.toNat<=Î
  ·rw[if_pos c]at q;cases q;have hs:=ă;exact ha f e λv H1 s1 i1=>⟨j,by rw[i1.isInt],c.1,by lia,k _ _ s1 (pR c.2)⟩
  ·rw[if_neg c]at q;cases q
 ·cases q
def BA(ha:SemB K ta a)(hb:SemB K tb b):o5 K Â (IP (a9 ta (a9 tb dv))) (CD a b):=λ{B Z os O Y H R ds} f q k=>by
 unfold CD at q;split at q
 ·rename_i i e;split at q
  ·rename_i j e2;by_cases c:-(2 ^ 62)<=i/\i<2 ^ 62/\-(2 ^ 62)<=j/\j<2 ^ 62/\(j-i).toNat<=Î
   ·rw[if_pos c]at q;cases q;exact ha f e λv H1 s1 i1=>hb (f.grow s1) e2 λu H2 s2 i2=>⟨i,j,by rw[i1.isInt,i2.isInt],⟨c.1,c.2.1,c.2.2.1,c.2.2.2.1⟩,k _ _ (s1.trans s2) (pR c.2.2.2.2)⟩
   ·rw[if_neg c]at q;cases q
  ·cases q
 ·cases q
def Cz(ds:List D):List D:=ds.mapIdx λi d=>.tup [.int i,d]
def vQ{i:Nat}(h:(Cz ds)[i]?=À d):∃e,ds[i]?=À e/\d=.tup [.int i,e]:=by
 unfold Cz at h;rw[List.getElem?_mapIdx]at h;cases e:ds[i]? with
 |none=>rw[e]at h;cases h
 |some x=>simp_all
def Fv(a:DE):aW->Option (List D):=λO=>match asL a O with
 |some ds=>À (Cz ds)
 |none=>Á
def sX(hl:ds.length<=Î)(hd0:∀H2 T2,Kp T H1 T2 H2->aH Bx H2->cE K H2 p vs/\IsL K H2 T2 vs ds):Walk K Â Bx (MW K p) H1 T (Cz ds):=by
 have hlen:(Cz ds).length=ds.length:=by unfold Cz;rw[Sy]
 refine⟨by rw[hlen];exact hl,λi d H2 T2 kp sb hd e=>?_,λi H2 T2 kp sb hi=>?_⟩
 ·obtain⟨x,ex,rfl⟩:=vQ e;obtain⟨hr2,r2⟩:=hd0 H2 T2 kp sb;obtain⟨v,e1,i2⟩:=r2.get ex;refine⟨⟨vs,v,hr2,e1⟩,λy H3 hy=>?_⟩;obtain⟨t,w,ey,nt,hw,e3⟩:=hy;subst e3 ey;have:=hw vs hr2;rw[e1]at this;cases this;refine⟨bq nt,.tup (λz=>?_) az (by show 2<=Î;decide) ((IsL.cons (.int _) (.one i2)).same (bq nt))⟩;obtain⟨o,q⟩:=hd t z;rw[nt]at q;cases q
 ·obtain⟨hr2,r2⟩:=hd0 H2 T2 kp sb;exact⟨vs,hr2,by rw[r2.length,<-hlen];exact ŕ hi⟩
def xT(h:Fv a O=À ds):∃es,asL a O=À es/\ds=Cz es:=by
 unfold Fv at h;split at h
 ·simp_all
 ·cases h
def GF(ha:aN K tl a):o5 K Â (AV K tl) (Fv a):=λ{B Z os O Y H R ds} f q k=>by obtain⟨es,e,rfl⟩:=xT q;obtain⟨d,e,ed⟩:=cu e;refine ha f e λv H1 s1 i1=>?_;obtain⟨p,vs,rfl,hl,hn,hr⟩:=i1.seq ed;exact⟨p,rfl,⟨vs,(hr H1 _ Kp.refl).1⟩,k _ _ s1 (sX (hn ▸ hl) λH2 T2 kp _=>hr H2 T2 kp)⟩
def lE(a:DE):DE:=λO=>match asL a O with
 |some ds=>if kT ds=Â then À (.lst ds) else Á
 |none=>Á
def xA(h:Fv (lE a) O=À ds):∃es,asL a O=À es/\kT es=Â/\ds=Cz es:=by
 obtain⟨es,e,rfl⟩:=xT h;obtain⟨d,e,ed⟩:=cu e;unfold lE at e;split at e
 ·rename_i fs e2;by_cases c:kT fs=Â
  ·rw[if_pos c]at e;cases e;cases ed;exact⟨_,e2,c,rfl⟩
  ·simp_all
 ·cases e
def DL(ha:FL K tl a):o5 K Â (AV K tl) (Fv (lE a)):=λ{B Z os O Y H R ds} f q k=>by obtain⟨es,e,c,rfl⟩:=xA q;obtain⟨d,e,ed⟩:=cu e;refine ha f e λv H1 s1 i1=>?_;obtain⟨p,vs,rfl,hl,hn,hr⟩:=i1.seq ed;exact⟨p,rfl,⟨vs,(hr H1 No (Kp.same (f.keep.trans s1))).1⟩,k _ _ s1 (sX (hn ▸ hl) λH2 T2 kp sb=>⟨(hr H2 No (Kp.same sb)).1,(hr H2 No (Kp.same sb)).2.flat c⟩)⟩
abbrev DG:=D->aW->Option aW
abbrev MG:=List D->aW->Option aW
noncomputable def sU(K:Í)(m:Bool)(g:TG)(e:DG):Prop:=∀{B:Hp} {Z:Ý->Prop} {os:Own} {O:aW} {Y:L2.St} {H:Hp} {Q:L2.St->Hp->Prop} {v:V} {d:D} {O':aW},Fr K B Z os O Y H->ER K m B H (bD Z os) v d->e d O=À O' ->
 (∀os' Y',Fr K B Z os' O' Y' H->Kp (bD Z os) H (bD Z os') H->Q Y' H)->g v Y H Q
def Of(K:Í)(m:Bool)(Bx H:Hp)(T:Ý->Prop)(vs:List V)(ds:List D):Prop:=match m with
 |true=>IsL K H T vs ds
 |false=>IsL K Bx No vs ds
noncomputable def Bj(K:Í)(m:Bool)(g:HZ)(e:MG):Prop:=∀{B:Hp} {Z:Ý->Prop} {os:Own} {O:aW} {Y:L2.St} {H:Hp} {Q:L2.St->Hp->Prop} {vs:List V} {ds:List D} {O':aW},Fr K B Z os O Y H->Of K m B H (bD Z os) vs ds->e ds O=À O' ->
 (∀os' Y',Fr K B Z os' O' Y' H->Kp (bD Z os) H (bD Z os') H->Q Y' H)->g vs Y H Q
def pe(m:Bool)(d:D):Sl:=match m with
 |true=>.pu d
 |false=>.bo d
def gN(m:Bool)(i:Nat):DG:=λd O=>À (O.set i (pe m d))
def Fr.J0{os:Own}(f:Fr K B Z os O Y H)(i:Nat)(h:ER K m B H (bD Z os) v d) :
 ∃os',Fr K B Z os' (O.set i (pe m d)) (Y.set i (À v)) H/\Kp (bD Z os) H (bD Z os') H:=by
 by_cases hi:i < O.length
 ·cases m with
  |true=>exact⟨_,f.put hi h⟩
  |false=>exact⟨_,f.step hi (λa u e _=>e) (λa ha=>let ⟨xs,e⟩:=(f.sl i).pH ha;⟨_,e⟩) ī (λa h=>by cases h) ⟨rfl,v,rfl,h⟩⟩
 ·rw[(OA (ņ.1 hi)),(OA (by rw[f.len];exact ņ.1 hi))];exact⟨os,f,Kp.refl⟩
def aE(i:Nat):sU K m (fz i) (gN m i):=λ{B Z os O Y H Q v d O'} f h q k=>by cases q;obtain⟨os',f',kp⟩:=f.J0 i h;exact k os' _ f' kp
def jv:MG:=λds O=>match ds with
 |[]=>À O
 |_=>Á
def bP(e:DG)(r:MG):MG:=λds O=>match ds with
 |d::t=>(match e d O with
  |some O'=>r t O'
  |none=>Á)
 |[]=>Á
def dP:Bj K m KU jv:=λ{B Z os O Y H Q vs ds O'} f h q k=>by
 cases ds with
 |nil =>cases q;exact⟨(by cases m <;> cases h <;> rfl),k os Y f Kp.refl⟩
 |cons d t=>cases q
def aS(hg:sU K m g e)(hr:Bj K m u r):Bj K m (E7 g u) (bP e r):=λ{B Z os O Y H Q vs ds O'} f h q k=>by
 cases ds with
 |nil=>cases q
 |cons d t =>
  have q:(match e d O with |some O'=>r t O' |none=>Á)=À O':=q;split at q
  ·rename_i ρ1 e1
   obtain⟨v,vt,rfl,h1,h2⟩:∃v vt,vs=v::vt/\ER K m B H (bD Z os) v d/\Of K m B H (bD Z os) vt t:=by
    cases m with
    |true=>cases h with |cons a b=>exact⟨_,_,rfl,a,b⟩
    |false=>cases h with |cons a b=>exact⟨_,_,rfl,a,b⟩
   refine⟨v,vt,rfl,hg f h1 e1 λos1 σ1 f1 k1=>hr f1 ?_ q λos2 σ2 f2 k2=>k os2 σ2 f2 (k1.trans k2)⟩;cases m with
   |true=>exact IsL.kp k1 h2
   |false=>exact h2
  ·cases q
def CZ(n:Nat)(r:MG):DG:=λd O=>match d with
 |.tup ds=>if ds.length=n then r ds O else Á
 |.lst ds=>if ds.length=n then r ds O else Á
 |_=>Á
def jQ(hr:Bj K m u r):sU K m (HE K n u) (CZ n r):=λ{B Z os O Y H Q v d O'} f h q k=>by
 cases d with
 |tup ds =>
  have q:(if ds.length=n then r ds O else Á)=À O':=q;by_cases c:ds.length=n
  ·rw[if_pos c]at q;cases m with
   |true =>obtain⟨p,vs,rfl,hz,hr',hl,g⟩:=Is.isTup h;exact .inl ⟨p,vs,rfl,.inl (.inl hr'),by rw[g.length];exact c,hr f g q k⟩
   |false =>obtain⟨p,vs,rfl,hz,hr',hl,g⟩:=Is.isTup h;exact .inl ⟨p,vs,rfl,.inl (.inl (f.keep _ _ hr')),by rw[g.length];exact c,hr f g q k⟩
  ·simp_all
 |lst ds =>
  have q:(if ds.length=n then r ds O else Á)=À O':=q;by_cases c:ds.length=n
  ·rw[if_pos c]at q;cases m with
   |true =>obtain⟨p,vs,rfl,hz,hr',hl,g⟩:=Is.t5 h;exact .inr ⟨p,vs,rfl,.inl hr',by rw[g.length];exact c,hr f g q k⟩
   |false =>obtain⟨p,vs,rfl,hz,hr',hl,g⟩:=Is.t5 h;exact .inr ⟨p,vs,rfl,.inl (Rd.same hr' f.keep),by rw[g.length];exact c,hr f g q k⟩
  ·simp_all
 |_=>cases q
def Fr.Ij{os:Own}(f:Fr K B Z os O Y H):∀a,bD Z os a->∃o,H a=À o:=by
 rintro a (z |⟨i,z⟩)
 ·exact f.C6 a z
 ·obtain⟨xs,e⟩:=(f.sl i).pH z;exact⟨_,e⟩
def Fr.zt{os:Own}(f:Fr K B Z os O Y H):ZT (bD Z os) H:=⟨f.Ij,f.lY⟩
noncomputable def view:Sl->Sl
 |.pu d=>.pu d
 |.bo d=>.bo d
 |.ol ds=>.bo (.lst ds)
 |.om rows=>.bo (.lst (rows.map D.lst))
 |.od kvs=>.bo (.dct kvs)
 |.pm _ _ rows=>.bo (.lst (rows.map D.lst))
 |.pd _ kvs=>.bo (.dct kvs)
 |.dk C ks ds=>.bo (.dsk C ks ds)
 |.pk _ _ _ C ks ds=>.bo (.dsk C ks ds)
 |.bk C ks ds=>.bo (.dsk C ks ds)
 |.un=>.un
def r0(k:Nat)(cs:List Nat)(O:aW):aW:=æ k .un++cs.map λi=>view (O.getD i .un)
def s0(k:Nat)(cs:List Nat)(Y:L2.St):L2.St:=æ k Á++cs.map λi=>(Y[i]?).join
def Be{os:Own}(f:Fr K B Z os O Y H1)(hD:H1 Dl=Á)(s:aH H1 H)(hd:H Dl=À o)(k:Nat)(cs:List Nat) :
    Fr K H1 (λa=>a=Dl\/bD Z os a) (λ_=>[]) (r0 k cs O) (s0 k cs Y) H where
  keep:=s
  C6:=λa z=>by
    rcases z with rfl |z
    · exact⟨o,hd⟩
    · obtain⟨u,e⟩:=f.Ij a z;exact⟨u,s _ _ e⟩
  len:=by unfold r0 s0;simp
  nd:=λ_=>ī
  dj:=λ_ _ _ h=>by cases h
  tab:=f.lY
  new:=λ_ _ h=>by cases h
  sl:=λj=>by
    have kp:Kp (bD Z os) H1 (bD (λa=>a=Dl\/bD Z os a) λ_=>[]) H:=λa u e z=>by
      refine⟨s _ _ e,?_⟩;rintro((rfl |q) |⟨_,q⟩)
      · rw[hD]at e;cases e
      · exact z q
      · cases q
    unfold r0 s0;rw[Ë];by_cases hj:j<k
    · rw[ú (by simpa using hj),đ,if_pos hj];exact rfl
    · rw[ï (by simpa using hj),ï (by simpa using hj),ü,ü,Ö,Ö];cases e:cs[j-k]? with
      |none=>exact rfl
      |some i =>
        have h:=f.sl i;show sS K _ _ _ _ (view (O.getD i .un)) ((Y[i]?).join);cases e2:O.getD i .un with
        |un=>exact rfl
        |pu d =>rw[e2]at h;obtain⟨_,u,hu,i1⟩:=h;exact⟨rfl,u,hu,i1.kp kp⟩
        |bo d =>rw[e2]at h;obtain⟨_,u,hu,i1⟩:=h;exact⟨rfl,u,hu,i1.same f.keep⟩
        |ol ds =>rw[e2]at h;obtain⟨a,vs,_,hu,hH,hl,i1⟩:=h;exact⟨rfl,_,hu,.lst (λz=>z) (.inl hH) hl i1.all⟩
        |om rows =>rw[e2]at h;obtain⟨a,ps,_,hu,hH,hl,i1⟩:=h;exact⟨rfl,_,hu,.lst (λz=>z) (.inl hH) (by simp_all) (gL i1)⟩
        |od kvs =>rw[e2]at h;obtain⟨a,_,hu,hH,hl⟩:=h;exact⟨rfl,_,hu,.dct (λz=>z) (.inl hH) hl⟩
        |pm a ps rows =>rw[e2]at h;obtain⟨_,hu,hH,hl,i1⟩:=h;exact⟨rfl,_,hu,.lst (λz=>z) (.inl hH) (by simp_all) (gL i1)⟩
        |pd a kvs =>rw[e2]at h;obtain⟨_,hu,hH,hl⟩:=h;exact⟨rfl,_,hu,.dct (λz=>z) (.inl hH) hl⟩
        |dk C ks ds =>rw[e2]at h;obtain⟨x,dx,p,_,hu,q⟩:=h;exact⟨rfl,_,hu,q.is⟩
        |pk x dx p C ks ds =>rw[e2]at h;obtain⟨_,hu,q⟩:=h;exact⟨rfl,_,hu,q.is⟩
        |bk C ks ds =>rw[e2]at h;obtain⟨_,x,dx,p,hu,q⟩:=h;exact⟨rfl,_,hu,(q.h f.keep).is⟩
noncomputable def oi(g:DG)(t:aW->Option Bool)(e:DE)(ρ0:aW):List D->Option (List D)
 |[]=>À []
 |d::ds=>match g d ρ0 with
  |none=>Á
  |some ρ1=>match t ρ1 with
   |none=>Á
   |some Ã=>oi g t e ρ0 ds
   |some Â=>match e ρ1 with
    |none=>Á
    |some y=>match oi g t e ρ0 ds with
     |none=>Á
     |some ys=>À (y::ys)
def dComp(k:Nat)(cs:List Nat)(it:aW->Option (List D))(g:DG)(t:aW->Option Bool)(e:DE):aW->Option (List D):=λO=>match it O with
 |some ds=>oi g t e (r0 k cs O) ds
 |none=>Á
def gI (hw:rG K m wi it) (hg:sU K m g gd) (ht:jI K tt td) (he:aN K te ed) :
    cZ K (jm wi g tt te (s0 k cs)) (dComp k cs it gd td ed):=λ{B Z os O Y H Q ds} f q kk=>by
  unfold dComp at q;split at q
  · rename_i xs e0;refine hw f e0 λJ H1 s1 W Dl hD=>?_;have f1:=f.grow s1;have sD:∀{H2:Hp} {ys:List V},aH H1 H2->aH H1 (upd H2 Dl (.lst ys)):=λ{H2 ys} s a o e=>by rw[upd_ne (aO e hD)];exact s _ _ e
    refine⟨λi m ys H2=>m=xs.length-i/\i<=xs.length/\aH H1 H2/\H2 Dl=À (.lst ys)/\ys.length<=i/\∃done rest,IsL K H2 (λa=>a=Dl\/bD Z os a) ys done/\oi gd td ed (r0 k cs O) (xs.drop i)=À rest/\done++rest=ds,
      ⟨_,rfl,Ą _,sD (aH.refl _),az,Õ _,[],ds,.nil,q,rfl⟩,?_⟩
    rintro i mm ys H2 ⟨rfl,hi,s2,eD,hly,done,rest,il,q2,ed2⟩;have kp12:Kp (bD Z os) H1 (λa=>a=Dl\/bD Z os a) H2:=λa u e z=>⟨s2 _ _ e,λw=>w.elim (aO e hD) z⟩
    by_cases hlt:i<xs.length
    · have ex:xs[i]?=À xs[i]:=É hlt;have ef:=Be f1 hD s2 eD k cs;obtain⟨go,yl⟩:=W.go i xs[i] H2 _ kp12 s2 (λa z=>ef.C6 a z) ex;refine .inr ⟨go,λx H3 hy=>?_⟩;obtain⟨s3,er⟩:=yl x H3 hy;have eD3:=s3 _ _ eD;have s13:=s2.trans s3;have ef3:=Be f1 hD s13 eD3 k cs;rw[ó hlt]at q2;unfold oi at q2
      have er':ER K m H1 H3 (bD (λa=>a=Dl\/bD Z os a) λ_=>[]) x xs[i]:=by
        cases m with
        |false=>exact er
        |true=>exact Is.kp (Kp.less λa z=>z.elim id λ⟨_,w⟩=>by cases w) er
      split at q2
      · cases q2
      · rename_i ρ1 e1;refine hg ef3 er' e1 λos1 σ1 fr1 k1=>?_;split at q2
        · cases q2
        · rename_i e2;refine ht fr1 e2 λH4 s4=>vH ⟨_,by lia,rfl,hlt,s13.trans s4,s4 _ _ eD3,by lia,done,rest,(il.same s3).same s4,q2,ed2⟩
        · rename_i e2;refine ht fr1 e2 λH4 s4=>xq ?_;split at q2
          · cases q2
          · rename_i y e3;split at q2
            · cases q2
            · rename_i rs e4;cases q2;refine he (fr1.grow s4) e3 λv H5 s5 i5=>?_;have s35:=s4.trans s5;have hl:=W.len;have kp5:∀(zs:List V),Kp (λa=>a=Dl\/bD Z os a) H5 (λa=>a=Dl\/bD Z os a) (upd H5 Dl (.lst zs)):=λzs a u e z=>⟨by rw[upd_ne λw=>z (.inl w)];exact e,z⟩
              exact⟨(s35 _ _ eD3),by lia,_,by lia,rfl,hlt,sD (s13.trans s35),az,by simp_all,done++[y],rs,((il.same s3).same s35 |>.kp (kp5 _)).append (.one ((i5.kp (Kp.less λa z=>.inl z)).kp (kp5 _))),e4,by simp_all⟩
    · have e:i=xs.length:=by lia
      subst e;rw[ϱ]at q2;cases q2;rw[ě]at ed2;subst ed2;have hl:=W.len;exact .inl ⟨W.stop _ H2 _ kp12 s2 rfl,eD,kk Dl ys H2 (s1.trans s2) (aH.free s1 hD) eD (ø hly hl) il⟩
  · cases q
inductive Fm where
 |v |l |m |x (E:XK) (C:Ý)
noncomputable def Ib(fr:Fm)(K:Í)(B H:Hp)(Z:Ý->Prop)(v:V)(d:D):Prop:=match fr with
 |.v=>Is K H Z v d
 |.l=>(∃p vs ds,v=.ref p/\d=.lst ds/\B p=Á/\H p=À (.lst vs)/\vs.length<=Î/\IsL K H (λa=>a=p\/Z a) vs ds)\/∃p kvs,v=.ref p/\d=.dct kvs/\B p=Á/\H p=À (.dK (kvs.map lG))/\kvs.length<=Î
 |.m=>∃p ps rows,v=.ref p/\d=.lst (rows.map D.lst)/\B p=Á/\(∀a∈ps,B a=Á)/\(p::ps).Nodup/\H p=À (.lst (ps.map V.ref))/\ps.length<=Î/\Ł (λq ds=>∃vs,H q=À (.lst vs)/\vs.length<=Î/\IsL K H (λa=>(a=p\/a∈ps)\/Z a) vs ds) ps rows
 |.x _ _=>Is K H Z v d
def Eg(hT:∀a,Z a->T a)(hz:∀p∈ps,¬Z p)(k:Ł (λp ds=>∃vs,H p=À (.lst vs)/\vs.length<=Î/\IsL K H T vs ds) ps rows):IsL K H Z (ps.map V.ref) (rows.map D.lst):=by
 induction k with
 |nil=>exact .nil
 |cons a _ ih =>obtain⟨vs,h,hl,r⟩:=a;exact .cons (.lst (hz _ Ò) (.inl h) hl (r.kp (Kp.less hT))) (ih λp hp=>hz p (Ñ _ hp))
def Ib.is(hz:∀a,Z a->∃o,B a=À o)(h:Ib fr K B H Z v d):Is K H Z v d:=by
 have nz:∀{p:Ý},B p=Á->¬Z p:=λ{p} e z=>by obtain⟨o,q⟩:=hz p z;rw[e]at q;cases q
 cases fr with
 |v=>exact h
 |x E C=>exact h
 |l =>
  rcases h with⟨p,vs,ds,rfl,rfl,hb,hh,hl,r⟩ |⟨p,kvs,rfl,rfl,hb,hh,hl⟩
  ·exact .lst (nz hb) (.inl hh) hl (r.kp (Kp.less λa z=>.inr z))
  ·exact .dct (nz hb) (.inl hh) hl
 |m =>obtain⟨p,ps,rows,rfl,rfl,hb,hbs,_,hh,hl,r⟩:=h;exact .lst (nz hb) (.inl hh) (by simp_all) (Eg (λa z=>.inr z) (λq hq=>nz (hbs q hq)) r)
def jJ(fr:Fm)(K:Í)(ms:List Bool)(F:List D->Option D):Sp:=λvs H Q _=>∃(Z:Ý->Prop) (ds:List D) (d:D),ZT Z H/\Args K H Z ms vs ds/\F ds=À d/\∀v H',aH H H'->Ib fr K H H' Z v d->Q v H'
def aJ(F:List D->Option D)(es:aW->Option (List D)):DE:=λO=>match es O with
 |some ds=>F ds
 |none=>Á
def z8(ha:rH K ms t es):aN K (tj (jJ fr K ms F) [] E t) (aJ F es):=λ{B Z os O Y H Q d} f q k=>by
 unfold aJ at q;split at q
 ·rename_i ds e;refine ha f e λvs H1 s1 a=>?_;rw[ě];exact⟨bD Z os,ds,d,(f.grow s1).zt,a,q,λv H2 s2 i=>k v H2 (s1.trans s2) (i.is (f.grow s1).Ij)⟩
 ·cases q
end
end
end VL
namespace L2
open PySem PySem.Spec PyProof.Rows
section
def E5:Ln X (rIxL X.K):=by
 intro pins s Y H x y v u Q I rx ry h;obtain⟨p,xs,i,z,rfl,rfl,hq,he,q⟩:=h;cases rx;obtain⟨t,rfl⟩:=ry;obtain⟨its,r,pl,hz⟩:=I.list hq;obtain⟨j,h1,h2,h3,h4,h5⟩:=pL he;obtain⟨w,ew,rw'⟩:=r.get h2;have hl:=r.length;have hn:=nW;have fin:EP X pins Y Q w s:=⟨z,H,I,rw',q⟩
 by_cases h0:0<=i
 ·have hj:=by rw[RJ h0 h5]at h1;exact þ h1
  exact wpAny_getItem_list pl.isList h0 (by lia) (by rw[hj];simpa using ew) fin
 ·have hj:(i+its.toArray.size).toNat=j:=by rw[Q0 (ϑ.1 h0) h4]at h1;rw[ã,<-hl];exact þ h1
  exact Q2 pl.isList (ϑ.1 h0) (by simp_all) (by lia) (by rw[hj];simpa using ew) fin
def t7{K:Í}(h:X.K=K):Ln X (rIxL K):=by subst h;exact E5
end
end L2
namespace VL
open PySem L2
section
open Classical
section
variable[aV]
inductive Res where
 |nx (O:aW) |rt (d:D) |bk (O:aW) |ct (O:aW) |no
abbrev DS:=aW->Res
noncomputable def lJ(fr:Fm)(K:Í)(B:Hp)(Z:Ý->Prop)(os:Own)(H:Hp)(E:Ends):Res->Prop
 |.nx O'=>∀os' Y' H',Fr K B Z os' O' Y' H'->Kp (bD Z os) H (bD Z os') H'->E.nx Y' H'
 |.bk O'=>∀os' Y' H',Fr K B Z os' O' Y' H'->Kp (bD Z os) H (bD Z os') H'->E.bk Y' H'
 |.ct O'=>∀os' Y' H',Fr K B Z os' O' Y' H'->Kp (bD Z os) H (bD Z os') H'->E.ct Y' H'
 |.rt d=>match fr with
  |.x E0 C=>∀H',aH B H'->E0 (.ref C) Á H'
  |fr=>∀v H',aH B H'->Ib fr K B H' Z v d->E.rt v H'
 |.no=>False
def SemS(fr:Fm)(K:Í)(t:TS)(s:DS):Prop:=∀{B:Hp} {Z:Ý->Prop} {os:Own} {O:aW} {Y:L2.St} {H:Hp} {E:Ends},Fr K B Z os O Y H->lJ fr K B Z os H E (s O)->t E Y H
def lJ.kp{os:Own}(k:Kp (bD Z os) H (bD Z os1) H1)(p:lJ fr K B Z os H E r):lJ fr K B Z os1 H1 E r:=by
 cases r with
 |nx O'=>exact λos' Y' H' f k'=>p os' Y' H' f (k.trans k')
 |bk O'=>exact λos' Y' H' f k'=>p os' Y' H' f (k.trans k')
 |ct O'=>exact λos' Y' H' f k'=>p os' Y' H' f (k.trans k')
 |rt d=>exact p
 |no=>exact p
@[irreducible] def b8:DS:=λO=>.nx O
theorem bA:SemS fr K Iq b8:=λf p=>by unfold b8 at p;exact p _ _ _ f Kp.refl
@[irreducible] def M9:DS:=λ_=>.no
def DQ:SemS fr K DH M9:=λf p=>by unfold M9 at p;exact p.elim
@[irreducible] def ay(s u:DS):DS:=λO=>match s O with
 |.nx O'=>u O'
 |r=>r
def ak(h1:SemS fr K t s)(h2:SemS fr K u w):SemS fr K (LK t u) (ay s w):=λ{B Z os O Y H E} f p=>by
 apply h1 f;unfold ay at p;cases e:s O with
 |nx O'=>rw[e]at p;exact λos' Y' H' f' k=>h2 f' (p.kp k)
 |bk O'=>rw[e]at p;exact p
 |ct O'=>rw[e]at p;exact p
 |rt d=>rw[e]at p;exact p
 |no=>rw[e]at p;exact p
@[irreducible] def sRet(a:DE):DS:=λO=>match a O with
 |some d=>.rt d
 |none=>.no
def aP(h:aN K ta a):SemS .v K (DC ta) (sRet a):=λ{B Z os O Y H E} f p=>by
 unfold sRet at p;cases e:a O with
 |none=>rw[e]at p;exact p.elim
 |some d=>rw[e]at p;exact h f e λv H1 s1 i1=>p v H1 (f.keep.trans s1) (i1.kp (Kp.less λa z=>.inl z))
@[irreducible] def jK(c:aW->Option Bool)(s u:DS):DS:=λO=>match c O with
 |some Â=>s O
 |some Ã=>u O
 |none=>.no
def cz(hc:jI K tc c)(h1:SemS fr K t s)(h2:SemS fr K u w):SemS fr K (LM tc t u) (jK c s w):=λ{B Z os O Y H E} f p=>by
 unfold jK at p;split at p
 ·rename_i e;exact hc f e λH1 s1=>xq (h1 (f.grow s1) (p.kp (Kp.same s1)))
 ·rename_i e;exact hc f e λH1 s1=>vH (h2 (f.grow s1) (p.kp (Kp.same s1)))
 ·exact p.elim
@[irreducible] def aU(i:Nat)(a:DE):DS:=λO=>match a O with
 |some d=>.nx (O.set i (.pu d))
 |none=>.no
def aB(h:aN K ta a):SemS fr K (pW ta (fz i)) (aU i a):=λ{B Z os O Y H E} f p=>by
 unfold aU at p;cases e:a O with
 |none=>rw[e]at p;exact p.elim
 |some d =>rw[e]at p;refine h f e λv H1 s1 i1=>?_;obtain⟨os',f',k⟩:=(f.grow s1).J0 (m:=Â) i i1;exact p os' _ _ f' ((Kp.same s1).trans k)
def uQ(h:aN K ta a):SemS fr K (tf ta i) (aU i a):=aB h
@[irreducible] def Lq(a:DE)(g:DG):DS:=λO=>match a O with
 |some d=>(match g d O with
  |some O'=>.nx O'
  |none=>.no)
 |none=>.no
def Iz(h:aN K ta a)(hg:sU K Â t g):SemS fr K (pW ta t) (Lq a g):=λ{B Z os O Y H E} f p=>by
 unfold Lq at p;split at p
 ·rename_i d e;split at p
  ·rename_i O' e2;exact h f e λv H1 s1 i1=>hg (f.grow s1) i1 e2 λos' Y' f' k=>p os' Y' _ f' ((Kp.same s1).trans k)
  ·exact p.elim
 ·exact p.elim
@[irreducible] def fv(i:Nat)(a:aW->Option (List D)):DS:=λO=>match a O with
 |some ds=>if i < O.length then .nx (O.set i (.ol ds)) else .no
 |none=>.no
def gH(h:cZ K ta a):SemS fr K (pW ta (fz i)) (fv i a):=λ{B Z os O Y H E} f p=>by
 unfold fv at p;split at p
 ·rename_i ds e;by_cases hi:i < O.length
  ·rw[if_pos hi]at p;refine h f e λx vs H1 s1 hx hx1 hl i1=>?_
   have st:=f.step hi (s:=.ol ds) (λa u e _=>s1 _ _ e) (λa ha=>let ⟨xs,e⟩:=(f.sl i).pH ha;⟨_,s1 _ _ e⟩) (by simp) λa ha=>by simp_all
    ⟨x,vs,rfl,rfl,hx1,hl,i1.kp (Kp.less λa z=>?_)⟩
   ·exact p _ _ _ st.1 st.2
   ·rcases z with z |⟨j,z⟩
    ·exact .inr (.inl z)
    ·by_cases hj:j=i
     ·subst hj;rw[aX]at z;exact .inl (Ð.mp z)
     ·rw[bM hj]at z;exact .inr (.inr ⟨j,z⟩)
  ·rw[if_neg hi]at p;exact p.elim
 ·exact p.elim
def ma(h:cZ K ta a):SemS fr K (tf ta i) (fv i a):=gH h
def jM(i:Nat)(O:aW):aW:=match O.getD i .un with
 |.ol ds=>O.set i (.pu (.lst ds))
 |.om rows=>O.set i (.pu (.lst (rows.map D.lst)))
 |.od kvs=>O.set i (.pu (.dct kvs))
 |_=>O
def dw{Y:L2.St}(h:(Y[i]?).join=À v):Y.set i (À v)=Y:=by
 have e:=join_some h;refine Ń λj=>?_;by_cases hj:i=j
 ·subst hj;rw[ļ (Ó.mp e).1,e]
 ·simp_all
def di{O:aW}(h:O.getD i .un=s)(hs:s≠.un):i < O.length:=by grind
def Fr.freeze{os:Own}(f:Fr K B Z os O Y H)(i:Nat):∃os',Fr K B Z os' (jM i O) Y H/\Kp (bD Z os) H (bD Z os') H:=by
 unfold jM
 have less:∀a,bD Z (h9 os i []) a->bD Z os a:=by
  rintro a (z |⟨j,z⟩)
  ·exact .inl z
  ·by_cases hj:j=i
   ·subst hj;rw[aX]at z;cases z
   ·rw[bM hj]at z;exact .inr ⟨j,z⟩
 cases e:O.getD i .un with
 |ol ds =>
  have s:=f.sl i;rw[e]at s;obtain⟨a,vs,eo,hu,hH,hl,i1⟩:=s;have hi:=di e (by intro z;cases z)
  have st:=f.step (H':=H) (i:=i) hi (o:=[]) (s:=.pu (.lst ds)) (v:=À (.ref a)) (λa u e _=>e) (λa ha=>let ⟨xs,e⟩:=(f.sl i).pH ha;⟨_,e⟩) ī (λa h=>by cases h)
   ⟨rfl,_,rfl,.lst (λz=>?_) (.inl hH) hl (i1.kp (Kp.less less))⟩
  ·rw[dw hu]at st;exact⟨_,st⟩
  ·rcases z with z |⟨j,z⟩
   ·exact(f.new i a (by rw[eo];exact Ð.mpr rfl)).2 z
   ·by_cases hj:j=i
    ·subst hj;rw[aX]at z;cases z
    ·rw[bM hj]at z;exact hj (f.dj j i a z (by rw[eo];exact Ð.mpr rfl))
 |od kvs =>
  have s:=f.sl i;rw[e]at s;obtain⟨a,eo,hu,hH,hl⟩:=s;have hi:=di e (by intro z;cases z)
  have st:=f.step (H':=H) (i:=i) hi (o:=[]) (s:=.pu (.dct kvs)) (v:=À (.ref a)) (λa u e _=>e) (λa ha=>let ⟨xs,e⟩:=(f.sl i).pH ha;⟨_,e⟩) ī (λa h=>by cases h)
   ⟨rfl,_,rfl,.dct (λz=>?_) (.inl hH) hl⟩
  ·rw[dw hu]at st;exact⟨_,st⟩
  ·rcases z with z |⟨j,z⟩
   ·exact(f.new i a (by rw[eo];exact Ð.mpr rfl)).2 z
   ·by_cases hj:j=i
    ·subst hj;rw[aX]at z;cases z
    ·rw[bM hj]at z;exact hj (f.dj j i a z (by simp_all))
 |om rows =>
  have s:=f.sl i;rw[e]at s;obtain⟨a,ps,eo,hu,hH,hl,i1⟩:=s
  have out:∀b,b∈os i->¬bD Z (h9 os i []) b:=by
   rintro b hb (z |⟨j,z⟩)
   ·exact(f.new i b hb).2 z
   ·by_cases hj:j=i
    ·subst hj;rw[aX]at z;cases z
    ·rw[bM hj]at z;exact hj (f.dj j i b z hb)
  have dM:∀{ps:List Ý} {rows:List (List D)},(∀p∈ps,p∈os i)->Ł (λp ds=>∃vs,H p=À (.lst vs)/\vs.length<=Î/\IsL K H (bD Z os) vs ds) ps rows->IsL K H (bD Z (h9 os i [])) (ps.map V.ref) (rows.map D.lst):=by
   intro ps rows hp r;induction r with
   |nil=>exact .nil
   |cons h _ ih =>obtain⟨vs,q,hv,j⟩:=h;exact .cons (.lst (out _ (hp _ Ò)) (.inl q) hv (j.kp (Kp.less less))) (ih λp h=>hp p (Ñ _ h))
  have st:=f.step (di e (by intro z;cases z)) (s:=.pu (.lst (rows.map D.lst))) (λa u e _=>e) (λa ha=>let ⟨xs,e⟩:=(f.sl i).pH ha;⟨_,e⟩) ī λa h=>by cases h
   ⟨rfl,_,rfl,.lst (out a (by simp_all)) (.inl hH) (by simp_all) (dM (λp hp=>by simp_all) i1)⟩
  rw[dw hu]at st;exact⟨_,st⟩
 |un=>exact⟨os,f,Kp.refl⟩
 |pu d=>exact⟨os,f,Kp.refl⟩
 |bo d=>exact⟨os,f,Kp.refl⟩
 |pm _ _ _=>exact⟨os,f,Kp.refl⟩
 |pd _ _=>exact⟨os,f,Kp.refl⟩
 |dk _ _ _=>exact⟨os,f,Kp.refl⟩
 |pk _ _ _ _ _ _=>exact⟨os,f,Kp.refl⟩
 |bk _ _ _=>exact⟨os,f,Kp.refl⟩
@[irreducible] def BW(i:Nat)(s:DS):DS:=λO=>s (jM i O)
def Jx(i:Nat)(h:SemS fr K t s):SemS fr K t (BW i s):=λ{B Z os O Y H E} f p=>by obtain⟨os',f',k⟩:=f.freeze i;unfold BW at p;exact h f' (lJ.kp k p)
def Fr.Kj{os:Own}(f:Fr K B Z os O Y H)(e:O.getD i .un=.ol ds)(hu:(Y[i]?).join=À (.ref a))(hl:vs'.length<=Î)(h:IsL K H (bD Z os) vs' ds') :
 ∃os',Fr K B Z os' (O.set i (.ol ds')) Y (upd H a (.lst vs'))/\Kp (bD Z os) H (bD Z os') (upd H a (.lst vs')):=by
 have s:=f.sl i;rw[e]at s;obtain⟨b,vs,eo,hu',hH,_,_⟩:=s;rw[hu]at hu';cases hu';have ha:a∈os i:=by simp_all
 have st:=f.step (di e (by intro z;cases z)) (s:=.ol ds') (λb u e n=>by rw[upd_ne λz=>n (by rw[z];exact ha)];exact e) (λb hb=>?_) (by simp) λb hb=>by rw[Ð.mp hb];exact .inl ha
  ⟨a,vs',rfl,rfl,az,hl,h.kp λb u e z=>⟨?_,λq=>z ?_⟩⟩
 ·rw[dw hu]at st;exact⟨_,st⟩
 ·rw[eo]at hb;rw[Ð.mp hb];exact⟨_,az⟩
 ·rw[upd_ne λw=>z (.inr ⟨i,by rw[w];exact ha⟩)];exact e
 ·rcases q with q |⟨j,q⟩
  ·exact .inl q
  ·by_cases hj:j=i
   ·subst hj;rw[aX]at q;exact .inr ⟨j,by simp_all⟩
   ·rw[bM hj]at q;exact .inr ⟨j,q⟩
def Aw{os:Own}(f:Fr K B Z os O Y H)(e:O.getD i .un=.ol ds):∃a vs,(Y[i]?).join=À (.ref a)/\H a=À (.lst vs)/\vs.length<=Î/\IsL K H (bD Z os) vs ds:=by have s:=f.sl i;rw[e]at s;obtain⟨b,vs,eo,hu',hH,hl,r⟩:=s;exact⟨b,vs,hu',hH,hl,r⟩
@[irreducible] def BX(i:Nat)(a:DE):DS:=λO=>match O.getD i .un with
 |.ol ds=>(match a O with
  |some d=>if ds.length<Î then .nx (O.set i (.ol (ds++[d]))) else .no
  |none=>.no)
 |_=>.no
def DT(h:aN K ta a):SemS fr K (wG (MJ K "list" vf (tVar i) (a9 ta dv))) (BX i a):=λ{B Z os O Y H E} f p=>by
 unfold BX at p;split at p
 ·rename_i ds e;split at p
  ·rename_i d e2;by_cases hz:ds.length<Î
   ·rw[if_pos hz]at p;obtain⟨x,vs,hu,hH,hl,r⟩:=Aw f e;refine⟨_,join_some hu,.inl ⟨rfl,_,cE.of hH⟩,h f e2 λv H1 s1 i1=>?_⟩;have hlen:vs.length<Î:=by rw[r.length];exact hz
    obtain⟨os',f',k⟩:=(f.grow s1).Kj e hu (by rw[á,ĥ];exact hlen) ((r.same s1).append (.one i1));exact⟨x,vs,v,rfl,rfl,s1 _ _ hH,hlen,p os' _ _ f' ((Kp.same s1).trans k)⟩
   ·rw[if_neg hz]at p;exact p.elim
  ·exact p.elim
 ·exact p.elim
@[irreducible] def yM(i:Nat)(a:DE):DS:=λO=>match O.getD i .un with
 |.ol ds=>(match a O with
  |some (.lst es)=>if ds.length+es.length<=Î then .nx (O.set i (.ol (ds++es))) else .no
  |_=>.no)
 |_=>.no
def yz(h:aN K ta a):SemS fr K (wG (MJ K "list" IF (tVar i) (a9 ta dv))) (yM i a):=λ{B Z os O Y H E} f p=>by
 unfold yM at p;split at p
 ·rename_i ds e;split at p
  ·rename_i es e2;by_cases hz:ds.length+es.length<=Î
   ·rw[if_pos hz]at p;obtain⟨x,vs,hu,hH,hl,r⟩:=Aw f e;refine⟨_,join_some hu,.inl ⟨rfl,_,cE.of hH⟩,h f e2 λv H1 s1 i1=>?_⟩;obtain⟨b,us,rfl,_,hb,_,r2⟩:=i1.t5;have hlen:vs.length+us.length<=Î:=by rw[r.length,r2.length];exact hz
    obtain⟨os',f',k⟩:=(f.grow s1).Kj e hu (by simp_all) ((r.same s1).append r2);exact⟨x,b,vs,us,rfl,rfl,s1 _ _ hH,hb,hlen,p os' _ _ f' ((Kp.same s1).trans k)⟩
   ·rw[if_neg hz]at p;exact p.elim
  ·exact p.elim
 ·exact p.elim
@[irreducible] noncomputable def qm(i:Nat)(b a:DE):DS:=λO=>match O.getD i .un with
 |.ol ds=>(match a O with
  |some d=>(match b O with
   |some (.int n)=>(match ixN ds.length n with
    |some j=>.nx (O.set i (.ol (ds.set j d)))
    |none=>.no)
   |_=>.no)
  |none=>.no)
 |_=>.no
def lg(ha:aN K ta a)(hb:SemB K tb b):SemS fr K (pW ta (KS (tVar i) tb rSetL)) (qm i b a):=λ{B Z os O Y H E} f p=>by
 unfold qm at p;split at p
 ·rename_i ds e;split at p
  ·rename_i d e2;split at p
   ·rename_i n e3;split at p
    ·rename_i j e4;obtain⟨x,vs,hu,hH,hl,r⟩:=Aw f e;refine ha f e2 λv H1 s1 i1=>⟨_,join_some hu,hb (f.grow s1) e3 λw H2 s2 i2=>?_⟩
     have s12:=s1.trans s2;obtain⟨os',f',k⟩:=(f.grow s12).Kj e hu (by simp_all) ((r.same s12).set (i1.same s2) j);exact⟨x,vs,n,j,rfl,i2.isInt,s12 _ _ hH,by rw[r.length];exact e4,p os' _ _ f' ((Kp.same s12).trans k)⟩
    ·exact p.elim
   ·exact p.elim
  ·exact p.elim
 ·exact p.elim
@[irreducible] def wW(g:Int->Int->Int)(i:Nat)(a:DE):DS:=λO=>match dVar i O with
 |some (.int x)=>(match a O with
  |some (.int y)=>.nx (O.set i (.pu (.int (g x y))))
  |_=>.no)
 |_=>.no
def yA(ha:SemB K ta a):SemS fr K (LN i ta (ipI g)) (wW g i a):=λ{B Z os O Y H E} f p=>by
 unfold wW at p;split at p
 ·rename_i x e;split at p
  ·rename_i y e2
   obtain⟨u,hu,ix⟩:∃u,Y[i]?=À (À u)/\u=.int x:=by
    have s:=f.sl i;unfold dVar at e;cases e0:O.getD i .un with
    |un=>rw[e0]at e;cases e
    |pu d=>rw[e0]at e s;cases e;obtain⟨_,u,hu,i1⟩:=s;exact⟨u,join_some hu,i1.isInt⟩
    |bo d=>rw[e0]at e s;cases e;obtain⟨_,u,hu,i1⟩:=s;exact⟨u,join_some hu,i1.isInt⟩
    |ol d=>rw[e0]at e;cases e
    |om d=>rw[e0]at e;cases e
    |od d=>rw[e0]at e;cases e
    |pm _ _ d=>rw[e0]at e;cases e
    |pd _ d=>rw[e0]at e;cases e
    |dk _ _ _=>rw[e0]at e;cases e
    |pk _ _ _ _ _ _=>rw[e0]at e;cases e
    |bk _ _ _=>rw[e0]at e;cases e
   refine⟨u,hu,ha f e2 λv H1 s1 i1=>⟨x,y,ix,i1.isInt,?_⟩⟩;obtain⟨os',f',k⟩:=(f.grow s1).J0 (m:=Â) i (.int _);exact p os' _ _ f' ((Kp.same s1).trans k)
  ·exact p.elim
 ·exact p.elim
noncomputable def kJ(g:DG)(b:DS):List D->DS
 |[],O=>.nx O
 |d::ds,O=>match g d O with
  |none=>.no
  |some ρ1=>match b ρ1 with
   |.nx ρ2=>kJ g b ds ρ2
   |.ct ρ2=>kJ g b ds ρ2
   |.bk ρ2=>.nx ρ2
   |.rt d=>.rt d
   |.no=>.no
@[irreducible] def iA(it:aW->Option (List D))(g:DG)(b:DS):DS:=λO=>match it O with
 |some ds=>kJ g b ds O
 |none=>.no
def dt(hw:o5 K m wi it)(hg:sU K m t g)(hb:SemS fr K tb b):SemS fr K (DI wi t tb) (iA it g b):=λ{B Z os O Y H E} f p=>by
 unfold iA at p;split at p
 ·rename_i ds e0;refine hw f e0 λJ H1 s1 W=>⟨λi m Y' H'=>∃os' O',m=ds.length-i/\i<=ds.length/\Fr K B Z os' O' Y' H'/\Kp (bD Z os) H1 (bD Z os') H'/\lJ fr K B Z os H1 E (kJ g b (ds.drop i) O'),⟨_,os,O,rfl,Ą _,f.grow s1,Kp.refl,lJ.kp (Kp.same s1) p⟩,?_⟩
  rintro i mm σ2 H2 ⟨os2,ρ2,rfl,hi,f2,k2,p2⟩;by_cases hlt:i<ds.length
  ·obtain⟨go,yl⟩:=W.go i ds[i] H2 _ k2 f2.keep f2.Ij (É hlt);rw[ó hlt]at p2;refine .inr ⟨go,λY' H'=>∃os' O',Fr K B Z os' O' Y' H'/\Kp (bD Z os) H1 (bD Z os') H'/\lJ fr K B Z os H1 E (kJ g b (ds.drop (i+1)) O'),λY' H' ⟨os',O',h1,h2,h3⟩=>⟨_,by lia,os',O',rfl,hlt,h1,h2,h3⟩,λx H3 hy=>?_⟩;obtain⟨s3,er⟩:=yl x H3 hy;unfold kJ at p2;split at p2
   ·exact p2.elim
   ·rename_i ρ1 e1;refine hg (f2.grow s3) er e1 λos3 σ3 f3 k3=>hb f3 ?_;have k13:=(k2.trans (Kp.same s3)).trans k3;split at p2
    ·rename_i ρ4 e4;rw[e4];exact λos' Y' H' f' k'=>⟨os',_,f',k13.trans k',p2⟩
    ·rename_i ρ4 e4;rw[e4];exact λos' Y' H' f' k'=>⟨os',_,f',k13.trans k',p2⟩
    ·rename_i ρ4 e4;rw[e4];exact λos' Y' H' f' k'=>p2 os' Y' H' f' (k13.trans k')
    ·rename_i d e4;rw[e4];exact p2
    ·exact p2.elim
  ·have e:i=ds.length:=by lia
   subst e;rw[ϱ]at p2;exact .inl ⟨W.stop _ H2 _ k2 f2.keep rfl,p2 os2 σ2 H2 f2 k2⟩
 ·exact p.elim
noncomputable def lN(c:aW->Option Bool)(b:DS):Nat->DS
 | 0,O=>match c O with
  |some Ã=>.nx O
  |_=>.no
 |n+1,O=>match c O with
  |some Ã=>.nx O
  |some Â=>(match b O with
   |.nx O'=>lN c b n O'
   |.ct O'=>lN c b n O'
   |.bk O'=>.nx O'
   |.rt d=>.rt d
   |.no=>.no)
  |none=>.no
@[irreducible] def i6(c:aW->Option Bool)(b:DS):DS:=λO=>if h:∃n,lN c b n O≠.no then lN c b h.choose O else .no
theorem pQ:∀{n:Nat} {O:aW},lN c b n O≠.no->lN c b (n+1) O=lN c b n O
 | 0,O,h=>by
  unfold lN at h ⊢;split at h
  ·rename_i e;rw[e]
  ·exact absurd rfl h
 |n+1,O,h=>by
  have e1:lN c b (n+1+1) O=(match c O with |some Ã=>.nx O |some Â=>(match b O with |.nx O'=>lN c b (n+1) O' |.ct O'=>lN c b (n+1) O' |.bk O'=>.nx O' |.rt d=>.rt d |.no=>.no) |none=>.no):=rfl;have e2:lN c b (n+1) O=(match c O with |some Ã=>.nx O |some Â=>(match b O with |.nx O'=>lN c b n O' |.ct O'=>lN c b n O' |.bk O'=>.nx O' |.rt d=>.rt d |.no=>.no) |none=>.no):=rfl;rw[e1];rw[e2]at h ⊢;cases e3:c O with
  |none=>rfl
  |some x =>
   rw[e3]at h;cases x with
   |false=>rfl
   |true =>
    cases e4:b O with
    |nx O'=>rw[e4]at h;exact pQ h
    |ct O'=>rw[e4]at h;exact pQ h
    |_=>rfl
def yt(h:lN c b n O≠.no):lN c b (n+k) O=lN c b n O:=by
 induction k with
 |zero=>rfl
 |succ k ih=>rw[<-Nat.add_assoc,pQ (by rw[ih];exact h),ih]
def BV(h:lN c b n O=r)(hr:r≠.no):i6 c b O=r:=by
 have ex:∃n,lN c b n O≠.no:=⟨n,by rw[h];exact hr⟩
 unfold i6;rw[dif_pos ex];have q:=ex.choose_spec;generalize ex.choose=m at q;have e2:=yt (k:=m) (by rw[h];exact hr);rw[S3]at e2;rw[<-(yt q),e2,h]
def l9(hc:jI K tc c)(hb:SemS fr K tb b):SemS fr K (DA tc tb) (i6 c b):=λ{B Z os O Y H E} f p=>by
 unfold i6 at p;by_cases ex:∃n,lN c b n O≠.no
 ·rw[dif_pos ex]at p;generalize ex.choose=n0 at p;refine⟨λm Y' H'=>∃os' O',Fr K B Z os' O' Y' H'/\Kp (bD Z os) H (bD Z os') H'/\lJ fr K B Z os H E (lN c b m O'),⟨n0,os,O,f,Kp.refl,p⟩,?_⟩;rintro m σ2 H2 ⟨os2,ρ2,f2,k2,p2⟩;cases m with
  |zero =>
   unfold lN at p2;split at p2
   ·rename_i e;exact hc f2 e λH3 s3=>vH (p2 os2 σ2 H3 (f2.grow s3) (k2.trans (Kp.same s3)))
   ·exact p2.elim
  |succ m =>
   have p2:lJ fr K B Z os H E (match c ρ2 with |some Ã=>.nx ρ2 |some Â=>(match b ρ2 with |.nx O'=>lN c b m O' |.ct O'=>lN c b m O' |.bk O'=>.nx O' |.rt d=>.rt d |.no=>.no) |none=>.no):=p2;cases e:c ρ2 with
   |none=>rw[e]at p2;exact p2.elim
   |some x =>
    rw[e]at p2;cases x with
    |false=>exact hc f2 e λH3 s3=>vH (p2 os2 σ2 H3 (f2.grow s3) (k2.trans (Kp.same s3)))
    |true =>
     refine hc f2 e λH3 s3=>xq ⟨λY' H'=>∃os' O',Fr K B Z os' O' Y' H'/\Kp (bD Z os) H (bD Z os') H'/\lJ fr K B Z os H E (lN c b m O'),λY' H' h=>⟨m,ĸ _,h⟩,hb (f2.grow s3) ?_⟩;have k3:=k2.trans (Kp.same s3);cases e4:b ρ2 with
     |nx O'=>rw[e4]at p2;exact λos' Y' H' f' k'=>⟨os',_,f',k3.trans k',p2⟩
     |ct O'=>rw[e4]at p2;exact λos' Y' H' f' k'=>⟨os',_,f',k3.trans k',p2⟩
     |bk O'=>rw[e4]at p2;exact λos' Y' H' f' k'=>p2 os' Y' H' f' (k3.trans k')
     |rt d=>rw[e4]at p2;exact p2
     |no=>rw[e4]at p2;exact p2.elim
 ·rw[dif_neg ex]at p;exact p.elim
def eZ(n:Nat)(ms:List Bool)(ds:List D):aW:=ź pe ms ds++æ (n-ds.length) .un
@[irreducible] def bO(n:Nat)(ms:List Bool)(b:DS)(ds:List D):Option D:=match b (eZ n ms ds)with
 |.rt d=>À d
 |.nx _=>À .non
 |_=>Á
@[irreducible] def jE(n:Nat)(ms:List Bool)(b:DS)(ds:List D):Option D:=match b (eZ n ms ds)with
 |.rt d=>À d
 |_=>Á
def o7(hz:ZT Z H)(h:Args K H Z ms vs ds):Fr K H Z (λ_=>[]) (eZ N.length ms ds) (L2.start N vs) H where
 keep:=aH.refl _
 C6:=hz.1
 tab:=hz.2
 len:=by
  unfold eZ L2.start;have:=h.len;simp
  lia
 nd:=λ_=>ī
 dj:=λ_ _ _ h=>by cases h
 new:=λ_ _ h=>by cases h
 sl:=λj=>by
  have hl:=h.len
  have key:∀{ms:List Bool} {vs:List V} {ds:List D} (j:Nat),Args K H Z ms vs ds->j<ms.length->sS K H H (bD Z λ_=>[]) [] (((ź pe ms ds)[j]?).getD .un) ((vs.map À)[j]?.join):=by
   intro ms vs ds j h;induction h generalizing j with
   |nil=>intro hj;rfl
   |own i _ ih =>
    intro hj;cases j with
    |zero=>exact⟨rfl,_,rfl,i.kp (Kp.less λa z=>z.elim id λ⟨_,w⟩=>by cases w)⟩
    |succ j=>exact ih j (by simpa using hj)
   |any i _ ih =>
    intro hj;cases j with
    |zero=>exact⟨rfl,_,rfl,i⟩
    |succ j=>exact ih j (by simpa using hj)
  unfold eZ L2.start;rw[Ë];by_cases hj:j<ms.length
  ·rw[ú (by simp_all),ú (by simp_all)];exact key j h hj
  ·rw[ï (by simp_all),đ];split <;> exact rfl
def gB.pj(F:gB K x qual st f fd)(S:aL N ps (av st))(ms:List Bool)(hms:ms.length=ps.length)(b:DS)
 (hbody:∀(cdv:Ù) (A:Ŝ) (outer:List Ux) (s:ç) (H:Hp) (E:XK),ej k (A.deeper (ϸ qual (av st) s.heap.objs.size f cdv)) ->
  ∃t,wd (sQ gE P w K mg base N qual (av st) f cdv A outer s H E).Ga (dW st) t/\SemS .v K t b):ck P w K mg base gE (k+1) f fd ps (jJ .v K ms (bO N.length ms b)):=by
 refine F.ok S (λvs H Q E h=>?_) λcdv A outer s H vs Q E hr h=>?_
 ·obtain⟨Z,ds,d,hz,a,_⟩:=h;rw[a.len.1,hms]
 ·obtain⟨Z,ds,d,hz,a,e,k⟩:=h;obtain⟨t,h1,h2⟩:=hbody cdv A outer s H E hr;refine⟨t,h1,h2 (o7 hz a) ?_⟩;unfold bO at e;split at e
  ·rename_i d' e1;cases e;rw[e1];exact λv H' s' i=>k v H' s' i
  ·rename_i O e1;cases e;rw[e1];exact λos' Y' H' f' _=>k _ H' f'.keep .non
  ·cases e
def gB.MN(F:gB K x qual st f fd)(S:aL N ps (av st))(ms:List Bool)(hms:ms.length=ps.length)(b:DS)
 (hbody:∀(cdv:Ù) (A:Ŝ) (outer:List Ux) (s:ç) (H:Hp) (E:XK),ej k (A.deeper (ϸ qual (av st) s.heap.objs.size f cdv)) ->
  ∃t,wd (sQ gE P w K mg base N qual (av st) f cdv A outer s H E).Ga (dW st) t/\SemS fr K t b) (hfr:∀E C,fr≠.x E C:=by intro _ _ h;cases h):ck P w K mg base gE (k+1) f fd ps (jJ fr K ms (jE N.length ms b)):=by
 refine F.ok S (λvs H Q E h=>?_) λcdv A outer s H vs Q E hr h=>?_
 ·obtain⟨Z,ds,d,hz,a,_⟩:=h;rw[a.len.1,hms]
 ·obtain⟨Z,ds,d,hz,a,e,k⟩:=h;obtain⟨t,h1,h2⟩:=hbody cdv A outer s H E hr;refine⟨t,h1,h2 (o7 hz a) ?_⟩;unfold jE at e;split at e
  ·rename_i d' e1;cases e;rw[e1];cases fr with
   |v=>exact λv H' s' i=>k v H' s' i
   |l=>exact λv H' s' i=>k v H' s' i
   |m=>exact λv H' s' i=>k v H' s' i
   |x E0 C=>exact absurd rfl (hfr E0 C)
  ·cases e
end
end
end VL
namespace L2
open PySem PySem.Spec PyProof.Rows
section
open VL (s0)
section
inductive SubL(X:Cx):List (ĺ×Ý)->Prop
 |nil:SubL X []
 |cons {z:ĺ} {c:Ý} {r:List (ĺ×Ý)}:X.env.cells.lookup z=À c->SubL X r->SubL X ((z,c)::r)
def SubL.sub(h:SubL X cl):∀x c,cl.lookup x=À c->X.env.cells.lookup x=À c:=by
 induction h with
 |nil=>intro x c e;cases e
 |@cons z c r h _ ih =>grind
inductive mX(X:Cx)(scope:Ql)(cl:List (ĺ×Ý)):List Nat->List ĺ->Prop
 |nil:mX X scope cl [] []
 |cons {i:Nat} {z:ĺ} {c:Ý} {is:List Nat} {zs:List ĺ}:X.N[i]?=À z->(X.env.scope.names.lookup z=À .cell\/X.env.scope.names.lookup z=À .free)->cl.lookup z=À c ->
  ((relabel scope X.env).names.lookup z=À .cell\/(relabel scope X.env).names.lookup z=À .free)->mX X scope cl is zs->mX X scope cl (i::is) (z::zs)
def mX.get(h:mX X scope cl is zs):∀(j:Nat) (z:ĺ),zs[j]?=À z->∃i c,is[j]?=À i/\X.N[i]?=À z/\(X.env.scope.names.lookup z=À .cell\/X.env.scope.names.lookup z=À .free)/\cl.lookup z=À c /\
 ((relabel scope X.env).names.lookup z=À .cell\/(relabel scope X.env).names.lookup z=À .free):=by
 induction h with
 |nil=>intro j z e;simp at e
 |cons h1 h2 h3 h4 _ ih =>
  intro j z e;cases j with
  |zero=>cases e;exact⟨_,_,rfl,h1,h2,h3,h4⟩
  |succ j=>exact ih j z (by simpa using e)
def mX.len(h:mX X scope cl is zs):is.length=zs.length:=by
 induction h with
 |nil=>rfl
 |cons _ _ _ _ _ ih=>simp[ih]
def FU(k:Nat)(g:TG):Prop:=∀x Y H (Q:St->Hp->Prop),g x Y H Q->∃ σ2 H2,Q σ2 H2/\σ2.length=Y.length/\(∀j,k<=j->σ2[j]?=Y[j]?)/\∀Q':St->Hp->Prop,Q' σ2 H2->g x Y H Q'
def Ic(k:Nat)(g:HZ):Prop:=∀x Y H (Q:St->Hp->Prop),g x Y H Q->∃ σ2 H2,Q σ2 H2/\σ2.length=Y.length/\(∀j,k<=j->σ2[j]?=Y[j]?)/\∀Q':St->Hp->Prop,Q' σ2 H2->g x Y H Q'
def bx(h:i<k):FU k (fz i):=λx Y H Q q=>⟨_,_,q,Ħ,λj hj=>by rw[Ļ (by lia)],λ_ z=>z⟩
def mC:Ic k KU:=λx Y H Q q=>⟨_,_,q.2,rfl,λ_ _=>rfl,λ_ z=>⟨q.1,z⟩⟩
def lows_cons(h1:FU k t)(h2:Ic k u):Ic k (E7 t u):=λx Y H Q q=>by obtain⟨v,r,e,q⟩:=q;obtain⟨σ1,H1,q1,l1,k1,g1⟩:=h1 _ _ _ _ q;obtain⟨σ2,H2,q2,l2,k2,g2⟩:=h2 _ _ _ _ q1;exact⟨σ2,H2,q2,l2.trans l1,λj hj=>(k2 j hj).trans (k1 j hj),λQ' z=>⟨v,r,e,g1 _ (g2 Q' z)⟩⟩
def pz{K:Í}(h:Ic k u):FU k (HE K n u):=λx Y H Q q=>by
 rcases q with⟨a,xs,e,hs,hl,q⟩ |⟨a,xs,e,hs,hl,q⟩
 ·obtain⟨σ1,H1,q1,l1,k1,g1⟩:=h _ _ _ _ q;exact⟨σ1,H1,q1,l1,k1,λQ' z=>.inl ⟨a,xs,e,hs,hl,g1 Q' z⟩⟩
 ·obtain⟨σ1,H1,q1,l1,k1,g1⟩:=h _ _ _ _ q;exact⟨σ1,H1,q1,l1,k1,λQ' z=>.inr ⟨a,xs,e,hs,hl,g1 Q' z⟩⟩
def FU.keep(h:FU k g)(Y:St):Bn g (s0 k cs Y):=λx H Q q=>by
 obtain⟨σ1,H1,q1,l1,k1,g1⟩:=h _ _ _ _ q;refine g1 _ ⟨q1,l1,λj v e=>?_⟩;by_cases hj:j<k
 ·unfold s0 at e;rw[ú (by simpa using hj),đ,if_pos hj]at e;cases e
 ·simp_all
def aM{K:Í}(h:X.K=K)(hl:PE X l tl):PI X tg l (t6 K tl):=by subst h;exact He hl
def w6{K:Í}(h:X.K=K)(hg:Gl X "enumerate")(hm:X.mg "enumerate" = Á)(hl:PE X l tl)(hs:ġ [l] X.env=[(Ã,eval l X.env)]:=by rfl):PI X (.Tuple elts x1 tpos) (.Call (.Name "enumerate" p) [l] [] pos) (AV K tl):=by subst h;exact Hf hg hm hl hs
end
end
end L2
namespace VL
open PySem L2
def DW[aV](K:Í):Sp:=λvs H Q _=>∃(a:Ý) (ns:List Int),vs=[.ref a]/\cE K H a (ns.map V.int)/\ns.length<=63/\(∀m∈ns,ō m<=1048576)/\rE H/\∀H',Q (.bl Â) H'
def BI[aV](ht:∀ns:List Int,ns.length<=63->(∀m∈ns,ō m<=1048576)->F [.scr ns]=À (.bl Â))(h:DW K vs H Q E):jJ .v K [Ã] F vs H Q E:=by
 obtain⟨a,ns,rfl,hS,hl,hb,htab,k⟩:=h;have hz:ns.length<=Î:=ø hl (by decide);refine⟨No,[.scr ns],.bl Â,⟨λa z=>z.elim,htab⟩,.any ?_ .nil,ht ns hl hb,λv H' s i=>by cases i;exact k H'⟩;rcases hS with hS |hS
 ·exact .scr (λz=>z) hS hz
 ·exact .scrK hS hz
end VL
namespace L2
open PySem PySem.Spec PyProof.Rows
section
def Ld:Ĝ "any" = À (.builtin "any"):=by decide +kernel
def FF:Ĝ "zip" = À (.type "zip"):=by decide +kernel
def xZ:Ĝ "reversed" = À (.type "reversed"):=by decide +kernel
def GB:V->Option Bool
 |.bl b=>À b
 |.int i=>À (i != 0)
 |_=>Á
def AM{s:ç}{h':Ő}(hk:∀b x,b∉[s.heap.objs.size]->(s.heap.push o).get? b=À x->h'.get? b=À x):∀b x,s.heap.get? b=À x->h'.get? b=À x :=
 λb x e=>hk b x (λhm=>by rw[Ð.mp hm]at e;exact ĕ _ (Ø e)) (Ì _ e)
def Nc(bs:List Bool):((ê bs.length).all λi=>(bs[i]?).getD Â)=bs.all id:=by
 rw[Ķ,Ľ,Ľ];constructor
 ·intro h x hx;obtain⟨i,hi⟩:=Ň hx;have:=h i (ö.mpr (Ó.mp hi).1);rw[hi]at this;exact this
 ·intro h i hi;have:=ö.mp hi;rw[É this];exact h _ (Ĳ this)
def Nb(bs:List Bool):((ê bs.length).any λi=>(bs[i]?).getD Ã)=bs.any id:=by
 rw[Ķ,Pa,Pa];constructor
 ·rintro⟨i,hi,h⟩;have:=ö.mp hi;rw[É this]at h;exact⟨_,Ĳ this,h⟩
 ·rintro⟨x,hx,h⟩;obtain⟨i,hi⟩:=Ň hx;exact⟨i,ö.mpr (Ó.mp hi).1,by rw[hi];exact h⟩
def L8(K:Í)(f:List Bool->Bool):List V->Hp->VK->Prop:=λxs H Q=>∃(p:Ý) (vs:List V) (bs:List Bool),xs=[.ref p]/\cE K H p vs/\vs.map GB=bs.map À/\Q (.bl (f bs)) H
def Dv{bs:List Bool}(r:Vals vs us)(h:vs.map GB=bs.map À){i:Nat}(e:us[i]?=À u):∃b,bs[i]?=À b/\∀{prog:Δ} {w:Ŷ} {A:Ŝ} {s':ç} {Q:Bool->ç->Prop} {E:Ù->ç->Prop},Q b s'->í (model prog w) A (truthy u) Q E s':=by
 have hi:i<vs.length:=by rw[r.length];exact(Ó.mp e).1
 have e1:=É hi;obtain⟨u',e2,ru⟩:=r.get e1;rw[e]at e2;cases e2;have e3:(bs.map À)[i]?=À (GB vs[i]):=by rw[<-h,Ö,e1];rfl
 rw[Ö]at e3;cases e4:bs[i]? with
 |none=>rw[e4]at e3;cases e3
 |some b =>
  rw[e4]at e3;have e5:=þ e3;refine⟨b,rfl,λ{prog w A s' Q E} q=>?_⟩;cases e6:vs[i]with
  |bl c =>rw[e6]at e5 ru;cases e5;cases ru;exact Ŭ q
  |int n =>rw[e6]at e5 ru;cases e5;obtain⟨t,rfl⟩:=ru;exact Ss q
  |_=>rw[e6]at e5;cases e5
def uo{K:Í}(hc:X.calm=Â)(hK:X.K=K):cG X (.builtin "all") (L8 K λbs=>bs.all id):=by
 subst hK;intro pins s Y H xs us Q I r h;obtain⟨p,vs,bs,rfl,hq,hb,q⟩:=h;obtain⟨u,rfl,rx⟩:=vals1 r;cases rx;obtain⟨its,r',pl,hz⟩:=I.list hq;have hl:=pl.isList
 refine call_all_walk (ϡ hl (⟨s.heap.objs.size,[s.heap.objs.size,p],[s.heap.objs.size],its.toArray.size,_,_,λi=>(bs[i]?).getD Â,rfl,Ue (A:=X.A.in1) (I.ok.hd hc) _ p (Ü (by obtain⟨_,e,_⟩:=hl;exact Ø e)) its.toArray,
  ⟨⟨_,å _ rfl,rfl,rfl⟩,hl.push _⟩,λi v s' Q' E' hP hQ=>?_,λh' tk hk=>?_⟩))
 ·obtain⟨b,e,k⟩:=Dv r' hb (by simpa using hP);simp only[e]at hQ;exact k hQ
 ·have e:((ê its.toArray.size).all λi=>(bs[i]?).getD Â)=bs.all id:=by
   have:its.length=bs.length:=by have:=congrArg RH hb;rw[Ê,Ê]at this;rw[<-r'.length];exact this
   rw[ã,this];exact Nc bs
  rw[e];exact⟨.bl _,H,I.kept (AM hk),rfl,q⟩
def CL{K:Í}(hc:X.calm=Â)(hK:X.K=K):cG X (.builtin "any") (L8 K λbs=>bs.any id):=by
 subst hK;intro pins s Y H xs us Q I r h;obtain⟨p,vs,bs,rfl,hq,hb,q⟩:=h;obtain⟨u,rfl,rx⟩:=vals1 r;cases rx;obtain⟨its,r',pl,hz⟩:=I.list hq;have hl:=pl.isList
 refine call_any_walk (ϡ hl (⟨s.heap.objs.size,[s.heap.objs.size,p],[s.heap.objs.size],its.toArray.size,_,_,λi=>(bs[i]?).getD Ã,rfl,Ue (A:=X.A.in1) (I.ok.hd hc) _ p (Ü (by obtain⟨_,e,_⟩:=hl;exact Ø e)) its.toArray,
  ⟨⟨_,å _ rfl,rfl,rfl⟩,hl.push _⟩,λi v s' Q' E' hP hQ=>?_,λh' tk hk=>?_⟩))
 ·obtain⟨b,e,k⟩:=Dv r' hb (by simpa using hP);simp only[e]at hQ;exact k hQ
 ·have e:((ê its.toArray.size).any λi=>(bs[i]?).getD Ã)=bs.any id:=by
   have:its.length=bs.length:=by have:=congrArg RH hb;rw[Ê,Ê]at this;rw[<-r'.length];exact this
   rw[ã,this];exact Nb bs
  rw[e];exact⟨.bl _,H,I.kept (AM hk),rfl,q⟩
def rn{K:Í}(hc:X.calm=Â)(hK:X.K=K):cG X (.builtin "min") (λxs H Q=>∃(p:Ý) (ns:List Int),xs=[.ref p]/\cE K H p (ns.map V.int)/\ns≠[]/\∀M,M∈ns->(∀a,a∈ns->M<=a)->Q (.int M) H):=by
 subst hK;intro pins s Y H xs us Q I r h;obtain⟨p,ns,rfl,hq,hne,q⟩:=h;obtain⟨u,rfl,rx⟩:=vals1 r;cases rx;obtain⟨its,r',pl,hz⟩:=I.list hq;have hi:=intsAre_of r';obtain⟨ys,e⟩:=hi.allInts.items;have hns:ns=ys.toList.map (·.1):=by rw[<-hi.numsOf,<-Sj,<-e]
 have hsz:0<ys.size:=by have h3:=R6.mpr hne;rw[hns,Ê]at h3;exact h3
 have hl:=pl.isList;rw[e]at hl;refine min_intList (I.ok.hd hc) hl hsz λv h' tk hv hk=>?_;obtain⟨t,rfl⟩:=intItems_at hv;obtain⟨h1,h2⟩:=argBest_lt (numAt ys) (ys.size-1);refine⟨.int _,H,I.kept hk,⟨t,rfl⟩,q _ ?_ λa ha=>?_⟩
 ·rw[hns,T4];exact T5 (by rw[Ê,ß];lia)
 ·rw[hns]at ha;obtain⟨j,hj,rfl⟩:=mem_getD ha;rw[Ê,ß]at hj;rw[<-T4];exact h2 j (by lia)
end
end L2
namespace VL
open PySem L2
section
open Classical
section
section
variable[aV]
def nq:List D->Option (List Bool)
 |[]=>À []
 |.bl b::r=>(nq r).map (b::·)
 |.int i::r=>(nq r).map ((i != 0)::·)
 |_=>Á
def GA(k:IsL K H Z vs ds)(e:nq ds=À bs):vs.map GB=bs.map some:=by
 induction ds generalizing vs bs with
 |nil=>cases k;cases e;rfl
 |cons d r ih =>
  cases k with
  |cons h t =>
   unfold nq at e;split at e
   ·rename_i q;cases q
   ·rename_i b r' q;cases q;cases q:nq r with
    |none=>rw[q]at e;cases e
    |some cs=>rw[q]at e;cases e;rw[Ā,ih t q,h.uC];rfl
   ·rename_i b r' q;cases q;cases q:nq r with
    |none=>rw[q]at e;cases e
    |some cs=>rw[q]at e;cases e;rw[Ā,ih t q,h.lW];rfl
   ·cases e
theorem uE:∀(bs:List Bool),nq (bs.map D.bl)=À bs
 |[]=>rfl
 |b::r=>by show (nq (r.map D.bl)).map (b::·)=_;rw[uE r];rfl
def NH(g:List Bool->Bool):D->Option D
 |.lst ds=>(nq ds).map λbs=>.bl (g bs)
 |_=>Á
def IB(ha:SemB K ta a):aN K (wc (L8 K g) (a9 ta dv)) (dy (NH g) a):=by
 refine tG (λ{H v d e Q} h q=>?_) ha;cases h with
 |lst hz h hl r =>
  rename_i p vs ds;have q:(nq ds).map (λbs=>D.bl (g bs))=À e:=q;cases q1:nq ds with
  |none=>rw[q1]at q;cases q
  |some bs =>rw[q1]at q;cases q;exact⟨rfl,λk=>⟨p,vs,bs,rfl,.inl h,GA r q1,k⟩⟩
 |_=>cases q
def FJ:D->Option D:=NH λbs=>bs.all id
def HY:D->Option D:=NH λbs=>bs.any id
def JM(ha:SemB K ta a):aN K (wc (L8 K λbs=>bs.all id) (a9 ta dv)) (dy FJ a):=IB ha
def JL(ha:SemB K ta a):aN K (wc (L8 K λbs=>bs.any id) (a9 ta dv)) (dy HY a):=IB ha
def minD:D->Option D:=ofInts λns=>match ns with
 |[]=>Á
 |x::r=>À (.int (su x r))
def JE(ha:SemB K ta a):aN K (wc (λxs H Q=>∃(p:Ý) (ns:List Int),xs=[.ref p]/\cE K H p (ns.map V.int)/\ns≠[]/\∀M,M∈ns->(∀a,a∈ns->M<=a)->Q (.int M) H) (a9 ta dv)) (dy minD a):=by
 refine tG (λh q=>?_) ha;obtain⟨ns,rfl,e⟩:=jU q;obtain⟨p,rfl,r⟩:=h.ints;cases ns with
 |nil=>cases e
 |cons x t =>cases e;refine⟨rfl,λk=>⟨p,x::t,rfl,.inl r,by simp,λM h1 h2=>?_⟩⟩;rw[EE h1 h2 (iC t x).1 (iC t x).2];exact k
end
end
end
section
open Classical
section
instance (priority:=low) noTabs:aV:=⟨[]⟩
structure Wk where
 nx:aW->Prop
 rt:D->Prop
 bk:aW->Prop:=λ_=>False
 ct:aW->Prop:=λ_=>False
@[irreducible] def Wp(s:DS)(O:aW)(W:Wk):Prop:=match s O with
 |.nx O'=>W.nx O'
 |.rt d=>W.rt d
 |.bk O'=>W.bk O'
 |.ct O'=>W.ct O'
 |.no=>False
section
def wp_seq(h:Wp s O {W with nx:=λO'=>Wp u O' W }):Wp (ay s u) O W:=by unfold Wp ay at *;cases e:s O <;> rw[e]at h <;> exact h
def ba(h:W.nx O):Wp b8 O W:=by unfold Wp b8;exact h
def br(h:a O=À d)(k:W.rt d):Wp (sRet a) O W:=by unfold Wp sRet;rw[h];exact k
def jl(h:c O=À x)(ht:x=Â->Wp s O W)(hf:x=Ã->Wp u O W):Wp (jK c s u) O W:=by
 unfold Wp jK at *;rw[h];cases x
 ·exact hf rfl
 ·exact ht rfl
def Dd{_:Decidable p}(h:c O=À (decide p))(ht:p->Wp s O W)(hf:¬p->Wp u O W):Wp (jK c s u) O W:=by refine jl h (λq=>ht (of_decide_eq_true q)) λq=>hf (of_decide_eq_false q)
def k9(h:c O=À Â)(ht:Wp s O W):Wp (jK c s u) O W:=jl h (λ_=>ht) λq=>by cases q
def cw(h:c O=À Ã)(ht:Wp u O W):Wp (jK c s u) O W:=jl h (λq=>by cases q) λ_=>ht
def ax(h:a O=À d)(k:W.nx (O.set i (.pu d))):Wp (aU i a) O W:=by unfold Wp aU;rw[h];exact k
def dD(h:es O=À ds)(hi:i < O.length)(k:W.nx (O.set i (.ol ds))):Wp (fv i es) O W:=by unfold Wp fv;rw[h];simp only[if_pos hi];exact k
def Ih(h:a O=À d)(hg:g d O=À O')(k:W.nx O'):Wp (Lq a g) O W:=by unfold Wp Lq;rw[h];simp only[hg];exact k
def De(h:Wp s (jM i O) W):Wp (BW i s) O W:=by unfold Wp BW at *;exact h
def Dg(h0:O.getD i .un=.ol ds)(h:a O=À d)(hl:ds.length<Î)(k:W.nx (O.set i (.ol (ds++[d])))):Wp (BX i a) O W:=by unfold Wp BX;rw[h0];simp only[h,if_pos hl];exact k
def ym(h0:O.getD i .un=.ol ds)(h:a O=À (.lst es))(hl:ds.length+es.length<=Î)(k:W.nx (O.set i (.ol (ds++es)))):Wp (yM i a) O W:=by unfold Wp yM;rw[h0];simp only[h,if_pos hl];exact k
def k8(h0:O.getD i .un=.ol ds)(h1:a O=À d)(h:e O=À (.int n))(hj:ixN ds.length n=À j)(k:W.nx (O.set i (.ol (ds.set j d)))):Wp (qm i e a) O W:=by unfold Wp qm;rw[h0];simp only[h,h1,hj];exact k
def ng(h0:dVar i O=À (.int x))(h:a O=À (.int y))(k:W.nx (O.set i (.pu (.int (f x y))))):Wp (wW f i a) O W:=by unfold Wp wW;rw[h0];simp only[h];exact k
def dq(h:it O=À ds)(I:Nat->aW->Prop)(h0:I 0 O)
 (hs:∀(j:Nat) (d:D) (O:aW),ds[j]?=À d->I j O->∃ ρ1,g d O=À ρ1/\Wp b ρ1 {W with nx:=I (j+1),ct:=I (j+1),bk:=W.nx })
 (he:∀ O,I ds.length O->W.nx O):Wp (iA it g b) O W:=by
 have key:∀(n j:Nat) (O:aW),n=ds.length-j->j<=ds.length->I j O->Wp (λO=>kJ g b (ds.drop j) O) O W:=by
  intro n;induction n with
  |zero =>
   intro j O hn hj hI;have e:j=ds.length:=by lia
   subst e;unfold Wp;simp;exact he O hI
  |succ n ih =>
   intro j O hn hj hI;have hlt:j<ds.length:=by lia
   obtain⟨ρ1,e1,w1⟩:=hs j ds[j] O (É hlt) hI;unfold Wp;dsimp only;rw[ó hlt];unfold kJ;rw[e1];unfold Wp at w1;dsimp only;cases e2:b ρ1 with
   |nx ρ2=>rw[e2]at w1;have q:=ih (j+1) ρ2 (by lia) hlt w1;unfold Wp at q;exact q
   |ct ρ2=>rw[e2]at w1;have q:=ih (j+1) ρ2 (by lia) hlt w1;unfold Wp at q;exact q
   |bk ρ2=>rw[e2]at w1;exact w1
   |rt d=>rw[e2]at w1;exact w1
   |no=>rw[e2]at w1;exact w1
 have:=key _ 0 O rfl (Ą _) h0;unfold Wp at this;unfold Wp iA;rw[h];exact this
def jN(I:Nat->aW->Prop)(n:Nat)(h0:I n O)(hs:∀n O,I n O->∃x,c O=À x/\(x=Â->Wp b O {W with nx:=λO'=>∃m,m<n/\I m O',ct:=λO'=>∃m,m<n/\I m O',bk:=W.nx })/\(x=Ã->W.nx O)):Wp (i6 c b) O W:=by
 have key:∀n O,I n O->∃r,lN c b (n+1) O=r/\r≠.no/\(match r with |.nx O'=>W.nx O' |.rt d=>W.rt d |.bk O'=>W.bk O' |.ct O'=>W.ct O' |.no=>False):=by
  intro n;induction n using Pz with
  |_ n ih =>
   intro O hI;obtain⟨x,ec,ht,hf⟩:=hs n O hI;have un:lN c b (n+1) O=(match c O with |some Ã=>Res.nx O |some Â=>(match b O with |.nx O'=>lN c b n O' |.ct O'=>lN c b n O' |.bk O'=>.nx O' |.rt d=>.rt d |.no=>.no) |none=>.no):=rfl;rw[un,ec];cases x with
   |false=>exact⟨.nx O,rfl,(λz=>by cases z),hf rfl⟩
   |true =>
    have w:=ht rfl;unfold Wp at w
    have step:∀ O',(∃m,m<n/\I m O')->∃r,lN c b n O'=r/\r≠.no/\(match r with |.nx O'=>W.nx O' |.rt d=>W.rt d |.bk O'=>W.bk O' |.ct O'=>W.ct O' |.no=>False):=by
     rintro O' ⟨m,hm,hI'⟩;obtain⟨r,e,hr,q⟩:=ih m hm O' hI';refine⟨r,?_,hr,q⟩;obtain⟨k,rfl⟩:∃k,n=m+1+k:=⟨n-m-1,by lia⟩
     rw[yt (by rw[e];exact hr),e]
    cases eb:b O with
    |nx O'=>rw[eb]at w;exact step O' w
    |ct O'=>rw[eb]at w;exact step O' w
    |bk O'=>simp_all
    |rt d=>simp_all
    |no=>simp_all
 obtain⟨r,e,hr,q⟩:=key n O h0;unfold Wp;rw[BV e hr];exact q
end
section
def bH(ha:a O=À (.int i))(hb:b O=À (.int j)):dAdd a b O=À (.int (i+j)):=by unfold dAdd nc;rw[ha,hb]
def cR(ha:a O=À (.int i))(hb:b O=À (.int j)):gA a b O=À (.int (i-j)):=by unfold gA nc;rw[ha,hb]
def ig(ha:a O=À (.int i))(hb:b O=À (.int j))(h:RF i j):fg a b O=À (.int (i*j)):=by unfold fg nc;rw[ha,hb];exact vK h
def fH(ha:a O=À (.int i))(hb:b O=À (.int j))(h:0<j/\j.natAbs.log2<9000):cM a b O=À (.int (i / j)):=by unfold cM nc;rw[ha,hb];exact vK h
def bQ(ha:a O=À (.int i))(hb:b O=À (.int j))(h:0<j):cj a b O=À (.int (i % j)):=by unfold cj nc;rw[ha,hb];exact vK h
def Fe(ha:a O=À (.int i))(hb:b O=À (.int j))(h:CQ i j):sN a b O=À (.int (i ^ j.toNat)):=by unfold sN nc;rw[ha,hb];exact vK h
def oM(ha:a O=À (.int i))(hb:b O=À (.int j)):xP a b O=À (.bl (decide (i<j))):=by unfold xP nc;rw[ha,hb]
def uc(ha:a O=À (.int i))(hb:b O=À (.int j)):Gd a b O=À (.bl (decide (i<=j))):=by unfold Gd nc;rw[ha,hb]
def fB(ha:a O=À (.int i))(hb:b O=À (.int j)):xS a b O=À (.bl (decide (j<i))):=by unfold xS nc;rw[ha,hb]
def ue(ha:a O=À (.int i))(hb:b O=À (.int j)):C1 a b O=À (.bl (decide (j<=i))):=by unfold C1 nc;rw[ha,hb]
def j3(ha:a O=À (.int i)):iI a O=À (.int (-i)):=by unfold iI;rw[ha]
def kA(ha:a O=À (.int i))(hb:b O=À (.int j)):oO a b O=À (.int (max i j)):=by unfold oO nc;rw[ha,hb,<-(by split <;> lia:(if j > i then j else i)=max i j)]
def vO(ha:a O=À (.int i))(hb:b O=À (.int j)):ui a b O=À (.int (min i j)):=by unfold ui nc;rw[ha,hb,<-(by split <;> lia:(if j<i then j else i)=min i j)]
def cb(ha:a O=À (.bl x)):dT a O=À x:=by unfold dT;rw[ha]
def cD(ha:a O=À d)(h:Dx d=À x):ij a O=À x:=by unfold ij;rw[ha];exact h
def og(ha:p O=À x):kK p O=À (!x):=by unfold kK;rw[ha]
def ja(ha:p O=À x)(hb:x=Â->q O=À y):sP p q O=À (x&&y):=by
 unfold sP;rw[ha];cases x
 ·rfl
 ·rw[hb rfl];rfl
def xD(ha:p O=À x)(hb:x=Ã->q O=À y):rh p q O=À (x || y):=by
 unfold rh;rw[ha];cases x
 ·rw[hb rfl];rfl
 ·rfl
def mG(ha:a O=À (.bl x))(hb:x=Â->b O=À (.bl y)):oP a b O=À (.bl (x&&y)):=by
 unfold oP;rw[ha];cases x
 ·rfl
 ·rw[hb rfl];rfl
def ky(ha:a O=À d)(h:d.lh=Â):gScal a O=À d:=by unfold gScal;rw[ha];exact if_pos h
def aI(h:es O=À ds):dLst es O=À (.lst ds):=by unfold dLst;rw[h];rfl
def vN(h:es O=À ds):dTup es O=À (.tup ds):=by unfold dTup;rw[h];rfl
def ae(h:a O=À d)(h2:es O=À ds):dCons a es O=À (d::ds):=by unfold dCons;rw[h,h2]
def aA(ha:a O=À d)(hb:b O=À (.int i))(h:yf d i=À e):dIx a b O=À e:=by unfold dIx;rw[ha,hb];exact h
def cf(ha:a O=À d)(h:g d=À e):dy g a O=À e:=by unfold dy;rw[ha];exact h
def aC(h:es O=À ds)(h2:F ds=À d):aJ F es O=À d:=by unfold aJ;rw[h];exact h2
def xF(ha:a O=À d)(hb:b O=À e)(h:fJ 20 d e=Â):jG neg a b O=À (.bl (if neg=Â then !decide (d=e) else decide (d=e))):=by unfold jG;rw[ha,hb];exact if_pos h
def Ff(ha:a O=À (.int i))(hb:b O=À (.int j)):jG neg a b O=À (.bl (if neg=Â then !decide (i=j) else decide (i=j))):=by rw[xF ha hb rfl];rw[(by simp:decide (D.int i=D.int j)=decide (i=j))]
def dH(ha:a O=À (.int i))(hb:b O=À (.int j)):jG Ã a b O=À (.bl (decide (i=j))):=Ff ha hb
def zm(ha:a O=À (.int i))(hb:b O=À (.int j)):jG Â a b O=À (.bl (decide (i≠j))):=by rw[Ff ha hb];simp
def Cy(ha:a O=À d)(hb:b O=À d)(h:fJ 20 d d=Â):jG Ã a b O=À (.bl Â):=by rw[xF ha hb h,if_neg ñ,decide_eq_true rfl]
def aR(ha:a O=À d)(h:Kq d=À ds):asL a O=À ds:=by unfold asL;rw[ha];exact h
def lF(ha:a O=À (.int i))(h:-(2 ^ 62)<=i/\i.toNat<=Î):jF a O=À (CT 0 i.toNat):=by unfold jF;rw[ha];exact if_pos h
def KY(ha:a O=À (.int i))(hb:b O=À (.int j))(h:-(2 ^ 62)<=i/\i<2 ^ 62/\-(2 ^ 62)<=j/\j<2 ^ 62/\(j-i).toNat<=Î):CD a b O=À (CT i (j-i).toNat):=by unfold CD;rw[ha,hb];exact if_pos h
def oe(h:es O=À ds)(hb:b O=À (.int i))(hc:-(2 ^ 63)<=i/\i<2 ^ 63/\ds.length*i.toNat<=Î):mI es b O=À (æ i.toNat ds).flatten:=by unfold mI;rw[h,hb];exact if_pos hc
def IX(h:asL a O=À ds)(h1:lo O=À l)(h2:hi O=À u):Lv a lo hi O=À (CH ds l u):=by unfold Lv;rw[h,h1,h2]
def A6(h:es O=À ds)(hf:kT ds=Â):t8 es O=À ds:=by unfold t8;rw[h];exact if_pos hf
def zo(h:a O=À d)(hl:Kq d=À ds):xQ a O=À ds:=by
 unfold xQ;rw[h];cases d with
 |lst xs=>exact hl
 |scr ns=>exact hl
 |_=>cases hl
def qV(ha:a O=À (.lst xs))(hb:b O=À (.lst ys))(h:xs.length+ys.length<=Î):rm a b O=À (xs++ys):=by unfold rm;rw[ha,hb];exact if_pos h
def Ee(h:Wp b (eZ n ms ds) {nx:=λ_=>P .non,rt:=P }):∃d,bO n ms b ds=À d/\P d:=by
 unfold Wp at h;unfold bO;cases e:b (eZ n ms ds)with
 |nx O=>simp_all
 |rt d=>simp_all
 |bk O=>simp_all
 |ct O=>simp_all
 |no=>simp_all
def run_eq(h:Wp b (eZ n ms ds) {nx:=λ_=>D.non=d,rt:=λx=>x=d }):bO n ms b ds=À d:=by obtain⟨x,e,rfl⟩:=Ee (P:=λx=>x=d) h;exact e
def ph(hF:F=bO n ms b)(h:Wp b (eZ n ms ds) {nx:=λ_=>P .non,rt:=P }):∃d,F ds=À d/\P d:=by rw[hF];exact Ee h
def bS(hF:F=bO n ms b)(h:Wp b (eZ n ms ds) {nx:=λ_=>D.non=d,rt:=λx=>x=d }):F ds=À d:=by rw[hF];exact run_eq h
def sI(h:(-(2 ^ 64)<i/\i<2 ^ 64)\/(-(2 ^ 64)<j/\j<2 ^ 64)):RF i j:=Lp.ok h
def N4(h0:0<=i)(h1:i<ns.length):yf (.scr ns) i=À (.int (ns.getD i.toNat 0)):=by show (kB ns i).map D.int=_;unfold kB ixN;rw[if_pos h0,if_pos h1];show (ns[i.toNat]?).map D.int=_;rw[Ë,É (by lia)];rfl
def Lr(i x y z:Int):Int:=if i=0 then x else if i=1 then y else z
def KN(c x y z:Int):yf (.lst [.int x,.int y,.int z]) (c % 3)=À (.int (Lr (c % 3) x y z)):=by
 have h:c % 3=0\/c % 3=1\/c % 3=2:=by lia
 rcases h with h |h |h <;> rw[h] <;> rfl
def EO{n:Nat}{i:Int}(h0:0<=i)(h1:i<n):ixN n i=À i.toNat:=by unfold ixN;rw[if_pos h0,if_pos h1]
end
end
end
section
open Classical
section
section
variable[aV]
def vM{j:Int}(h0:0<j)(h1:j<2 ^ 64):0<j/\j.natAbs.log2<9000:=by refine⟨h0,(Nat.log2_lt (by lia)).mpr (è (m:=2 ^ 64) (by lia) (Nat.pow_le_pow_right (by decide) (by decide)))⟩
def fe(emb:α->D){xs:List α}(h:it O=À (xs.map emb))(p:α->Bool)(f:α->D)
 (hs:∀x∈xs,∃ ρ1,g (emb x) (r0 k cs O)=À ρ1/\t ρ1=À (p x)/\(p x=Â->el ρ1=À (f x))):dComp k cs it g t el O=À ((xs.filter p).map f):=by
 unfold dComp;rw[h];dsimp only;clear h;induction xs with
 |nil=>rfl
 |cons x r ih =>
  obtain⟨ρ1,e1,e2,e3⟩:=hs x Ò;have ih:=ih λd hd=>hs d (Ñ _ hd);rw[Ā];unfold oi;cases hp:p x with
  |false =>simp_all
  |true =>simp_all
def bh(emb:α->D){xs:List α}(h:it O=À (xs.map emb))(f:α->D)
 (hs:∀x∈xs,∃ ρ1,g (emb x) (r0 k cs O)=À ρ1/\el ρ1=À (f x)):dComp k cs it g dTrue el O=À (xs.map f):=by
 have:=fe (t:=dTrue) emb h (λ_=>Â) f λd hd=>let ⟨ρ1,e1,e2⟩:=hs d hd;⟨ρ1,e1,rfl,λ_=>e2⟩
 rw[this,Ϲ.mpr λ_ _=>rfl]
def Bd(h:∀x∈xs,∀y∈ys,fJ n x y=Â):fJ (n+1) (.lst xs) (.lst ys)=true:=by show (decide _ || (Pj xs ys).all λp=>fJ n p.1 p.2)=Â;rw[Ro];refine .inr (Ľ.mpr λq hq=>?_);obtain⟨a,b⟩:=q;obtain⟨h1,h2⟩:=Ŕ hq;exact h a h1 b h2
def BC(ns:List Int):oU (.lst (ns.map D.int))=À (.int ns.sum):=eF _ ns
def ku(x:Int)(r:List Int):maxD (.lst ((x::r).map D.int))=À (.int (nU x r)):=eF _ (x::r)
end
end
end
end VL
namespace L2
open PySem PySem.Spec PyProof.Rows
section
open VL (s0)
def sq
 (hQ:Q {scope,locals:=s.heap.objs.size,globals,cells:=ķ (s.heap.objs.size+1) scope.names cl,qual,func:=Á,code:=outer.code,frame:=outer.frame,builtins:=outer.builtins } {s with heap:=QJ (s.heap.push {cls:=.type "dict", data:=.dict #[] }) scope.names }) :
 í M A (newFunctionEnv scope globals cl [] qual Á .none (À outer)) Q E s:=by
 refine È (wpAny_alloc (È (wpAny_layCells _ λname kind cells=>by rfl _ _ _ _ ?_)));rw[ϫ ..];exact È (Ï (Ï hQ))
theorem j5:∀(names:List (ĺ×QH)) (h:Ő) (acc:List (ĺ×Ý)) (x:ĺ) (c:Ý),(ķ h.objs.size names acc).lookup x=À c->((QJ h names).IsCell c Á/\h.objs.size<=c)\/acc.lookup x=À c
 |[],_,_,_,_,e=>.inr e
 | (name,kind)::r,h,acc,x,c,e=>by
  unfold ķ at e;unfold QJ;split at e
  ·rename_i hk;rw[if_pos hk];rcases j5 r (h.push {cls:=.type "cell", data:=.cell Á }) ((name,h.objs.size)::acc) x c (by simp_all)with⟨q1,q2⟩ |q
   ·rw[ϫ]at q2;exact .inl ⟨q1,ĉ q2⟩
   ·rw[Pb]at q;cases hb:x==name with
    |true =>rw[hb]at q;cases q;exact .inl ⟨⟨_,Rp _ _ _ _ (å _ rfl),rfl⟩,Õ _⟩
    |false=>rw[hb]at q;exact .inr q
  ·rename_i hk;rw[if_neg hk];exact j5 r h acc x c e
theorem oq:∀(names:List (ĺ×QH)) (n:Nat) (acc:List (ĺ×Ý)),(∀x y c,acc.lookup x=À c->acc.lookup y=À c->x=y)->(∀x c,acc.lookup x=À c->c<n)->∀x y c,(ķ n names acc).lookup x=À c->(ķ n names acc).lookup y=À c->x=y
 |[],_,_,hi,_=>hi
 | (name,kind)::r,n,acc,hi,hb=>by
  unfold ķ;split
  ·refine oq r (n+1) ((name,n)::acc) (λx y c h1 h2=>?_) λx c h=>?_
   ·grind
   ·rw[Pb]at h;cases e1:x==name with
    |true=>simp_all
    |false=>rw[e1]at h;exact ÿ (hb _ _ h)
  ·exact oq r n acc hi hb
theorem oj:∀(names:List (ĺ×QH)) (n:Nat) (acc:List (ĺ×Ý)) (x:ĺ),(names.all λy=>!(y.2==.cell) || !(y.1==x))=Â->(ķ n names acc).lookup x=acc.lookup x
 |[],_,_,_,_=>rfl
 | (name,kind)::r,n,acc,x,h=>by
  have h:((!(kind==.cell) || !(name==x))&&r.all λy=>!(y.2==.cell) || !(y.1==x))=true:=h;obtain⟨h1,h2⟩:=(Υ _ _).mp h;unfold ķ;split
  ·rename_i hk;rw[oj r _ _ x h2,Pb]
   have:(x==name)=false:=by
    rw[hk]at h1;have h1:(name==x)=false:=by simpa using h1
    rw[beq_eq_false_iff_ne]at h1 ⊢;exact λz=>h1 z.symm
   rw[this]
  ·exact oj r _ _ x h2
noncomputable def aG(X:Cx)(N':List ĺ)(scope:Ql)(cl:List (ĺ×Ý))(C:Ý)(s3:ç)(H3:Hp)(fp:List Ý)(pins:List (Ý×ϯ)):Cx :=
 {X with N:=N',s₀:=s3,H₀:=H3,env:=Ϭ scope (ķ (C+1) scope.names cl) C X.env,outer:=X.stack,stack:=X.stack,ex:=fp,fn:=λx=>scope.names.lookup x==À .cell,pn:=X.pn++pins,xe:=λ_ _=>False }
structure jg(X:Cx)(N':List ĺ)(scope:Ql)(cl:List (ĺ×Ý))(Y σ0:St):Prop where
 sub:∀x c,cl.lookup x=À c->X.env.cells.lookup x=À c
 vals:∀(j:Nat) (x:ĺ) (v:V),N'[j]?=À x->σ0[j]?=À (À v)->∃(i:Nat) (c:Ý),X.N[i]?=À x/\Y[i]?=À (À v)/\Mu X.env.scope x/\X.env.kindOf x≠À .local/\cl.lookup x=À c /\
  ((relabel scope X.env).names.lookup x=À .cell\/(relabel scope X.env).names.lookup x=À .free)
 MY:∀(j:Nat) (x:ĺ) (v:V),N'[j]?=À x->σ0[j]?=À (À v)->(scope.names.all λy=>!(y.2==.cell) || !(y.1==x))=Â
 has:∀x,((relabel scope X.env).names.lookup x=À .cell\/(relabel scope X.env).names.lookup x=À .free)->scope.names.lookup x=À .cell\/(cl.lookup x).isSome=Â
 out:∀x c,(scope.names.lookup x==À .cell)=Â->¬cl.lookup x=À c
 len:σ0.length=N'.length
section
def oR{σ0:St->St}{RR:Ù->Ý->Result->ç->Prop}
 (hc:X.calm=Â) (hkind:scope.kind=.function)
 (I:Inv X pins Y H1 s2) (T:Turn X.prog X.w X.K tg J fp it tn) (st:tn 0 s2.heap) (hfp:∀b∈fp,yb X pins H1 b) (fr:jg X N' scope cl Y (σ0 Y)) (hk:Bn g (σ0 Y))
 (hg:∀C s3 H3 fp pins,PG (aG X N' scope cl C s3 H3 fp pins) tg g)
 (ht:∀C s3 H3 fp pins (pl:List (Ý×ϯ)) (s:ç) (Y:St) (H:Hp) (Q:Bool->Hp->Prop),Inv (aG X N' scope cl C s3 H3 fp pins) pl Y H s->tt Y H Q ->
  í (model X.prog X.w) X.A (forIn ifs Â λc r=>if r=Â then do let ok <-isTrue c (Ϭ scope (ķ (C+1) scope.names cl) C X.env) (eval c (Ϭ scope (ķ (C+1) scope.names cl) C X.env));pure (ı ok) else pure (ı r)) (TP (aG X N' scope cl C s3 H3 fp pins) pl Y Q) (λ_ _=>False) s)
 (he:∀C s3 H3 fp pins,PE (aG X N' scope cl C s3 H3 fp pins) elt te) (hw:I0 J g tt te (σ0 Y) H1 Q)
 (hRR:∀D C s' H' m,Inv X pins Y H' s'->s'.heap.Ns C m->H' C=Á->C≠X.env.locals->X.s₀.heap.objs.size<=C->(∀x c,X.env.cells.lookup x=À c->c≠C)->(∀p∈X.pn++pins,p.1≠C)->Q (.ref D) H'->RR (.ref D) C (.ok .next) s') :
 í (model X.prog X.w) X.A (newList []) (λacc s₃=>í (model X.prog X.w) X.A (newFunctionEnv scope X.env.globals cl [] X.env.qual Á .none (À X.env)) (λcenv s₄ =>OR (model X.prog X.w) X.A (.compStart (.ListComp elt [⟨tg,iter,ifs,0⟩] scope pos) 0 (.ref it) acc {cenv with scope:=relabel scope X.env }) (RR acc cenv.locals) s₄) X.xe s₃) X.xe s2:=by
 refine ń (hd:=by size_fits) (sq ?_);dsimp only;have I3:Inv X pins Y (upd H1 s2.heap.objs.size (.lst [])) {s2 with heap:=s2.heap.push {cls:=.type "list", dict:=Á,data:=.seq ([]:List Ù).toArray } }:=I.Kt (t':=s2.toks) (its:=[]) (ys:=[]) .nil (Ą _);obtain⟨W,⟨m0,w0⟩,turn⟩:=hw s2.heap.objs.size I.fresh;have hfpo:=T.obj 0 _ st;have fpl:∀b∈fp,b<s2.heap.objs.size:=λb hb=>by obtain⟨o,e,_⟩:=hfpo b hb;exact Ø e
 have fD:∀b∈fp,upd H1 s2.heap.objs.size (.lst []) b=none:=λb hb=>by rw[upd_ne (Ü (fpl b hb))];exact(hfp b hb).1
 generalize hs3:({s2 with heap:=s2.heap.push {cls:=.type "list", dict:=Á,data:=.seq ([]:List Ù).toArray } }:ç)=s3 at I3;have es3:s3.heap=s2.heap.push {cls:=.type "list", dict:=Á,data:=.seq ([]:List Ù).toArray }:=by rw[<-hs3]
 have st3:tn 0 s3.heap:=T.keep _ _ _ st λb hb o e=>by rw[es3];exact Ì _ e
 rw[<-es3];have sz3:s2.heap.objs.size<s3.heap.objs.size:=by rw[es3,ϫ];exact ĸ _
 generalize upd H1 s2.heap.objs.size (.lst [])=H3 at I3 fD w0;have hns₁:(QJ (s3.heap.push {cls:=.type "dict", data:=.dict #[] }) scope.names).Ns s3.heap.objs.size (λ_=>Á):=(Heap.Ns.new s3.heap (.type "dict")).keeps (Rp _ _);have old:∀b o,s3.heap.get? b=À o->(QJ (s3.heap.push {cls:=.type "dict", data:=.dict #[] }) scope.names).get? b=À o:=λb o e=>Rp _ _ b o (Ì _ e);have cnew:=λx c (e:(ķ (s3.heap.objs.size+1) scope.names cl).lookup x=À c)=>j5 scope.names (s3.heap.push {cls:=.type "dict", data:=.dict #[] }) cl x c (by rw[ϫ];exact e);rw[ϫ]at cnew;have below:∀x c,cl.lookup x=À c->c<s3.heap.objs.size:=λx c e=>by obtain⟨v,o,ho,_⟩:=I3.cell x c (fr.sub x c e);exact Ø ho
 generalize QJ (s3.heap.push {cls:=.type "dict", data:=.dict #[] }) scope.names=h₁ at hns₁ old cnew;have fpl3:∀b∈fp,b<s3.heap.objs.size:=λb hb=>ϒ (fpl b hb) sz3
 have Jn:∀b∈fp,b∉C0 X.stack:=λb hb z=>by
  rcases Ú.mp (I3.pZ b z)with e |e
  ·exact(hfp b hb).2.1 e
  ·exact(hfp b hb).2.2.1 e
 have ok:(aG X N' scope cl s3.heap.objs.size s3 H3 fp pins).Ok:=by
  refine⟨I3.ok.mod,hkind,I3.ok.glob,I3.ok.blt,Õ _,oq scope.names _ cl (λx y c h1 h2=>I3.ok.inj x y c (fr.sub x c h1) (fr.sub y c h2)) (λx c e=>ÿ (below x c e)),λx h=>?has,λx c h e=>?cab,I3.ok.hd,I3.ok.frames,.inl rfl,
   λb hb=>⟨Ü (fpl3 b hb),λx c e=>?exf⟩,I3.bs,ø I3.ok.CN I3.sz,λb o e hb=>?noex,λb hb=>Jn b hb,I3.stack,I3.uL⟩
  case has=>exact Qy.mp (OS scope.names _ cl (fr.has x h))
  case cab =>
   rcases cnew x c e with⟨_,q⟩ |q
   ·exact ø (ţ _) q
   ·exact absurd q (fr.out x c h)
  case exf =>
   rcases cnew x c e with⟨_,q⟩ |q
   ·intro z;have l1:=fpl3 b hb;rw[<-z]at l1;exact absurd (è l1 (ø (ţ _) q)) (ĕ _)
   ·exact(hfp b hb).2.2.2.2.1 x c (fr.sub x c q)
  case noex =>
   rcases(hfp b hb).2.2.2.1 with z |z
   ·exact I3.ok.noex b o e z
   ·have l1:b<X.base.objs.size:=Ø e;have l2:X.base.objs.size<=X.s₀.heap.objs.size:=I3.ok.CN;have l3:X.s₀.heap.objs.size<=b:=z;exact absurd (è l1 (ø l2 l3)) (ĕ _)
 have lt3:X.env.locals<s3.heap.objs.size:=I3.lt
 have start:Inv (aG X N' scope cl s3.heap.objs.size s3 H3 fp pins) [] (σ0 Y) H3 {s3 with heap:=h₁ }:=by
  refine⟨ok,rfl,I3.bare,Un.kept old,⟨_,hns₁,λj x v e1 e2 _=>?_⟩,λx c e=>?_,I3.bJ.fresh (Õ _),λx c e=>?fc,λp hp=>?_,I3.bJ.kept old,fr.len⟩
  case fc =>
   rcases cnew x c e with⟨_,q⟩ |q
   ·exact I3.bJ.fresh (ĉ q)
   ·exact I3.gV x c (fr.sub x c q)
  ·obtain⟨i,c,q1,q2,q3,q4,q5,q6⟩:=fr.vals j x v e1 e2;obtain⟨m,hn,hl⟩:=I3.loc;obtain⟨u,r,l⟩:=hl i x v q1 q2 q3;refine⟨u,r,.inr ⟨q6,c,(oj scope.names _ cl x (fr.MY j x v e1 e2)).trans q5,?_⟩⟩;rcases l with⟨k,_⟩ |⟨_,c',e',z⟩
   ·exact absurd k q4
   ·rw[fr.sub x c q5]at e';cases e';obtain⟨o,ho,hd⟩:=z;exact⟨o,old _ _ ho,hd⟩
  ·rcases cnew x c e with⟨q,_⟩ |q
   ·exact⟨_,q⟩
   ·obtain⟨v,o,ho,hd⟩:=I3.cell x c (fr.sub x c q);exact⟨v,o,old _ _ ho,hd⟩
  ·have hp':p∈X.pn++pins:=by simpa [aG]using hp
   obtain⟨e,n,ne,nf,d⟩:=I3.pin p hp';refine⟨old _ _ e,n,Ü (Ø e),λz=>?_,d⟩;rcases Ú.mp (I3.pZ p.1 z)with q |q
   ·exact ne q
   ·exact nf q
 have hst₁:tn 0 h₁:=T.keep _ _ _ st3 λb _ o e=>old b o e
 have fpok:∀{H':Hp},(∀b∈fp,H' b=Á)->∀b∈fp,yb (aG X N' scope cl s3.heap.objs.size s3 H3 fp pins) [] H' b:=λ{H'} hn b hb =>
  ⟨hn b hb,Ü (fpl3 b hb),Jn b hb,.inl hb,λx c e=>by
   rcases cnew x c e with⟨_,q⟩ |q
   ·intro z;have l1:=fpl3 b hb;rw[<-z]at l1;exact absurd (è l1 (ø (ţ _) q)) (ĕ _)
   ·exact(hfp b hb).2.2.2.2.1 x c (fr.sub x c q),λp hp=>(hfp b hb).2.2.2.2.2 p (by simpa [aG]using hp)⟩
 have loop:OR (model X.prog X.w) X.A (.compLoop (.ListComp elt [⟨tg,iter,ifs,0⟩] scope pos) 0 (.ref it) (.ref s2.heap.objs.size) (Ϭ scope (ķ (s3.heap.objs.size+1) scope.names cl) s3.heap.objs.size X.env)) (RR (.ref s2.heap.objs.size) s3.heap.objs.size) {s3 with heap:=h₁ }:=by
  refine vU (λn s'=>∃i ys H',Inv (aG X N' scope cl s3.heap.objs.size s3 H3 fp pins) [] (σ0 Y) H' s'/\tn i s'.heap/\(∀b∈fp,H' b=Á)/\W i n ys H') ?_ m0 ⟨0,[],H3,start,hst₁,fD,w0⟩;rintro n s4 ⟨i,ys,H4,I4,st4,fr4,w4⟩;rcases turn i n ys H4 w4 with⟨stop,eD,q⟩ |⟨go,step⟩
  ·refine cc (T.done (aG X N' scope cl s3.heap.objs.size s3 H3 fp pins) rfl rfl rfl hc i [] s4 _ H4 _ I4 (fpok fr4) st4 stop) λr s5 ⟨hr,I5⟩=>?_;subst hr;obtain⟨m5,n5,_⟩:=I5.loc;have J5:Inv X pins Y H4 s5:=I3.Jb I5.os I5.base I5.bJ I5.bare λb hb=>⟨(hfp b hb).2.2.2.1,(hfp b hb).2.1,(hfp b hb).2.2.2.2.1,(hfp b hb).2.2.2.2.2⟩
   exact hRR _ _ s5 H4 m5 J5 n5 I5.free (ş lt3) I3.sz (λx c e z=>by
    obtain⟨v,o,ho,_⟩:=I3.cell x c e;exact absurd (Ø ho) (by rw[z];exact ĕ _)) (λp hp z=>by
    have e:=(I3.pin p hp).1;exact absurd (Ø e) (by rw[z];exact ĕ _)) q
  ·refine cc (T.item (aG X N' scope cl s3.heap.objs.size s3 H3 fp pins) rfl rfl rfl hc i [] s4 _ H4 _ I4 (fpok fr4) st4 go) λr s5 ⟨u,hr,h5⟩=>?_;subst hr;refine cc h5 λ_ s6 ⟨x,H6,I6,r6,y6,st6,fr6⟩=>?_;have I6':=I6.pinned (fpok fr6) (T.obj _ _ st6);refine cc (hg _ _ _ _ _ _ s6 _ H6 x u _ I6' r6 (hk _ _ _ (step x H6 y6))) λ_ s7 ⟨σ7,H7,I7,q7,l7,k7⟩=>?_
   have again:∀{s8:ç} {H8:Hp} {m:Nat} {zs:List V},Inv (aG X N' scope cl s3.heap.objs.size s3 H3 fp pins) ([]++qz fp s6.heap) σ7 H8 s8->m<n->W (i+1) m zs H8 ->
    ∃m,m<n/\∃i ys H',Inv (aG X N' scope cl s3.heap.objs.size s3 H3 fp pins) [] (σ0 Y) H' s8/\tn i s8.heap/\(∀b∈fp,H' b=Á)/\W i m ys H':=λ{s8 H8 m zs} I8 hm w8=>by
    refine⟨m,hm,i+1,zs,H8,(Inv.fT I8).weak l7.symm k7,T.keep _ _ _ st6 λb hb o e=>(I8.pin (b,o) (Ô _ (Ô _ (i9 hb e)))).1,λb hb=>?_,w8⟩;obtain⟨o,e,d⟩:=T.obj _ _ st6 b hb;exact(I8.pin (b,o) (Ô _ (Ô _ (i9 hb e)))).2.1
   refine cc (ht _ _ _ _ _ _ s7 σ7 H7 _ I7 q7) λc s8 ⟨H8,I8,q8⟩=>?_;cases c with
   |false =>rw[if_neg ñ]at q8 ⊢;obtain⟨m',hm,w8⟩:=q8;exact again I8 hm w8
   |true =>
    exact cc (he _ _ _ _ _ _ s8 σ7 H8 _ I8 q8) λv s9 ⟨y,H9,I9,r9,e9,z9,m',hm,w9⟩=>cc (eG _ s9 σ7 H9 (.ref s2.heap.objs.size) [y] (.ref s2.heap.objs.size) [v] (λ_ H'=>H'=upd H9 s2.heap.objs.size (.lst (ys++[y]))) I9 rfl (.cons r9 .nil) ⟨_,ys,y,rfl,rfl,e9,z9,rfl⟩)
     λ_ s10 ⟨_,H10,I10,_,e10⟩=>by subst e10;exact again I10 hm w9
 subst hs3;exact codeAny_compStart_list loop (T.self _ 0 _ _ _ hst₁ loop)
def tV(hc:X.calm=Â)(hi:PI X tg iter wi)(fr:∀ Y:St,Y.length=X.N.length->jg X N' scope cl Y (σ0 Y))(hk:∀ Y,Bn g (σ0 Y))
 (hg:∀C s3 H3 fp pins,PG (aG X N' scope cl C s3 H3 fp pins) tg g)
 (ht:∀C s3 H3 fp pins (pl:List (Ý×ϯ)) (s:ç) (Y:St) (H:Hp) (Q:Bool->Hp->Prop),Inv (aG X N' scope cl C s3 H3 fp pins) pl Y H s->tt Y H Q ->
  í (model X.prog X.w) X.A (forIn ifs Â λc r=>if r=Â then do let ok <-isTrue c (Ϭ scope (ķ (C+1) scope.names cl) C X.env) (eval c (Ϭ scope (ķ (C+1) scope.names cl) C X.env));pure (ı ok) else pure (ı r)) (TP (aG X N' scope cl C s3 H3 fp pins) pl Y Q) (λ_ _=>False) s)
 (he:∀C s3 H3 fp pins,PE (aG X N' scope cl C s3 H3 fp pins) elt te)
 (hclos:ϔ scope X.env=pure cl) (hkind:scope.kind=.function) (hnames:∀y∈scope.names,y.2=.local->scope.names.lookup y.1=À .local)
 (hs:∀x,Ŏ iter X.env x=pure x):PE X (.ListComp elt [⟨tg,iter,ifs,0⟩] scope pos) (jm wi g tt te σ0):=by
 intro pins s Y H Q I h;refine QB rfl hs hclos hkind hnames (cc (hi pins s Y H _ I h) λv s1 h1=>cc h1 λitv s2 h2=>?_);obtain⟨it,fp,tn,J,H2,e,I2,T,st2,f2,q⟩:=h2;subst e;exact oR hc hkind I2 T st2 f2 (fr Y I.len) (hk Y) hg ht he q λD C s' H' m I' hn hC h1 h2 h3 h4 q'=>⟨m,hn,λh'' hs''=>⟨.ref D,H',I'.turned (λb o hb e=>hs''.extBut b o hb e) hC h1 (.inr h2) h3 h4,rfl,q'⟩⟩
def tS(hN:X.N.Nodup)(hi':X.N[i]?=À x)(hx:Loc X.env.scope x)(hf:X.fn x=Â\/X.env.scope.names.lookup x=À .local)
 (hc:X.calm=Â) (hi:PI X tg iter wi) (fr:∀ Y:St,Y.length=X.N.length->jg X N' scope cl Y (σ0 Y)) (hk:∀ Y,Bn g (σ0 Y))
 (hg:∀C s3 H3 fp pins,PG (aG X N' scope cl C s3 H3 fp pins) tg g)
 (ht:∀C s3 H3 fp pins (pl:List (Ý×ϯ)) (s:ç) (Y:St) (H:Hp) (Q:Bool->Hp->Prop),Inv (aG X N' scope cl C s3 H3 fp pins) pl Y H s->tt Y H Q ->
  í (model X.prog X.w) X.A (forIn ifs Â λc r=>if r=Â then do let ok <-isTrue c (Ϭ scope (ķ (C+1) scope.names cl) C X.env) (eval c (Ϭ scope (ķ (C+1) scope.names cl) C X.env));pure (ı ok) else pure (ı r)) (TP (aG X N' scope cl C s3 H3 fp pins) pl Y Q) (λ_ _=>False) s)
 (he:∀C s3 H3 fp pins,PE (aG X N' scope cl C s3 H3 fp pins) elt te)
 (hclos:ϔ scope X.env=pure cl) (hkind:scope.kind=.function) (hnames:∀y∈scope.names,y.2=.local->scope.names.lookup y.1=À .local)
 (hs:∀x,Ŏ iter X.env x=pure x) (hsw:PU (.ListComp elt [⟨tg,iter,ifs,0⟩] scope pos) (À (.Name x pos')) spos.line X.env=pure Â) :
 PS X (.Assign [.Name x pos'] (.ListComp elt [⟨tg,iter,ifs,0⟩] scope pos) spos) (tf (jm wi g tt te σ0) i):=by
 intro pins s Y H D I h;rw[exec_Assign_Name_used _ _ _ _ hsw]
 refine È (Pf (È (È (ħ (QB rfl hs hclos hkind hnames (cc (hi pins s Y H _ I h) λv s1 h1=>cc h1 λitv s2 h2=>?_))
  (λ_ s' hq=>Ï (Ï hq)) λ_ _ e=>e))))
 obtain⟨it,fp,tn,J,H2,e,I2,T,st2,f2,q⟩:=h2;subst e;apply oR hc hkind I2 T st2 f2 (fr Y I.len) (hk Y) hg ht he q;intro Dl C s' H' m I' hn hC h1 h2 h3 h4 q';refine wpAny_assign_Name (tu (v:=.ref Dl) I' hN hi' hx rfl (λs'' I'' ⟨a,hsb,ha⟩=>?_) hf)
 have hne:C≠a:=by
  rcases ha with rfl |ha
  ·exact h1
  ·exact ĩ (h3 x a ha)
 exact⟨m,hn.sameBut hsb hne,λh'' hs''=>⟨_,H',I''.turned (λb o hb e=>hs''.extBut b o hb e) hC h1 (.inr h2) h3 h4,q'⟩⟩
def jg.many(hk:ts.length=k)(hs:SubL X cl)(hc:mX X scope cl is zs)
 (ha:((relabel scope X.env).names.all λy=>!(y.2==.cell || y.2==.free) || zs.contains y.1 || (scope.names.lookup y.1==À .cell))=Â)
 (ho:(zs.all λz=>scope.names.all λy=>!(y.2==.cell) || !(y.1==z))=Â) (hcl:(scope.names.all λy=>!(y.2==.cell) || (cl.lookup y.1).isNone)=Â):jg X (ts++zs) scope cl Y (s0 k is Y):=by
 have vals:∀(j:Nat) (x:ĺ) (v:V),(ts++zs)[j]?=À x->(s0 k is Y)[j]?=À (À v)->x∈zs/\∃(i:Nat) (c:Ý),X.N[i]?=À x/\Y[i]?=À (À v)/\Mu X.env.scope x/\X.env.kindOf x≠À .local/\cl.lookup x=À c /\
  ((relabel scope X.env).names.lookup x=À .cell\/(relabel scope X.env).names.lookup x=À .free):=λj x v e1 e2=>by
  unfold s0 at e2;by_cases hj:j<k
  ·rw[ú (by simpa using hj),đ,if_pos hj]at e2;cases e2
  ·rw[ï (by simpa using hj),ü,Ö]at e2;rw[ï (by lia),hk]at e1;obtain⟨i,c,f1,f2,f3,f4,f5⟩:=hc.get _ _ e1;rw[f1]at e2;refine⟨õ e1,i,c,f2,VL.join_some (þ e2),?_,?_,f4,f5⟩
   ·rcases f3 with q |q
    ·exact .inr (.inl q)
    ·exact .inr (.inr q)
   ·intro w;have w:X.env.scope.names.lookup x=À .local:=w;rcases f3 with q |q <;> rw[q]at w <;> cases w
 refine⟨hs.sub,λj x v e1 e2=>(vals j x v e1 e2).2,λj x v e1 e2=>Ľ.mp ho x (vals j x v e1 e2).1,λx h=>?_,λx c h e=>?_,by unfold s0;rw[á,á,ü,Ê,hk,hc.len]⟩
 ·have key:∀kd,(relabel scope X.env).names.lookup x=À kd->(kd==Um || kd==Uo)=Â->x∈zs\/scope.names.lookup x=À .cell:=λkd e q=>by
   have m:=Ľ.mp ha _ (Ō e);rw[q]at m;have m':zs.contains x=Â\/(scope.names.lookup x==À .cell)=true:=by simpa using m
   rcases m' with m' |m'
   ·simp_all
   ·exact .inr (eq_of_beq m')
  have mem:x∈zs\/scope.names.lookup x=À .cell:=by
   rcases h with h |h
   ·exact key _ h rfl
   ·exact key _ h rfl
  rcases mem with mem |mem
  ·obtain⟨j,hj⟩:=Ň mem;obtain⟨i,c,_,_,_,f4,_⟩:=hc.get j x hj;exact .inr (by rw[f4];rfl)
  ·exact .inl mem
 ·have m:=Ľ.mp hcl _ (Ō (eq_of_beq h));rw[e]at m;simp at m
def zQ:∀C s3 H3 fp pins (pl:List (Ý×ϯ)) (s:ç) (Y:St) (H:Hp) (Q:Bool->Hp->Prop),Inv (aG X N' scope cl C s3 H3 fp pins) pl Y H s->wD Y H Q ->
 í (model X.prog X.w) X.A (forIn ([]:List PZ) Â λc r=>if r=Â then do let ok <-isTrue c (Ϭ scope (ķ (C+1) scope.names cl) C X.env) (eval c (Ϭ scope (ķ (C+1) scope.names cl) C X.env));pure (ı ok) else pure (ı r)) (TP (aG X N' scope cl C s3 H3 fp pins) pl Y Q) (λ_ _=>False) s :=
 λ_ _ _ _ _ _ _ _ H _ I h=>wpAny_tests_nil ⟨H,I,h⟩
def zP(ht:∀C s3 H3 fp pins,PT (aG X N' scope cl C s3 H3 fp pins) c tt):∀C s3 H3 fp pins (pl:List (Ý×ϯ)) (s:ç) (Y:St) (H:Hp) (Q:Bool->Hp->Prop),Inv (aG X N' scope cl C s3 H3 fp pins) pl Y H s->tt Y H Q ->
 í (model X.prog X.w) X.A (forIn [c] Â λc r=>if r=Â then do let ok <-isTrue c (Ϭ scope (ķ (C+1) scope.names cl) C X.env) (eval c (Ϭ scope (ķ (C+1) scope.names cl) C X.env));pure (ı ok) else pure (ı r)) (TP (aG X N' scope cl C s3 H3 fp pins) pl Y Q) (λ_ _=>False) s :=
 λC s3 H3 fp pins pl s Y H Q I h=>wpAny_tests_one (ht C s3 H3 fp pins pl s Y H Q I h)
def qA(hc:X.calm=Â)(hi:PI X tg iter wi)(hk:ts.length=k)(hs:SubL X cl)(hcp:mX X scope cl is zs)(ha:((relabel scope X.env).names.all λy=>!(y.2==.cell || y.2==.free) || zs.contains y.1 || (scope.names.lookup y.1==À .cell))=Â)
 (ho:(zs.all λz=>scope.names.all λy=>!(y.2==.cell) || !(y.1==z))=Â) (hcl:(scope.names.all λy=>!(y.2==.cell) || (cl.lookup y.1).isNone)=Â) (hl:FU k g)
 (hg:∀C s3 H3 fp pins,PG (aG X (ts++zs) scope cl C s3 H3 fp pins) tg g) (he:∀C s3 H3 fp pins,PE (aG X (ts++zs) scope cl C s3 H3 fp pins) elt te)
 (hclos:ϔ scope X.env=pure cl) (hkind:scope.kind=.function) (hnames:∀y∈scope.names,y.2=.local->scope.names.lookup y.1=À .local)
 (hf:∀x,Ŏ iter X.env x=pure x:=by intro _;rfl):PE X (.ListComp elt [⟨tg,iter,[],0⟩] scope pos) (jm wi g wD te (s0 k is)) :=
 tV hc hi (λ_ _=>jg.many hk hs hcp ha ho hcl) (λY=>hl.keep Y) hg zQ he hclos hkind hnames hf
def Kd(hc:X.calm=Â)(hi:PI X tg iter wi)(hk:ts.length=k)(hs:SubL X cl)(hcp:mX X scope cl is zs)(ha:((relabel scope X.env).names.all λy=>!(y.2==.cell || y.2==.free) || zs.contains y.1 || (scope.names.lookup y.1==À .cell))=Â)
 (ho:(zs.all λz=>scope.names.all λy=>!(y.2==.cell) || !(y.1==z))=Â) (hcl:(scope.names.all λy=>!(y.2==.cell) || (cl.lookup y.1).isNone)=Â) (hl:FU k g)
 (hg:∀C s3 H3 fp pins,PG (aG X (ts++zs) scope cl C s3 H3 fp pins) tg g) (ht:∀C s3 H3 fp pins,PT (aG X (ts++zs) scope cl C s3 H3 fp pins) c tt) (he:∀C s3 H3 fp pins,PE (aG X (ts++zs) scope cl C s3 H3 fp pins) elt te)
 (hclos:ϔ scope X.env=pure cl) (hkind:scope.kind=.function) (hnames:∀y∈scope.names,y.2=.local->scope.names.lookup y.1=À .local)
 (hf:∀x,Ŏ iter X.env x=pure x:=by intro _;rfl):PE X (.ListComp elt [⟨tg,iter,[c],0⟩] scope pos) (jm wi g tt te (s0 k is)) :=
 tV hc hi (λ_ _=>jg.many hk hs hcp ha ho hcl) (λY=>hl.keep Y) hg (zP ht) he hclos hkind hnames hf
def nJ(hN:X.N.Nodup)(hi':X.N[i]?=À x)(hxl:X.env.scope.names.lookup x=À .local)(hc:X.calm=Â)(hi:PI X tg iter wi)(hk:ts.length=k)(hs:SubL X cl)(hcp:mX X scope cl is zs)(ha:((relabel scope X.env).names.all λy=>!(y.2==.cell || y.2==.free) || zs.contains y.1 || (scope.names.lookup y.1==À .cell))=Â)
 (ho:(zs.all λz=>scope.names.all λy=>!(y.2==.cell) || !(y.1==z))=Â) (hcl:(scope.names.all λy=>!(y.2==.cell) || (cl.lookup y.1).isNone)=Â) (hl:FU k g)
 (hg:∀C s3 H3 fp pins,PG (aG X (ts++zs) scope cl C s3 H3 fp pins) tg g) (he:∀C s3 H3 fp pins,PE (aG X (ts++zs) scope cl C s3 H3 fp pins) elt te)
 (hclos:ϔ scope X.env=pure cl) (hkind:scope.kind=.function) (hnames:∀y∈scope.names,y.2=.local->scope.names.lookup y.1=À .local)
 (hf:∀x,Ŏ iter X.env x=pure x:=by intro _;rfl) (hsw:PU (.ListComp elt [⟨tg,iter,[],0⟩] scope pos) (À (.Name x pos')) spos.line X.env=pure true:=by rfl):PS X (.Assign [.Name x pos'] (.ListComp elt [⟨tg,iter,[],0⟩] scope pos) spos) (tf (jm wi g wD te (s0 k is)) i) :=
 tS hN hi' (.inl hxl) (.inr hxl) hc hi (λ_ _=>jg.many hk hs hcp ha ho hcl) (λY=>hl.keep Y) hg zQ he hclos hkind hnames hf hsw
def yR(hN:X.N.Nodup)(hi':X.N[i]?=À x)(hxl:X.env.scope.names.lookup x=À .local)(hc:X.calm=Â)(hi:PI X tg iter wi)(hk:ts.length=k)(hs:SubL X cl)(hcp:mX X scope cl is zs)(ha:((relabel scope X.env).names.all λy=>!(y.2==.cell || y.2==.free) || zs.contains y.1 || (scope.names.lookup y.1==À .cell))=Â)
 (ho:(zs.all λz=>scope.names.all λy=>!(y.2==.cell) || !(y.1==z))=Â) (hcl:(scope.names.all λy=>!(y.2==.cell) || (cl.lookup y.1).isNone)=Â) (hl:FU k g)
 (hg:∀C s3 H3 fp pins,PG (aG X (ts++zs) scope cl C s3 H3 fp pins) tg g) (ht:∀C s3 H3 fp pins,PT (aG X (ts++zs) scope cl C s3 H3 fp pins) c tt) (he:∀C s3 H3 fp pins,PE (aG X (ts++zs) scope cl C s3 H3 fp pins) elt te)
 (hclos:ϔ scope X.env=pure cl) (hkind:scope.kind=.function) (hnames:∀y∈scope.names,y.2=.local->scope.names.lookup y.1=À .local)
 (hf:∀x,Ŏ iter X.env x=pure x:=by intro _;rfl) (hsw:PU (.ListComp elt [⟨tg,iter,[c],0⟩] scope pos) (À (.Name x pos')) spos.line X.env=pure true:=by rfl):PS X (.Assign [.Name x pos'] (.ListComp elt [⟨tg,iter,[c],0⟩] scope pos) spos) (tf (jm wi g tt te (s0 k is)) i) :=
 tS hN hi' (.inl hxl) (.inr hxl) hc hi (λ_ _=>jg.many hk hs hcp ha ho hcl) (λY=>hl.keep Y) hg (zP ht) he hclos hkind hnames hf hsw
end
end
def ic(nd:N'.Nodup)(hi:N'[i]?=À y)
 (hx:Loc (relabel scope X.env) y) (hf:(scope.names.lookup y==À .cell)=Â\/(relabel scope X.env).names.lookup y=À .local):PG (aG X N' scope cl C s3 H3 fp pins) (.Name y py) (fz i):=Ao nd hi hx hf
def yv{K:Í}(hm:it∈fp)(hwr:∀b∈wr,b∈fp)
 (ho:∀i h,tn i h->∀b∈fp,∃o,h.get? b=À o/\∀v,o.data≠.cell v) (hk:∀i h h',tn i h->(∀b∈fp,∀o,h.get? b=À o->h'.get? b=À o)->tn i h')
 (hs:∀(A:Ŝ) (i:Nat) (s:ç) (Q:Ù->ç->Prop) (E:Ù->ç->Prop),tn i s.heap->Q (.ref it) s->í (model P w) A (Tj (.ref it)) Q E s)
 (hi:∀(X:Cx),X.prog=P->X.w=w->X.K=K->X.calm=Â->∀(i:Nat) (pins:List (Ý×ϯ)) (s:ç) (Y:St) (H:Hp),Inv X pins Y H s->tn i s.heap->J.go i H ->
  ∃f2 n Pt S M,WalksT P w X.A it f2 wr n Pt S M/\i<n/\S i s.heap/\(∀h,S (i+1) h->tn (i+1) h)/\∀vals,Pt i vals->∃ws,ws.length<=Î/\Vals ws vals.toList/\∀t,H t=Á->J.LC i H (.ref t) (upd H t (.tup ws)))
 (hd:∀(X:Cx),X.prog=P->X.w=w->X.K=K->X.calm=Â->∀(i:Nat) (pins:List (Ý×ϯ)) (s:ç) (Y:St) (H:Hp),Inv X pins Y H s->tn i s.heap->J.stop i H->∃f2 Pt S M,WalksT P w X.A it f2 wr i Pt S M/\S i s.heap) :
 Turn P w K (.Tuple elts x1 pos) J fp it tn where
 mem:=hm
 obj:=ho
 keep:=hk
 item:=by
  intro X hP hw hK hc i pins s Y H E I hf st hg;obtain⟨f2,n,Pt,S,M,W,hin,hS,hback,hpt⟩:=hi X hP hw hK hc i pins s Y H I st hg;subst hP hw hK;refine W.item i s _ _ hin hS λT vals h1 tk hv hT tup1 mid kk1=>⟨_,rfl,?_⟩
  refine W.go elts x1 pos i T _ _ _ mid λh2 S2 kk2=>?_;obtain⟨ws,hz,rv,yl⟩:=hpt vals hv;have k2:∀b o,b∉wr->s.heap.get? b=À o->h2.get? b=À o:=λb o nb e=>kk2 b o nb (kk1 b o nb e);have nwr:∀b u,H b=À u->b∉wr:=λb u e z=>by rw[(hf b (hwr b z)).1]at e;cases e
  have nH:H T=none:=I.bJ.fresh hT;obtain⟨o,eo,oc,nn,od⟩:=tup1;have tup2:h2.get? T=À o:=kk2 T o (W.apart _ _ _ mid) eo;have loc:X.env.locals∉wr:=λz=>(hf _ (hwr _ z)).2.1 rfl;have all:∀b∈wr,(b∈X.ex\/X.s₀.heap.objs.size<=b)/\b≠X.env.locals/\(∀x c,X.env.cells.lookup x=À c->c≠b)/\∀p∈X.pn++pins,p.1≠b:=λb z=>by obtain⟨_,g1,_,g3,g4,g5⟩:=hf b (hwr b z);exact⟨g3,g1,g4,g5⟩
  have nsk:∀m,s.heap.Ns X.env.locals m->h2.Ns X.env.locals m:=λm q=>by obtain⟨oo,es,ep,q1,r⟩:=q;exact⟨oo,es,ep,k2 _ oo loc q1,r⟩
  have ok1:ik X.prog X.w H h2:=λb u q=>by
   refine(I.bJ b u q).l6 (λc v hc' q'=>k2 c v ?_ q') (λ_ q'=>q') λ_ _ q'=>q';rcases hc' with z |z
   ·rw[z];exact nwr b u q
   ·exact nwr c _ z
  have upk:∀{b:Ý} {u:HO},H b=À u->upd H T (.tup ws) b=À u:=λ{b u} q=>by rw[upd_ne (aO q nH)];exact q
  have ok2:ik X.prog X.w (upd H T (.tup ws)) h2:=λb u q=>by
   by_cases hb:b=T
   ·subst hb;rw[az]at q;cases q;exact⟨hz,vals.toList,rv,⟨o,tup2,oc,nn,by rw[od]⟩⟩
   ·rw[upd_ne hb]at q;exact(ok1 b u q).l6 (λc v _ q'=>q') (λc q'=>upk q') (λc xs' q'=>upk q') λc o u q'=>upk q'
  have I2:Inv X pins Y (upd H T (.tup ws)) {s with heap:=h2,toks:=tk } :=
   I.step (g':=s.gens) (d':=s.drawn) (ch:=wr) all (λb o _ _ hc' q _=>k2 b o hc' q) (λb o _ _ hc' q _=>⟨o.slots,k2 b o hc' q⟩) (λb o _ q n=>by rw[upd_ne (λz=>ĕ _ (è (Ø q) (by rw[z];exact hT)))];exact n)
    (λb o hc' q=>⟨o,k2 b o hc' q⟩) (λb xs' q=>upk q) (λb o u' q=>upk q) (λb ps q=>⟨#[],by rw[upk q];simp⟩) nsk ok2 I.bare
  refine⟨.ref T,_,I2,rfl,yl T nH,hback _ S2,λb hb=>?_⟩;by_cases e:b=T
  ·exfalso;subst e;obtain⟨o',e',_⟩:=ho i s.heap st b hb;exact ĕ _ (è (Ø e') hT)
  ·rw[upd_ne e];exact(hf b hb).1
 done:=by
  intro X hP hw hK hc i pins s Y H E I hf st hg;obtain⟨f2,Pt,S,M,W,hS⟩:=hd X hP hw hK hc i pins s Y H I st hg;refine W.done s _ _ hS λh' tk kk=>⟨rfl,I.step (λb z=>?_) (λb o _ _ hc' q _=>kk b o hc' q) (λb o _ _ hc' q _=>⟨o.slots,kk b o hc' q⟩) (λ_ _ _ _ n=>n) (λb o hc' q=>⟨o,kk b o hc' q⟩) (λ_ _ q=>q) (λ_ _ _ q=>q) (λb ps q=>⟨#[],by rw[q];rfl⟩) (λm q=>?_) (λb u q=>?_) I.bare⟩
  ·obtain⟨_,g1,_,g3,g4,g5⟩:=hf b (hwr b z);exact⟨g3,g1,g4,g5⟩
  ·obtain⟨oo,es,ep,q1,r⟩:=q;exact⟨oo,es,ep,kk _ oo (λz=>(hf _ (hwr _ z)).2.1 rfl) q1,r⟩
  ·refine(I.bJ b u q).l6 (λc v hc' q'=>kk c v ?_ q') (λ_ q'=>q') λ_ _ q'=>q';rcases hc' with z |z
   ·rw[z];exact λw=>by rw[(hf b (hwr b w)).1]at q;cases q
   ·exact λw=>by rw[(hf c (hwr c w)).1]at z;cases z
 self:=hs
noncomputable def NM(K:Í)(a b:Ý):It :=
 ⟨λi H=>∃xs ys x y,cE K H a xs/\cE K H b ys/\xs[i]?=À x/\ys[i]?=À y,λi H x H'=>∃(t:Ý) (v u:V),x=.ref t/\H t=Á/\(∀xs,cE K H a xs->xs[i]?=À v)/\(∀ys,cE K H b ys->ys[i]?=À u)/\H'=upd H t (.tup [v,u]),
  λi H=>∃xs ys,cE K H a xs/\cE K H b ys/\i=min xs.length ys.length⟩
def Dq{K:Í}(a b z TI TO i1 i2:Ý)(D:Pl z TI TO i1 i2 a b) :
 Turn P w K (.Tuple elts x1 pos) (NM K a b) [z,TI,TO,i1,i2] z (λi h=>IsZip h z TI TO .none/\QC h TI (.ref i1) (.ref i2)/\(∃u v,QC h TO u v)/\h.IsListIter i1 a i/\h.IsListIter i2 b i):=by
 refine yv (wr:=[z,TO,i1,i2]) (fp:=[z,TI,TO,i1,i2]) (by simp) (λc hc=>by simp only[Ú,Ĥ,or_false]at hc ⊢;rcases hc with h |h |h |h <;> simp[h]) (λi h st c hc=>?_) (λi h h' st k=>?_) (λA i s Q E st q=>wpAny_pyIter_zip st.1 q) (λX hP hw hK hc i pins s Y H I st hg=>?_) (λX hP hw hK hc i pins s Y H I st hg=>?_)
 ·obtain⟨hz,hTI,⟨u,v,hTO⟩,h1,h2⟩:=st;have e1:∃o:ϯ,h.get? z=À o/\∀v,o.data≠.cell v:=⟨_,hz,λv q=>by have q':Data.fields _=Tr v:=q;cases q'⟩
  have e2:∃o:ϯ,h.get? TI=À o/\∀v,o.data≠.cell v:=⟨_,hTI,λv q=>by have q':QK _ _=Tr v:=q;cases q'⟩
  have e3:∃o:ϯ,h.get? TO=À o/\∀v,o.data≠.cell v:=⟨_,hTO,λv q=>by have q':QK _ _=Tr v:=q;cases q'⟩
  have e4:∃o:ϯ,h.get? i1=À o/\∀v,o.data≠.cell v:=let ⟨o,e,_,d⟩:=h1;⟨o,e,λv q=>by rw[d]at q;cases q⟩
  have e5:∃o:ϯ,h.get? i2=À o/\∀v,o.data≠.cell v:=let ⟨o,e,_,d⟩:=h2;⟨o,e,λv q=>by rw[d]at q;cases q⟩
  simp only[Ú,Ĥ,or_false]at hc;rcases hc with rfl |rfl |rfl |rfl |rfl
  ·exact e1
  ·exact e2
  ·exact e3
  ·exact e4
  ·exact e5
 ·obtain⟨hz,hTI,⟨u,v,hTO⟩,h1,h2⟩:=st;exact⟨k z (by simp) _ hz,k TI (by simp) _ hTI,⟨u,v,k TO (by simp) _ hTO⟩,h1.at λo e=>k i1 (by simp) o e,h2.at λo e=>k i2 (by simp) o e⟩
 ·subst hP hw hK;obtain⟨xs,ys,x,y,qa,qb,ex,ey⟩:=hg;obtain⟨us,r1,p1,_⟩:=I.list qa;obtain⟨vs,r2,p2,_⟩:=I.list qb;have lx:=(Ó.mp ex).1;have ly:=(Ó.mp ey).1;have l1:=r1.length;have l2:=r2.length;refine⟨_,_,_,_,_,UJ (I.ok.hd hc) z TI TO i1 i2 a b D us.toArray vs.toArray,by simp;lia,⟨st.1,st.2.1,st.2.2.1,st.2.2.2.1,st.2.2.2.2,p1.isList,p2.isList⟩,λh q=>⟨q.1,q.2.1,q.2.2.1,q.2.2.2.1,q.2.2.2.2.1⟩,?_⟩;rintro vals ⟨u,v,eu,ev,rfl⟩;obtain⟨u',f1,g1⟩:=r1.get ex;obtain⟨v',f2,g2⟩:=r2.get ey;have e1:=by simpa using eu
  have e2:=by simpa using ev
  rw[e1]at f1;cases f1;rw[e2]at f2;cases f2;exact⟨[x,y],by show 2<=Î;decide,.cons g1 (.cons g2 .nil),λt nt=>⟨t,x,y,rfl,nt,λzs hz=>by rw[I.jW hz qa];exact ex,λzs hz=>by rw[I.jW hz qb];exact ey,rfl⟩⟩
 ·subst hP hw hK;obtain⟨xs,ys,qa,qb,e⟩:=hg;obtain⟨us,r1,p1,_⟩:=I.list qa;obtain⟨vs,r2,p2,_⟩:=I.list qb;have l1:=r1.length;have l2:=r2.length;have W:=UJ (prog:=X.prog) (w:=X.w) (I.ok.hd hc) z TI TO i1 i2 a b D us.toArray vs.toArray;rw[(by simp;lia:min us.toArray.size vs.toArray.size=i)]at W;exact⟨_,_,_,_,W,⟨st.1,st.2.1,st.2.2.1,st.2.2.2.1,st.2.2.2.2,p1.isList,p2.isList⟩⟩
def C7(n a b:Nat)(ha:a<n)(hb:b<n):Pl (n+4) (n+2) (n+3) n (n+1) a b:=by constructor <;> lia
def Ol(h:c=n+4\/c=n+2\/c=n+3\/c=n\/c=n+1):n<=c:=by lia
section
def Mk(K:Í)(ta tb:TE):TI:=λY H R=>a9 ta (a9 tb dv) Y H λvs H1=>∃a b,vs=[.ref a,.ref b]/\(∃xs,cE K H1 a xs)/\(∃ys,cE K H1 b ys)/\R (NM K a b) H1
def J6{K:Í}(hK:X.K=K)(hg:Gl X "zip")(hm:X.mg "zip" = Á)(ha:PA X [l,m] (a9 tl (a9 tm dv)))(hs:ġ [l,m] X.env=(Ã,eval l X.env)::ġ [m] X.env:=by rfl)(hp:(QX pos (ġ [m] X.env)).any (·.1)=false:=by rfl):PI X (.Tuple elts x1 tpos) (.Call (.Name "zip" p) [l,m] [] pos) (Mk K tl tm):=by
 subst hK;intro pins s Y H R I h;refine Call_ (eI I hg hm FF (Ğ (cc (ha pos pins s Y H _ I h) λus s1 ⟨vs,H1,I1,r1,q1⟩=>?_) hs hp));obtain⟨a,b,rfl,⟨xs,qa⟩,⟨ys,qb⟩,q⟩:=q1;cases r1 with
 |cons ra r1 =>
  cases r1 with
  |cons rb r1 =>cases r1;cases ra;cases rb;obtain⟨us,v1,p1,_⟩:=I1.list qa;obtain⟨ws,v2,p2,_⟩:=I1.list qb;refine call_zip_2 p1.isList p2.isList λh' hz hTI hTO hi1 hi2 hsz hk=>wpAny_pyIter_zip hz (⟨_,[s1.heap.objs.size+4,s1.heap.objs.size+2,s1.heap.objs.size+3,s1.heap.objs.size,s1.heap.objs.size+1],_,_,H1,rfl,(I1.kept hk),Dq a b _ _ _ _ _ (C7 _ _ _ (by obtain⟨_,e,_⟩:=p1.isList;exact Ø e) (by obtain⟨_,e,_⟩:=p2.isList;exact Ø e)),⟨hz,hTI,⟨_,_,hTO⟩,hi1,hi2⟩,λc hc=>?_,q⟩);simp only[Ú,Ĥ,or_false]at hc;have le:=Ol hc;exact I1.zh le (I1.bJ.fresh le)
end
end L2
namespace VL
open PySem L2
section
open Classical
section
variable[aV]
def CS(xs ys:List D):List D:=ź (λx y=>.tup [x,y]) xs ys
def sM(a b:DE):aW->Option (List D):=λO=>match asL a O with
 |some xs=>(match asL b O with
  |some ys=>À (CS xs ys)
  |none=>Á)
 |none=>Á
def CC(h:sM a b O=À ds):∃xs ys,asL a O=À xs/\asL b O=À ys/\ds=CS xs ys:=by
 unfold sM at h;split at h
 ·rename_i xs e;split at h
  ·rename_i ys e2;exact⟨xs,ys,e,e2,(þ h).symm⟩
  ·cases h
 ·cases h
def Gk(xs ys:List D):(CS xs ys).length=min xs.length ys.length:=Ϻ ..
def Gm{i:Nat}(h:(CS xs ys)[i]?=À d):∃x y,xs[i]?=À x/\ys[i]?=À y/\d=.tup [x,y]:=by
 unfold CS at h;rw[Ϟ]at h;split at h
 ·rename_i x y e1 e2;exact⟨x,y,e1,e2,(þ h).symm⟩
 ·cases h
def Dk(hl:xs.length<=Î)(h0:∀H2 T2,Kp T H1 T2 H2->aH Bx H2->cE K H2 p vs/\IsL K H2 T2 vs xs)(h1:∀H2 T2,Kp T H1 T2 H2->aH Bx H2->cE K H2 q us/\IsL K H2 T2 us ys)
 (hsl:vs.length=xs.length) (hsl2:us.length=ys.length):Walk K Â Bx (NM K p q) H1 T (CS xs ys):=by
 have hlen:=Gk xs ys;refine⟨by rw[hlen];lia,λi d H2 T2 kp sb hd e=>?_,λi H2 T2 kp sb hi=>?_⟩
 ·obtain⟨x,y,ex,ey,rfl⟩:=Gm e;obtain⟨s1,r1⟩:=h0 H2 T2 kp sb;obtain⟨s2,r2⟩:=h1 H2 T2 kp sb;obtain⟨v,e1,i1⟩:=r1.get ex;obtain⟨u,e2,i2⟩:=r2.get ey;refine⟨⟨vs,us,v,u,s1,s2,e1,e2⟩,λz H3 hy=>?_⟩;obtain⟨t,v',u',ez,nt,hv,hu,e3⟩:=hy;subst e3 ez;have q1:=hv vs s1;have q2:=hu us s2;rw[e1]at q1;cases q1;rw[e2]at q2;cases q2;refine⟨bq nt,.tup (λz=>?_) az (by show 2<=Î;decide) ((IsL.cons i1 (.one i2)).same (bq nt))⟩;obtain⟨o,qq⟩:=hd t z;rw[nt]at qq;cases qq
 ·obtain⟨s1,_⟩:=h0 H2 T2 kp sb;obtain⟨s2,_⟩:=h1 H2 T2 kp sb;exact⟨vs,us,s1,s2,by simp_all⟩
def Jm(ha:aN K ta a)(hb:aN K tb b):o5 K Â (Mk K ta tb) (sM a b):=λ{B Z os O Y H R ds} f q k=>by obtain⟨xs,ys,e1,e2,rfl⟩:=CC q;obtain⟨d1,e1,l1⟩:=cu e1;obtain⟨d2,e2,l2⟩:=cu e2;refine ha f e1 λv H1 s1 i1=>hb (f.grow s1) e2 λu H2 s2 i2=>?_;obtain⟨p,vs,rfl,hl,hn,hr⟩:=(i1.same s2).seq l1;obtain⟨p2,us,rfl,hl2,hn2,hr2⟩:=i2.seq l2;exact⟨p,p2,rfl,⟨vs,(hr H2 _ Kp.refl).1⟩,⟨us,(hr2 H2 _ Kp.refl).1⟩,k _ _ (s1.trans s2) (Dk (hn ▸ hl) (λH3 T3 kp _=>hr H3 T3 kp) (λH3 T3 kp _=>hr2 H3 T3 kp) hn hn2)⟩
def zl(ha:asL a O=À xs)(hb:asL b O=À ys):sM a b O=À (CS xs ys):=by unfold sM;rw[ha,hb]
end
end
section
open Classical
section
variable[aV]
noncomputable def FN(K:Í)(t:TE)(e:aW->Option (List (List D))):Prop:=∀{B:Hp} {Z:Ý->Prop} {os:Own} {O:aW} {Y:L2.St} {H:Hp} {Q:VK} {rows:List (List D)},Fr K B Z os O Y H->e O=À rows ->
 (∀x ps H',aH H H'->H x=Á->(∀a∈ps,H a=Á)->(x::ps).Nodup->H' x=À (.lst (ps.map V.ref))->ps.length<=Î->Ł (λq ds=>∃vs,H' q=À (.lst vs)/\vs.length<=Î/\IsL K H' (λa=>(a=x\/a∈ps)\/bD Z os a) vs ds) ps rows->Q (.ref x) H')->t Y H Q
def cS(rows:List (List D)):D:=.lst (rows.map D.lst)
def Ii:D->Option (List D)
 |.lst ds=>À ds
 |_=>Á
def pT:List D->Option (List (List D))
 |[]=>À []
 |d::r=>match Ii d with
  |some x=>(match pT r with
   |some y=>À (x::y)
   |none=>Á)
  |none=>Á
theorem fS:∀(rows:List (List D)),pT (rows.map D.lst)=À rows
 |[]=>rfl
 |x::r=>by show (match Ii (.lst x)with |some x=>(match pT (r.map D.lst)with |some y=>À (x::y) |none=>Á) |none=>Á)=_;rw[fS r];rfl
def oh(F:List D->Option D)(es:aW->Option (List D)):aW->Option (List (List D)):=λO=>match aJ F es O with
 |some (.lst ds)=>pT ds
 |_=>Á
def z7(ha:rH K ms t es):FN K (tj (jJ .m K ms F) [] E t) (oh F es):=λ{B Z os O Y H Q rows} f q k=>by
 unfold oh at q;split at q
 ·rename_i xs e1;unfold aJ at e1;split at e1
  ·rename_i as e;refine ha f e λvs H1 s1 a=>?_;rw[ě];refine⟨bD Z os,as,.lst xs,(f.grow s1).zt,a,e1,λv H2 s2 i=>?_⟩;obtain⟨p,ps,rows',rfl,ed,hb,hbs,hn,hh,hl,r⟩:=i;cases ed;rw[fS]at q;cases q;exact k p ps H2 (s1.trans s2) (aH.free s1 hb) (λa ha=>aH.free s1 (hbs a ha)) hn hh hl r
  ·cases e1
 ·cases q
@[irreducible] def lp(i:Nat):DS:=λO=>match O.getD i .un with
 |.om rows=>.rt (cS rows)
 |_=>.no
def p8:SemS .m K (DC (tVar i)) (lp i):=λ{B Z os O Y H E} f p=>by
 unfold lp at p;split at p
 ·rename_i rows e;have s:=f.sl i;rw[e]at s;obtain⟨a,ps,eo,hu,hH,hl,r⟩:=s;have hn:=f.nd i;rw[eo]at hn;have ha:a∈os i:=by rw[eo];exact Ò
  have hp:∀q∈ps,q∈os i:=λq hq=>by simp_all
  refine⟨_,join_some hu,p _ _ f.keep ⟨a,ps,rows,rfl,rfl,(f.new i a ha).1,λq hq=>(f.new i q (hp q hq)).1,hn,hH,hl,Paired.mono r λq ds _ ⟨vs,h1,h2,h3⟩=>⟨vs,h1,h2,h3.kp (Kp.less λb z=>?_)⟩⟩⟩;rcases z with(rfl |z) |z
  ·exact .inr ⟨i,ha⟩
  ·exact .inr ⟨i,hp b z⟩
  ·exact .inl z
 ·exact p.elim
@[irreducible] def gJ(i:Nat)(a:aW->Option (List (List D))):DS:=λO=>match a O with
 |some rows=>if i < O.length then .nx (O.set i (.om rows)) else .no
 |none=>.no
def iY(h:FN K ta a):SemS fr K (pW ta (fz i)) (gJ i a):=λ{B Z os O Y H E} f p=>by
 unfold gJ at p;split at p
 ·rename_i rows e;by_cases hi:i < O.length
  ·rw[if_pos hi]at p;refine h f e λx ps H1 s1 hx hps hn hH hl r=>?_
   have st:=f.step (H':=H1) hi (s:=.om rows) (λa u e _=>s1 _ _ e) (λa ha=>let ⟨xs,e⟩:=(f.sl i).pH ha;⟨_,s1 _ _ e⟩) hn (λa ha=>?_)
    ⟨x,ps,rfl,rfl,hH,hl,Paired.mono r λq ds _ ⟨vs,h1,h2,h3⟩=>⟨vs,h1,h2,h3.kp (Kp.less λa z=>?_)⟩⟩
   ·exact p _ _ _ st.1 st.2
   ·rcases Ú.mp ha with rfl |ha
    ·exact .inr hx
    ·exact .inr (hps a ha)
   ·rcases z with z |⟨j,z⟩
    ·exact .inr (.inl z)
    ·by_cases hj:j=i
     ·subst hj;rw[aX]at z;simp_all
     ·rw[bM hj]at z;exact .inr (.inr ⟨j,z⟩)
  ·rw[if_neg hi]at p;exact p.elim
 ·exact p.elim
def wI(h:FN K ta a):SemS fr K (tf ta i) (gJ i a):=iY h
def Paired.setAt(k:Ł F ps rows)(hn:ps.Nodup)(hf:∀q ds,q≠p->F q ds->G q ds)(e:ps[r]?=À p)(g:G p y):Ł G ps (rows.set r y):=by
 induction k generalizing r with
 |nil=>cases e
 |cons h t ih =>
  obtain⟨n1,n2⟩:=ā.mp hn;cases r with
  |zero=>cases e;exact .cons g (Paired.mono t λq ds hq h=>hf q ds (λz=>n1 (z ▸ hq)) h)
  |succ r=>exact .cons (hf _ _ (λz=>n1 (z ▸ õ e)) h) (ih n2 e)
def Paired.E6{F:α->β->Prop}{ps:List α}{rows:List β}{r:Nat}{y:β}(q:Ł F ps rows)(e:rows[r]?=À y):∃p,ps[r]?=À p/\F p y:=by
 induction q generalizing r with
 |nil=>cases e
 |cons h _ ih =>
  cases r with
  |zero=>simp_all
  |succ r=>exact ih e
def Av{os:Own}(f:Fr K B Z os O Y H)(e:O.getD i .un=.om rows) :
 ∃a ps,os i=a::ps/\(Y[i]?).join=À (.ref a)/\H a=À (.lst (ps.map V.ref))/\ps.length<=Î/\ps.length=rows.length/\Ł (λp ds=>∃vs,H p=À (.lst vs)/\vs.length<=Î/\IsL K H (bD Z os) vs ds) ps rows:=by
 have s:=f.sl i;rw[e]at s;obtain⟨a,ps,h1,h2,h3,h4,h5⟩:=s;exact⟨a,ps,h1,h2,h3,h4,ň h5,h5⟩
def Fr.II{os:Own}(f:Fr K B Z os O Y H)(e:O.getD i .un=.om rows)(eo:os i=a::ps)(hu:(Y[i]?).join=À (.ref a))(hr:ps[r]?=À p)(hl:vs'.length<=Î)(h:IsL K H (bD Z os) vs' ds') :
 Fr K B Z (h9 os i (a::ps)) (O.set i (.om (rows.set r ds'))) Y (upd H p (.lst vs'))/\Kp (bD Z os) H (bD Z (h9 os i (a::ps))) (upd H p (.lst vs')):=by
 have s:=f.sl i;rw[e]at s;obtain⟨b,qs,eo',hu',hH,hlp,i1⟩:=s;rw[eo]at eo';cases eo';have hn:=f.nd i;rw[eo]at hn;have hp:=õ hr;have hpo:p∈os i:=by simp_all
 have tt:bD Z (h9 os i (a::ps))=bD Z os:=by
  funext c;apply propext;constructor
  ·rintro(z |⟨j,z⟩)
   ·exact .inl z
   ·by_cases hj:j=i
    ·subst hj;rw[aX]at z;exact .inr ⟨j,by rw[eo];exact z⟩
    ·rw[bM hj]at z;exact .inr ⟨j,z⟩
  ·rintro(z |⟨j,z⟩)
   ·exact .inl z
   ·by_cases hj:j=i
    ·subst hj;exact .inr ⟨j,by rw[aX,<-eo];exact z⟩
    ·exact .inr ⟨j,by rw[bM hj];exact z⟩
 have kp:Kp (bD Z os) H (bD Z os) (upd H p (.lst vs')):=λb u e z=>⟨by rw[upd_ne λw=>z (.inr ⟨i,by rw[w];exact hpo⟩)];exact e,z⟩
 have st:=f.step (H':=upd H p (.lst vs')) (di e (by intro z;cases z)) (s:=.om (rows.set r ds')) (λb u e n=>by rw[upd_ne λz=>n (by rw[z];exact hpo)];exact e) (λb hb=>?_) hn λb hb=>by simp_all
  ⟨a,ps,rfl,rfl,by rw[upd_ne (λz=>(ā.mp hn).1 (z ▸ hp):a≠p)];exact hH,hlp,?_⟩
 ·rw[dw hu']at st;exact st
 ·by_cases hb':b=p
  ·rw[hb'];exact⟨_,az⟩
  ·rw[upd_ne hb'];obtain⟨xs,e⟩:=(f.sl i).pH hb;exact⟨_,e⟩
 ·rw[tt];exact Paired.setAt i1 (ā.mp hn).2 (λq ds hq ⟨vs,h1,h2,h3⟩=>⟨vs,by rw[upd_ne hq];exact h1,h2,h3.kp kp⟩) hr ⟨vs',az,hl,h.kp kp⟩
def Fr.Nk{os:Own}(f:Fr K B Z os O Y H)(e:O.getD i .un=.om rows)(eo:os i=a::ps)(hu:(Y[i]?).join=À (.ref a))(hr:ps[r]?=À p)(hl:vs'.length<=Î)(h:IsL K H (bD Z os) vs' ds') :
 ∃os',Fr K B Z os' (O.set i (.om (rows.set r ds'))) Y (upd H p (.lst vs'))/\Kp (bD Z os) H (bD Z os') (upd H p (.lst vs')):=⟨_,f.II e eo hu hr hl h⟩
def vb{os:Own}(f:Fr K B Z os O Y H)(e:O.getD i .un=.om rows)(hn:ixN rows.length n=À r)(hd:rows[r]?=À ds) :
 ∃a ps p vs,os i=a::ps/\(Y[i]?).join=À (.ref a)/\H a=À (.lst (ps.map V.ref))/\kB (ps.map V.ref) n=À (V.ref p)/\ps[r]?=À p/\H p=À (.lst vs)/\vs.length<=Î/\IsL K H (bD Z os) vs ds:=by
 obtain⟨a,ps,h1,h2,h3,h4,h5,h6⟩:=Av f e;obtain⟨p,e1,vs,g1,g2,g3⟩:=Paired.E6 h6 hd;refine⟨a,ps,p,vs,h1,h2,h3,?_,e1,g1,g2,g3⟩;unfold kB;rw[Ê,h5,hn];show (ps.map V.ref)[r]?=_;rw[Ö,e1];rfl
@[irreducible] noncomputable def ql(i:Nat)(b c a:DE):DS:=λO=>match O.getD i .un with
  | .om rows=>(match a O with
    | some d=>(match b O with
      | some (.int n)=>(match ixN rows.length n with
        |some r=>(match rows[r]? with
          |some ds=>(match c O with
            |some (.int m)=>(match ixN ds.length m with
              |some j=>.nx (O.set i (.om (rows.set r (ds.set j d))))
              |none=>.no)
            |_=>.no)
          |none=>.no)
        |none=>.no)
      |_=>.no)
    |none=>.no)
  |_=>.no
def zY (ha:aN K ta a) (hb:SemB K tb b) (hc:SemB K tc c):SemS fr K (pW ta (KS (tOp (rIx K) (tVar i) tb) tc rSetL)) (ql i b c a):=fun {B Z os O Y H E} f p=>by
  unfold ql at p;split at p
  · rename_i rows e;split at p
    · rename_i d e1;split at p
      · rename_i n e2;split at p
        · rename_i r e3;split at p
          · rename_i ds e4;split at p
            · rename_i m e5;split at p
              · rename_i j e6;obtain⟨x,ps,q,vs,eo,hu,hH,hat,hr,hq,hl,il⟩:=vb f e e3 e4;refine ha f e1 λv H1 s1 i1=>⟨_,join_some hu,hb (f.grow s1) e2 λw H2 s2 i2=>?_⟩
                have s12:=s1.trans s2;refine .inl ⟨x,ps.map V.ref,n,.ref q,rfl,i2.isInt,cE.of (s12 _ _ hH),hat,hc (f.grow s12) e5 λu H3 s3 i3=>?_⟩;have s13:=s12.trans s3;obtain⟨os',f',k⟩:=(f.grow s13).Nk e eo hu hr (by simp_all) ((il.same s13).set ((i1.same s2).same s3) j);exact⟨q,vs,m,j,rfl,i3.isInt,s13 _ _ hq,by rw[il.length];exact e6,p os' _ _ f' ((Kp.same s13).trans k)⟩
              · exact p.elim
            · exact p.elim
          · exact p.elim
        · exact p.elim
      · exact p.elim
    · exact p.elim
  · exact p.elim
end
end
section
open Classical
section
variable[aV]
def x6{os:Own}(f:Fr K B Z os O Y H1)(s:aH H1 H)(hw:∀a,W a->∃o,H a=À o)(hk:Kp (bD Z os) H1 W H)(k:Nat)(cs:List Nat) :
    Fr K H1 W (λ_=>[]) (r0 k cs O) (s0 k cs Y) H where
  keep:=s
  C6:=hw
  tab:=f.lY
  len:=by unfold r0 s0;simp
  nd:=λ_=>ī
  dj:=λ_ _ _ h=>by cases h
  new:=λ_ _ h=>by cases h
  sl:=λj=>by
    unfold r0 s0;rw[Ë];by_cases hj:j<k
    · rw[ú (by simpa using hj),đ,if_pos hj];exact rfl
    · rw[ï (by simpa using hj),ï (by simpa using hj),ü,ü,Ö,Ö];cases e:cs[j-k]? with
      |none=>exact rfl
      |some i =>
        have h:=f.sl i;show sS K _ _ _ _ (view (O.getD i .un)) ((Y[i]?).join);cases e2:O.getD i .un with
        |un=>exact rfl
        |pu d =>rw[e2]at h;obtain⟨_,u,hu,i1⟩:=h;exact⟨rfl,u,hu,i1.kp λa u e z=>⟨(hk a u e z).1,λq=>q.elim (hk a u e z).2 λ⟨_,q⟩=>by cases q⟩⟩
        |bo d =>rw[e2]at h;obtain⟨_,u,hu,i1⟩:=h;exact⟨rfl,u,hu,i1.same f.keep⟩
        |ol ds =>rw[e2]at h;obtain⟨a,vs,_,hu,hH,hl,i1⟩:=h;exact⟨rfl,_,hu,.lst (λz=>z) (.inl hH) hl i1.all⟩
        |om rows =>rw[e2]at h;obtain⟨a,ps,_,hu,hH,hl,i1⟩:=h;exact⟨rfl,_,hu,.lst (λz=>z) (.inl hH) (by simp_all) (gL i1)⟩
        |od kvs =>rw[e2]at h;obtain⟨a,_,hu,hH,hl⟩:=h;exact⟨rfl,_,hu,.dct (λz=>z) (.inl hH) hl⟩
        |pm a ps rows =>rw[e2]at h;obtain⟨_,hu,hH,hl,i1⟩:=h;exact⟨rfl,_,hu,.lst (λz=>z) (.inl hH) (by simp_all) (gL i1)⟩
        |pd a kvs =>rw[e2]at h;obtain⟨_,hu,hH,hl⟩:=h;exact⟨rfl,_,hu,.dct (λz=>z) (.inl hH) hl⟩
        |dk C ks ds =>rw[e2]at h;obtain⟨x,dx,p,_,hu,q⟩:=h;exact⟨rfl,_,hu,q.is⟩
        |pk x dx p C ks ds =>rw[e2]at h;obtain⟨_,hu,q⟩:=h;exact⟨rfl,_,hu,q.is⟩
        |bk C ks ds =>rw[e2]at h;obtain⟨_,x,dx,p,hu,q⟩:=h;exact⟨rfl,_,hu,(q.h f.keep).is⟩
noncomputable def je(g:DG)(t:aW->Option Bool)(e:aW->Option (List D))(ρ0:aW):List D->Option (List (List D))
 |[]=>À []
 |d::ds=>match g d ρ0 with
  |none=>Á
  |some ρ1=>match t ρ1 with
   |none=>Á
   |some Ã=>je g t e ρ0 ds
   |some Â=>match e ρ1 with
    |none=>Á
    |some y=>match je g t e ρ0 ds with
     |none=>Á
     |some ys=>À (y::ys)
def j4(k:Nat)(cs:List Nat)(it:aW->Option (List D))(g:DG)(t:aW->Option Bool)(e:aW->Option (List D)):aW->Option (List (List D)):=λO=>match it O with
 |some ds=>je g t e (r0 k cs O) ds
 |none=>Á
def z6 (hw:rG K m wi it) (hg:sU K m g gd) (ht:jI K tt td) (he:cZ K te ed) :
    FN K (jm wi g tt te (s0 k cs)) (j4 k cs it gd td ed):=λ{B Z os O Y H Q ds} f q kk=>by
  unfold j4 at q;split at q
  · rename_i xs e0;refine hw f e0 λJ H1 s1 W Dl hD=>?_;have f1:=f.grow s1;have sD:∀{H2:Hp} {ys:List V},aH H1 H2->aH H1 (upd H2 Dl (.lst ys)):=λ{H2 ys} s a o e=>by rw[upd_ne (aO e hD)];exact s _ _ e
    let ZZ:List Ý->Ý->Prop:=λps a=>(a=Dl\/a∈ps)\/bD Z os a
    refine⟨λi m ys H2=>m=xs.length-i/\i<=xs.length/\aH H1 H2/\H2 Dl=À (.lst ys)/\ys.length<=i/\∃ps done rest,ys=ps.map V.ref/\(∀a∈ps,H1 a=Á)/\(Dl::ps).Nodup/\Ł (λq ds=>∃vs,H2 q=À (.lst vs)/\vs.length<=Î/\IsL K H2 (ZZ ps) vs ds) ps done/\je gd td ed (r0 k cs O) (xs.drop i)=À rest/\done++rest=ds,
      ⟨_,rfl,Ą _,sD (aH.refl _),az,Õ _,[],[],ds,rfl,(λa h=>by cases h),(by simp),.nil,q,rfl⟩,?_⟩
    rintro i mm ys H2 ⟨rfl,hi,s2,eD,hly,ps,done,rest,rfl,hps,hnd,il,q2,ed2⟩
    have zin2:∀a,ZZ ps a->∃o,H2 a=À o:=by
      rintro a ((rfl |z) |z)
      · exact⟨_,eD⟩
      · obtain⟨_,vs,h,_⟩:=Paired.any il z;exact⟨_,h⟩
      · obtain⟨u,e⟩:=f1.Ij a z;exact⟨u,s2 _ _ e⟩
    have kp12:Kp (bD Z os) H1 (ZZ ps) H2:=λa u e z=>⟨s2 _ _ e,λw=>by
      rcases w with(rfl |w) |w
      · rw[hD]at e;cases e
      · rw[hps a w]at e;cases e
      · exact z w⟩
    by_cases hlt:i<xs.length
    · have ex:xs[i]?=À xs[i]:=É hlt;obtain⟨go,yl⟩:=W.go i xs[i] H2 _ kp12 s2 zin2 ex;refine .inr ⟨go,λx H3 hy=>?_⟩;obtain⟨s3,er⟩:=yl x H3 hy;have eD3:=s3 _ _ eD;have s13:=s2.trans s3;have kp13:Kp (bD Z os) H1 (ZZ ps) H3:=kp12.trans (Kp.same s3);have ef3:=x6 f1 s13 (λa z=>let ⟨o,e⟩:=zin2 a z;⟨o,s3 _ _ e⟩) kp13 k cs;rw[ó hlt]at q2;unfold je at q2
      have er':ER K m H1 H3 (bD (ZZ ps) λ_=>[]) x xs[i]:=by
        cases m with
        |false=>exact er
        |true=>exact Is.kp (Kp.less λa z=>z.elim id λ⟨_,w⟩=>by cases w) er
      have il3:∀{H':Hp},aH H2 H'->Ł (λq ds=>∃vs,H' q=À (.lst vs)/\vs.length<=Î/\IsL K H' (ZZ ps) vs ds) ps done:=λ{H'} s=>Paired.mono il λq ds _ ⟨vs,h1,h2,h3⟩=>⟨vs,s _ _ h1,h2,h3.same s⟩
      split at q2
      · cases q2
      · rename_i ρ1 e1;refine hg ef3 er' e1 λos1 σ1 fr1 k1=>?_;split at q2
        · cases q2
        · rename_i e2;refine ht fr1 e2 λH4 s4=>vH ⟨_,by lia,rfl,hlt,s13.trans s4,s4 _ _ eD3,by lia,ps,done,rest,rfl,hps,hnd,il3 (s3.trans s4),q2,ed2⟩
        · rename_i e2;refine ht fr1 e2 λH4 s4=>xq ?_;split at q2
          · cases q2
          · rename_i y e3;split at q2
            · cases q2
            · rename_i rs e4;cases q2;refine he (fr1.grow s4) e3 λx2 vs2 H5 s5 hx2 hH5 hl5 i5=>?_;have s35:=s4.trans s5;have s25:=s3.trans s35;have eD5:=s35 _ _ eD3;have hl:=W.len;have hx3:H3 x2=none:=aH.free s4 hx2;have hxD:x2≠Dl:=λz=>by rw[z,eD3]at hx3;cases hx3
              have hxps:x2∉ps:=λz=>by obtain⟨o,e⟩:=zin2 x2 (.inl (.inr z));rw[s3 _ _ e]at hx3;cases hx3
              have hxt:¬bD Z os x2:=λz=>by obtain⟨o,e⟩:=zin2 x2 (.inr z);rw[s3 _ _ e]at hx3;cases hx3
              have sub:∀a,ZZ (ps++[x2]) a->a=x2\/ZZ ps a:=by
                rintro a ((rfl |z) |z)
                · exact .inr (.inl (.inl rfl))
                · rcases â.mp z with z |z
                  · exact .inr (.inl (.inr z))
                  · exact .inl (Ð.mp z)
                · exact .inr (.inr z)
              have sup:∀a,a=x2\/ZZ ps a->ZZ (ps++[x2]) a:=by
                rintro a (rfl |(rfl |z) |z)
                · exact .inl (.inr (by simp))
                · exact .inl (.inl rfl)
                · exact .inl (.inr (ô _ z))
                · exact .inr z
              have kp5:∀(zs:List V),Kp (ZZ ps) H2 (ZZ (ps++[x2])) (upd H5 Dl (.lst zs)):=λzs a u e z=>⟨by rw[upd_ne (λw=>z (.inl (.inl w)))];exact s25 _ _ e,λw=>by
                rcases sub a w with rfl |w
                · rw[s3 _ _ e]at hx3;cases hx3
                · exact z w⟩
              have kp6:∀(zs:List V),Kp (ZZ (ps++[x2])) H5 (ZZ (ps++[x2])) (upd H5 Dl (.lst zs)):=λzs a u e z=>⟨by rw[upd_ne (λw=>z (.inl (.inl w)))];exact e,z⟩
              refine⟨eD5,by rw[Ê]at hly ⊢;lia,_,by lia,rfl,hlt,sD (s13.trans s35),az,by rw[á,ĥ];lia,ps++[x2],done++[y],rs,by rw[î];rfl,λa ha=>?_,?_,?_,e4,by rw[ą];exact ed2⟩
              · rcases â.mp ha with ha |ha
                · exact hps a ha
                · rw[Ð.mp ha];exact aH.free s13 hx3
              · rw[<-QL,Ϣ];refine⟨hnd,by simp,λa h1 b h2=>?_⟩;rw[Ð.mp h2];rintro rfl;rcases Ú.mp h1 with z |z
                · exact hxD z
                · exact hxps z
              · refine Paired.append (Paired.mono il λq ds hq ⟨vs,h1,h2,h3⟩=>⟨vs,?_,h2,h3.kp (kp5 _)⟩) (.cons ⟨vs2,?_,hl5,?_⟩ .nil)
                · rw[upd_ne (λz=>by rw[z]at hq;exact(ā.mp hnd).1 hq)];exact s25 _ _ h1
                · rw[upd_ne hxD];exact hH5
                · exact(i5.kp (Kp.less λa z=>by
                    rcases sub a z with z |z
                    · exact .inl z
                    · exact .inr (.inl z)):IsL K H5 (ZZ (ps++[x2])) vs2 y).kp (kp6 _)
    · have e:i=xs.length:=by lia
      subst e;rw[ϱ]at q2;cases q2;rw[ě]at ed2;subst ed2;have hl:=W.len;rw[Ê]at hly;exact .inl ⟨W.stop _ H2 _ kp12 s2 rfl,eD,kk Dl ps H2 (s1.trans s2) (aH.free s1 hD) (λa ha=>aH.free s1 (hps a ha)) hnd eD (ø hly hl) il⟩
  · cases q
section
def fC(h:es O=À rows)(hi:i < O.length)(k:W.nx (O.set i (.om rows))):Wp (gJ i es) O W:=by unfold Wp gJ;rw[h];simp only[if_pos hi];exact k
def pP(h:O.getD i .un=.om rows)(k:W.rt (cS rows)):Wp (lp i) O W:=by unfold Wp lp;rw[h];exact k
def zL(h0:O.getD i .un=.om rows)(h1:a O=À d)(h2:e O=À (.int n))(h3:ixN rows.length n=À r)(h4:rows[r]?=À ds)(h5:c O=À (.int m))(h6:ixN ds.length m=À j)(k:W.nx (O.set i (.om (rows.set r (ds.set j d))))):Wp (ql i e c a) O W:=by unfold Wp ql;rw[h0];simp only[h1,h2,h3,h4,h5,h6];exact k
def qW(h:es O=À xs)(h2:F xs=À (cS rows)):oh F es O=À rows:=by unfold oh aJ;rw[h];simp only[h2];exact fS rows
def Fg(emb:α->D){xs:List α}(h:it O=À (xs.map emb))(p:α->Bool)(f:α->List D)
 (hs:∀x∈xs,∃ ρ1,g (emb x) (r0 k cs O)=À ρ1/\t ρ1=À (p x)/\(p x=Â->el ρ1=À (f x))):j4 k cs it g t el O=À ((xs.filter p).map f):=by
 unfold j4;rw[h];show je g t el (r0 k cs O) (xs.map emb)=_;clear h;induction xs with
 |nil=>rfl
 |cons x r ih =>
  obtain⟨ρ1,e1,e2,e3⟩:=hs x Ò;rw[Ā];unfold je;have q:=ih λy hy=>hs y (Ñ _ hy);cases hp:p x with
  |false=>simp_all
  |true =>simp_all
def uf(emb:α->D){xs:List α}(h:it O=À (xs.map emb))(f:α->List D)
 (hs:∀x∈xs,∃ ρ1,g (emb x) (r0 k cs O)=À ρ1/\el ρ1=À (f x)):j4 k cs it g dTrue el O=À (xs.map f):=by
 have:=Fg (t:=dTrue) emb h (λ_=>Â) f λx hx=>let ⟨ρ1,e1,e2⟩:=hs x hx;⟨ρ1,e1,rfl,λ_=>e2⟩
 rw[this,Ϲ.mpr λ_ _=>rfl]
end
def Ac(hF:F=jE n ms b)(h:Wp b (eZ n ms ds) {nx:=λ_=>False,rt:=λx=>x=d }):F ds=À d:=by
 rw[hF];unfold jE;unfold Wp at h;cases e:b (eZ n ms ds)with
 |rt x=>simp_all
 |nx O=>simp_all
 |bk O=>simp_all
 |ct O=>simp_all
 |no=>simp_all
def va(hF:F=jE n ms b)(h:Wp b (eZ n ms ds) {nx:=λ_=>False,rt:=P }):∃d,F ds=À d/\P d:=by
 rw[hF];unfold jE;unfold Wp at h;cases e:b (eZ n ms ds)with
 |rt x=>simp_all
 |nx O=>simp_all
 |bk O=>simp_all
 |ct O=>simp_all
 |no=>simp_all
end
end
end VL
namespace L2
open PySem PySem.Spec PyProof.Rows
structure Out(X:Cx)(pins:List (Ý×ϯ))(H:Hp)(b:Ý):Prop where
 h:H b=Á
 s0:X.s₀.heap.get? b=Á
 loc:b≠X.env.locals
 cell:∀x c,X.env.cells.lookup x=À c->c≠b
 pin:∀p∈X.pn++pins,p.1≠b
section
def cF.live(x:cF P w H h a o):∃u,h.get? a=À u:=by
 cases o with
 |lst xs=>obtain⟨_,_,_,_,e⟩:=x;exact⟨_,e⟩
 |tup xs=>obtain⟨_,_,_,ob,e,_⟩:=x;exact⟨_,e⟩
 |dK kvs=>obtain⟨_,_,_,_,o,_,_,e,_⟩:=x;exact⟨_,e⟩
 |dT kvs=>obtain⟨_,_,_,_,o,_,_,e,_⟩:=x;exact⟨_,e⟩
 |set S n=>obtain⟨o,_,_,_,e,_⟩:=x;exact⟨_,e⟩
 |ins C dx fs=>obtain⟨_,_,_,e,_⟩:=x;exact⟨_,e⟩
 |own y=>exact x
 |xd fs=>obtain⟨_,⟨_,_,_,e,_⟩,_⟩:=x;exact⟨_,e⟩
 |rng lo hi=>obtain⟨_,_,_,e⟩:=x;exact⟨_,e⟩
 |jM ob u=>obtain⟨e,_⟩:=x;exact⟨_,e⟩
 |tbl ps=>obtain⟨_,_,_,_,e,_⟩:=x;exact⟨_,e⟩
 |met f y=>exact⟨_,x⟩
 |ext φ=>obtain⟨_,e,_⟩:=x;exact e
end
section
def Inv.LH(I:Inv X pins Y H s)(o:Out X pins H a)(ob:cF X.prog X.w (upd H a u) s.heap a u):Inv X pins Y (upd H a u) s:=by
 have ne:∀b v,H b=À v->b≠a:=λb v q z=>by rw[z,o.h]at q;cases q
 refine⟨I.ok,I.os,I.bare,⟨I.base.keep,I.base.slot,λb v q n hx=>?_,I.base.there,λb xs q=>?_,λb v xs q=>?_,λb ps q=>?_⟩,I.loc,I.cell,?_,λx c e=>?_,λp hp=>?_,λb v q=>?_,I.len⟩
 ·rw[upd_ne λz=>by rw[z,o.s0]at q;cases q];exact I.base.free b v q n hx
 ·have r:=I.base.rP b xs q;rw[upd_ne (ne b _ r)];exact r
 ·have r:=I.base.qP b v xs q;rw[upd_ne (ne b _ r)];exact r
 ·obtain⟨m,r⟩:=I.base.pU b ps q;exact⟨m,by rw[upd_ne (ne b _ r)];exact r⟩
 ·rw[upd_ne (ĩ o.loc)];exact I.free
 ·rw[upd_ne (o.cell x c e)];exact I.gV x c e
 ·obtain⟨e,n,r⟩:=I.pin p hp;exact⟨e,by rw[upd_ne (o.pin p hp)];exact n,r⟩
 ·by_cases hb:b=a
  ·subst hb;rw[az]at q;cases q;exact ob
  ·rw[upd_ne hb]at q;exact(I.bJ b v q).l6 (λc y _ r=>r) (λc r=>by rw[upd_ne (ne c _ r)];exact r) (λc xs r=>by rw[upd_ne (ne c _ r)];exact r) λc o u r=>by rw[upd_ne (ne c _ r)];exact r
end
end L2
namespace VL
open PySem L2
section
open Classical
section
variable[aV]
def bq(h:H a=Á):aH H (upd H a o):=λb u e=>by rw[upd_ne (aO e h)];exact e
end
end
section
open Classical
section
variable[aV]
def xO:aW->Option (List (List D)):=λ_=>À []
def uT:FN K (wF dv) xO:=λ{B Z os O Y H Q rows} f q k=>by cases q;exact⟨Ą _,λp hp=>k p [] _ (bq hp) hp (λ_ z=>nomatch z) (ā.mpr ⟨(λz=>by cases z),ī⟩) az (Ą _) .nil⟩
@[irreducible] def oG(i:Nat)(a:aW->Option (List D)):DS:=λO=>match O.getD i .un with
 |.om rows=>(match a O with
  |some ds=>if rows.length<Î then .nx (O.set i (.om (rows++[ds]))) else .no
  |none=>.no)
 |_=>.no
def o8 (ha:cZ K ta a):SemS fr K (wG (MJ K "list" vf (tVar i) (a9 ta dv))) (oG i a):=fun {B Z os O Y H E} f p=>by
  unfold oG at p;split at p;case h_2=>exact p.elim
  case h_1 rows e =>
    split at p;case h_2=>exact p.elim
    case h_1 ds e1 =>
      by_cases hz:rows.length<Î
      · rw[if_pos hz]at p;obtain⟨o,ps,eo,hu,hH,hl,hln,pr⟩:=Av f e;refine⟨_,join_some hu,.inl ⟨rfl,_,cE.of hH⟩,ha f e1 λx vs H1 s1 hx hx1 hlv iv=>?_⟩;have hi:=di e (by intro z;cases z);have hn:=f.nd i;rw[eo]at hn;have hxo:x∉o::ps:=λz=>by obtain⟨xs,q⟩:=(f.sl i).pH (by rw[eo];exact z);rw[hx]at q;cases q
        have hxo1:o≠x:=λz=>hxo (by rw[z];exact Ò);have hoi:o∈os i:=by rw[eo];exact Ò
        have sub:∀c,bD Z (h9 os i (o::(ps++[x]))) c->c=x\/bD Z os c:=by
          rintro c (z |⟨j,z⟩)
          · exact .inr (.inl z)
          · by_cases hj:j=i
            · subst hj;rw[aX]at z;rcases Ú.mp z with z |z
              · exact .inr (.inr ⟨j,by rw[z];exact hoi⟩)
              · rcases â.mp z with z |z
                · exact .inr (.inr ⟨j,by rw[eo];exact Ñ _ z⟩)
                · exact .inl (Ð.mp z)
            · rw[bM hj]at z;exact .inr (.inr ⟨j,z⟩)
        have kp:Kp (bD Z os) H (bD Z (h9 os i (o::(ps++[x])))) (upd H1 o (.lst ((ps++[x]).map V.ref))):=λc u q z=>by
          refine⟨by rw[upd_ne (λw=>z (.inr ⟨i,by rw[w];exact hoi⟩))];exact s1 _ _ q,λw=>?_⟩;rcases sub c w with rfl |w
          · rw[hx]at q;cases q
          · exact z w
        have kpx:Kp (λc=>c=x\/bD Z os c) H1 (bD Z (h9 os i (o::(ps++[x])))) (upd H1 o (.lst ((ps++[x]).map V.ref))):=λc u q z=>by refine⟨by rw[upd_ne (λw=>z (.inr (.inr ⟨i,by rw[w];exact hoi⟩)))];exact q,λw=>z (sub c w)⟩
        have hpo:∀q∈ps,o≠q:=λq hq z=>(ā.mp hn).1 (by rw[z];exact hq)
        have st:=f.step (H':=upd H1 o (.lst ((ps++[x]).map V.ref))) (i:=i) hi (o:=o::(ps++[x])) (s:=.om (rows++[ds])) (v:=À (.ref o)) (λc u q nn=>by rw[upd_ne (λz=>nn (by rw[z];exact hoi))];exact s1 _ _ q) (λc hc=>?_)
          (ā.mpr ⟨λz=>?_,?_⟩) (λc hc=>?_)
          ⟨o,ps++[x],rfl,rfl,az,by rw[á,ĥ];exact hln ▸ hz,Paired.append (Paired.mono pr λq ds' hq ⟨us,h1,h2,h3⟩=>⟨us,by rw[upd_ne (ĩ (hpo q hq))];exact s1 _ _ h1,h2,h3.kp kp⟩) (.cons ⟨vs,by rw[upd_ne (ĩ hxo1)];exact hx1,hlv,iv.kp kpx⟩ .nil)⟩
        · rw[dw hu]at st;refine⟨o,ps.map V.ref,.ref x,rfl,rfl,s1 _ _ hH,by rw[Ê,hln];exact hz,?_⟩;have em:ps.map V.ref++[V.ref x]=(ps++[x]).map V.ref:=by rw[î];rfl
          rw[em];exact p _ _ _ st.1 st.2
        · by_cases hc':c=o
          · rw[hc'];exact⟨_,az⟩
          · obtain⟨xs,q⟩:=(f.sl i).pH hc;exact⟨_,by rw[upd_ne hc'];exact s1 _ _ q⟩
        · simp_all
        · exact Ϣ.mpr ⟨(ā.mp hn).2,ā.mpr ⟨(λz=>by cases z),ī⟩,λa ha b hb z=>by simp_all⟩
        · rcases Ú.mp hc with z |z
          · exact .inl (by rw[z];exact hoi)
          · rcases â.mp z with z |z
            · simp_all
            · exact .inr (by simp_all)
      · rw[if_neg hz]at p;exact p.elim
def Fr.forget{os:Own}(f:Fr K B Z os O Y H)(hr:r < O.length)(v:Option V):Fr K B Z (h9 os r []) (O.set r .un) (Y.set r v) H/\Kp (bD Z os) H (bD Z (h9 os r [])) H :=
 f.step hr (λa u e _=>e) (λa ha=>let ⟨xs,e⟩:=(f.sl r).pH ha;⟨_,e⟩) ī (λa h=>nomatch h) rfl
def Ag(is:List Nat)(Y Y':L2.St):Prop:=Y'.length=Y.length/\∀j,j∉is->Y'[j]?=Y[j]?
def Ag.refl:Ag is Y Y:=⟨rfl,λ_ _=>rfl⟩
theorem Ag.set(h:Ag is Y Y')(hi:i∈is):Ag is Y (Y'.set i v) :=
 ⟨by rw[Ħ];exact h.1,λj hj=>by rw[Ļ λz=>hj (by rw[<-z];exact hi)];exact h.2 j hj⟩
def Ag.two(h:Ag [r,n] Y Y'):Y'=(Y.set r (Y'[r]?).join).set n (Y'[n]?).join:=by
 refine Ń λj=>?_;by_cases hn:j=n
 ·subst hn;by_cases hl:j < Y.length
  ·rw[ļ (by simp_all),É (by rw[h.1];exact hl)];rfl
  ·rw[Ĕ (by rw[h.1];exact ņ.1 hl),Ĕ (by simp_all)]
 ·rw[Ļ (ĩ hn)];by_cases hr:j=r
  ·subst hr;by_cases hl:j < Y.length
   ·rw[ļ hl,É (by rw[h.1];exact hl)];rfl
   ·rw[Ĕ (by rw[h.1];exact ņ.1 hl),Ĕ (by simp_all)]
  ·rw[Ļ (ĩ hr)];exact h.2 j (by simp[hn,hr])
def ke(h0:O.getD i .un=.om rows)(h:a O=À ds)(hl:rows.length<Î)(k:W.nx (O.set i (.om (rows++[ds])))):Wp (oG i a) O W:=by unfold Wp oG;rw[h0];simp only[h,if_pos hl];exact k
end
end
end VL
namespace uw
open PySem PySem.W PyProof.Rows
section
structure Ord(lt:Nat->Nat->Bool):Prop where
 tr:∀a b c,lt b a=Ã->lt c b=Ã->lt c a=Ã
 as:∀a b,lt a b=Â->lt b a=Ã
abbrev g(p:Array Nat)(i:Nat):Nat:=p.getD i 0
def Up(lt:Nat->Nat->Bool)(p:Array Nat)(k:Nat):Prop:=∀i j,i<=j->j<k->lt (g p j) (g p i)=Ã
def Dn(lt:Nat->Nat->Bool)(p:Array Nat)(k:Nat):Prop:=∀i j,i<=j->j<k->lt (g p i) (g p j)=Ã
end
end uw
namespace L2
open PySem PySem.Spec PyProof.Rows
def lexLt:List Int->List Int->Bool
 |[],[]=>Ã
 |[],_::_=>Â
 |_::_,[]=>Ã
 |x::xs,y::ys=>if x=y then lexLt xs ys else decide (x<y)
theorem vE:∀a b:List Int,lexLt a b=Â->lexLt b a=Ã
 |[],[],h=>by cases h
 |[],_::_,_=>rfl
 |_::_,[],h=>by cases h
 |x::xs,y::ys,h=>by
  unfold lexLt at h ⊢;by_cases c:x=y
  ·subst c;rw[if_pos rfl]at h ⊢;exact vE xs ys h
  ·lia
theorem vD:∀a b c:List Int,lexLt b a=Ã->lexLt c b=Ã->lexLt c a=Ã
 |[],[],[],_,_=>rfl
 |[],[],_::_,_,_=>rfl
 |[],_::_,[],_,h=>by cases h
 |[],_::_,_::_,_,_=>rfl
 |_::_,[],_,h,_=>by cases h
 |_::_,_::_,[],_,h=>by cases h
 |x::xs,y::ys,z::zs,h1,h2=>by
  unfold lexLt at h1 h2 ⊢;by_cases c1:y=x
  ·subst c1;rw[if_pos rfl]at h1;by_cases c2:z=y
   ·subst c2;rw[if_pos rfl]at h2 ⊢;exact vD xs ys zs h1 h2
   ·rw[if_neg c2]at h2 ⊢;exact h2
  ·grind
def AE(f:Nat->List Int):uw.Ord λi j=>lexLt (f i) (f j):=⟨λa b c h1 h2=>vD _ _ _ h1 h2,λa b h=>vE _ _ h⟩
theorem y9:∀a b:List Int,lexLt a b=Ã->lexLt b a=Ã->a=b
 |[],[],_,_=>rfl
 |[],_::_,h,_=>by cases h
 |_::_,[],_,h=>by cases h
 |x::xs,y::ys,h1,h2=>by
  unfold lexLt at h1 h2;by_cases c:x=y
  ·subst c;rw[if_pos rfl]at h1 h2;rw[y9 xs ys h1 h2]
  ·lia
def Li(H:Hp)(ps:List Ý)(zs:List (List Int)):Prop:=Ł (λp z=>z≠[]/\H p=À (.tup (z.map V.int))) ps zs
def EY(i:Nat)(hx:Ŧ us x)(hy:Ŧ vs y)(h:Q (lexLt x y) s):PySem.W.KatLex prog w A Â (decide (x.length<y.length)) Q (us.zip vs) i s:=by
 induction hx generalizing vs y i with
 |nil=>cases hy <;> exact TJ h
 |@cons x t us xs r1 ih =>
  cases hy with
  |nil=>exact TJ h
  |@cons y u vs ys r2 =>
   refine PySem.W.kat_cons (wpAny_eqBool_int ?_);unfold lexLt at h;have el:decide ((x::xs).length<(y::ys).length)=decide (xs.length<ys.length):=by simp
   by_cases c:x=y
   ·subst c;rw[if_pos rfl]at h;rw[beq_self_eq_true,el];exact PySem.W.kat_yes (ih (i+1) r2 h)
   ·rw[if_neg c]at h;rw[(by simp[c]:(x==y)=Ã)];cases i with
    |zero=>exact oneLt_int h
    |succ i=>exact PySem.W.kat_one _ _ (R8 h)
def By(I:Inv X pins Y H s)(h:H p=À (.tup (z.map V.int))):∃(o:ϯ) (us:List Ù) (n:Nat),s.heap.get? p=À o/\o.cls=.type "tuple" /\ o.data=.seq us.toArray n/\Ŧ us z:=by
 obtain⟨_,its,rv,o,h1,h2,n,h3⟩:=(I.bJ p _ h)
 exact⟨o,its,n,h1,h2,h3,intsAre_of rv⟩
def Af{ps:List Ý}:∀{us:List Ù},Vals (ps.map V.ref) us->us=ps.map Č:=by
 induction ps with
 |nil=>intro us r;cases r;rfl
 |cons p ps ih=>intro us r;cases r with |cons h r=>cases h;rw[ih r];rfl
theorem sY:∀ps:List Ý,Vals (ps.map V.ref) (ps.map Č)
 |[]=>.nil
 |_::ps=>.cons rfl (sY ps)
theorem xo:∀{ps:List Ý},(∀p∈ps,∃(o:ϯ) (us:List Ù) (n:Nat) (x:Int) (t:Tok) (r:List Ù),h.get? p=À o/\o.cls=.type "tuple" /\ o.data=.seq us.toArray n/\us=.int x t::r)->∃fs,PySem.W.KatTups h (ps.map Č) fs/\fs.length=ps.length/\∀f∈fs,∃(x:Int) (t:Tok),f=.int x t
 |[],_=>⟨[],.nil,rfl,λ_ z=>nomatch z⟩
 |p::ps,hp=>by
  obtain⟨fs,k,hl,hf⟩:=xo λq hq=>hp q (Ñ _ hq);obtain⟨o,us,n,x,t,r,h1,h2,h3,rfl⟩:=hp p Ò;refine⟨.int x t::fs,.cons h1 h2 h3 rfl k,by simp[hl],λf hm=>?_⟩;rcases Ú.mp hm with rfl |hm
  ·exact⟨x,t,rfl⟩
  ·exact hf f hm
section
open PySem.W
def DX{vs:List Ù}(hn:vs.length<2)(ho:s.heap.get? a=À (û "list" vs.toArray n))
 (k:∀h' c,(∀b o,b≠a->s.heap.get? b=À o->h'.get? b=À o)->h'.get? a=À (û "list" vs.toArray c)->P (.done (.ret .none)) {s with heap:=h' }) :
 í (model prog w) A (ŭ.«list.sort» ⟨[.ref a],[]⟩) P E s:=by
 have z:=ă;obtain⟨e,o1⟩:∃e,(s.heap.update a (ù λ_=>(#[]))).get? a=À (û "list" #[] e):=⟨_,Ų ho λ_=>#[]⟩
 rw[Rl];refine È (PL ho rfl (È (ŝ ho rfl (È (ύ o1 rfl (È (OZ (È (Ž (Ċ ?_) (Ą _))) (by show vs.length<=_;lia))))) (by rw[ã];lia) (Ą _))));rw[if_pos (by simp_all),if_pos (by simp_all)];have o2:(((s.heap.update a (ù λx=>#[])).push {cls:=ŋ "tuple", data:=QK vs.toArray }).push {cls:=ŋ "list", data:=QK #[] }).get? a=À (û "list" #[] e):=Ì _ (Ì _ o1);refine È (Ï (È (Ï (È (ύ o2 rfl ?_)))));have em:Array.map (λx=>x.snd) (Ď (P7 general' (vs.toArray.zip vs.toArray) #[] 7 Á))=vs.toArray:=by apply QM.mp;rw[QN,Ts,Tt];exact Õ _
 refine È (ŝ o2 rfl ?_ (Ą _) (by rw[em,ã];lia));rw[bne_self_eq_false];rw[em];obtain⟨c,o3⟩:∃c,((((s.heap.update a (ù λx=>#[])).push {cls:=ŋ "tuple", data:=QK vs.toArray }).push {cls:=ŋ "list", data:=QK #[] }).update a (ù λ_=>vs.toArray)).get? a=À (û "list" vs.toArray c):=⟨_,Ų o2 λ_=>vs.toArray⟩
 refine Ï (k _ c (λb o hb q=>?_) o3);rw[č _ _ (ĩ hb)];exact Ì _ (Ì _ (by rw[č _ _ (ĩ hb)];exact q))
def yD{vs:List Ù}(hl:s.heap.IsList l vs.toArray)(hn:vs.length<2)
 (k:∀h' D c,s.heap.objs.size<=D->(∀b o,s.heap.get? b=À o->h'.get? b=À o)->h'.get? D=À (û "list" vs.toArray c)->Q (.ref D) {s with heap:=h' }) :
 í (model prog w) A (call (.builtin "sorted") [.ref l]) Q E s:=by
 have z:=ă;apply Ζ Qq PM PN (Q6 _);refine È (Ï (È (S4 hl (È (Ž ?_ (by lia))) (by lia))));generalize hg:(s.heap.push (û "list" #[] 0)).update s.heap.objs.size (ù λx=>x++vs.toArray)=g;have gs:g.objs.size=s.heap.objs.size+1:=by rw[<-hg,Ř,ų]
 have kg:∀b o,s.heap.get? b=À o->g.get? b=À o:=λb o q=>by rw[<-hg,č _ _ (ş (Ø q))];exact Ì _ q
 have oD:(g.push (û "list" vs.toArray 0)).get? g.objs.size=À (û "list" vs.toArray 0):=å g rfl;dsimp only;refine È (Ċ (ĳ O1 ⟨_,oD,rfl⟩ OE (DX hn oD λh' c kp hD=>⟨_,rfl,Ï ⟨_,rfl,k h' g.objs.size c (by lia) (λb o q=>kp b o (Ü (by rw[gs];exact ÿ (Ø q))) (Ì _ (kg b o q))) hD⟩⟩) (Qc _)))
end
def xY{K:Í}(hK:X.K=K):cG X (.builtin "sorted") (λxs H Q=>∃a vs,xs=[.ref a]/\cE K H a vs/\vs.length<2/\∀D,H D=Á->Q (.ref D) (upd H D (.lst vs))):=by
 subst hK;intro pins s Y H xs us Q I r h;obtain⟨a,vs,rfl,hq,hn,q⟩:=h;cases r with
 |cons r1 r =>cases r;cases r1;obtain⟨its,rv,pl,hz⟩:=I.list hq;exact yD pl.isList (by rw[<-rv.length];exact hn) λh' D c hD kp oD=>⟨.ref D,upd H D (.lst vs),I.laid kp hD ⟨hz,its,c,rv,oD⟩,rfl,q D (I.bJ.fresh hD)⟩
def kH(zs:List (List Int)):List (List Int):=zs.mergeSort λa b=>!lexLt b a
def fO(zs:List (List Int)):(kH zs).Perm zs:=PH _ _
def o9(zs:List (List Int)):(kH zs).Pairwise λa b=>lexLt b a=false:=by
 have h:=OJ (le:=λa b=>!lexLt b a) (λa b c h1 h2=>by
  rw[S8]at h1 h2 ⊢;exact vD _ _ _ h1 h2) λa b=>by
  cases e:lexLt b a with
  |false=>rfl
  |true=>simp[vE _ _ e] zs
 exact h.imp λh=>by simpa using h
def tx(p:xs.Perm zs)(h:xs.Pairwise λa b=>lexLt b a=Ã):xs=kH zs :=
 Ν (λa b _ _ h1 h2=>y9 a b h2 h1) h (o9 zs) (p.trans (fO zs).symm)
def JX(K:Í):List V->Hp->VK->Prop:=λxs H Q=>∃a vs,xs=[.ref a]/\cE K H a vs/\vs.length<2/\∀D,H D=Á->Q (.ref D) (upd H D (.lst vs))
end L2
namespace VL
open PySem L2
section
open Classical
section
variable[aV]
def Du(z:List Int):D:=.tup (z.map D.int)
theorem lu:∀{a b:List Int},a.map D.int=b.map D.int->a=b
 |[],[],_=>rfl
 |[],_::_,h=>by cases h
 |_::_,[],h=>by cases h
 |x::a,y::b,h=>by injection h with h1 h2;injection h1 with h1;rw[h1,lu h2]
def Dt(a b:List Int)(h:Du a=Du b):a=b:=by injection h with h;exact lu h
def range_getD(zs:List (List Int)):(ê zs.length).map (λi=>zs.getD i [])=zs:=by refine Τ (by simp) λi h1 h2=>?_;simp[h2]
def t3(z:Int×Int×Int):D:=.tup [.int z.1,.int z.2.1,.int z.2.2]
end
end
end VL
namespace L2
open PySem PySem.Spec PyProof.Rows
def Bz(l:List Ù)(h:QE l):QE (l++[.int a t,.int b u,c]):=by
 fun_induction QE l with
 |case1=>trivial
 |case2 x t y u z rest ih=>exact ih h
 |case3=>exact h.elim
def zC(l:List Ù)(h:QE l)(e:QF pos (l++[.int a t,.int b u,c])=À v):QF pos l=À v\/v=c:=by
 fun_induction QE l with
 |case1 =>
  simp only[Py,QF]at e;split at e
  ·cases e;exact .inr rfl
  ·cases e
 |case2 x t y u z rest ih =>
  simp only[QL,QF]at e ⊢;split at e
  ·rename_i q;rw[if_pos q];exact .inl e
  ·rename_i q;rw[if_neg q];exact ih h e
 |case3=>exact h.elim
def de(mg:ĺ->Option Ù)(base:Ő):Prop:=∃bm ob,mg "__builtins__" = À (.ref bm)/\bm≠PY/\base.get? bm=À ob/\ob.cls=.type "module" /\ ob.dict=À PY/\ob.data=.plain
structure Jc(X:Cx)(c P:Ý):Prop where
 code:X.env.code=.ref c
 hd:Pc X.K c P=Â
 bm:de X.mg X.base
abbrev nX(q:ĺ)(params:Arguments)(body:PZ)(scope:Ql)(cl:List (ĺ×Ý))(mg:ĺ->Option Ù)(c:Ý)(ct:Ù):ϯ:=PySem.W.kla_obj "<lambda>" q params body scope cl ((mg "__name__").getD .none) c ct
noncomputable def oT(mg:ĺ->Option Ù)(H:Hp)(q:ĺ)(params:Arguments)(body:PZ)(scope:Ql)(cl:List (ĺ×Ý))(o:ϯ):Prop :=
 ∃c ct oc u vs t,o=nX q params body scope cl mg c ct/\H c=À (.jM oc u)/\oc.data=.fields vs/\vs[1]?=À (.str q t)
def EK (lo:Jc X c P) (I:Inv X pins Y H s)
    (hP:H P=À (.tbl ps)) (h0:ps[0]?=À (.str q t)) (hq:X.env.qual ++ "<lambda>" = q) (hcl:ϔ scope X.env=pure cl) (hdef:defaultsOf params X.env=([],[])) :
    í (model X.prog X.w) X.A (eval (.Lambda params body scope pos) X.env) (λv s'=>∃f o H',v=.ref f/\Inv X (pins++[(f,o)]) Y H' s'/\(∀b u,H b=À u->H' b=À u)/\(∀p∈X.pn++pins,p.1≠f)/\X.s₀.heap.objs.size<=f/\oT X.mg H' q params body scope cl o) X.xe s:=by
  refine PySem.W.kla_eval hdef ?_;obtain⟨q',t',qs,e0,e1,e2,e3⟩:=(show cF X.prog X.w H s.heap P (.tbl ps) from I.bJ P _ hP)
  rw[h0]at e0;cases e0;have hg:s.heap.Ns ĭ X.mg:=I.mod.glob.keeps I.bk;have hgP:ĭ≠P:=λz=>by obtain⟨o,es,ep,e,_⟩:=I.mod.glob;have:=(I.bs _ _ e).2;rw[z,hP]at this;cases this
  obtain⟨bm,ob,b1,b2,b3,b4,b5,b6⟩:=lo.bm;have nG:bm≠ĭ:=λz=>by obtain⟨o,es,ep,e,hd,_⟩:=I.mod.glob;rw[z,e]at b3;cases b3;rw[hd]at b6;cases b6
  have nB:bm≠P:=λz=>by have:=(I.bs _ _ b3).2;rw[z,hP]at this;cases this
  have hb:s.heap.BuiltinsAt X.mg P:=⟨bm,ob,b1,b2,nG,nB,I.bk _ _ b3,b4,b5,b6⟩
  have C:=(R9 I.mod.MP lo.hd).keeps I.bk;have Ls:X.env.locals<s.heap.objs.size:=I.lt;have fsl:∀b∈X.fs,b<s.heap.objs.size:=λb hb=>by obtain⟨_,o,ho,_⟩:=I.ok.n9.mem hb;exact è (Ø ho) I.sz
  rw[hq];cases hf:QF pos qs.toList with
  |none =>
    refine PySem.W.kla_makeFunction (mg:=X.mg) hcl I.ok.glob hg lo.code C e1 e2 hf hgP hb λc' ctv h' tk hx hge hlt hrec htb=>?_;have hc:H c'=none:=I.bJ.fresh hge;have hcP:c'≠P:=λz=>by rw[z,hP]at hc;cases hc
    have ge:s.heap.objs.size<=h'.objs.size:=ø hge (ĉ hlt);have kp:∀b u,b≠P->s.heap.get? b=À u->(h'.push (nX q params body scope cl X.mg c' ctv)).get? b=À u:=λb u hb e=>Ì _ (hx b u hb e);have nP:∀b,H b=Á->b≠P:=λb e z=>by rw[z,hP]at e;cases e
    obtain⟨c2,oc,vs,t2,z1,z2,z3,z4⟩:=hrec;cases z1;have up:∀b u,H b=À u->upd H c' (.jM oc (.own P)) b=À u:=λb u e=>by rw[upd_ne (aO e hc)];exact e
    have I1:Inv X pins Y (upd H c' (.jM oc (.own P))) {s with heap:=h'.push (nX q params body scope cl X.mg c' ctv),gens:=s.gens,drawn:=s.drawn,toks:=tk }:=by
      refine I.step (ch:=[]) (λ_ z=>nomatch z) (λb o _ _ _ e n=>kp b o (nP b n) e) (λb o _ _ _ e n=>⟨o.slots,kp b o (nP b n) e⟩) (λb o _ e n=>?_) (λb o _ e=>?_) (λb xs e=>up _ _ e) (λb o u e=>up _ _ e) (λb ps' e=>⟨#[],by rw[up _ _ e];simp⟩) (λm hm=>?_) (λb u e=>?_) I.bare
      · rw[upd_ne (Ü (è (Ø e) hge))];exact n
      · by_cases z:b=P
        · subst z;exact⟨_,Ì _ htb⟩
        · exact⟨o,kp b o z e⟩
      · exact(hm.extBut hx λz=>by have:=I.free;rw[z,hP]at this;cases this).push _
      · by_cases z:b=c'
        · subst z;rw[az]at e;cases e;exact⟨Ì _ z2,oc,Ì _ z2⟩
        · rw[upd_ne z]at e;by_cases z2:b=P
          · subst z2;rw[hP]at e;cases e;refine⟨q,t,qs++#[ũ pos.line,ũ pos.col,.ref c'],h0,Ì _ htb,?_,λpos' v ev=>?_⟩
            · rw[Ġ];exact Bz _ e2
            · rw[Ġ]at ev;rcases zC _ e2 ev with ev |rfl
              · obtain⟨c3,o,u,vs,t2,y1,y2,y3⟩:=e3 pos' v ev;exact⟨c3,o,u,vs,t2,y1,up _ _ y2,y3⟩
              · exact⟨c',oc,_,vs,t2,rfl,az,z3,z4⟩
          · refine(I.bJ b u e).l6 (λx v hxv ex=>kp x v ?_ ex) (λx ex=>up _ _ ex) (λx xs ex=>up _ _ ex) λx o u ex=>up _ _ ex;rcases hxv with rfl |hxv
            · exact z2
            · exact λw=>by rw[w,hP]at hxv;cases hxv
    refine⟨h'.objs.size,nX q params body scope cl X.mg c' ctv,upd H c' (.jM oc (.own P)),rfl,I1.kr λp hp=>?_,up,λp hp z=>?_,ø I.sz ge,c',ctv,oc,.own P,vs,t2,rfl,az,z3,z4⟩
    · rcases â.mp hp with hp |hp
      · exact I1.pin p (Ô _ hp)
      · cases Ð.mp hp;refine⟨å _ rfl,?_,ş (è Ls ge),λz=>absurd (è (fsl _ z) ge) (ĕ _),λv z=>by cases z⟩;show upd H c' (.jM oc (.own P)) h'.objs.size=Á;rw[upd_ne (ş hlt)];exact I.bJ.fresh ge
    · exact(λb o e=>Ü (è (Ø e) ge)) _ _ (I.pin p hp).1 z
  |some cv =>
    obtain⟨c',oc,u,vs,t2,rfl,hown,z3,z4⟩:=e3 pos cv hf;refine PySem.W.kla_makeFunctionHit hcl I.ok.glob hg lo.code C e1 e2 hf hb λctv h' tk hk hsz=>?_;have I1:Inv X pins Y H {s with heap:=h'.push (nX q params body scope cl X.mg c' ctv),toks:=tk }:=I.kept λb u e=>Ì _ (hk b u e);refine⟨h'.objs.size,nX q params body scope cl X.mg c' ctv,H,rfl,I1.kr λp hp=>?_,λ_ _ e=>e,λp hp z=>?_,ø I.sz hsz,c',ctv,oc,u,vs,t2,rfl,hown,z3,z4⟩
    · rcases â.mp hp with hp |hp
      · exact I1.pin p (Ô _ hp)
      · cases Ð.mp hp;exact⟨å _ rfl,I.bJ.fresh hsz,ş (è Ls hsz),λz=>absurd (è (fsl _ z) hsz) (ĕ _),λv z=>by cases z⟩
    · exact absurd z (Ü (è (Ø (I.pin p hp).1) hsz))
structure j7(X:Cx)(x:ĺ)(zs:List ĺ)(is:List Nat)(scope:Ql)(cl:List (ĺ×Ý)):Prop where
 par:scope.names.lookup x=À .local
 sub:∀y c,cl.lookup y=À c->X.env.cells.lookup y=À c
 Ja:∀(j:Nat) (z:ĺ),zs[j]?=À z->∃i c,is[j]?=À i/\X.N[i]?=À z/\(X.env.scope.names.lookup z=À .cell\/X.env.scope.names.lookup z=À .free)/\cl.lookup z=À c/\scope.names.lookup z=À .free
 has:∀y,(scope.names.lookup y=À .cell\/scope.names.lookup y=À .free)->∃c,cl.lookup y=À c
 len:is.length=zs.length
 vy:∀y∈scope.names,y.2≠.cell
 kind:scope.kind=.function
 co:scope.isCoroutine=Ã
 gen:scope.isGenerator=Ã
inductive ya(X:Cx)(scope:Ql)(cl:List (ĺ×Ý)):List Nat->List ĺ->Prop
 |nil:ya X scope cl [] []
 |cons {i:Nat} {z:ĺ} {c:Ý} {is:List Nat} {zs:List ĺ}:X.N[i]?=À z->(X.env.scope.names.lookup z=À .cell\/X.env.scope.names.lookup z=À .free)->cl.lookup z=À c->scope.names.lookup z=À .free->ya X scope cl is zs->ya X scope cl (i::is) (z::zs)
def ya.get(h:ya X scope cl is zs):∀(j:Nat) (z:ĺ),zs[j]?=À z->∃i c,is[j]?=À i/\X.N[i]?=À z/\(X.env.scope.names.lookup z=À .cell\/X.env.scope.names.lookup z=À .free)/\cl.lookup z=À c/\scope.names.lookup z=À .free:=by
 induction h with
 |nil=>intro j z e;simp at e
 |cons h1 h2 h3 h4 _ ih =>
  intro j z e;cases j with
  |zero=>cases e;exact⟨_,_,rfl,h1,h2,h3,h4⟩
  |succ j=>exact ih j z (by simpa using e)
def ya.len(h:ya X scope cl is zs):is.length=zs.length:=by
 induction h with
 |nil=>rfl
 |cons _ _ _ _ _ ih=>simp[ih]
def j7.many(hs:SubL X cl)(hc:ya X scope cl is zs)(ha:(scope.names.all λy=>!(y.2==.cell || y.2==.free) || zs.contains y.1)=Â)(par:scope.names.lookup x=À .local)
 (vy:∀y∈scope.names,y.2≠.cell) (kind:scope.kind=.function) (co:scope.isCoroutine=Ã) (gen:scope.isGenerator=Ã):j7 X x zs is scope cl where
 par:=par
 sub:=hs.sub
 Ja:=hc.get
 has:=λy h=>by
  have key:∀kd,scope.names.lookup y=À kd->(kd==Um || kd==Uo)=Â->y∈zs:=λkd e q=>by
   have m:=Ľ.mp ha _ (Ō e);rw[q]at m;have:zs.contains y=true:=by simpa using m
   exact List.contains_iff_mem.mp this
  have mem:y∈zs:=by
   rcases h with h |h
   ·exact key _ h rfl
   ·exact key _ h rfl
  obtain⟨j,hj⟩:=Ň mem;obtain⟨i,c,_,_,_,f4,_⟩:=hc.get j y hj;exact⟨c,f4⟩
 len:=hc.len
 vy:=vy
 kind:=kind
 co:=co
 gen:=gen
abbrev za(q:ĺ)(scope:Ql)(L:Ý)(f c:Ý)(cl:List (ĺ×Ý)):Ux:=newEnv scope L ĭ cl (q ++ ".<locals>.") (À f) (.ref c) Á PY
noncomputable def qM(X:Cx)(N':List ĺ)(q:ĺ)(scope:Ql)(cl:List (ĺ×Ý))(f c:Ý)(A:Ŝ)(s:ç)(H:Hp)(pins:List (Ý×ϯ)):Cx :=
 {X with A:=A.deeper (za q scope s.heap.objs.size f c cl),N:=N',s₀:=s,H₀:=H,env:=za q scope s.heap.objs.size f c cl,outer:=X.stack,stack:=za q scope s.heap.objs.size f c cl::X.stack,ex:=[],fn:=λ_=>Ã,calm:=Â,pn:=X.pn++pins,xe:=λ_ _=>False }
def EL
 (I:Inv X pins Y H s) (L:oT X.mg H q params body scope cl o) (hf:(f,o)∈X.pn++pins) (fr:j7 X x zs is scope cl) (hA:A.frames=À X.stack) (hh:A.handled=Á) (hroom:A.depth<Ϧ)
 (hb:∀(c:Ý) (ct u:Ù),Ū (O2 "<lambda>" q params body scope cl ((X.mg "__name__").getD .none) (.ref c) ct) ⟨[u],[]⟩=pure [(x,u)])
 (he:∀f c s H pins,PE (qM X (x::zs) q scope cl f c A s H pins) body te) (rv:RelV v u) (h:te (À v::is.map λi=>(Y[i]?).join) H Q) :
 í (model X.prog X.w) A (call (.ref f) [u]) (λr s'=>(∃y H',Inv X pins Y H' s'/\RelV y r/\Q y H')/\∀m,s.heap.Ns X.env.locals m->s'.heap.Ns X.env.locals m) (λ_ _=>False) s:=by
 obtain⟨c,ct,oc,w',vs,t,rfl,hc,hd,h1⟩:=L;have ho:=(I.pin _ hf).1;have hcd:s.heap.CodeRec (.ref c) q:=⟨c,oc,vs,t,rfl,(show cF X.prog X.w H s.heap c (.jM oc w') from I.bJ c _ hc).1,hd,h1⟩
 refine TX (ϐ (PySem.W.kla_callFunE (R:=λr s'=>∃u,r=.ok (.ret u)/\(∃y H',Inv X pins Y H' s'/\RelV y u/\Q y H')/\∀m,s.heap.Ns X.env.locals m->s'.heap.Ns X.env.locals m) hroom ho rfl fr.co fr.gen rfl hcd ?_) λr s' hq=>?_)
 ·rw[hb];refine Ï (wpAny_newFunctionEnv fr.vy (λy hy=>?_) (λh₁ hns hsb=>⟨?_,PySem.W.kla_codeExpr ?_⟩) fr.kind)
  ·cases Ð.mp hy;exact fr.par
  ·have old:∀b o,s.heap.get? b=À o->h₁.get? b=À o:=λb o e=>hsb.extBut b o (Ü (Ø e)) (Ì _ e);exact I.nolimit.keeps old
  ·have old:∀b o,s.heap.get? b=À o->h₁.get? b=À o:=λb o e=>hsb.extBut b o (Ü (Ø e)) (Ì _ e);have noA:∀b:Ý,b∉([]:List Ý):=λb=>by simp
   have start:Inv (qM X (x::zs) q scope cl f c A s H pins) [] (À v::is.map λi=>(Y[i]?).join) H {s with heap:=h₁,toks:=s.toks+1 }:=by
    refine⟨⟨I.ok.mod,fr.kind,rfl,rfl,Õ _,λy z c h1 h2=>I.ok.inj y z c (fr.sub y c h1) (fr.sub z c h2),λy hy=>fr.has y hy,λy c h _=>(by cases h),λ_=>hh,RI hA,.inr ⟨rfl,rfl⟩,λb z=>absurd z (noA b),I.bs,ø I.ok.CN I.sz,λb _ _=>noA b,λb z=>absurd z (noA b),I.stack,I.uL⟩,
     rfl,I.bare,Un.kept old,⟨_,hns,λj y v' e1 e2 _=>?_⟩,λy c e=>?_,I.bJ.fresh (Õ _),λy c e=>I.gV y c (fr.sub y c e),λp hp=>?_,I.bJ.kept old,?_⟩
    ·cases j with
     |zero =>cases e1;cases e2;exact⟨u,rv,.inl ⟨fr.par,by simp⟩⟩
     |succ j =>
      have e2:(is.map λi=>(Y[i]?).join)[j]?=À (À v'):=by simpa using e2
      obtain⟨i,c2,f1,f2,f3,f4,f5⟩:=fr.Ja j y e1;rw[Ö,f1]at e2;have e3:=þ e2;obtain⟨m,hn,hl⟩:=I.loc;obtain⟨u2,r2,l⟩:=hl i y v' f2 (VL.join_some e3) (by rcases f3 with z |z;exact .inr (.inl z);exact .inr (.inr z));refine⟨u2,r2,.inr ⟨.inr f5,c2,f4,?_⟩⟩;rcases l with⟨k,_⟩ |⟨_,c',e',z⟩
      ·have k:X.env.scope.names.lookup y=À .local:=k;rcases f3 with z |z <;> rw[z]at k <;> cases k
      ·rw[fr.sub y c2 f4]at e';cases e';obtain⟨o,ho,hd⟩:=z;exact⟨o,old _ _ ho,hd⟩
    ·obtain⟨v,o,ho,hd⟩:=I.cell y c (fr.sub y c e);exact⟨v,o,old _ _ ho,hd⟩
    ·obtain⟨e,n,ne,nf,d⟩:=I.pin p (by simpa [qM]using hp);refine⟨old _ _ e,n,Ü (Ø e),λz=>?_,d⟩;rcases Ú.mp (I.pZ p.1 z)with q |q
     ·exact ne q
     ·exact nf q
    ·show _=(x::zs).length;rw[Û,Ê,Û,fr.len]
   refine ħ (he f c s H pins [] _ _ H _ start h) (λr s' hq=>?_) λ_ _ z=>z.elim;obtain⟨y,H',J,ry,qy⟩:=hq;refine⟨r,rfl,⟨y,H',I.Jb J.os J.base J.bJ J.bare λb z=>absurd z (noA b),ry,qy⟩,λm hm=>?_⟩;obtain⟨o,es,ep,e1,e2⟩:=hm;obtain⟨sl,e3⟩:=J.base.any e1 I.free (noA _);exact⟨_,es,ep,e3,e2⟩
 ·obtain⟨u,rfl,hq⟩:=hq;exact hq
end L2
namespace Tm
open PySem PyProof.Rows
def Eu(d:α)(p:m.Perm l):∃q:List Nat,q.Perm (ê l.length)/\m=q.map λi=>l.getD i d:=by
 induction p with
 |nil=>exact⟨[],.refl _,rfl⟩
 |@cons x m l _ ih =>
  obtain⟨q,hq,e⟩:=ih;refine⟨0::q.map Nat.succ,?_,?_⟩
  ·rw[Û,Ż];exact .cons 0 (hq.map _)
  ·rw[Ā,ë,e];rfl
 |swap x y l =>
  refine⟨1::0::(ê l.length).map λi=>i+2,?_,?_⟩
  ·rw[Û,Û,Ż,Ż,Ā,ë];exact .swap 0 1 _
  ·have e:(ê l.length).map (λi=>l.getD i d)=l:=by
    refine Ń λi=>?_;by_cases c:i<l.length
    ·simp_all
    ·simp_all
   rw[Ā,Ā,ë];show y::x::l=y::x::(ê l.length).map λi=>l.getD i d;rw[e]
 |@trans m k l _ _ ih1 ih2 =>
  obtain⟨q1,h1,e1⟩:=ih1;obtain⟨q2,h2,e2⟩:=ih2;have hk:k.length=q2.length:=by rw[e2,Ê]
  refine⟨q1.map λi=>q2.getD i 0,?_,?_⟩
  ·apply (h1.map _).trans
   have e:(ê k.length).map (λi=>q2.getD i 0)=q2:=by
    refine Ń λi=>?_;by_cases c:i<q2.length
    ·simp_all
    ·simp_all
   rw[e];exact h2
  ·rw[e1,ë];refine ę λi hi=>?_;have hi:i<q2.length:=by have:=ö.mp (h1.mem_iff.mp hi);exact hk ▸ this
   show k.getD i d=l.getD (q2.getD i 0) d;rw[e2,Ë,Ö,Ë (l:=q2),É hi];rfl
section
structure FY(prog:Δ)(w:Ŷ)(A:Ŝ)(s:ç)(Z:Ϫ)(ks:List Ù)(lt:Nat->Nat->Bool):Prop where
 o:uw.Ord lt
 v:∀i j,i<ks.length->j<ks.length->ks.getD i .none=ks.getD j .none->∀k,lt i k=lt j k/\lt k i=lt k j
 ask:∀i j (C:Bool->ç->Prop),i<ks.length->j<ks.length->C (lt i j) s->í (model prog w) A (keyLt' Z (ks.getD i .none) (ks.getD j .none)) C (λ_ _=>False) s
open Classical in
noncomputable def F9(ks:List Ù)(x:ć):Nat:=if h:∃i,i<ks.length/\ks.getD i .none=x.1 then h.choose else 0
def vh(h:∃i,i<ks.length/\ks.getD i .none=x.1):F9 ks x<ks.length/\ks.getD (F9 ks x) .none=x.1:=by unfold F9;rw[dif_pos h];exact h.choose_spec
def tM{vs:List Ù}(a:FY prog w A s Z ks lt)(hl:ks.length=vs.length)(h2:2<=vs.length)
 (h:∀(st':į) (p:List Nat),p.Perm (ê vs.length)->(p.Pairwise λi j=>lt j i=Ã)->(Ď st').map (·.2)=(p.map λi=>vs.getD i .none).toArray->OT st'=Á->Q ((),st') s) :
 í (model prog w) A (sortRuns'.run (P7 Z (ks.toArray.zip vs.toArray) #[] 7 Á)) Q E s:=by
 have ez:(ks.toArray.zip vs.toArray).toList=ks.zip vs:=by simp
 have esz:(ks.toArray.zip vs.toArray).size=vs.length:=by rw[<- ß,ez,PB];lia
 have zlen:(ks.zip vs).length=vs.length:=by rw[PB];lia
 have zat:∀i,i<vs.length->(ks.zip vs).getD i (.none,.none)=(ks.getD i .none,vs.getD i .none):=λi hi=>by rw[Ë,É (zlen ▸ hi),Ë,É (show i<ks.length from hl ▸ hi),Ë,É hi];simp
 have cmp:dB (model prog w) A E s Z (λx=>∃i,i<ks.length/\ks.getD i .none=x.1) (λx y=>lt (F9 ks x) (F9 ks y)):=λ{x y Q st} gx gy hk hq=>by obtain⟨x1,x2⟩:=vh gx;obtain⟨y1,y2⟩:=vh gy;rw[lt'_eq];refine ä (OX ?_);rw[hk,<-x2,<-y2];refine ä (QI (ż (ħ (a.ask _ _ (λb s'=>s'=s/\b=lt (F9 ks x) (F9 ks y)) x1 y1 ⟨rfl,rfl⟩) (λb s' z=>?_) λ_ _ z=>z.elim)));obtain⟨rfl,rfl⟩:=z;exact⟨rfl,ì hq⟩
 refine ħ (wq (Z:=Z) (a₀:=ks.toArray.zip vs.toArray) (st:=P7 Z (ks.toArray.zip vs.toArray) #[] 7 Á) (Q:=λ_ st'=>(Ď st').Perm (ks.toArray.zip vs.toArray)/\OT st'=Á/\Up (λx y=>lt (F9 ks x) (F9 ks y)) (Ď st') 0 (ks.toArray.zip vs.toArray).size)
  cmp ⟨λx y=>a.o.as _ _,λx y z=>a.o.tr _ _ _⟩ (λx hx=>?_) ⟨Rm _,rfl,rfl⟩ rfl (esz ▸ h2) λst' b1 b2 b3=>⟨b1,b2,b3⟩) ?_ λ_ _ e=>e
 ·rw[ez]at hx;have:=(Ŕ (a:=x.1) (b:=x.2) hx).1;obtain⟨i,hi,e⟩:=ŷ this;exact⟨i,hi,by rw[Ë,É hi];exact e⟩
 ·rintro⟨⟨⟩,st'⟩ s' ⟨rfl,hp,hf,hu⟩;have hp':=Β.mp hp;rw[ez]at hp';obtain⟨p,pm,ep⟩:=Eu ((.none,.none):ć) hp';rw[zlen]at pm;have plt:∀i∈p,i<vs.length:=λi hi=>ö.mp (pm.mem_iff.mp hi);have plen:p.length=vs.length:=by rw[pm.length_eq,Ę]
  refine h st' p pm ?_ ?_ hf
  ·rw[Ť];intro i j hi hj hij;have u:=hu i j (Ą _) (ĉ hij) (by lia);have gat:∀i (hi:i<p.length),gk (Ď st') i=(ks.getD p[i] .none,vs.getD p[i] .none):=λi hi=>by unfold gk;rw[<- Ē,ep,Ö,É hi];exact zat _ (plt _ (Ĳ hi))
   rw[gat i hi,gat j hj]at u;have bi:=plt _ (Ĳ hi);have bj:=plt _ (Ĳ hj);obtain⟨c1,c2⟩:=vh (x:=(ks.getD p[i] .none,vs.getD p[i] .none)) ⟨p[i],hl ▸ bi,rfl⟩;obtain⟨d1,d2⟩:=vh (x:=(ks.getD p[j] .none,vs.getD p[j] .none)) ⟨p[j],hl ▸ bj,rfl⟩;rw[<-((a.v _ _ c1 (hl ▸ bi) c2 p[j]).2),<-((a.v _ _ d1 (hl ▸ bj) d2 (F9 ks (ks.getD p[i] .none,vs.getD p[i] .none))).1)];exact u
  ·apply QM.mp;rw[QN,ep,ë];refine ę λi hi=>?_;show ((ks.zip vs).getD i (.none,.none)).2=_;rw[zat i (plt i hi)]
def vC(ho:s.heap.get? a=À (û "list" vs.toArray n))(h2:2<=vs.length)(hb:vs.length<=100000)
 (hk:∀g:Ő,(∀b o,b≠a->s.heap.get? b=À o->g.get? b=À o)->∃ Z,(∀Q':Ϫ->ç->Prop,Q' Z {s with heap:=g }->í (model prog w) A (Ug vs.toArray) Q' (λ_ _=>False) {s with heap:=g })/\FY prog w A {s with heap:=g } Z vs lt)
 (h:∀p:List Nat,p.Perm (ê vs.length)->(p.Pairwise λi j=>lt j i=Ã)->P (.done (.ret .none)) {s with heap:=Uc s.heap a vs (p.map λi=>vs.getD i .none).toArray }):í (model prog w) A (ŭ.«list.sort» ⟨[.ref a],[]⟩) P E s:=by
 have hline:Î=16777216:=ă;have lt0:a<s.heap.objs.size:=Ø ho;have hsz:vs.toArray.size=vs.length:=by simp
 rw[Rl];refine È (PL ho rfl ?_);refine È (ŝ ho rfl ?_ (hsz:=by rw[hsz];lia));obtain⟨c,hc⟩:∃c,(s.heap.update a (ù λ_=>#[])).get? a=À (û "list" #[] c):=⟨_,Ų ho (λ_=>#[])⟩
 refine È (ύ hc rfl ?_);refine È (OZ ?_);refine È (Ž ?_);refine Ċ ?_;have ne1:a≠((s.heap.update a (ù λ_=>#[])).push (û "tuple" vs.toArray 0)).objs.size:=by rw[ų,Ř];exact Ü (ÿ lt0)
 have ne2:a≠(s.heap.update a (ù λ_=>#[])).objs.size:=by rw[Ř];exact Ü lt0
 have hc2:(((s.heap.update a (ù λ_=>#[])).push (û "tuple" vs.toArray 0)).push (û "list" #[] 0)).get? a=À (û "list" #[] c):=by rw[O0 _ _ _ ne1,O0 _ _ _ ne2];exact hc
 obtain⟨Z,kind,asks⟩:=hk (((s.heap.update a (ù λ_=>#[])).push (û "tuple" vs.toArray 0)).push (û "list" #[] 0)) λb o q e=>by refine Ì _ (Ì _ ?_);rw[PJ _ _ _ _ q];exact e
 show í (model prog w) A _ P E {s with heap:=((s.heap.update a (ù λ_=>#[])).push (û "tuple" vs.toArray 0)).push (û "list" #[] 0) };dsimp only;rw[if_neg (by lia),if_neg (by lia)];refine È (ħ (kind (λk s'=>k=Z/\s'={s with heap:=((s.heap.update a (ù λ_=>#[])).push (û "tuple" vs.toArray 0)).push (û "list" #[] 0) }) ⟨rfl,rfl⟩) (λk s' z=>?_) λ_ _ z=>z.elim);obtain⟨rfl,rfl⟩:=z;refine È (tM asks rfl h2 λst' p pm up eo hf=>?_);refine È (ύ hc2 rfl ?_);rw[eo];refine È (ŝ hc2 rfl ?_ (hsz2:=by rw[ã,Ê,pm.length_eq,Ę];lia));rw[hf];simp;exact Ï (h p pm up)
def BJ(hl:s.heap.IsList l vs.toArray)(h2:2<=vs.length)(hb:vs.length<=100000)
 (hk:∀g:Ő,(∀b o,s.heap.get? b=À o->g.get? b=À o)->∃ Z,(∀Q':Ϫ->ç->Prop,Q' Z {s with heap:=g }->í (model prog w) A.in1.in1 (Ug vs.toArray) Q' (λ_ _=>False) {s with heap:=g })/\FY prog w A.in1.in1 {s with heap:=g } Z vs lt)
 (h:∀(p:List Nat) (g:Ő) (D:Ý) (c:Nat),p.Perm (ê vs.length)->(p.Pairwise λi j=>lt j i=Ã)->s.heap.objs.size<=D->g.get? D=À (û "list" (p.map λi=>vs.getD i .none).toArray c)->(∀b o,s.heap.get? b=À o->g.get? b=À o)->Q (.ref D) {s with heap:=g }) :
 í (model prog w) A (call (.builtin "sorted") [.ref l]) Q E s:=by
 have hline:=ă;apply Ζ Qq PM PN (Q6 _);refine È (Ï (È (S4 hl (È (Ž ?_ (by lia))) (by lia))));have hsz:((s.heap.push (û "list" #[] 0)).update s.heap.objs.size (ù (·++vs.toArray))).objs.size=s.heap.objs.size+1:=(Ř ..).trans (ų ..);have kp:∀b o,s.heap.get? b=À o->((s.heap.push (û "list" #[] 0)).update s.heap.objs.size (ù (·++vs.toArray))).get? b=À o:=λb o e=>by rw[PJ _ _ _ _ (Ü (Ø e))];exact Ì _ e
 generalize (s.heap.push (û "list" #[] 0)).update s.heap.objs.size (ù (·++vs.toArray))=g0 at hsz kp;have low:∀{b o},s.heap.get? b=À o->b<g0.objs.size:=λ{b o} e=>by rw[hsz];exact ÿ (Ø e)
 have hD:(g0.push (û "list" vs.toArray 0)).get? g0.objs.size=À (û "list" vs.toArray 0):=å _ rfl;refine È (Ċ (ĳ O1 ⟨_,hD,rfl⟩ OE (vC hD h2 hb (λg k=>hk g λb o e=>k b o ?_ (Ì _ (kp b o e))) λp pm up=>⟨_,rfl,?_⟩) (Qc _)))
 ·exact Ü (low e)
 obtain⟨c,hc⟩:=Sq hD;exact Ï ⟨_,rfl,h p _ g0.objs.size c pm up (by lia) hc λb o e=>(RS (Ü (low e)) (by rw[ų];exact ÿ (low e))).trans (Ì _ (kp b o e))⟩
end
section
open PySem.W
def zS{st:į}(eo:(Ď st).map (·.2)=out.toArray)(lo:out.length<=100000)(lk:ks.length<=100000)(hf:OT st=Á)(h:KatFin h₀ L m kS a ks e e1 out (λs'=>P (.done (.ret .none)) s') s):í (model prog w) A (ksk_tail a Ã e1 (.ref kS) st) P E s:=by
 have hline:=ă;obtain⟨nw,g,F1,N1,U1,k1⟩:=h;obtain⟨p1,q1,rfl,eg,a1,b1⟩:=U1.split;obtain⟨x1,x2,x3⟩:=N1 (kS,û "list" ks.toArray e) (Ô _ Ò);have sb:=ŀ s.heap kS (ù λ_=>(#[]));obtain⟨c,hc⟩:∃c,(s.heap.update kS (ù λ_=>(#[]))).get? kS=À (û "list" #[] c):=⟨_,Ų x1 λ_=>#[]⟩
 obtain⟨nw2,g2,F2,N2,U2,k2⟩:=k1 _ c (kas_fr F1 sb x2 x3) (by rw[eg];exact news_set N1 a1 b1 sb hc);obtain⟨p2,q2,rfl,eg2,a2,b2⟩:=U2.split;obtain⟨y1,y2,y3⟩:=N2 (a,û "list" #[] e1) (Ô _ Ò);generalize hg:s.heap.update kS (ù λ_=>(#[]))=g3 at sb hc F2 N2 y1 k2;have sb2:=ŀ g3 a (ù λ_=>out.toArray);obtain⟨c2,hc2⟩:∃c2,(g3.update a (ù λ_=>out.toArray)).get? a=À (û "list" out.toArray c2):=⟨_,Ų y1 λ_=>out.toArray⟩
 unfold ksk_tail;rw[eo];refine È (ŝ x1 rfl ?_ (by rw[ã];lia) (Ą _));rw[hg];refine È (wpAny_letGo (È (ύ y1 rfl ?_)));simp;refine È (ŝ y1 rfl ?_ (Ą _) (by rw[ã];lia));rw[hf];exact Ï (k2 _ c2 (kas_fr F2 sb2 y2 y3) (by rw[eg2];exact news_set N2 a2 b2 sb2 hc2))
noncomputable def Bp(prog:Δ)(w:Ŷ)(A:Ŝ)(h₀:Ő)(L:Ý)(m:ĺ->Option Ù)(kS a:Ý)(vs:List Ù)(e1:Nat)(C:ç->Prop)(ks:List Ù)(e:Nat)(s:ç):Prop :=
 ∃lt:Nat->Nat->Bool,(2<=vs.length->∃ Z:Ϫ,(∀Q':Ϫ->ç->Prop,Q' Z s->í (model prog w) A (Ug ks.toArray) Q' (λ_ _=>False) s)/\FY prog w A s Z ks lt) /\
  ∀p:List Nat,p.Perm (ê vs.length)->(p.Pairwise λi j=>lt j i=Ã)->KatFin h₀ L m kS a ks e e1 (p.map λi=>vs.getD i .none) C s
def yP(vs:List Ù):(ê vs.length).map (λi=>vs.getD i .none)=vs:=by refine Τ (by simp) λi h1 h2=>?_;simp[h2]
def B0(R:Nat->Nat->Prop)(h:¬ 2<=n):(ê n).Pairwise R:=by
 match n,h with
 | 0,_=>exact .nil
 | 1,_=>exact Χ _ _
 |n+2,h=>simp_all
def K3(hl:ks.length=vs.length)(hb:vs.length<=100000)(h:Bp prog w A h₀ L m kS a vs e1 (λs'=>P (.done (.ret .none)) s') ks e s):í (model prog w) A (ksk_end a Ã vs.toArray e1 (.ref kS) ks.toArray) P E s:=by
 obtain⟨lt,big,fin⟩:=h;have hsz:vs.toArray.size=vs.length:=rfl;unfold ksk_end;simp only[ϓ,if_false];by_cases h2:2<=vs.length
 ·obtain⟨Z,kind,asks⟩:=big h2;rw[if_neg (by lia),if_neg (by lia)];refine È (ħ (kind (λk s'=>k=Z/\s'=s) ⟨rfl,rfl⟩) (λk s' z=>?_) λ_ _ z=>z.elim);obtain⟨rfl,rfl⟩:=z;exact È (tM asks hl h2 λst' p pm up eo hf=>zS eo (by rw[Ê,pm.length_eq,Ę];exact hb) (hl ▸ hb) hf (fin p pm up))
 ·rw[if_pos (by lia),if_pos (by lia)];have f:=fin (ê vs.length) (.refl _) (B0 _ h2);rw[yP]at f;refine zS ?_ hb (hl ▸ hb) rfl f;apply QM.mp;rw[QN,Ts,Tt];exact ŕ hl.symm
theorem A2
 (hb:∀x ks e (s:ç) (C:Ù->Nat->ç->Prop),RH ks<n->í (model prog w) A (call f [x]) (KatBack h₀ L m kS ks e C) (λ_ _=>False) s ->
  í (model prog w) A (body x ⟨⟩) (λr s'=>r=.yield ⟨⟩/\∃k c,s'.heap.get? kS=À (û "list" (ks++[k]).toArray c)/\C k c s') E s):∀(r:List Ù) {ks:List Ù} {e:Nat} {s:ç},ks.length+r.length=n ->
  s.heap.get? kS=À (û "list" ks.toArray e)->TQ prog w A h₀ L m kS f Fn r ks e s ->
  í (model prog w) A (forIn r PUnit.unit body) (λ_ s'=>∃ks e,s'.heap.get? kS=À (û "list" ks.toArray e)/\ks.length=n/\Fn ks e s') E s
 |[],ks,e,s,hl,o,h=>Ï ⟨ks,e,o,by simpa using hl,h⟩
 |x::r,ks,e,s,hl,o,h=>by have hl':ks.length+(r.length+1)=n:=hl;rw[Rq];refine È (ħ (hb x ks e s (λk c s'=>TQ prog w A h₀ L m kS f Fn r (ks++[k]) c s') (by lia) h) (λq s' z=>?_) λ_ _ z=>z);obtain⟨rfl,k,c,o',z⟩:=z;exact A2 hb r (by rw[á,ĥ];lia) o' z
def Hc(o:s.heap.get? kS=À (û "list" #[] 0))(hb:vs.length<=100000)(h:TQ prog w A h₀ L m kS f (Bp prog w A h₀ L m kS a vs e1 λs'=>P (.done (.ret .none)) s') vs [] 0 s):í (model prog w) A (ksk_rest a f Ã vs.toArray e1 (.ref kS)) P E s:=by
 have hline:=ă;refine È (Α ?_);simp only[Qd];refine È (ħ (A2 (n:=vs.length) (λx ks e s' C lk hx=>?_) vs (by simp) o h) (λ_ s' z=>?_) λ_ _ z=>z)
 ·refine È (ż (ħ hx (λk s1 z=>?_) λ_ _ z=>z.elim));obtain⟨nw,g,F1,N1,U1,c⟩:=z;obtain⟨p1,q1,rfl,eg,a1,b1⟩:=U1.split;obtain⟨x1,x2,x3⟩:=N1 (kS,û "list" ks.toArray e) (Ô _ Ò);have sb:=ŀ s1.heap kS (ù (·.push k));obtain⟨c2,hc2⟩:∃c2,(s1.heap.update kS (ù (·.push k))).get? kS=À (û "list" (ks++[k]).toArray c2):=⟨_,by rw[show (ks++[k]).toArray=ks.toArray.push k by simp];exact Ų x1 (·.push k)⟩
  exact È (ŝ x1 rfl (Ï ⟨rfl,k,c2,hc2,c _ c2 (kas_fr F1 sb x2 x3) (by rw[eg];exact news_set N1 a1 b1 sb hc2)⟩) (by rw[ã];lia) (by rw[ű,ã];lia))
 ·obtain⟨ks,e,o',hl,fin⟩:=z;exact È (PL o' rfl (K3 hl hb fin))
def EN(F:Fr h₀ L s.heap m)(N:UG h₀ L s.heap news)(ho:s.heap.get? a=À (û "list" vs.toArray n))(haL:a≠L)(ha0:h₀.get? a=Á)(hna:∀p∈news,p.1≠a)(hb:vs.length<=100000)
 (h:∀kS e1 h',Fr h₀ L h' m->UG h₀ L h' ((kS,û "list" #[] 0)::(a,û "list" #[] e1)::news)->a<kS->TQ prog w A h₀ L m kS f (Bp prog w A h₀ L m kS a vs e1 λs'=>P (.done (.ret .none)) s') vs [] 0 {s with heap:=h' }) :
 í (model prog w) A (ksk_tree a f Ã) P E s:=by
 have hline:=ă;have sb:=ŀ s.heap a (ù λ_=>(#[]));obtain⟨c,hc⟩:∃c,(s.heap.update a (ù λ_=>(#[]))).get? a=À (û "list" #[] c):=⟨_,Ų ho λ_=>#[]⟩
 have Fa:=kas_fr F sb haL ha0;have Na:=kas_news N sb hna;have hsz:(s.heap.update a (ù λ_=>(#[]))).objs.size=s.heap.objs.size:=Ř ..;refine È (PL ho rfl (È (ŝ ho rfl ?_ (by rw[ã];lia) (Ą _))));generalize s.heap.update a (ù λ_=>(#[]))=g0 at sb hc Fa Na hsz;refine È (ύ hc rfl (È (OZ (È (Ž ?_ (Ą _))) (by show vs.length<=_;lia))));apply Ċ;have Fb:=Fa.push (û "tuple" vs.toArray 0);have keep:∀b o,g0.get? b=À o->((g0.push (û "tuple" vs.toArray 0)).push (û "list" #[] 0)).get? b=À o:=λb o q=>Ì _ (Ì _ q);have lL:=Fb.ns.lt;have atS:((g0.push (û "tuple" vs.toArray 0)).push (û "list" #[] 0)).get? (g0.push (û "tuple" vs.toArray 0)).objs.size=À (û "list" #[] 0):=å _ rfl;refine Hc atS hb (h _ c _ (Fb.push _) (λq hq=>?_) (by rw[(by rw[ų,hsz]:(g0.push (û "tuple" vs.toArray 0)).objs.size=s.heap.objs.size+1)];exact ÿ (Ø ho)));rcases Ú.mp hq with rfl |hq
 ·exact⟨atS,ş lL,Ϥ (ø F.above (ĉ lL))⟩
 ·rcases Ú.mp hq with rfl |hq
  ·exact⟨keep _ _ hc,haL,ha0⟩
  ·exact⟨keep _ _ (Na q hq).1,(Na q hq).2⟩
def yE(F:Fr h₀ L s.heap m)(N:UG h₀ L s.heap news)(hl:s.heap.IsList l vs.toArray)(hb:vs.length<=100000)(ha1:Sz "sorted" ⟨[.ref l],kw⟩)(ha2:∀x,Sz "list.sort" ⟨[.ref x],kw⟩)(ht:∀x,ŭ.«list.sort» ⟨[.ref x],kw⟩=ksk_tree x f Ã)
 (h:∀D kS e1 h',Fr h₀ L h' m->UG h₀ L h' ((kS,û "list" #[] 0)::(D,û "list" #[] e1)::news)->D<kS->(∀q∈news,q.1<D)->TQ prog w A.in1.in1 h₀ L m kS f (Bp prog w A.in1.in1 h₀ L m kS D vs e1 λs4=>Q (.ref D) s4) vs [] 0 {s with heap:=h' }) :
 í (model prog w) A (call (.builtin "sorted") [.ref l] kw) Q E s:=by
 have hline:Î=16777216:=ă;refine call_function_entry_kw Qq PM PN ha1 ?_;unfold ŭ.«sorted»;refine È (m:=checkCount "sorted" 1 1 _) (Ï ?_);refine È (S4 hl ?_ (by lia));refine È (Ž ?_ (by lia));have hsz:((s.heap.push (û "list" #[] 0)).update s.heap.objs.size (ù (·++vs.toArray))).objs.size=s.heap.objs.size+1:=(Ř ..).trans (ų ..);have kp:∀b o,s.heap.get? b=À o->((s.heap.push (û "list" #[] 0)).update s.heap.objs.size (ù (·++vs.toArray))).get? b=À o:=λb o e=>by rw[PJ _ _ _ _ (Ü (Ø e))];exact Ì _ e
 generalize (s.heap.push (û "list" #[] 0)).update s.heap.objs.size (ù (·++vs.toArray))=g0 at hsz kp;have low:∀{b},b<s.heap.objs.size->b<g0.objs.size:=λ{b} e=>by rw[hsz];exact ÿ e
 have kp2:∀b o,s.heap.get? b=À o->(g0.push (û "list" vs.toArray 0)).get? b=À o:=λb o e=>Ì _ (kp b o e);have hD:(g0.push (û "list" vs.toArray 0)).get? g0.objs.size=À (û "list" vs.toArray 0):=å _ rfl;have lL:=F.ns.lt;refine È (Ċ (wpAny_call_entry_kw O1 ⟨_,hD,rfl⟩ OE ?body (ha2 _)));rw[(ht g0.objs.size)];refine EN (F.kept kp2) (N.grown kp2) hD (ş (low lL)) (Ϥ (ø F.above (ĉ (low lL)))) (λq hq=>Ü (low (Ø (N q hq).1))) hb λkS e1 h' F' N' l0=>kat_keys_mono (h _ kS e1 h' F' N' l0 λq hq=>low (Ø (N q hq).1)) λks e s' _ z=>?_;obtain⟨lt,big,fin⟩:=z;exact⟨lt,big,λp pm up=>(fin p pm up).mono λs4 hq=>⟨_,rfl,Ï ⟨_,rfl,hq⟩⟩⟩
end
end Tm
namespace L2
open PySem PySem.Spec PyProof.Rows
section
def Inv.N9(I:Inv X pins Y H s)(hm:s.heap.Ns X.env.locals m):Fr X.base X.env.locals s.heap m:=⟨hm,I.bk,ø I.ok.CN I.ok.above⟩
def Ck(F':Fr X.base X.env.locals h' m)(N':UG X.base X.env.locals h' ((kS,o)::rest X.base s.heap X.env.locals kS))(I:Inv X pins Y H s):∀b v,b≠X.env.locals->b≠kS->s.heap.get? b=À v->h'.get? b=À v:=λb v hb hk q=>by
 cases e:X.base.get? b with
 |some y =>have e1:=I.bk b y e;rw[q]at e1;cases e1;exact F'.keep b v e
 |none=>exact(N' (b,v) (Ñ _ (Ě.mpr ⟨gQ hb e q,by simpa using hk⟩))).1
def Inv.Ae(I:Inv X pins Y H s)(hm:s.heap.Ns X.env.locals m)(F':Fr X.base X.env.locals h' m)(N':UG X.base X.env.locals h' ((kS,o)::rest X.base s.heap X.env.locals kS))
 (h0:H kS=Á) (h1:X.s₀.heap.objs.size<=kS) (h2:kS≠X.env.locals) (h3:∀x c,X.env.cells.lookup x=À c->c≠kS) (h4:∀p∈X.pn++pins,p.1≠kS):Inv X pins Y H {s with heap:=h',toks:=t' }:=by
 have keep:=Ck F' N' I;refine I.step (ch:=[kS]) (λb hb=>?_) (λb v q1 _ q2 q _=>keep b v q1 (λz=>q2 (by rw[z];simp)) q) (λb v q1 _ q2 q _=>⟨v.slots,keep b v q1 (λz=>q2 (by simp_all)) q⟩) (λ_ _ _ _ n=>n) (λb v hb q=>?_) (λ_ _ q=>q) (λ_ _ _ q=>q) (λb ps q=>⟨#[],by rw[q];rfl⟩) (λm' hm'=>?_) (λb w q=>?_) I.bare
 ·rw[Ð.mp hb];exact⟨.inr h1,h2,h3,h4⟩
 ·by_cases hL:b=X.env.locals
  ·subst hL;obtain⟨o2,_,_,e2,_⟩:=F'.ns;exact⟨o2,e2⟩
  ·exact⟨v,keep b v hL (λz=>hb (by simp_all)) q⟩
 ·rw[hm'.eq_nsMap,<-hm.eq_nsMap];exact F'.ns
 ·have nL:∀b w,H b=À w->b≠X.env.locals:=λb w q z=>by rw[z,I.free]at q;cases q
  have nK:∀b w,H b=À w->b≠kS:=λb w q z=>by rw[z,h0]at q;cases q
  refine(I.bJ b w q).l6 (λc y hc r=>keep c y ?_ ?_ r) (λ_ r=>r) λ_ _ r=>r
  ·rcases hc with rfl |hc
   ·exact nL _ _ q
   ·exact nL _ _ hc
  ·rcases hc with rfl |hc
   ·exact nK _ _ q
   ·exact nK _ _ hc
end
def FW(H H':Hp):Prop:=∀b u,H b=À u->H' b=À u
def oT.grow(L:oT mg H q params body scope cl o)(g:FW H H'):oT mg H' q params body scope cl o:=by obtain⟨c,ct,oc,u,vs,t,e1,e2,e3⟩:=L;exact⟨c,ct,oc,u,vs,t,e1,g _ _ e2,e3⟩
def oJ(te:TE)(fs:List (Option V))(Fin:List V->Hp->Prop):List V->List V->Hp->Prop
 |[],ks,H=>Fin ks H
 |v::r,ks,H=>te (À v::fs) H λk H'=>FW H H'/\oJ te fs Fin r (ks++[k]) H'
section
theorem xn{Fin:List V->Hp->Prop}(fr:j7 X x zs is scope cl)(hA:A.frames=À X.stack)(hh:A.handled=Á)(hroom:A.depth<Ϧ)
 (hb:∀(c:Ý) (ct u:Ù),Ū (O2 "<lambda>" q params body scope cl ((X.mg "__name__").getD .none) (.ref c) ct) ⟨[u],[]⟩=pure [(x,u)])
 (he:∀f c s H pins,PE (qM X (x::zs) q scope cl f c A s H pins) body te) (hf:(f,o)∈pins) (h1:X.s₀.heap.objs.size<=kS) (h4:∀p∈X.pn++pins,p.1≠kS):∀{r:List V} {rv:List Ù} {ks:List V} {kvs:List Ù} {e:Nat} {H:Hp} {s:ç},
 Vals r rv->Vals ks kvs->Inv X (pins++[(kS,û "list" kvs.toArray e)]) Y H s->s.heap.Ns X.env.locals m->oT X.mg H q params body scope cl o->oJ te (is.map λi=>(Y[i]?).join) Fin r ks H ->
 PySem.W.KatKeys X.prog X.w A X.base X.env.locals m kS (.ref f) (λkvs' e' s'=>∃ks' H',Inv X (pins++[(kS,û "list" kvs'.toArray e')]) Y H' s'/\s'.heap.Ns X.env.locals m/\Vals ks' kvs'/\Fin ks' H') rv kvs e s
 |[],_,ks,kvs,e,H,s,.nil,rk,I,hm,L,h=>UL ⟨ks,H,I,hm,rk,h⟩
 |v::r,_,ks,kvs,e,H,s,.cons rv1 rv,rk,I,hm,L,h=>by
  refine UK (ħ (EL I L (Ô _ (ô _ hf)) fr hA hh hroom hb he rv1 h) (λk s' hq=>?_) λ_ _ z=>z);obtain⟨⟨y,H',J,ry,g,hk⟩,hns⟩:=hq;have hm':=hns m hm;obtain⟨p1,p2,p3,p4,p5⟩:=J.pin (kS,û "list" kvs.toArray e) (Ô _ (Ô _ (Ð.mpr rfl)))
  have hbase:X.base.get? kS=none:=by
   cases eb:X.base.get? kS with
   |none=>rfl
   |some y=>exact absurd (è (Ø eb) (ø J.ok.CN h1)) (ĕ _)
  refine UE (J.N9 hm') (vz p3 hbase p1) (.head λp hp=>by simpa using (Ě.mp hp).2) λh2 c F2 N2=>?_;have cells:∀x c,X.env.cells.lookup x=À c->c≠kS:=λx c e z=>by obtain⟨v,o,ho,hd⟩:=J.cell x c e;rw[z,p1]at ho;cases ho;exact p5 v hd
  have J1:Inv X pins Y H' {s' with heap:=h2,toks:=s'.toks }:=J.fT.Ae hm' F2 N2 p2 h1 p3 cells h4
  have J2:=J1.kr λp hp=>by
   rcases â.mp hp with hp |hp
   ·exact J1.pin p (Ô _ hp)
   ·cases Ð.mp hp;exact⟨(N2 _ Ò).1,p2,p3,p4,λv z=>by cases z⟩
  exact xn fr hA hh hroom hb he hf h1 h4 rv (rk.append (.cons ry .nil)) J2 F2.ns (L.grow g) hk
structure Nil(X:Cx)(pins:List (Ý×ϯ))(H:Hp)(b:Ý):Prop where
 h:H b=Á
 cell:∀x c,X.env.cells.lookup x=À c->c≠b
 pin:∀p∈X.pn++pins,p.1≠b
 fs:b∉X.fs
def Inv.nil(I:Inv X pins Y H s)(e:s.heap.get? b=Á):Nil X pins H b where
 h:=by
  cases q:H b with
  |none=>rfl
  |some o=>obtain⟨u,hu⟩:=(I.bJ b o q).live;rw[e]at hu;cases hu
 cell:=λx c q z=>by obtain⟨v,o,ho,_⟩:=I.cell x c q;rw[z,e]at ho;cases ho
 pin:=λp hp z=>by have:=(I.pin p hp).1;rw[z,e]at this;cases this
 fs:=λz=>by obtain⟨_,o,ho,_⟩:=I.ok.n9.mem z;obtain⟨o',h'⟩:=I.base.there b o ho λhx=>I.ok.E9 b hx z;rw[e]at h';cases h'
theorem wA(h:Vals xs us):∀{l:List Nat},(∀i∈l,i<xs.length)->Vals (l.map λi=>xs.getD i .non) (l.map λi=>us.getD i Ŋ)
 |[],_=>.nil
 |i::l,hl=>by have hi:=hl i Ò;obtain⟨w,ew,rw'⟩:=h.get (É hi);refine .cons ?_ (wA h λj hj=>hl j (Ñ _ hj));show RelV (xs.getD i .non) (us.getD i Ŋ);rw[(by simp_all:xs.getD i .non=xs[i]),(by simp_all:us.getD i Ŋ=w)];exact rw'
noncomputable def CP(vs:List V)(Q:VK)(ks:List V)(H:Hp):Prop:=∃(ps:List Ý) (kz:List (List Int)),ks=ps.map V.ref/\Li H ps kz /\
 ∀idx:List Nat,idx.Perm (ê kz.length)->(idx.Pairwise λi j=>lexLt (kz.getD j []) (kz.getD i [])=Ã)->∀D,H D=Á->Q (.ref D) (upd H D (.lst (idx.map λi=>vs.getD i .non)))
def xr(a:Ŧ us y)(b:Ŧ us z):y=z:=by
 induction a generalizing z with
 |nil=>cases b;rfl
 |cons x t _ ih=>cases b with |cons x' t' r=>rw[ih r]
def Ds(tz:Li H ps kz)(J:Inv X pins Y H s)(rk:Vals (ps.map V.ref) kvs)(h2:2<=kvs.length):∃ Z,(∀Q':Ϫ->ç->Prop,Q' Z s->í (model X.prog X.w) X.A.in1.in1 (Ug (List.toArray kvs)) Q' (λ_ _=>False) s)/\Tm.FY X.prog X.w X.A.in1.in1 s Z kvs λi j=>lexLt (kz.getD i []) (kz.getD j []):=by
 have hlp:ps.length=kz.length:=ň tz;have ek:=Af rk;subst ek;rw[Ê]at h2;have it:∀i,i<kz.length->∃p z o us n,ps[i]?=À p/\kz[i]?=À z/\z≠[]/\s.heap.get? p=À o/\o.cls=.type "tuple" /\ o.data=.seq us.toArray n/\Ŧ us z:=λi hi=>by obtain⟨p,e1,g1,g2⟩:=VL.Paired.E6 tz (É hi);obtain⟨o,us,n,k1,k2,k3,k4⟩:=By J g2;exact⟨p,_,o,us,n,e1,É hi,g1,k1,k2,k3,k4⟩
 obtain⟨fs,kt,fl,ff⟩:=xo (h:=s.heap) (ps:=ps) λp hp=>by
  obtain⟨i,hi,rfl⟩:=Pm.mp hp;obtain⟨p',z,o,us,n,e1,e2,g1,k1,k2,k3,k4⟩:=it i (hlp ▸ hi);rw[É hi]at e1;cases e1;cases k4 with
  |nil=>exact absurd rfl g1
  |cons x t r=>exact⟨o,_,n,x,t,_,k1,k2,k3,rfl⟩
 have gat:∀i p,ps[i]?=À p->(ps.map Č).getD i Ŋ=.ref p:=λi p e=>by rw[Ë,Ö,e];rfl
 refine⟨_,λQ' hq=>PySem.W.kat_kind (T:=.type "int") kt (by lia) (λv hv=>?_) (by decide) hq,AE λi=>kz.getD i [],λi j hi hj e=>?_,λi j C hi hj hC=>?_⟩
 ·obtain⟨x,t,rfl⟩:=ff v hv;exact PySem.W.Looks.of_pure rfl
 ·rw[Ê]at hi hj;obtain⟨p,z,o,us,n,e1,e2,g1,k1,k2,k3,k4⟩:=it i (hlp ▸ hi);obtain⟨p',z',o',us',n',e1',e2',g1',k1',k2',k3',k4'⟩:=it j (hlp ▸ hj);rw[gat i p e1,gat j p' e1']at e;cases e;rw[k1]at k1';cases k1';rw[k3]at k3';have eu:us=us':=by injection k3' with q _;exact Tu q
  subst eu;have ez:z=z':=xr k4 k4';have zi:kz.getD i []=z:=by rw[Ë,e2];rfl
  have zj:kz.getD j []=z':=by rw[Ë,e2'];rfl
  intro k;rw[zi,zj,ez];exact⟨rfl,rfl⟩
 ·rw[Ê]at hi hj;obtain⟨p,z,o,us,n,e1,e2,g1,k1,k2,k3,k4⟩:=it i (hlp ▸ hi);obtain⟨p',z',o',us',n',e1',e2',g1',k1',k2',k3',k4'⟩:=it j (hlp ▸ hj);rw[(by rw[Ë,Ö,e1];rfl:(ps.map Č).getD i Ŋ=.ref p),(by rw[Ë,Ö,e1'];rfl:(ps.map Č).getD j Ŋ=.ref p')];rw[(by rw[Ë,e2];rfl:kz.getD i []=z),(by rw[Ë,e2'];rfl:kz.getD j []=z')]at hC;apply PySem.W.kat_lt k1 k3 k1' k3';have lx:=EY (prog:=X.prog) (w:=X.w) (A:=X.A.in1.in1) 0 k4 k4' hC;rw[<-(O3 k4),<-(O3 k4')]at lx;exact lx
def BL{Fin:List V->Hp->Prop}(I:Inv X (pins++[(f,o)]) Y H s)(hff:∀p∈X.pn++pins,p.1≠f)(hf0:X.s₀.heap.objs.size<=f)(L:oT X.mg H q params body scope cl o)
 (fr:j7 X x zs is scope cl) (hh:X.A.handled=Á) (hroom:X.A.in1.in1.depth<Ϧ) (hA:X.A.in1.in1.frames=À X.stack) (hh2:X.A.in1.in1.handled=Á)
 (hb:∀(c:Ý) (ct u:Ù),Ū (O2 "<lambda>" q params body scope cl ((X.mg "__name__").getD .none) (.ref c) ct) ⟨[u],[]⟩=pure [(x,u)])
 (he:∀f c s H pins,PE (qM X (x::zs) q scope cl f c X.A.in1.in1 s H pins) body te)
 (hq:cE X.K H a vs) (h64:vs.length<800) (h:oJ te (is.map λi=>(Y[i]?).join) Fin vs [] H) (hg:∀ks H,ks.length=vs.length->Fin ks H->CP vs Q ks H)
 (ha1:Sz "sorted" ⟨[.ref a],kw⟩) (ha2:∀x,Sz "list.sort" ⟨[.ref x],kw⟩) (ht:∀x,ŭ.«list.sort» ⟨[.ref x],kw⟩=Rx x (.ref f) Ã) :
 í (model X.prog X.w) X.A (call (.builtin "sorted") [.ref a] kw) (EP X pins Y Q) X.xe s:=by
 obtain⟨its,rv,pl,_⟩:=I.list hq;have hlv:its.length=vs.length:=rv.length.symm;obtain⟨m,F⟩:=I.fr
 have fin:(f,o)∈mP X.base s.heap X.env.locals:=by
  obtain⟨p1,p2,p3,p4,p5⟩:=I.pin (f,o) (Ô _ (Ô _ (Ð.mpr rfl)));refine gQ p3 ?_ p1;cases eb:X.base.get? f with
  |none=>rfl
  |some y=>exact absurd (è (Ø eb) (ø I.ok.CN hf0)) (ĕ _)
 refine Tm.yE (vs:=its) (f:=.ref f) F (xg (h:=s.heap)) pl.isList (by lia) ha1 ha2 ht λD kS e1 h' F' N' hDk hlt=>?_;have nK:=N' _ Ò;have nD:=N' _ (Ñ _ Ò);have fD:f<D:=hlt _ fin
 have gD:s.heap.get? D=none:=by
  cases e:s.heap.get? D with
  |none=>rfl
  |some o=>exact absurd (hlt (D,o) (gQ nD.2.1 nD.2.2 e)) (ĕ _)
 have gK:s.heap.get? kS=none:=by
  cases e:s.heap.get? kS with
  |none=>rfl
  |some o=>exact absurd (ϒ hDk (hlt (kS,o) (gQ nK.2.1 nK.2.2 e))) (ĕ _)
 have s0D:X.s₀.heap.objs.size<=D:=ø hf0 (ĉ fD);have s0K:X.s₀.heap.objs.size<=kS:=ø s0D (ĉ hDk);have zD:=I.nil gD;have zK:=I.nil gK
 have N2:UG X.base X.env.locals h' ((kS,û "list" #[] 0)::rest X.base s.heap X.env.locals kS):=λp hp=>by
  rcases Ú.mp hp with rfl |hp
  ·exact nK
  ·exact N' p (Ñ _ (Ñ _ (Ě.mp hp).1))
 have I1:Inv X (pins++[(f,o)]) Y H {s with heap:=h',toks:=s.toks }:=I.Ae F.ns F' N2 zK.h s0K nK.2.1 zK.cell zK.pin
 have I2:Inv X ((pins++[(f,o),(D,û "list" #[] e1)])++[(kS,û "list" ([]:List Ù).toArray 0)]) Y H {s with heap:=h',toks:=s.toks }:=I1.kr λp hp=>by
  rcases â.mp hp with hp |hp
  ·rcases â.mp hp with hp |hp
   ·exact I1.pin p (Ô _ (ô _ hp))
   ·rcases Ú.mp hp with rfl |hp
    ·exact I1.pin _ (Ô _ (Ô _ (Ð.mpr rfl)))
    ·cases Ð.mp hp;exact⟨nD.1,zD.h,nD.2.1,zD.fs,λv z=>by cases z⟩
  ·cases Ð.mp hp;exact⟨nK.1,zK.h,nK.2.1,zK.fs,λv z=>by cases z⟩
 have h4:∀p∈X.pn++(pins++[(f,o),(D,û "list" #[] e1)]),p.1≠kS:=λp hp=>by
  rcases â.mp hp with hp |hp
  ·exact zK.pin p (ô _ hp)
  ·rcases â.mp hp with hp |hp
   ·exact zK.pin p (Ô _ (ô _ hp))
   ·rcases Ú.mp hp with rfl |hp
    ·exact zK.pin _ (Ô _ (Ô _ (Ð.mpr rfl)))
    ·cases Ð.mp hp;exact Ü hDk
 refine PySem.W.kat_keys_mono (xn fr hA hh2 hroom hb he (Ô _ Ò) s0K h4 rv .nil I2 F'.ns L h) λkvs e3 s3 hl3 hfin=>?_;obtain⟨ks,H3,J,hm3,rk,fin⟩:=hfin;have hl3:kvs.length=vs.length:=by rw[hl3,ð];lia
 have hlz:=rk.length;obtain⟨ps,kz,rfl,tz,qf⟩:=hg _ _ (by lia) fin;refine⟨λi j=>lexLt (kz.getD i []) (kz.getD j []),λh2=>Ds tz J rk (by lia),λp pm upw=>?_⟩;have hlk:its.length=kvs.length:=by lia
 rw[hlk]at pm;have hlen:p.length=kvs.length:=by rw[pm.length_eq,Ę]
 obtain⟨p1,p2,p3,p4,p5⟩:=J.pin (kS,û "list" kvs.toArray e3) (Ô _ (Ô _ (Ð.mpr rfl)));refine PySem.W.KatFin.intro (J.N9 hm3) (vz p3 nK.2.2 p1) (.head Ad) λh5 c5 F5 N5=>?_;have cells:∀x c,X.env.cells.lookup x=À c->c≠kS:=λx c e z=>by obtain⟨v,o,ho,hd⟩:=J.cell x c e;rw[z,p1]at ho;cases ho;exact p5 v hd
 have J5:Inv X (pins++[(f,o),(D,û "list" #[] e1)]) Y H3 {s3 with heap:=h5,toks:=s3.toks }:=(Inv.fT J).Ae hm3 F5 N5 p2 s0K p3 cells h4;obtain⟨d1,d2,d3,d4,d5⟩:=J5.pin (D,û "list" #[] e1) (Ô _ (Ô _ (Ñ _ (Ð.mpr rfl))));refine PySem.W.KasFin.intro F5 (vz d3 nD.2.2 d1) (.head Ad) λh6 c6 F6 N6=>?_;have cellsD:∀x c,X.env.cells.lookup x=À c->c≠D:=λx c e z=>by obtain⟨v,o,ho,hd⟩:=J5.cell x c e;rw[z,d1]at ho;cases ho;exact d5 v hd
 have pinD:∀p∈X.pn++pins,p.1≠D:=λp hp=>by
  refine zD.pin p ?_;rcases â.mp hp with hp |hp
  ·exact ô _ hp
  ·exact Ô _ (ô _ hp)
 refine⟨.ref D,upd H3 D (.lst (p.map λi=>vs.getD i .non)),(J5.fT.Ae F5.ns F6 N6 d2 s0D d3 cellsD pinD).LH ⟨d2,Ϥ s0D,d3,cellsD,pinD⟩ ?_,rfl,qf p ?_ upw D d2⟩
 ·exact⟨by grind,_,c6,(wA rv λi hi=>by have:=(λi hi=>ö.mp (pm.mem_iff.mp hi)) i hi;exact hl3 ▸ this),(N6 _ Ò).1⟩
 ·rw[Ê]at hlz;rw[<-(ň tz),hlz];exact pm
end
section
open PySem.Calls
section
def BK{Fin:List V->Hp->Prop}(I:Inv X (pins++[(f,o)]) Y H s)(hff:∀p∈X.pn++pins,p.1≠f)(hf0:X.s₀.heap.objs.size<=f)(L:oT X.mg H q params body scope cl o)
 (fr:j7 X x zs is scope cl) (hr:ej k X.A) (hc:X.calm=Â)
 (hb:∀(c:Ý) (ct u:Ù),Ū (O2 "<lambda>" q params body scope cl ((X.mg "__name__").getD .none) (.ref c) ct) ⟨[u],[]⟩=pure [(x,u)])
 (he:∀f c s H pins,PE (qM X (x::zs) q scope cl f c X.A.in1.in1 s H pins) body te)
 (hq:cE X.K H a vs) (h64:vs.length<800) (h:oJ te (is.map λi=>(Y[i]?).join) Fin vs [] H) (hg:∀ks H,ks.length=vs.length->Fin ks H->CP vs Q ks H)
 (ha1:Sz "sorted" ⟨[.ref a],kw⟩) (ha2:∀x,Sz "list.sort" ⟨[.ref x],kw⟩) (ht:∀x,ŭ.«list.sort» ⟨[.ref x],kw⟩=Rx x (.ref f) Ã) :
 í (model X.prog X.w) X.A (call (.builtin "sorted") [.ref a] kw) (EP X pins Y Q) X.xe s:=by
 have room:X.A.in1.in1.depth<Ϧ:=by
  have:=hr.dp;show X.A.depth < _
  lia
 have hh:=I.ok.hd hc;exact BL I hff hf0 L fr hh room I.ok.frames hh hb he hq h64 h hg ha1 ha2 ht
noncomputable def DB(K:Í)(P:Ý)(q:ĺ)(tl te:TE)(is:List Nat):TE:=λY H Q=>tl Y H λv H1=>∃(a:Ý) (vs:List V) (ps:Array Ù) (t:Tok),v=.ref a/\cE K H1 a vs/\vs.length<800/\H1 P=À (.tbl ps)/\ps[0]?=À (.str q t) /\
 ∀H2,FW H1 H2->oJ te (is.map λi=>(Y[i]?).join) (CP vs Q) vs [] H2
def Ew{K:Í}(hK:X.K=K)(lo:Jc X c P)(hr:ej k X.A)(hc:X.calm=Â)(hg:Gl X "sorted")(hm:X.mg "sorted" = Á)(hl:PE X l tl)(fr:j7 X x zs is scope cl)
 (hq:X.env.qual ++ "<lambda>" = q) (hcl:ϔ scope X.env=pure cl)
 (he:∀f c s H pins,PE (qM X (x::zs) q scope cl f c X.A.in1.in1 s H pins) body te)
 (hdef:defaultsOf params X.env=([],[]):=by rfl)
 (hb:∀(c:Ý) (ct u:Ù),Ū (O2 "<lambda>" q params body scope cl ((X.mg "__name__").getD .none) (.ref c) ct) ⟨[u],[]⟩=pure [(x,u)]:=by intro _ _ _;rfl)
 (hst:ġ [l] X.env=[(Ã,eval l X.env)]:=by rfl) (hv:Ĝ "sorted" = À (.builtin "sorted"):=by rfl) :
 PE X (.Call (.Name "sorted" p) [l] [⟨À "key", .Lambda params body scope lpos,kpos⟩] cpos) (DB K P q tl te is):=by
 subst hK;intro pins s Y H Q I h;refine ť (eI I hg hm hv ?_ (by decide) (by decide));refine PyProof.Rows.callWith_kw (e:=l) (rest:=[]) ?_ (by rw[hst];rfl) (by rw[hst];rfl) rfl rfl;have ha:=aa hl aj (hs:=by rw[hst];rfl)
 refine cc (ha cpos pins s Y H (λxs H1=>match xs with
  |[v]=>∃(a:Ý) (vs:List V) (ps:Array Ù) (t:Tok),v=.ref a/\cE X.K H1 a vs/\vs.length<800/\H1 P=À (.tbl ps)/\ps[0]?=À (.str q t)/\∀H2,FW H1 H2->oJ te (is.map λi=>(Y[i]?).join) (CP vs Q) vs [] H2
  |_=>False) I h) λus s1 ⟨vs0,H1,I1,r1,q1⟩=>?_
 match vs0,q1 with
 |[v],q1 =>
 obtain⟨a,vs,ps,t,rfl,hsq,h64,hP,h0,hw⟩:=q1;cases r1 with
 |cons r1 r2 =>
 cases r2;cases (show _=Č a from r1);show í _ _ (evalAll [(do let v <-eval (.Lambda params body scope lpos) X.env;standAt cpos;pure v)]) _ _ s1;refine wpAny_evalAll_cons (È (cc (EK lo I1 hP h0 hq hcl hdef) λu s2 ⟨f,o,H2,eu,I2,gr,pf,s0f,L⟩=>È (Pf (Ï (wpAny_evalAll_nil ?_)))));subst eu
 have hs2:cE X.K H2 a vs:=by
  rcases hsq with(z |⟨o,z⟩) |z
  ·exact .inl (.inl (gr _ _ z))
  ·exact .inl (.inr ⟨o,gr _ _ z⟩)
  ·exact .inr z
 exact BK I2 pf s0f L fr hr hc hb he hs2 h64 (hw H2 gr) (λ_ _ hl h=>h) (PyProof.Rows.ksk_s1 _ _) (λ_=>PyProof.Rows.ksk_l1 _ _) λx=>PyProof.Rows.ksk_t1 f x
end
end
end L2
namespace VL
open PySem L2
section
open Classical
section
variable[aV]
def kR(cs:List Nat)(O:aW)(d:D):aW:=(r0 1 cs O).set 0 (.pu d)
theorem AR(h:IsL K H T vs ds):∀{idx:List Nat},(∀i∈idx,i<ds.length)->IsL K H T (idx.map λi=>vs.getD i .non) (idx.map λi=>ds.getD i .non)
 |[],_=>.nil
 |i::idx,hl=>by have hi:=hl i Ò;obtain⟨v,e1,i1⟩:=h.get (É hi);refine .cons ?_ (AR h λj hj=>hl j (Ñ _ hj));show Is K H T (vs.getD i .non) (ds.getD i .non);rw[(by simp_all:vs.getD i .non=v),(by simp_all:ds.getD i .non=ds[i])];exact i1
end
end
end VL
namespace L2
open PySem PySem.Spec PyProof.Rows
def lY(ts:List (Ý×ĺ)):Hp:=λb=>(ts.lookup b).map λq=>.tbl #[.str q 0]
def Ce{K:Í}(ts:List (Ý×ĺ))
 (KX:K.In s₁.heap) (hns:s₁.heap.Ns ĭ mg) (hb:s₁.heap.Ns PY mb) (hbb:∀x:ĺ,x ≠ "__name__" -> mb x=Ĝ x) (hlim:s₁.heap.NoLimit) (hg:s₁.gens=#[]) (hbm:de mg s₁.heap)
 (hts:∀p q,ts.lookup p=À q->s₁.heap.get? p=À (RT #[])/\K.lookup p=Á/\∃c,PySem.W.CodeHd s₁.heap c p)
 (ha:s₁.heap.get? a=À {cls:=.type "list", data:=.seq vs.toArray }) (hi:Ŧ vs ns) (hl:ns.length<=Î) (hr:ej k S9)
 (F:∀base:Ő,K.In base->base.Ns ĭ mg->de mg base->ck P w K mg base CX k fa fd [x] sp) (hbind:∀(s:ç) (u:Ù),SR s fd ⟨[u],[]⟩ [(x,u)])
 (hsp:∀H:Hp,(∀p q,ts.lookup p=À q->H p=À (.tbl #[.str q 0]))->cE K H a (ns.map V.int)->sp [.ref a] H (λv _=>v=.bl Â) λ_ _ _=>False)
 (hCX:∀H e s',CX [] H s₁ (λ_ _ _=>False) e s'->False) :
 OR (model P w) S9 (.call (.ref fa) ⟨[.ref a],[]⟩) (λr s'=>r=.ok (.ret (.bool Â))/\OldK s₁.heap s'.heap/\s'.os=s₁.os/\QW s'.gens) s₁:=by
 have rv:=iq hi
 have naT:ts.lookup a=none:=by
  cases e:ts.lookup a with
  |none=>rfl
  |some q=>have:=(hts a q e).1;rw[ha]at this;cases this
 have core:∀H:Hp,(∀b,b≠a->H b=lY ts b)->(H a=Á\/∃o xs,H a=À (.jM o (.lst xs)))->cE K H a (ns.map V.int)->ik P w H s₁.heap->(H a≠Á->K.lookup a=Á) ->
  OR (model P w) S9 (.call (.ref fa) ⟨[.ref a],[]⟩) (λr s'=>r=.ok (.ret (.bool Â))/\OldK s₁.heap s'.heap/\s'.os=s₁.os/\QW s'.gens) s₁:=by
  intro H hH hO hS bJ hK;have tabs:∀p q,ts.lookup p=À q->H p=À (.tbl #[.str q 0]):=λp q e=>by rw[hH p (λz=>by rw[z,naT]at e;cases e)];unfold lY;rw[e];rfl
  have isT:∀b u,H b=À u->b≠a->∃q,ts.lookup b=À q:=λb u e hb=>by
   rw[hH b hb]at e;unfold lY at e;cases z:ts.lookup b with
   |none=>rw[z]at e;cases e
   |some q=>exact⟨q,rfl⟩
  have base_of:∀{b:Ý} {o:ϯ},s₁.heap.get? b=À o->H b=Á->(sJ s₁.heap H).get? b=À o:=λe n=>E2 e n
  have none_of:∀{b:Ý} {o:ϯ},s₁.heap.get? b=À o->o.cls≠.none->(∀xs n,o.data≠.seq xs n)->H b=none:=λ{b o} e hc hd=>by
   cases q:H b with
   |none=>rfl
   |some u =>
    by_cases hba:b=a
    ·subst hba;rw[ha]at e;cases e;exact absurd rfl (hd _ _)
    ·obtain⟨q',z⟩:=isT b u q hba;have:=(hts b q' z).1;rw[e]at this;cases this;exact absurd rfl hc
  have noA:∀{b:Ý} {o:ϯ} {es:Array DictEntry} {ep:Nat},s₁.heap.get? b=À o->o.data=.dict es ep->H b=none:=λ{b o es ep} e d=>by
   cases q:H b with
   |none=>rfl
   |some u =>
    by_cases hba:b=a
    ·subst hba;rw[ha]at e;cases e;have d':QK vs.toArray _=Data.dict es ep:=d;cases d'
    ·obtain⟨q',z⟩:=isT b u q hba;have:=(hts b q' z).1;rw[e]at this;cases this;cases d
  have nsK:∀{b:Ý} {m:ĺ->Option Ù},s₁.heap.Ns b m->(sJ s₁.heap H).Ns b m:=λ{b m} ⟨o,es,ep,e,d,r⟩=>⟨o,es,ep,base_of e (noA e d),d,r⟩
  have hKb:K.In (sJ s₁.heap H):=λb o e=>base_of (KX b o e) (by
   cases q:H b with
   |none=>rfl
   |some u =>
    by_cases hba:b=a
    ·subst hba;rw[hK (by rw[q];simp)]at e;cases e
    ·obtain⟨q',z⟩:=isT b u q hba;rw[(hts b q' z).2.1]at e;cases e)
  have hBm:de mg (sJ s₁.heap H):=by obtain⟨bm,ob,b1,b2,b3,b4,b5,b6⟩:=hbm;exact⟨bm,ob,b1,b2,base_of b3 (none_of b3 (by rw[b4];exact nofun) λxs n z=>by rw[b6]at z;cases z),b4,b5,b6⟩
  have hM:Mod K mg (sJ s₁.heap H):=⟨hKb,nsK hns,⟨mb,nsK hb,hbb⟩,let ⟨mc,h1,h2⟩:=hlim;⟨mc,nsK h1,h2⟩⟩
  have e0:Ig P w K mg (sJ s₁.heap H) S9 [] s₁ H:=⟨rfl,hM,λb o e=>Hn e,ŕ (Ct _ _),trivial,λb hb=>absurd (show b∈([]:List Ý) from hb) (by simp),bJ,.of_eq hg⟩
  refine ϐ ((F _ hKb (nsK hns) hBm).run S9 [] s₁ H ⟨[.ref a],[]⟩ [.ref a] [.ref a] _ _ hr e0 (hbind s₁ (.ref a)) (.cons rfl .nil) (hsp H tabs hS)) λr s' h=>?_;cases r with
  |error e=>exact(hCX H e s' h).elim
  |ok fl =>
   cases fl with
   |next=>exact Ϗ h
   |brk=>exact Ϗ h
   |cont=>exact Ϗ h
   |ret u =>
    obtain⟨v,H',os,bare,un,hok',r',q⟩:=h;have q':v=.bl true:=q;subst q';obtain rfl:u=Value.bool true:=r'
    have kept:∀b o,s₁.heap.get? b=À o->ts.lookup b=Á->s'.heap.get? b=À o:=λb o e hn=>by
     cases q:H b with
     |none=>exact un.keep b o e q (by intro z;exact absurd (show b∈([]:List Ý) from z) (by simp)) (by simp)
     |some u =>
      by_cases hba:b=a
      ·subst hba;rcases hO with z |⟨ob,xs,z⟩
       ·rw[q]at z;cases z
       ·have z2:=un.qP b ob _ z;obtain⟨e1,_⟩:=bJ b _ z;obtain⟨e2,_⟩:=hok' b _ z2;rw[e]at e1;cases e1;exact e2
      ·obtain⟨q',z⟩:=isT b u q hba;rw[hn]at z;cases z
    refine⟨rfl,⟨λb o e=>?_,λb o e=>un.there b o e (by simp)⟩,os,bare⟩;cases ht:ts.lookup b with
    |none=>exact .inl (kept b o e ht)
    |some q =>
     obtain⟨t1,t2,c,t3⟩:=hts b q ht;rw[e]at t1;cases t1;obtain⟨more,e2⟩:=un.pU b _ (tabs b q ht);obtain⟨q2,tk,qs,_,e3,_⟩:=(show cF P w H' s'.heap b (.tbl _) from hok' b _ e2)
     exact .inr (.inl ⟨(t3.tab e).isCodeTable,rfl,#[],qs,rfl,by rw[Array.empty_append];exact e3⟩)
 have tabOk:∀H:Hp,(∀b,b≠a->H b=lY ts b)->∀b u,b≠a->H b=À u->cF P w H s₁.heap b u:=λH hH b u hb e=>by
  rw[hH b hb]at e;unfold lY at e;cases z:ts.lookup b with
  |none=>rw[z]at e;cases e
  |some q =>rw[z]at e;cases e;exact⟨q,0,#[],rfl,(hts b q z).1,trivial,λpos v ev=>by cases ev⟩
 cases hk:K.lookup a with
 |some o =>
  have e:=KX a o hk;rw[ha]at e;cases e;have hHa:lY ts a=none:=by unfold lY;rw[naT];rfl
  exact core (lY ts) (λ_ _=>rfl) (.inl hHa) (.inr ⟨_,vs.toArray,_,hk,rfl,rfl,rfl,by rw[ã,hi.length];exact hl,by simpa using rv⟩) (λb u z=>tabOk _ (λ_ _=>rfl) b u (λw=>by simp_all) z) λz=>absurd hHa z
 |none =>
  refine core (λb=>if b=a then À (.jM {cls:=.type "list", data:=.seq vs.toArray } (.lst (ns.map V.int))) else lY ts b) (λb hb=>if_neg hb) (.inr ⟨_,_,if_pos rfl⟩) (.inl (.inr ⟨{cls:=.type "list", data:=.seq vs.toArray },if_pos rfl⟩)) (λb u z=>?_) λ_=>hk;by_cases hba:b=a
  ·have z':=(if_pos hba).symm.trans z;cases z';subst hba;exact⟨ha,by simp_all,vs,_,rv,ha⟩
  ·exact tabOk _ (λb hb=>if_neg hb) b u hba z
def Dp{l:TK}{K:Params->Í}{CX:Ŷ->Lz}{sp:Ŷ->Sp}(ts:List (Ý×ĺ))
 (hn:l.most=À n) (hn2:n<=Î) (hdf:d.params.defaults=[]) (hr:ej k S9)
 (hY:∀(w:Ŷ) (h:Ő),YP w h->(K w.params).In h)
 (hT:∀(w:Ŷ) (h:Ő),YP w h->∀p q,ts.lookup p=À q->h.get? p=À (RT #[]))
 (hN:∀(w:Ŷ) p q,ts.lookup p=À q->(K w.params).lookup p=Á/\∃c,Pc (K w.params) c p=Â)
 (F:∀(w:Ŷ) (mg:ĺ->Option Ù) (fa:Ý) (h:Ő),(K w.params).In h->h.Ns ĭ mg->mg d.name=À (.ref fa) ->
  ∃fd:QG,(∀(s:ç) (u:Ù),SR s fd ⟨[u],[]⟩ [(x,u)]) /\
   ∀base:Ő,(K w.params).In base->base.Ns ĭ mg->de mg base->ck l.prog w (K w.params) mg base (CX w) k fa fd [x] (sp w))
 (hsp:∀(w:Ŷ) (H:Hp) (a:Ý) (ns:List Int),ns.length<=n->(∀m∈ns,ō m<=1048576)->(∀p q,ts.lookup p=À q->H p=À (.tbl #[.str q 0]))->cE (K w.params) H a (ns.map V.int)->sp w [.ref a] H (λv _=>v=.bl Â) λ_ _ _=>False)
 (hCX:∀(w:Ŷ) (H:Hp) (s:ç) (e:Ù) (s':ç),CX w [] H s (λ_ _ _=>False) e s'->False) :
 Uq q loose XP YP l.row.toRowW d [] (λf vs=>PySem.call f vs):=by
 intro w s₀ s₁ mg mb G Y fa o pm cd doc dV kV ho hd hcd hD hmg hg args vals as hpre hlay hrd hwl hlo;obtain⟨a,vs,ns,rfl,rfl,hobj,hints,hlen⟩:=NQ.BN hn hpre hwl;have KX:=hY w _ Y;obtain⟨fd,hb,hF⟩:=F w mg fa _ KX G.T.g hmg;refine PySem.W.enter_call (ϐ (Ce ts KX G.T.g G.T.b G.T.builtins G.T.nolimit hg G.T.bmain (λp q e=>⟨hT w _ Y p q e,(hN w p q e).1,let ⟨c,h⟩:=(hN w p q e).2;⟨c,R9 KX h⟩⟩) hobj hints (ø hlen hn2) hr hF hb (λH hO hS=>hsp w H a ns hlen (x8 hlay) hO hS) λH e s'=>hCX w H s₁ e s') λr s' hq=>?_);obtain⟨rfl,h2,h3,h4⟩:=hq;exact⟨.inl ⟨.bool Â,.bool Â,[],rfl,λ_=>rfl,.bool Â,NQ.B1 l _,λ_=>⟨Qp,λ_ hm=>(nomatch hm)⟩⟩,h2,h3,h4⟩
end L2
namespace VL
open PySem L2
section
open Classical
section
variable[aV]
def yB(ns:List Int):List Int:=ns.mergeSort λa b=>decide (a<=b)
omit [aV] in
theorem km(ns:List Int):(yB ns).Perm ns:=PH _ _
omit [aV] in
theorem z0(ns:List Int):(yB ns).Pairwise (·<=·):=by have h:=OJ (le:=λa b:Int=>decide (a<=b)) (λa b c h1 h2=>by simp at *;exact ϲ h1 h2) (λa b=>by simp;lia) ns;exact h.imp λh=>by simpa using h
omit [aV] in
theorem tF{xs ns:List Int}(p:xs.Perm ns)(h:xs.Pairwise (·<=·)):xs=yB ns :=
 Ν (λa b _ _ h1 h2=>by lia) h (z0 ns) (p.trans (km ns).symm)
end
end
end VL
namespace L2
open PySem PySem.Spec PyProof.Rows
def gB.Oj{K:Í}{st:Ű}(F:gB K x qual st f fd)(S:aL N ps (av st))(len:∀vs H Q E,sp vs H Q E->vs.length=ps.length)
 (hbody:∀(cdv:Ù),fd.code=cdv->∀(A:Ŝ) (outer:List Ux) (s:ç) (H:Hp) (vs:List V) (Q:VK) (E:XK),ej k (A.deeper (QZ qual (av st) s.heap.objs.size f cdv))->sp vs H Q E ->
  ∃t,wd (sQ gE P w K mg base N qual (av st) f cdv A outer s H E).Ga (dW st) t/\t {nx:=λ_ H'=>Q .non H',rt:=Q } (start N vs) H):ck P w K mg base gE (k+1) f fd ps sp:=by
 obtain⟨oc,od,kV,doc,pm,an,cdv,ct,osl,rfl,lk,hcd⟩:=F.ex;refine IU lk hcd S len λA outer s H vs Q E hr hsp=>?_;obtain⟨t,h,q⟩:=hbody cdv rfl A outer s H vs Q E hr hsp;exact⟨t,h.Ga,q⟩
end L2
namespace PySem.SeqAt
open AutoSeq1 (wpAny_loadPart')
section
open MeetsSeq MeetsSeq2 MeetsSeq3
def CO(A:Ŝ)(s:ç)(y x:Ù)(b:Bool):Prop :=
 ∀(prog:Δ) (w:Ŷ) (E:Ù->ç->Prop) (Q:Ù->ç->Prop),Q (.bool b) s->í (model prog w) A (richCompare .Lt y x) Q E s
def gS(e l:Nat->Bool)(fin:Bool):Nat->Nat->Bool
 | 0,_=>fin
 |k+1,i=>if e i=Â then gS e l fin k (i+1) else l i
def B9(l b:Ý)(items items2:Array Ù)(n n2:Nat)(dd dd2:Option Ý)(sl sl2:Array (Option Ù))(e lt:Nat->Bool)(k:Nat) :
 ∀i:Nat,i<=min items.size items2.size->min items.size items2.size-i=k->Meets (ŭ.«list.__eq__.loop» ⟨[.ref l,.ref b,ũ i,ũ 0],[]⟩)
  (λA R s=>s.heap.get? l=À {cls:=.type "list", dict:=dd,data:=.seq items n,slots:=sl }/\s.heap.get? b=À {cls:=.type "list", dict:=dd2,data:=.seq items2 n2,slots:=sl2 } /\
   (∀j (h1:j<items.size) (h2:j<items2.size),EqAt A.in1 s items[j] items2[j] (e j))/\(∀j (h1:j<items.size) (h2:j<items2.size),e j=Ã->CO A.in1 s items[j] items2[j] (lt j)) /\
   R (.ok (.ret (.bool (gS e lt (decide (items.size<items2.size)) k i)))) s):=by
 induction k with
 |zero =>
  intro i hi hk prog w A R s h;obtain⟨hp,g,d,tk,os⟩:=s;obtain⟨hl,hb,he,hlt,h⟩:=h;wp_walk using Ĉ hl,Ĉ hb;by_cases hc:items.size<=i
  ·have hi1:items[((i:Nat):Int).toNat]?=none:=by simp;exact hc
   rw[hi1];wp_walk using Ĉ hl,Ĉ hb;exact h
  ·have hi2:items2[((i:Nat):Int).toNat]?=none:=by simp;lia
   have hi1:items[((i:Nat):Int).toNat]?=À (items[i]'(O9.1 hc)):=by simp
   rw[hi1,hi2];wp_walk using Ĉ hl,Ĉ hb;exact h
 |succ k ih =>
  intro i hi hk prog w A R s h;obtain⟨hp,g,d,tk,os⟩:=s;obtain⟨hl,hb,he,hlt,h⟩:=h;wp_walk using Ĉ hl,Ĉ hb;have hlt1:i<items.size:=by lia
  have hlt2:i<items2.size:=by lia
  have hi1:items[((i:Nat):Int).toNat]?=À items[i]:=by simp[hlt1]
  have hi2:items2[((i:Nat):Int).toNat]?=À items2[i]:=by simp[hlt2]
  have hc:((i:Int)+1)=((i+1:Nat):Int):=by push_cast;rfl
  unfold gS at h;rw[hi1,hi2];refine È (he i hlt1 hlt2 prog w _ _ ?_);cases hb':e i with
  |true =>rw[hb',if_pos rfl]at h;wp_walk;rw[hc];exact⟨ő plain_eq_loop _,Ĵ entry_eq_loop (by rw[Ś plain_eq_loop _];exact ih (i+1) (by lia) (by lia) prog w A R _ ⟨hl,hb,he,hlt,h⟩)⟩
  |false =>rw[hb',if_neg ñ]at h;wp_walk using Ĉ hl,Ĉ hb;rw[hi1,hi2];dsimp only;refine È (hlt i hlt1 hlt2 hb' prog w _ _ ?_);wp_walk;exact h
def Cb(l b:Ý)(items items2:Array Ù)(n n2:Nat)(dd dd2:Option Ý)(sl sl2:Array (Option Ù))(e lt:Nat->Bool) :
 Meets (ŭ.«list.__lt__» ⟨[.ref l,.ref b],[]⟩)
  (λA R s=>s.heap.get? l=À {cls:=.type "list", dict:=dd,data:=.seq items n,slots:=sl }/\s.heap.get? b=À {cls:=.type "list", dict:=dd2,data:=.seq items2 n2,slots:=sl2 } /\
   (∀j (h1:j<items.size) (h2:j<items2.size),EqAt A.in1 s items[j] items2[j] (e j))/\(∀j (h1:j<items.size) (h2:j<items2.size),e j=Ã->CO A.in1 s items[j] items2[j] (lt j)) /\
   R (.ok (.ret (.bool (gS e lt (decide (items.size<items2.size)) (min items.size items2.size) 0)))) s):=by
 intro prog w A R s h;obtain⟨hp,g,d,tk,os⟩:=s;obtain⟨hl,hb,he,hlt,h⟩:=h;have f3:=Q7;wp_walk using Ĉ hl,Ĉ hb;exact⟨ő plain_eq_loop _,Ĵ entry_eq_loop (by exact B9 l b items items2 n n2 dd dd2 sl sl2 e lt _ 0 (Ą _) rfl prog w A R _ ⟨hl,hb,he,hlt,h⟩)⟩
section
def CO.ints(a b:Int)(t u:Tok):CO A s (.int a t) (.int b u) (decide (a<b)):=λprog w E Q h=>R8 h
end
end
def yV(hl:s.heap.IsList l items)(hb:s.heap.IsList b items2)(hu:A.units<O7)
 (he:∀j (h1:j<items.size) (h2:j<items2.size),EqAt A.in1 s items[j] items2[j] (e j)) (hlt:∀j (h1:j<items.size) (h2:j<items2.size),e j=Ã->CO A.in1 s items[j] items2[j] (lt j)) (h:Q (gS e lt (decide (items.size<items2.size)) (min items.size items2.size) 0) s) :
 í (model prog w) A (PyProof.Rows.oneLt' Â (.ref l) (.ref b)) Q E s:=by
 obtain⟨⟨cls,dd,data,sl⟩,ho,hc,n,hd⟩:=id hl;obtain⟨⟨cls2,dd2,data2,sl2⟩,ho2,hc2,n2,hd2⟩:=id hb;subst hc hd hc2 hd2;exact È (wpAny_cRoomFor hu (È (wpAny_callSpecialIfBound?_slot ⟨_,ho,rfl⟩ F.slot_list_lt (Q3 F.slot_list_lt ⟨_,ho,rfl⟩ F.entry_list_lt (F.args_list_lt_2 _ _) (Cb l b items items2 n n2 dd dd2 sl sl2 e lt) ⟨ho,ho2,he,hlt,Ŭ h⟩))))
end PySem.SeqAt
namespace L2
open PySem PySem.Spec PyProof.Rows
theorem oH(ds es:List Int):∀k i,i<=min ds.length es.length->min ds.length es.length-i=k->SeqAt.gS (λj=>ds.getD j 0==es.getD j 0) (λj=>decide (ds.getD j 0<es.getD j 0)) (decide (ds.length<es.length)) k i=lexLt (ds.drop i) (es.drop i)
 | 0,i,hi,hk=>by
  unfold SeqAt.gS;by_cases h1:ds.length<=es.length
  ·have e1:ds.drop i=[]:=Ź (by lia);rw[e1];by_cases h2:ds.length<es.length
   ·rw[ó (show i<es.length by lia),decide_eq_true h2];rfl
   ·rw[(Ź (by lia)),decide_eq_false h2];rfl
  ·rw[(Ź (by lia):es.drop i=[]),ó (by lia),decide_eq_false (by lia)];rfl
 |k+1,i,hi,hk=>by
  have h1:i<ds.length:=by lia
  have h2:i<es.length:=by lia
  unfold SeqAt.gS;rw[ó h1,ó h2,oH ds es k (i+1) (by lia) (by lia)];rw[(by simp_all:ds.getD i 0=ds[i]),(by simp_all:es.getD i 0=es[i])];show _=if ds[i]=es[i] then lexLt (ds.drop (i+1)) (es.drop (i+1)) else decide (ds[i]<es[i])
  ·simp
def MC(H:Hp)(ps:List Ý)(zs:List (List Int)):Prop:=Ł (λp z=>Rd H p (.lst (z.map V.int))) ps zs
noncomputable def Ej(K:Í):List V->Hp->VK->Prop:=λxs H Q=>∃(a:Ý) (ps:List Ý) (zs:List (List Int)),xs=[.ref a]/\cE K H a (ps.map V.ref)/\MC H ps zs/\2<=zs.length/\zs.length<800 /\
 ∀idx:List Nat,idx.Perm (ê zs.length)->(idx.Pairwise λi j=>lexLt (zs.getD j []) (zs.getD i [])=Ã)->∀D,H D=Á->Q (.ref D) (upd H D (.lst (idx.map λi=>V.ref (ps.getD i 0))))
def zw{K:Í}(hK:X.K=K)(hx:X.ex=[])(hr:ej k X.A):cG X (.builtin "sorted") (Ej K):=by
 subst hK;intro pins s Y H xs us Q I r h;obtain⟨a,ps,zs,rfl,hq,tz,h2,h64,q⟩:=h;cases r with
 |cons r1 r =>
  cases r;cases (show _=Č a from r1);obtain⟨its,rv,pl,_⟩:=I.list hq;have ei:=Af rv;subst ei;have hl:ps.length=zs.length:=ň tz;have at_:∀i,i<zs.length->∃p z,ps[i]?=À p/\zs[i]?=À z/\Rd H p (.lst (z.map V.int)):=λi hi=>by obtain⟨p,e1,g1⟩:=VL.Paired.E6 tz (É hi);exact⟨p,_,e1,É hi,g1⟩
  have eqz:∀{p:Ý} {y z:List Int},Rd H p (.lst (y.map V.int))->Rd H p (.lst (z.map V.int))->y=z:=λ{p y z} a b=>by
   obtain⟨_,us,n,k1,_,o1⟩:=I.mB a;obtain⟨_,us',n',k1',_,o1'⟩:=I.mB b;rw[o1]at o1';have eu:us=us':=by injection o1' with q;injection q with _ _ q;injection q with q _;exact Tu q
   subst eu;exact xr (intsAre_of k1) (intsAre_of k1')
  have it:∀(h':Ő),(∀b o,s.heap.get? b=À o->h'.get? b=À o)->∀i,i<zs.length->∃p z us n,ps[i]?=À p/\zs[i]?=À z/\h'.get? p=À {cls:=.type "list", data:=.seq us.toArray n }/\Ŧ us z:=λh' kp i hi=>by obtain⟨p,z,e1,e2,g⟩:=at_ i hi;obtain⟨_,us,n,k1,_,o1⟩:=I.mB g;exact⟨p,z,us,n,e1,e2,kp _ _ o1,intsAre_of k1⟩
  have gat:∀i p,ps[i]?=À p->(ps.map Č).getD i Ŋ=.ref p:=λi p e=>by rw[Ë,Ö,e];rfl
  have zat:∀i z,zs[i]?=À z->zs.getD i []=z:=λi z e=>by rw[Ë,e];rfl
  have hline:Î=16777216:=ă;refine Tm.BJ (vs:=ps.map Č) (lt:=λi j=>lexLt (zs.getD i []) (zs.getD j [])) pl.isList (by rw[Ê];exact hl ▸ h2) (by rw[Ê];lia) (λg kp=>⟨Ub,λQ' hq=>PySem.W.kas_kind (T:=.type "list") (by rw[Ê];exact hl ▸ h2) (λv hv=>?_) (by decide) (by decide) hq,AE λi=>zs.getD i [],λi j hi hj e=>?_,λi j C hi hj hC=>?_⟩) λp g D c pm up big hD kp=>?_
  ·obtain⟨p,hp,rfl⟩:=ò.mp hv;obtain⟨i,hi,rfl⟩:=Pm.mp hp;obtain⟨p',z,us,n,e1,e2,o1,_⟩:=it g kp i (hl ▸ hi);rw[É hi]at e1;cases e1;exact(PySem.W.Looks.ld o1).andThen PySem.W.Looks.now
  ·rw[Ê]at hi hj;obtain⟨p,z,e1,e2,r1⟩:=at_ i (hl ▸ hi);obtain⟨p',z',e1',e2',r1'⟩:=at_ j (hl ▸ hj);rw[gat i p e1,gat j p' e1']at e;cases e;intro k;rw[zat i z e2,zat j z' e2',eqz r1 r1'];exact⟨rfl,rfl⟩
  ·rw[Ê]at hi hj;obtain⟨p,z,us,n,e1,e2,k1,k4⟩:=it g kp i (hl ▸ hi);obtain⟨p',z',us',n',e1',e2',k1',k4'⟩:=it g kp j (hl ▸ hj);rw[gat i p e1,gat j p' e1'];rw[zat i z e2,zat j z' e2']at hC;have l1:=O3 k4;have l2:=O3 k4';rw[PyProof.Rows.keyLt'_oneType]
   have iat:∀{us:List Ù} {z:List Int},Ŧ us z->∀j (h:j<us.toArray.size),∃t,us.toArray[j]=.int (z.getD j 0) t:=λ{us z} k j h=>by
    have rk:=iq k;have hj:j<z.length:=by rw[ã]at h;have:=O3 k;exact this ▸ h
    have e:(z.map V.int)[j]?=À (.int (z.getD j 0)):=by rw[Ö,Ë,É hj];rfl
    obtain⟨u,eu,t,rfl⟩:=rk.get e;refine⟨t,?_⟩;have:us[j]?=À us[j]:=É (by simpa using h);rw[this]at eu;simpa using eu
   refine SeqAt.yV (items:=us.toArray) (items2:=us'.toArray) (e:=λj=>z.getD j 0==z'.getD j 0) (lt:=λj=>decide (z.getD j 0<z'.getD j 0)) ⟨_,k1,rfl,_,rfl⟩ ⟨_,k1',rfl,_,rfl⟩ (by have:=hr.un;show X.A.units+1+1 < _;lia) (λj h1 h2=>?_) (λj h1 h2 _=>?_) ?_
   ·obtain⟨t,e⟩:=iat k4 j h1;obtain⟨t',e'⟩:=iat k4' j h2;rw[e,e'];exact Qb _ t _ t'
   ·obtain⟨t,e⟩:=iat k4 j h1;obtain⟨t',e'⟩:=iat k4' j h2;rw[e,e'];exact SeqAt.CO.ints _ _ t t'
   ·rw[ã,ã,l1,l2,oH z z' (min z.length z'.length) 0 (Ą _) rfl];exact hC
  ·rw[Ê,hl]at pm;have lt_:∀i∈p,i<zs.length:=λi hi=>ö.mp (pm.mem_iff.mp hi);have hlen:p.length=zs.length:=by rw[pm.length_eq,Ę]
   have eo:(p.map λi=>(ps.map Č).getD i Ŋ)=(p.map λi=>ps.getD i 0).map Č:=by
    rw[ë];refine ę λi hi=>?_;have h1:i<ps.length:=by rw[hl];exact lt_ i hi
    rw[gat i _ (É h1)];show _=Č (ps.getD i 0);rw[Ë,É h1];rfl
   rw[eo]at hD;exact⟨.ref D,_,(I.laid (a:=D) (o:=.lst (p.map λi=>V.ref (ps.getD i 0))) (t':=s.toks) kp big ⟨by rw[Ê,hlen];lia,(p.map λi=>ps.getD i 0).map Č,c,by rw[(by rw[ë];rfl:(p.map λi=>V.ref (ps.getD i 0))=(p.map λi=>ps.getD i 0).map V.ref)];exact sY _,hD⟩),rfl,q p pm up D (I.bJ.fresh big)⟩
def IE(K:Í):List V->Hp->VK->Prop:=λxs H Q=>Ej K xs H Q\/JX K xs H Q
def CJ{K:Í}(hK:X.K=K)(hx:X.ex=[])(hr:ej k X.A):cG X (.builtin "sorted") (IE K):=cG.or (zw hK hx hr) (xY hK)
end L2
namespace VL
open PySem L2
section
open Classical
section
variable[aV]
def iD(z:List Int):D:=.lst (z.map D.int)
omit [aV] in
theorem EG(a b:List Int)(h:iD a=iD b):a=b:=by unfold iD at h;injection h with h;exact lu h
def rg(a:DE):aW->Option (List D):=λO=>match asL a O with
 |some ds=>if h:∃zs:List (List Int),ds=zs.map iD/\zs.length<800 then À ((kH h.choose).map iD) else Á
 |none=>Á
omit [aV] in
theorem Fl{a:DE}{O:aW}{zs:List (List Int)}(e:asL a O=À (zs.map iD))(hl:zs.length<800):rg a O=À ((kH zs).map iD):=by
 have h:∃zs':List (List Int),zs.map iD=zs'.map iD/\zs'.length<800:=⟨zs,rfl,hl⟩
 unfold rg;rw[e];show (if h:∃zs':List (List Int),zs.map iD=zs'.map iD/\zs'.length<800 then À ((kH h.choose).map iD) else Á)=_;rw[dif_pos h,<-(List.map_inj_right EG).mp h.choose_spec.1]
omit [aV] in
theorem zr{a:DE}{O:aW}{ds:List D}(q:rg a O=À ds):∃zs,asL a O=À (zs.map iD)/\zs.length<800/\ds=(kH zs).map iD:=by
 unfold rg at q;split at q
 ·rename_i es e;split at q
  ·rename_i h;cases q;exact⟨h.choose,by rw[e];exact congrArg À h.choose_spec.1,h.choose_spec.2,rfl⟩
  ·cases q
 ·cases q
def ET(k:IsL K H T vs (zs.map iD)):∃ps:List Ý,vs=ps.map V.ref/\MC H ps zs:=by
 induction zs generalizing vs with
 |nil=>cases k;exact⟨[],rfl,.nil⟩
 |cons z zs ih =>
  cases k with
  |cons h r =>obtain⟨ps,rfl,hp⟩:=ih r;obtain⟨p,us,rfl,hz,hr,hl,i⟩:=h.t5;have e:=IsL.ints i;subst e;exact⟨p::ps,rfl,.cons hr hp⟩
omit [aV] in
theorem DU{zs:List (List Int)}{idx:List Nat}(pm:idx.Perm (ê zs.length))(up:idx.Pairwise λi j=>L2.lexLt (zs.getD j []) (zs.getD i [])=Ã):idx.map (λi=>zs.getD i [])=kH zs:=by
 refine tx ?_ ?_
 ·have:=pm.map λi=>zs.getD i [];rw[range_getD]at this;exact this
 ·exact Ī.mpr up
omit [aV] in
theorem DV{zs:List (List Int)}(h:¬ 2<=zs.length):zs=kH zs:=by
 refine tx (RN _) ?_
 match zs,h with
 |[],_=>exact .nil
 |[z],_=>exact .cons (λ_ h=>by cases h) .nil
 |_::_::_,h=>exact absurd (by simp) h
def Cp{ps:List Ý}{zs:List (List Int)}(il:IsL K H T (ps.map V.ref) (zs.map iD)){idx:List Nat}(hi:∀i∈idx,i<zs.length):IsL K H T (idx.map λi=>V.ref (ps.getD i 0)) ((idx.map λi=>zs.getD i []).map iD):=by
 have hl:=il.length;have:=AR il (idx:=idx) λi h=>by simp_all
 have e1:(idx.map λi=>(ps.map V.ref).getD i .non)=idx.map λi=>V.ref (ps.getD i 0):=ę λi h=>by simp_all
 have e2:(idx.map λi=>(zs.map iD).getD i .non)=(idx.map λi=>zs.getD i []).map iD:=by simp_all
 rw[e1,e2]at this;exact this
def GD(ha:FL K ta a):o5 K Ã (t6 K (wc (IE K) (a9 ta dv))) (rg a):=λ{B Z os O Y H R ds} f q k=>by
 obtain⟨zs,e,hl,rfl⟩:=zr q;obtain⟨d,e,ed⟩:=cu e;refine ha f e λv H1 s1 i1=>?_;obtain⟨p,vs,rfl,hlv,hn,hr⟩:=i1.seq ed;obtain⟨hqB,ilB⟩:=hr B No Kp.refl;obtain⟨hq,il⟩:=hr H1 No (Kp.same (f.keep.trans s1));obtain⟨ps,rfl,hp⟩:=ET il;have hs:=ă
 have new:∀(D:Ý) (vs':List V),H1 D=Á->IsL K B No vs' ((kH zs).map iD)->∃q,V.ref D=.ref q/\(∃xs,cE K (upd H1 D (.lst vs')) q xs)/\R (MV K q) (upd H1 D (.lst vs')):=λD vs' hD il'=>by
  refine⟨D,rfl,⟨vs',cE.of az⟩,k _ _ (s1.trans (bq hD)) (nh (by rw[Ê,(fO zs).length_eq];lia) (λH2 T2 kp sb=>?_) il'.length λH2 T2 i v d kp sb e1 e2=>?_)⟩
  ·exact cE.of (kp D _ az λz=>by obtain⟨o,e⟩:=(f.grow s1).Ij D z;rw[hD]at e;cases e).1
  ·obtain⟨v',g1,i2⟩:=il'.get e2;rw[e1]at g1;cases g1;exact i2
 by_cases h2:2<=zs.length
 ·refine .inl ⟨p,ps,zs,rfl,hq,hp,h2,hl,λidx pm up D hD=>?_⟩;have il2:=Cp ilB λi hi=>ö.mp (pm.mem_iff.mp hi);rw[DU pm up]at il2;exact new D _ hD il2
 ·refine .inr ⟨p,ps.map V.ref,rfl,hq,by simp_all,λD hD=>new D _ hD ?_⟩;rw[<-DV h2];exact ilB
end
end
section
open Classical
section
variable[aV]
def Nq(cs:List Nat)(O:aW)(d:D):aW:=(r0 1 cs O).set 0 (.bo d)
def rS{α:Type}(kf:α->List Int)(xs:List α):List α:=xs.mergeSort λx y=>!L2.lexLt (kf y) (kf x)
omit [aV] in
theorem nu{α:Type}(kf:α->List Int)(xs:List α):(rS kf xs).Perm xs:=PH _ _
omit [aV] in
theorem z5{α:Type}(kf:α->List Int)(xs:List α):(rS kf xs).Pairwise λa b=>L2.lexLt (kf b) (kf a)=false:=by
 have h:=OJ (le:=λx y=>!L2.lexLt (kf y) (kf x)) (λa b c h1 h2=>by
  rw[S8]at h1 h2 ⊢;exact vD _ _ _ h1 h2) (λa b=>by
  cases e:L2.lexLt (kf b) (kf a)with
  |false=>rfl
  |true=>simp[vE _ _ e]) xs
 exact h.imp λh=>by simpa using h
omit [aV] in
theorem Ay{α:Type}{kf:α->List Int}:∀{xs:List α},(xs.map kf).Nodup->∀{a b:α},a∈xs->b∈xs->kf a=kf b->a=b
 |d::ds,h,a,b,ha,hb,e=>by
  rw[Ā]at h;obtain⟨h1,h2⟩:=ā.mp h;rcases Ú.mp ha with ea |ha2
  ·rcases Ú.mp hb with eb |hb2
   ·rw[ea,eb]
   ·exact absurd (show kf d∈ds.map kf from ò.mpr ⟨b,hb2,by rw[<-e,ea]⟩) h1
  ·rcases Ú.mp hb with eb |hb2
   ·exact absurd (show kf d∈ds.map kf from ò.mpr ⟨a,ha2,by rw[e,eb]⟩) h1
   ·exact Ay h2 ha2 hb2 e
omit [aV] in
theorem nr{α:Type}{kf kg:α->List Int}{xs ds:List α}(hk:∀d∈ds,kf d=kg d)(hn:(ds.map kf).Nodup)(p:xs.Perm ds)(h:xs.Pairwise λa b=>L2.lexLt (kg b) (kg a)=Ã):xs=rS kf ds:=by refine Ν (le:=λa b=>L2.lexLt (kf b) (kf a)=Ã) (λa b ha hb h1 h2=>Ay hn (p.mem_iff.mp ha) ((nu kf ds).mem_iff.mp hb) (y9 _ _ h2 h1)) ?_ (z5 kf ds) (p.trans (nu kf ds).symm);refine ŧ (λ{a b} ha hb z=>?_) h;rw[hk a (p.mem_iff.mp ha),hk b (p.mem_iff.mp hb)];exact z
@[irreducible] noncomputable def qk(i:Nat)(cs:List Nat)(e:DE):DS:=λO=>match O.getD i .un with
 |.om rows=>if h:∃kf:List D->List Int,(∀r∈rows,e (Nq cs O (.lst r))=À (Du (kf r))/\kf r≠[])/\(rows.map kf).Nodup/\rows.length<800 then .rt (cS (rS h.choose rows)) else .no
 |_=>.no
omit [aV] in
theorem Dc{O:aW}{i:Nat}{cs:List Nat}{e:DE}{rows:List (List D)}{W:Wk}(kf:List D->List Int)(h0:O.getD i .un=.om rows)(hk:∀r∈rows,e (Nq cs O (.lst r))=À (Du (kf r))/\kf r≠[])(hn:(rows.map kf).Nodup)(hl:rows.length<800)(k:W.rt (cS (rS kf rows))):Wp (qk i cs e) O W:=by
 have hh:∃kf:List D->List Int,(∀r∈rows,e (Nq cs O (.lst r))=À (Du (kf r))/\kf r≠[])/\(rows.map kf).Nodup/\rows.length<800:=⟨kf,hk,hn,hl⟩
 have es:rS hh.choose rows=rS kf rows:=by refine nr (kg:=hh.choose) (λd hd=>?_) hn (nu _ _) (z5 _ _);have h1:=(hk d hd).1;rw[(hh.choose_spec.1 d hd).1]at h1;exact(Dt _ _ (þ h1)).symm
 unfold Wp qk;rw[h0];dsimp only;rw[dif_pos hh,es];exact k
def DP (hP:(P,q)∈aV.ts) (he:aN K te e):SemS .m K (DC (DB K P q (tVar i) te cs)) (qk i cs e):=fun {B Z os O Y H E} f p=>by
  unfold qk at p;split at p
  · rename_i rows e0;split at p
    · rename_i hh;obtain⟨hk,hn,hl⟩:=hh.choose_spec;generalize hh.choose=kf at *;obtain⟨a,ps,eo,hu,hH,hls,hpl,pr⟩:=Av f e0;have hs:Î=16777216:=ă;obtain⟨t,eP⟩:=f.lY _ hP;refine⟨_,join_some hu,a,ps.map V.ref,_,t,rfl,cE.of hH,by rw[Ê];exact hpl ▸ hl,eP,rfl,λH2 gr=>?_⟩;have hnd:=f.nd i;rw[eo]at hnd;obtain⟨hna,hnp⟩:=ā.mp hnd;have hin:∀q∈ps,q∈os i:=λq hq=>by rw[eo];exact Ñ _ hq
      have key:∀(r:List Ý) (rr dd:List (List D)) (pk:List Ý) (H3:Hp),aH H H3->Ł (λp ds=>∃vs,H p=À (.lst vs)/\vs.length<=Î/\IsL K H (bD Z os) vs ds) r rr->dd++rr=rows->Li H3 pk (dd.map kf)->oJ te (cs.map λi=>(Y[i]?).join) (CP (ps.map V.ref) E.rt) (r.map V.ref) (pk.map V.ref) H3:=by
        intro r;induction r with
        |nil =>
          intro rr dd pk H3 s3 pr3 hd tz;cases pr3;rw[ě]at hd;subst hd;refine⟨pk,dd.map kf,rfl,tz,λidx pm up Dn hD=>?_⟩;rw[Ê]at pm;have lt_:∀i∈idx,i<dd.length:=λi hi=>ö.mp (pm.mem_iff.mp hi);have er:∀{α:Type} (l:List α) (d:α),(ê l.length).map (λi=>l.getD i d)=l:=λl d=>by refine Τ (by simp) λi h1 h2=>?_;simp[h2]
          have ex:idx.map (λi=>dd.getD i [])=rS kf dd:=by
            refine nr (kg:=kf) (λ_ _=>rfl) hn ?_ ?_
            · have:=pm.map λi=>dd.getD i [];rw[er]at this;exact this
            · rw[Ī];refine ŧ (λ{i j} hi hj z=>?_) up;have gi:∀i,i<dd.length->(dd.map kf).getD i []=kf (dd.getD i []):=λi hi=>by rw[Ë,Ö,É hi,Ë,É hi];rfl
              rw[gi _ (lt_ i hi),gi _ (lt_ j hj)]at z;exact z
          have ep:(idx.map λi=>(ps.map V.ref).getD i .non)=(idx.map λi=>ps.getD i 0).map V.ref:=by rw[ë];exact ę λi hi=>by have:=lt_ i hi;show (ps.map V.ref).getD i .non=V.ref (ps.getD i 0);rw[Ë,Ö,É (hpl ▸ this),Ë,É (hpl ▸ this)];rfl
          have pp:(idx.map λi=>ps.getD i 0).Perm ps:=by have:=pm.map λi=>ps.getD i 0;rw[<-hpl,er]at this;exact this
          have hHD:H Dn=none:=aH.free s3 hD;have hBD:B Dn=none:=aH.free f.keep hHD;have hDp:Dn∉idx.map λi=>ps.getD i 0:=λz=>by have:=pp.mem_iff.mp z;obtain⟨j,hj,e'⟩:=Pm.mp this;obtain⟨x',ex0,vs',hv,_⟩:=VL.Paired.E6 pr (É (show j<dd.length from hpl ▸ hj));rw[É hj,e']at ex0;rw[<- þ ex0]at hv;rw[hHD]at hv;cases hv
          refine p _ _ (f.keep.trans (s3.trans (bq hD))) ⟨Dn,idx.map λi=>ps.getD i 0,rS kf dd,rfl,rfl,hBD,λx hx=>(f.new i x (hin x (pp.mem_iff.mp hx))).1,ā.mpr ⟨hDp,pp.nodup_iff.mpr hnp⟩,by rw[ep];exact az,by rw[pp.length_eq];exact hls,?_⟩;rw[<-ex]
          have pick:∀(l:List Nat),(∀i∈l,i<dd.length)->Ł (λx ds=>∃vs,upd H3 Dn (.lst (idx.map λi=>(ps.map V.ref).getD i .non)) x=À (.lst vs)/\vs.length<=Î/\IsL K (upd H3 Dn (.lst (idx.map λi=>(ps.map V.ref).getD i .non))) (λb=>(b=Dn\/b∈idx.map λi=>ps.getD i 0)\/Z b) vs ds) (l.map λi=>ps.getD i 0) (l.map λi=>dd.getD i []):=by
            intro l;induction l with
            |nil=>intro _;exact .nil
            |cons j l ih =>
              intro hl';have hj:=hl' j Ò;obtain⟨x,ex',vs,h1,h2,h3⟩:=VL.Paired.E6 pr (É hj);refine .cons ?_ (ih λi hi=>hl' i (Ñ _ hi));have e1:ps.getD j 0=x:=by rw[Ë,ex'];rfl
              have e2:dd.getD j []=dd[j]:=by rw[Ë,É hj];rfl
              dsimp only;rw[e1,e2]
              have kp:Kp (bD Z os) H (λb=>(b=Dn\/b∈idx.map λi=>ps.getD i 0)\/Z b) (upd H3 Dn (.lst (idx.map λi=>(ps.map V.ref).getD i .non))):=λb o hb nb=>by
                have nD:b≠Dn:=λz=>by rw[z,hHD]at hb;cases hb
                refine⟨by rw[upd_ne nD];exact s3 _ _ hb,λz=>?_⟩;rcases z with(z |z) |z
                · exact nD z
                · exact nb (.inr ⟨i,hin b (pp.mem_iff.mp z)⟩)
                · exact nb (.inl z)
              have nx:x≠Dn:=λz=>by rw[z,hHD]at h1;cases h1
              exact⟨vs,by rw[upd_ne nx];exact s3 _ _ h1,h2,h3.kp kp⟩
          exact pick idx lt_
        |cons x r ih =>
          intro rr dd pk H3 s3 pr3 hd tz;cases pr3 with
          |@cons _ d _ rr' g pr' =>
            obtain⟨vs,h1,h2,h3⟩:=g;have hdm:d∈rows:=by rw[<-hd];exact Ô _ Ò
            have hg:sU K Ã (fz 0) (gN Ã 0):=aE 0;refine hg (Q:=fun σ2 H2=>te σ2 H2 λk H'=>FW H3 H'/\oJ te (cs.map λi=>(Y[i]?).join) (CP (ps.map V.ref) E.rt) (r.map V.ref) (pk.map V.ref++[k]) H') (x6 (k:=1) (cs:=cs) f s3 (λa z=>let ⟨o,e⟩:=f.Ij a z;⟨o,s3 _ _ e⟩) (Kp.same s3)) (.lst (λz=>z) (.inl h1) h2 (h3.kp (Kp.less λ_ z=>z.elim))) (rfl) λos1 σ1 fr1 _=>he fr1 (hk d hdm).1 λu H4 s4 i4=>⟨s4,?_⟩
            obtain⟨p4,us,rfl,_,hr4,_,iu⟩:=(i4).isTup;have eu:=IsL.ints iu;subst eu;rw[(by simp:pk.map V.ref++[V.ref p4]=(pk++[p4]).map V.ref)];apply ih rr' (dd++[d]) (pk++[p4]) H4 (s3.trans s4) pr' (by simp_all);rw[î];exact Paired.append (Paired.mono tz λp z _ hz=>⟨hz.1,s4 _ _ hz.2⟩) (.cons ⟨(hk d hdm).2,hr4⟩ .nil)
      exact key ps rows [] [] H2 gr pr rfl .nil
    · exact p.elim
  · exact p.elim
end
end
section
open Classical
section
variable[aV]
def gB.Ng(F:gB K x qual st f fd)(S:aL N ps (av st))(ms:List Bool)(hms:ms.length=ps.length)(b:DS)
 (hbody:∀(cdv:Ù),fd.code=cdv->∀(A:Ŝ) (outer:List Ux) (s:ç) (H:Hp) (E:XK),ej k (A.deeper (ϸ qual (av st) s.heap.objs.size f cdv)) ->
  ∃t,wd (sQ gE P w K mg base N qual (av st) f cdv A outer s H E).Ga (dW st) t/\SemS fr K t b) (hfr:∀E C,fr≠.x E C:=by intro _ _ h;cases h):ck P w K mg base gE (k+1) f fd ps (jJ fr K ms (jE N.length ms b)):=by
 refine L2.gB.Oj F S (λvs H Q E h=>?_) λcdv hcd A outer s H vs Q E hr h=>?_
 ·obtain⟨Z,ds,d,hz,a,_⟩:=h;rw[a.len.1,hms]
 ·obtain⟨Z,ds,d,hz,a,e,k⟩:=h;obtain⟨t,h1,h2⟩:=hbody cdv hcd A outer s H E hr;refine⟨t,h1,h2 (o7 hz a) ?_⟩;unfold jE at e;split at e
  ·rename_i d' e1;cases e;rw[e1];cases fr with
   |v=>exact λv H' s' i=>k v H' s' i
   |l=>exact λv H' s' i=>k v H' s' i
   |m=>exact λv H' s' i=>k v H' s' i
   |x E0 C=>exact absurd rfl (hfr E0 C)
  ·cases e
end
end
end VL
namespace L2
open PySem PySem.Spec PyProof.Rows VL
def Rs(xs:Array Nat):Prop:=xs.toList.Pairwise (· < ·)
def Rs.lt(h:Rs xs)(hij:i<j)(hj:j<xs.size):xs[i]'(ϒ hij hj)<xs[j]:=by have:=(Ť.mp h) i j (by simp;exact ϒ hij hj) (by simpa using hj) hij;simpa using this
theorem rB(h:Rs xs)(j:Nat):∀(f lo hi:Nat),hi-lo<=f->lo<=hi->hi<=xs.size->(∀k,(hk:k<xs.size)->k<lo->xs[k]<j)->(∀k,(hk:k<xs.size)->hi<=k->j<=xs[k]) ->
 O4 xs j f lo hi<=xs.size/\(∀k,(hk:k<xs.size)->k<O4 xs j f lo hi->xs[k]<j)/\∀k,(hk:k<xs.size)->O4 xs j f lo hi<=k->j<=xs[k]
 | 0,lo,hi,hf,h1,h2,a,b=>by
  have e:lo=hi:=by lia
  subst e;exact⟨h2,a,b⟩
 |f+1,lo,hi,hf,h1,h2,a,b=>by
  unfold O4;by_cases c:lo<hi
  ·rw[if_pos c];have hm:(lo+hi) / 2<xs.size:=by lia
   have hg:xs.getD ((lo+hi) / 2) j=xs[(lo+hi) / 2]:=by simp[Array.getD,hm]
   dsimp only;rw[hg];by_cases d:xs[(lo+hi) / 2]<j
   ·rw[if_pos d];refine rB h j f _ hi (by lia) (by lia) h2 (λk hk hk2=>?_) b;by_cases e:k=(lo+hi) / 2
    ·subst e;exact d
    ·have:=h.lt (i:=k) (j:=(lo+hi) / 2) (by lia) hm;exact ϒ this d
   ·rw[if_neg d];refine rB h j f lo _ (by lia) (by lia) (ĉ hm) a λk hk hk2=>?_;by_cases e:k=(lo+hi) / 2
    ·subst e;exact ņ.1 d
    ·have:=h.lt (i:=(lo+hi) / 2) (by lia) hk;lia
  ·rw[if_neg c];have e:lo=hi:=by lia
   subst e;exact⟨h2,a,b⟩
def rA(h:Rs xs)(j:Nat):Ĭ xs j<=xs.size/\(∀k,(hk:k<xs.size)->k<Ĭ xs j->xs[k]<j)/\∀k,(hk:k<xs.size)->Ĭ xs j<=k->j<=xs[k] :=
 rB h j xs.size 0 xs.size (Õ _) (Ą _) (Õ _) λk hk z=>by lia λk hk z=>by lia
def xv(xs:Array α)(p:Nat)(x:α):(Qr xs p x).toList=xs.toList.take p++x::xs.toList.drop p:=by unfold Qr;simp;exact Ĩ (by simp)
def Cs(h:Rs xs)(hn:(xs[Ĭ xs j]?==À j)=Ã):Rs (Qr xs (Ĭ xs j) j):=by
 obtain⟨b1,b2,b3⟩:=rA h j;unfold Rs;rw[xv];generalize hb:Ĭ xs j=b at *;refine é.mpr ⟨Ry (SS _ _) h,ď.mpr ⟨λy hy=>?_,Ry (Qs _ _) h⟩,λy hy z hz=>?_⟩
 ·obtain⟨i,hi,e⟩:=ŷ hy;rw[List.getElem_drop]at e;have hi':b+i<xs.size:=by simp at hi;lia
  have h1:=b3 (b+i) hi' (ľ ..);have e':xs[b+i]=y:=by simpa using e
  by_cases c:i=0
  ·subst c;have:xs[b]?=À xs[b]:=Þ (by lia);rw[this]at hn;have ne:xs[b]≠j:=λz=>by rw[z]at hn;simp at hn
   lia
  ·have h2:=h.lt (i:=b) (by lia) hi';have h3:=b3 b (by lia) (Õ _)
   lia
 ·obtain⟨i,hi,e⟩:=ŷ hy;have hib:i<b:=by simp at hi;lia
  have hi':i<xs.size:=è hib b1;have h1:=b2 i hi' hib;have e':xs[i]=y:=by simpa using e
  rcases Ú.mp hz with rfl |hz
  ·exact e' ▸ h1
  ·obtain⟨k,hk,ek⟩:=ŷ hz;have hk':b+k<xs.size:=by simp at hk;lia
   have ek':xs[b+k]=z:=by simpa using ek
   have h2:=b3 (b+k) hk' (ľ ..)
   lia
def yZ(t:QO)(j:Nat):Prop:=(t.place[Ĭ t.place j]?==À j)=Ã
theorem nN(t:QO)(f:Nat->Int)(h:Int):∀(n:Nat) (p:SetTable.Probe),(∀d,p.dummy=À d->yZ t d)->∀j d,Ta t f h n p=À (.empty j d)->yZ t (d.getD j)
 | 0,p,hp,j,d,e=>by cases e
 |n+1,p,hp,j,d,e=>by
  unfold Ta at e;cases hs:t.slot p.j with
  |empty =>
   rw[hs]at e
   have hoff:yZ t p.j:=by
    unfold Ur at hs;unfold yZ;by_cases c:(t.place[Ĭ t.place p.j]?==À p.j)=Â
    ·rw[if_pos c]at hs;cases hs
    ·simpa using c
   injection e with e;injection e with e1 e2;subst e1;subst e2;cases hd:p.dummy with
   |none=>exact hoff
   |some x=>exact hp x hd
  |dummy =>
   rw[hs]at e
   have hoff:yZ t p.j:=by
    unfold Ur at hs;unfold yZ;by_cases c:(t.place[Ĭ t.place p.j]?==À p.j)=Â
    ·simp_all
    ·simpa using c
   refine nN t f h n _ (λx hx=>?_) j d e;unfold Tv at hx;split at hx
   ·cases hx;exact hoff
   ·cases hx;exact hoff
  |live i =>
   rw[hs]at e;dsimp only at e;split at e
   ·simp_all
   ·refine nN t f h n _ (λx hx=>?_) j d e;unfold Tv at hx;split at hx
    ·exact hp x hx
    ·exact hp x hx
def vL(e:t.freeSlot h=À (j,b)):yZ t j:=by
 unfold SetTable.freeSlot at e;split at e
 ·rename_i j' d' e';injection e with e;injection e with e1 e2;subst e1;exact nN t _ h _ _ (λd hd=>by cases hd) _ _ e'
 ·cases e
def Ei(n:Nat):Rs (Array.range n):=by unfold Rs;rw[Array.toList_range];exact ϕ
structure mS(led:Bool)(t:QO):Prop where
 led:t.led=led
 up:Rs t.place
def kj(g:mS led t)(n:Nat):mS led (t.standIn n):=⟨g.led,Ei n⟩
def EI(g:mS led t)(es:Array (Int×Ù))(h:Int)(x:Ù):mS led (layNew t es h x).2.1:=by
 unfold layNew;split
 ·rename_i j b e;show mS led (SA _ _);have g2:mS led (t.put j).1:=⟨g.led,Cs g.up (vL e)⟩
  unfold SA;split
  ·exact g2
  ·exact kj g2 _
 ·exact kj g _
def HH(f:Nat->Option α)(n:Nat):(((ê n).filterMap λj=>(f j).map (j,·)).map (·.1)).Pairwise (· < ·):=by
 rw[Ī];refine List.Pairwise.filterMap _ (λa a' h b hb b' hb'=>?_) ϕ;cases e:f a with
 |none=>rw[e]at hb;cases hb
 |some u=>cases e':f a' with
  |none=>simp_all
  |some u' =>rw[e]at hb;rw[e']at hb';cases hb;cases hb';exact h
def yO(g:mS led t)(es:Array (Int×Ù))(n:Nat):mS led (RU t es n).2.1:=by
 unfold RU;split
 ·rename_i t' o e;dsimp only;split
  ·obtain⟨ow,e1,e2⟩:=Option.bind_eq_some_iff.mp e;cases e2;exact⟨g.led,HH _ _⟩
  ·exact kj g _
 ·exact kj g _
def keyOf(e:Int×Ù):Int:=match e.2 with
 |.int k _=>k
 |_=>0
def Mw(e:Int×Ù):Prop:=∃(k:Int) (t:Tok),e=(QT k,.int k t)
abbrev eC(es:Array (Int×Ù))(ep:Nat)(t:QO):ϯ:={cls:=.type "set", data:=.set es ep t }
def rF(led:Bool)(h:Ő)(S:Ý)(ks:List Int):Prop:=∃(es:Array (Int×Ù)) (ep:Nat) (t:QO),h.get? S=À (eC es ep t)/\(∀e∈es.toList,Mw e)/\es.toList.map keyOf=ks/\t.fits es.size=Â/\mS led t
section
def B6(h:∀e∈l,Mw e):ElemsOf (QV prog w) l:=λe he=>by obtain⟨k,t,rfl⟩:=h e he;exact⟨⟨k,Q8 _ _ _ _,rfl⟩,rfl⟩
def find_key{l:List (Int×Ù)}(h:∀e∈l,Mw e):(∃e∈l,(QV prog w).is k e.2=Â)↔k∈l.map keyOf:=by
 rw[ò];constructor
 ·rintro⟨e,he,q⟩;obtain⟨j,t,rfl⟩:=h e he;exact⟨_,he,(QV prog w).inj (.int j t) j k (Q8 _ _ _ _) q⟩
 ·rintro⟨e,he,q⟩;obtain⟨j,t,rfl⟩:=h e he;cases q;exact⟨_,he,Q8 _ _ _ _⟩
def tO{h:Ő}(ho:h.get? S=À (eC es ep t)):(h.update S (Uh es' t')).get? S=À (eC es' (ep+1) t'):=by
 have q:=ĝ (Uh es' t') ho (rfl)
 rwa [putSet_of es' t' rfl]at q
def add_int(hS:rF led s.heap S ks)(hroom:ks.length+1<QP)
    (h:∀(b:Bool) (g:Ő) (ks':List Int),Θ S s.heap g->rF led g S ks'->ks'.Perm (if k∈ks then ks else ks++[k])->Q b {s with heap:=g }):í (model prog w) A (setAddHashed S (.int k tk) (QT k)) Q E s:=by
  obtain⟨es,ep,t,ho,bJ,rfl,hf,tg⟩:=id hS;have hlen:es.size+1<QP:=by rw[Ê,ß]at hroom;exact hroom
  have hel:=B6 (prog:=prog) (w:=w) bJ;have hky:=find_key (prog:=prog) (w:=w) (k:=k) bJ;unfold setAddHashed setAddHashedIn;refine Ċ (È (š ho rfl hf ?_));dsimp only;rw[byScan_of (knd:=QV prog w) (x:=.int k tk) rfl (by lia) hel];simp only[if_true];unfold setAddByScan;refine È (È (Α ?_));refine È (wpAny_setScan_of (knd:=QV prog w) (k:=k) (x:=.int k tk) (Q8 _ _ _ _) ho rfl hf hel ?_);cases hr:List.findIdx? (λe=>(QV prog w).is k e.2) es.toList with
  |some j =>dsimp only;obtain⟨hj,hpj,_⟩:=List.findIdx?_eq_some_iff_getElem.mp hr;have hm:k∈es.toList.map keyOf:=hky.mp ⟨es.toList[j],Ĳ hj,hpj⟩;refine Ï (Ï ?_);have q:=h Ã s.heap _ (SU S s.heap) hS (by rw[if_pos hm]);exact q
  |none =>
    dsimp only;have hm:k∉es.toList.map keyOf:=λz=>by obtain⟨e,he,hp⟩:=hky.mpr z;have:=List.findIdx?_eq_none_iff.mp hr e he;rw[hp]at this;cases this
    have gw:∀(b:Bool) {u:ç} {R:Unit->ç->Prop},R () u->í (model prog w) A (match b with |true=>rule "set.scan.the-table-gave-way" |false=>pure ()) R E u:=λb _ _ q=>by cases b <;> first |exact Ï q |exact Α q
    have pm:=layNew_perm t es (QT k) (.int k tk);have fi:=layNew_fits t es (QT k) (.int k tk);have tg1:=EI tg es (QT k) (.int k tk);generalize layNew t es (QT k) (.int k tk)=N at pm fi tg1 ⊢;obtain⟨es1,t1,dum,gave⟩:=N;dsimp only at pm fi tg1 ⊢;rw[Š]at pm
    have ok1:∀e∈es1.toList,Mw e:=λe he=>by
      rcases â.mp (pm.mem_iff.mp he)with q |q
      · exact bJ e q
      · rw[Ð.mp q];exact⟨k,tk,rfl⟩
    have pk:(es1.toList.map keyOf).Perm (es.toList.map keyOf++[k]):=by
      have:=pm.map keyOf
      rwa [î]at this
    have sz:es1.size<QP:=by rw[<- ß,pm.length_eq,á,ß];exact hlen
    refine È (gw _ ?_)
    have tail:∀(gf:Bool->Sem Unit) (hgf:∀(b:Bool) (u:ç) (R:Unit->ç->Prop),R () u->í (model prog w) A (gf b) R E u) (t2:QO),t2.fits es1.size=Â->mS led t2->í (model prog w) A (do
        storeSet S es1 t2
        if (!dum&&t2.tooFull)=true then do
            gf (RU t2 es1 (Ψ es1.size)).2.2
            storeSet S (RU t2 es1 (Ψ es1.size)).1 (RU t2 es1 (Ψ es1.size)).2.1
            pure (À Â)
          else pure (À Â)) (λr u=>í (model prog w) A (match r with |some b=>pure b |none=>setAddHashedIn S (.int k tk) (QT k) 99999) Q E u) E s:=by
      intro gf hgf t2 f2 g2;refine È (wpAny_storeSet_of ho rfl ?_ (fits_of_scanBound sz));have h1:=tO (es':=es1) (t':=t2) ho;have sb:=ŀ s.heap S (Uh es1 t2);split
      · have p2:=relayAll_perm t2 es1 (Ψ es1.size);have f3:=relayAll_fits t2 es1 (Ψ es1.size);have g3:=yO g2 es1 (Ψ es1.size);generalize RU t2 es1 (Ψ es1.size)=R at p2 f3 g3 ⊢;obtain⟨es2,t3,gave2⟩:=R;dsimp only at p2 f3 g3 ⊢;have sz2:es2.size=es1.size:=by rw[<- ß,p2.length_eq,ß]
        refine È (hgf _ _ _ ?_);refine È (wpAny_storeSet_of h1 rfl (Ï (Ï (h Â _ _ (sb.trans (ŀ _ S _)) ⟨es2,_,t3,tO h1,λe he=>ok1 e (p2.mem_iff.mp he),rfl,f3,g3⟩ ?_))) (fits_of_scanBound (by rw[sz2];exact sz)));rw[if_neg hm];exact(p2.map keyOf).trans pk
      · refine Ï (Ï (h Â _ _ sb ⟨es1,_,t2,h1,ok1,rfl,f2,g2⟩ ?_));rw[if_neg hm];exact pk
    split
    · apply È;exact Ï (tail _ (λb _ _ q=>by cases b <;> first |exact Ï q |exact Α q) _ fi tg1)
    · exact tail _ (λb _ _ q=>by cases b <;> first |exact Ï q |exact Α q) _ fi tg1
end
structure Once(val:Nat->Int)(i:Nat)(ks:List Int):Prop where
 nd:ks.Nodup
 mem:∀x,x∈ks↔∃j,j<i/\val j=x
 len:ks.length<=i
def Once.next(h:Once val i ks)(p:ks'.Perm (if val i∈ks then ks else ks++[val i])):Once val (i+1) ks':=by
 have hl:=h.len;by_cases c:val i∈ks
 ·rw[if_pos c]at p;refine⟨p.nodup_iff.mpr h.nd,λx=>?_,by rw[p.length_eq];lia⟩;rw[p.mem_iff,h.mem];constructor
  ·rintro⟨j,hj,e⟩;exact⟨j,by lia,e⟩
  ·rintro⟨j,hj,e⟩;by_cases z:j=i
   ·subst z;exact(h.mem x).mp (e ▸ c)
   ·exact⟨j,by lia,e⟩
 ·rw[if_neg c]at p;refine⟨p.nodup_iff.mpr (Ϣ.mpr ⟨h.nd,by simp,λa ha b hb z=>?_⟩),λx=>?_,by rw[p.length_eq,á,ĥ];lia⟩
  ·simp_all
  ·rw[p.mem_iff,â,h.mem,Ð];constructor
   ·rintro(⟨j,hj,e⟩ |rfl)
    ·exact⟨j,by lia,e⟩
    ·exact⟨i,Õ _,rfl⟩
   ·rintro⟨j,hj,e⟩;by_cases z:j=i
    ·simp_all
    ·exact .inl ⟨j,by lia,e⟩
def rF.at(x:rF led h S ks)(hk:∀o,h.get? S=À o->h'.get? S=À o):rF led h' S ks:=by obtain⟨es,ep,t,ho,r⟩:=x;exact⟨es,ep,t,hk _ ho,r⟩
section
def D4{St:Nat->ç->Prop}(W:WalksS prog w A.in1 I fp wr Gn n P St)(S:Ý)(hSf:S∉fp)(val:Nat->Int)(hv:∀j v,P j v->∃t,v=.int (val j) t)(hn:n+1<QP) :
 ∀(k i:Nat) (s:ç) (ks:List Int),n-i=k->i<=n->St i s->rF led s.heap S ks->Once val i ks->(∀(u:ç) (us:List Int),Moved (S::wr) Gn s u->rF led u.heap S us->Once val n us->R (.ok (.ret .none)) u) ->
  OR (model prog w) A (.builtin "set.update.loop" ⟨[.ref S,.ref I],[]⟩) R s:=by
 have nw:S∉wr:=λz=>hSf (W.sub _ z);have sub:∀b∈wr,b∈S::wr:=λb z=>Ñ _ z;intro k;induction k with
 |zero =>
  intro i s ks hk hi st hS ho hR;have e:i=n:=by lia
  subst e;refine Ĵ ϻ ?_;rw[Ś Ÿ _];show í _ A.in1 (ON (.ref I) >>= _) _ _ _;refine È (W.done s _ _ st λu mv=>?_);exact Ï (hR u ks (mv.mono sub) (hS.at λo e=>mv.heap S _ nw e) ho)
 |succ k ih =>
  intro i s ks hk hi st hS ho hR;have lt:i<n:=by lia
  refine Ĵ ϻ ?_;rw[Ś Ÿ _];show í _ A.in1 (ON (.ref I) >>= _) _ _ _;refine È (W.item i s _ _ lt st λv u pv st' mv=>?_);obtain⟨t,rfl⟩:=hv i v pv;show í _ A.in1 (holding [.int (val i) t] (setAdd S (.int (val i) t)) >>= _) _ _ _;refine È (Ċ ?_);refine Ċ (È ((QV prog w).pyHash (Q8 _ _ _ _) ?_));refine add_int (hS.at λo e=>mv.heap S _ nw e) (by have:=ho.len;lia) λb g ks' sb hS2 pm=>Ï ⟨ő Ÿ _,ih (i+1) _ ks' (by lia) lt (W.frame _ u _ _ st' (ţ _) λb hb o e=>?_) hS2 (ho.next pm) λu2 us m2 h2 o2=>?_⟩
  ·rw[sb.2 b λz=>hSf (z ▸ hb)];exact e
  ·refine hR u2 us (Moved.trans W.gtrans ((mv.mono sub).then_heap (ţ _) λb o hb e=>?_) m2) h2 o2;rw[sb.2 b λz=>hb (z ▸ Ò)];exact e
end
section
def jX(w:Ŷ):Bool:=!(w.params.followText "set-order")
def Ho(a:Ù)(h:Q (.ref s.heap.objs.size) {s with heap:=s.heap.push (eC #[] 0 (.fresh 0 0 (jX w))) }):OR (model prog w) A (.call (.builtin "set.__new__") ⟨[.type "set", a],[]⟩) (wants Q E) s:=by refine codeAny_of_tree ?_;show í _ A.in1 (checkBuiltinCall "set.__new__" ⟨[.type "set", a],[]⟩ >>= λ_=>again (.builtin "set.__new__" ⟨[.type "set", a],[]⟩)) _ _ _;refine È (TC (PySem.F.newCall_set_1 a) (Ï ⟨ő PySem.F.plain_set_new _,Ĵ PySem.F.entry_set_new ?_⟩));have hsub:=sub_set_self;wp_walk;refine Ω (Ï ?_);exact È (wpAny_alloc (Ï (Ï h)))
def HF(led:Bool)(h:Ő)(S:Ý)(e:h.get? S=À (eC #[] 0 (.fresh 0 0 led))):rF led h S []:=⟨#[],0,_,e,λe he=>(by simp at he),rfl,rfl,⟨rfl,by unfold Rs SetTable.fresh;simp⟩⟩
set_option maxHeartbeats 3200000 in
theorem FA{prog:Δ}{w:Ŷ}{A:Ŝ}{E:Ù->ç->Prop}{s:ç}{l:Ý}{items:Array Ù}{ns:List Int}{Q:Ù->ç->Prop}(hh:A.handled=Á)(hl:s.heap.IsList l items)(hi:Ŧ items.toList ns)(hb:items.size+1<QP)
 (h:∀(g:Ő) (tk:Nat) (ks:List Int),rF (jX w) g s.heap.objs.size ks->Once (λi=>ns.getD i 0) items.size ks->(∀b o,b<s.heap.objs.size->s.heap.get? b=À o->g.get? b=À o)->Q (.ref s.heap.objs.size) {s with heap:=g,toks:=tk }) :
 í (model prog w) A (call (.type "set") [.ref l]) Q E s:=by
 obtain⟨c,tl,hmro⟩:=Ŗ.mro;have hmade:=Ŗ.made;have hsub:=Ŗ.sub;refine TX (codeAny_of_tree ?_);show í _ _ (callAny (.type "set") _) _ _ _;refine Ï ⟨Code.quiet_builtin _ (by decide +kernel),Ĵ PySem.F.entry_type_call ?_⟩;rw[Around.under_plain (weight_type_call_type "set" [.ref l] []) rfl];have q1:=Ŗ.notType;have q2:=Ŗ.canCreate;have q3:=PySem.F.typeCall_set_1 (.ref l);repeat (any_goals (first |assumption |wp_step))
 refine ϐ (Ho (.ref l) (E:=E) (Q:=λv u=>v=.ref s.heap.objs.size/\u={s with heap:=s.heap.push (eC #[] 0 (.fresh 0 0 (jX w))) }) ⟨rfl,rfl⟩) λr u hr=>?_;cases r with
 |error e=>exact hr
 |ok fl =>
  cases fl with
  |ret v =>
   obtain⟨rfl,rfl⟩:=hr;generalize hled:jX w=led at *;have at0:(s.heap.push (eC #[] 0 (.fresh 0 0 led))).get? s.heap.objs.size=À (eC #[] 0 (.fresh 0 0 led)):=å _ rfl;have ty:Shared.TypeIs {s with heap:=s.heap.push (eC #[] 0 (.fresh 0 0 led)) } (.ref s.heap.objs.size) "set" := ⟨_,at0,rfl⟩
   have q4:=Ŗ.init.lookup;have q5:=Ŗ.init.bind (.ref s.heap.objs.size);repeat (any_goals (first |assumption |wp_step))
   refine ϐ (codeAny_call_builtin (R:=wants (λr u=>r=.none/\∃g tk ks,u={s with heap:=g,toks:=tk }/\rF led g s.heap.objs.size ks/\Once (λi=>ns.getD i 0) items.size ks/\∀b o,b<s.heap.objs.size->s.heap.get? b=À o->g.get? b=À o) E) Ŗ.init.plain PySem.F.entry_set_init (check_set_init_1 ty ?_)) λr2 u2 h2=>?_
   ·obtain⟨ol,hol,hcl,nl,hdl⟩:=hl;obtain⟨ocls,odict,odata,oslots⟩:=ol;simp only at hcl hdl;subst hcl;subst hdl;have holp:(s.heap.push (eC #[] 0 (.fresh 0 0 led))).get? l=À {cls:=.type "list", dict:=odict,data:=.seq items nl,slots:=oslots }:=Ì _ hol;have q6:=PySem.F.sub_list_set;have q7:=PySem.F.sub_list_frozenset;have q8:(ŋ "list" == ŋ "dict")=false:=by decide
    have isl:(s.heap.push (eC #[] 0 (.fresh 0 0 led))).IsList l items:=⟨_,holp,rfl,nl,rfl⟩
    unfold ŭ.«set.__init__» noKeywords TL;generalize hpi:Tj=pit;wp_walk;subst hpi;refine ϡ isl ?_;refine È (RV ?_);have ll:l<s.heap.objs.size:=Ø hol;have h3:A.in1.in1.in1.handled=none:=by simp[hh]
    have zz:(s.heap.push (eC #[] 0 (.fresh 0 0 led))).objs.size=s.heap.objs.size+1:=ų ..;have nI:l≠(s.heap.push (eC #[] 0 (.fresh 0 0 led))).objs.size:=by rw[zz];exact Ü (ÿ ll)
    have nS:s.heap.objs.size∉[(s.heap.push (eC #[] 0 (.fresh 0 0 led))).objs.size,l]:=by rw[zz];simp only[Ú,Ĥ,or_false,not_or];exact⟨Ü (ĸ _),ş ll⟩
    have hval:∀(i:Nat) (v:Ù),items[i]?=À v->∃t,v=.int ((λi=>ns.getD i 0) i) t:=λi v hv=>IntsAre.int_at hi i v (by rw[Ē];exact hv);refine D4 ((Ue h3 _ l nI items).toS) (led:=led) s.heap.objs.size nS (λi=>ns.getD i 0) hval hb (items.size-0) 0 _ [] rfl (Ą _) ⟨⟨_,å _ rfl,rfl,rfl⟩,isl.push _⟩ (HF led _ _ (Ì _ at0)) ⟨ī,λx=>⟨λz=>by(cases z),λ⟨j,hj,_⟩=>by lia⟩,Õ _⟩ λu us mv hS ho=>?_;obtain⟨g,gs,dr,tk,os⟩:=u;have e1:gs=s.gens:=mv.gens;have e2:dr=s.drawn:=mv.drawn;have e3:os=s.os:=mv.os;subst e1;subst e2;subst e3;show í _ _ _ _ _ _;refine Ï ?_;show í _ _ (ret Ŋ) _ _ _;refine Ï ⟨rfl,g,tk,us,rfl,hS,ho,λb o hb e=>?_⟩;refine mv.heap b o ?_ (Ì _ (Ì _ e));rw[zz];simp only[Ú,Ĥ,or_false,not_or];exact⟨Ü hb,Ü (ÿ hb)⟩
   ·cases r2 with
    |error e=>exact h2
    |ok f2 =>
     cases f2 with
     |ret r =>
      obtain⟨rfl,g,tk,ks,rfl,hS,ho,hk⟩:=h2;repeat (any_goals (first |assumption |wp_step))
      exact h _ _ _ hS ho hk
     |_=>exact h2.elim
  |_=>exact hr.elim
end
def bE:Slot "set_iterator" "__next__" "set_iterator.__next__" := .of (owner := "set_iterator") (n := "__next__") (by kernel_rfl) (by decide +kernel) (by decide +kernel) (by decide +kernel) (by first |exact .inl (by decide +kernel) |rfl) (by kernel_rfl)
def md:Slot "set_iterator" "__iter__" "set_iterator.__iter__" := .of (owner := "set_iterator") (n := "__iter__") (by kernel_rfl) (by decide +kernel) (by decide +kernel) (by decide +kernel) (by first |exact .inl (by decide +kernel) |rfl) (by kernel_rfl)
def fI:entryFor table "set_iterator.__next__" = À ŭ.«set_iterator.__next__»:=entryFor_of_tree (by kernel_rfl)
def vP:entryFor table "set_iterator.__iter__" = À ŭ.«dict_keyiterator.__iter__»:=entryFor_alias (id' := "dict_keyiterator.__iter__") (by kernel_rfl) rfl (by decide +kernel) (by kernel_rfl)
def xH:entryFor table "set.__iter__" = À ŭ.«frozenset.__iter__»:=entryFor_alias (id' := "frozenset.__iter__") (by kernel_rfl) rfl (by decide +kernel) (by kernel_rfl)
def fK(a:Ù):Sz "set_iterator.__next__" ⟨[a],[]⟩:=by kernel_rfl
def wa(a:Ù):Sz "set_iterator.__iter__" ⟨[a],[]⟩:=by kernel_rfl
def lK(h:Ő)(I S:Ý)(n ep:Nat)(first:Ù)(i:Nat):Prop:=∃o,h.get? I=À o/\o.cls=.type "set_iterator" /\ o.data=.fields #[first,.int (i:Int) 0,.ref S,.int (n:Int) 0,.int (ep:Int) 0]
def lK.ty{s:ç}(h:lK s.heap I S n ep f i):s.TypeIs (.ref I) "set_iterator" := let ⟨o,ho,hc,_⟩:=h;⟨o,ho,hc⟩
def lK.at(x:lK h I S n ep f i)(e:∀o,h.get? I=À o->h'.get? I=À o):lK h' I S n ep f i:=let ⟨o,ho,r⟩:=x;⟨o,e _ ho,r⟩
section
def nA(h:lK s.heap I S n ep f i)(q:Q (.ref I) s):í (model prog w) A (Tj (.ref I)) Q E s:=Qt h.ty md (ĳ md h.ty vP (Ï ⟨_,rfl, "set_iterator", _,h.ty,bE.lookup,q⟩) (wa _))
def IH{slot:Nat}(h:lK s.heap I S es.size ep (.int (slot:Int) 0) i)(hS:s.heap.get? S=À (eC es ep t))(hf:t.fits es.size=Â)
 (hn:∀(E':Ù->ç->Prop) (Q':Option (Ù×Nat)->ç->Prop),Q' (À (x,nx)) s->í (model prog w) A.in1 (setNext S slot i ep) Q' E' s)
 (q:∀g,lK g I S es.size ep (.int (nx:Int) 0) (i+1)->Θ I s.heap g->Q (À x) {s with heap:=g }):í (model prog w) A (ON (.ref I)) Q E s:=by
 obtain⟨o,ho,hc,hd⟩:=id h;refine È (ż (ś h.ty bE (ĳ bE h.ty fI (È (Ï (È (Qe ho hd ?_)))) (fK _))));dsimp only;refine È (Ο hS rfl hf ?_);rw[if_neg (by simp)];apply È;apply hn _ _;refine È (ϭ ho hd (by simp) ?_);have h1:(s.heap.update I (Obj.mapFields (·.setIfInBounds 0 (ũ nx)))).get? I=À _:=ĝ _ ho (ϟ (ŗ hd _));have d1:=ŗ hd (·.setIfInBounds 0 (ũ nx));refine È (ϭ h1 d1 (by simp) (Ï ⟨_,rfl,Ï (q _ ⟨_,ĝ _ h1 (ϟ (ŗ d1 _)),(Qu ..).trans ((Qu ..).trans hc),by rw[ŗ d1];rfl⟩ ((ŀ ..).trans (ŀ ..)))⟩))
def IY{slot:Nat}(hh:A.handled=Á)(h:lK s.heap I S es.size ep (.int (slot:Int) 0) i)(hS:s.heap.get? S=À (eC es ep t))(hf:t.fits es.size=Â)
 (hn:∀(E':Ù->ç->Prop) (Q':Option (Ù×Nat)->ç->Prop),Q' Á s->í (model prog w) A.in1 (setNext S slot i ep) Q' E' s)
 (q:∀g,RL I s.heap g->Q Á {s with heap:=g }):í (model prog w) A (ON (.ref I)) Q E s:=by
 obtain⟨o,ho,hc,hd⟩:=id h;unfold ON;refine È (ż (ś (name:=Tb "__next__") h.ty bE (ĳ bE h.ty fI ?_ (fK _))));unfold ŭ.«set_iterator.__next__»;refine È (Ï ?_);refine È (Qe ho hd ?_);dsimp only;refine È (Ο hS rfl hf ?_);rw[if_neg (by simp)];refine È ?_;simp only[ŏ];apply hn _ _;refine È (ϭ ho hd (by simp) (È ?_));refine È (ń (È (TC (a:=Ŋ) (by first |rfl |rfl) (ń ?_ (by size_fits)))) (by size_fits));refine È (wpAny_handled ?_);rw[hh];refine È (Ï (wpAny_throw ?_));exact È (Pd ⟨_,å _ rfl,rfl⟩ RW (Ï (q _ λb u hb e=>Ì _ (Ì _ ((č _ _ (ĩ hb)).trans e)))))
def Mf{p:Nat}(h:lK s.heap I S es.size ep (.ref T) i)(hS:s.heap.get? S=À (eC es ep t))(hf:t.fits es.size=Â)
 (hT:s.heap.get? T=À (û "tuple" pl c)) (hp:pl[i]?=À (.int (p:Int) tk)) (he:es[p]?=À (hx,x))
 (q:∀g,lK g I S es.size ep (.ref T) (i+1)->Θ I s.heap g->Q (À x) {s with heap:=g }):í (model prog w) A (ON (.ref I)) Q E s:=by
 obtain⟨o,ho,hc,hd⟩:=id h;refine È (ż (ś h.ty bE (ĳ bE h.ty fI (È (Ï (È (Qe ho hd ?_)))) (fK _))));dsimp only;refine È (Ο hS rfl hf ?_);rw[if_neg (by simp)];refine È (O5 hT rfl ?_);simp;rw[hp];apply È;refine È (š hS rfl hf ?_);simp;rw[he];refine Ï (È (ϭ ho hd (by simp) (Ï ⟨_,rfl,Ï (q _ ⟨_,ĝ _ ho (ϟ (ŗ hd _)),(Qu ..).trans hc,by rw[ŗ hd];rfl⟩ (ŀ ..))⟩)))
def Mq(hh:A.handled=Á)(h:lK s.heap I S es.size ep (.ref T) i)(hS:s.heap.get? S=À (eC es ep t))(hf:t.fits es.size=Â)
 (hT:s.heap.get? T=À (û "tuple" pl c)) (hp:pl[i]?=Á)
 (q:∀g,RL I s.heap g->Q Á {s with heap:=g }):í (model prog w) A (ON (.ref I)) Q E s:=by
 obtain⟨o,ho,hc,hd⟩:=id h;unfold ON;refine È (ż (ś (name:=Tb "__next__") h.ty bE (ĳ bE h.ty fI ?_ (fK _))));unfold ŭ.«set_iterator.__next__»;refine È (Ï ?_);refine È (Qe ho hd ?_);dsimp only;refine È (Ο hS rfl hf ?_);rw[if_neg (by simp)];refine È (O5 hT rfl ?_);simp only[ŏ];rw[hp];dsimp only;refine È (ϭ ho hd (by simp) ?_);have h1:(s.heap.update I (Obj.mapFields (·.setIfInBounds 0 (ũ 0)))).get? I=À _:=ĝ _ ho (ϟ (ŗ hd _));have d1:=ŗ hd (·.setIfInBounds 0 (ũ 0));refine È (ϭ h1 d1 (by simp) (È ?_));refine È (ń (È (TC (a:=Ŋ) (by first |rfl |lia) (ń ?_ (by size_fits)))) (by size_fits));refine È (wpAny_handled ?_);rw[hh];refine È (Ï (wpAny_throw ?_));exact È (Pd ⟨_,å _ rfl,rfl⟩ RW (Ï (q _ λb u hb e=>Ì _ (Ì _ ((č _ _ (ĩ hb)).trans ((č _ _ (ĩ hb)).trans e))))))
end
def qX(h:i<l.length):(l[i]::l.eraseIdx i).Perm l:=by
 rw[List.eraseIdx_eq_take_drop_succ]
 conv=>rhs;rw[(by simp:l=l.take i++l[i]::l.drop (i+1))]
 exact List.perm_middle.symm
theorem An(nx:Nat->Nat):∀(f k:Nat) (left:List α) (out:Array α),left.length=f->(UD nx f k left out).toList.Perm (out.toList++left)
 | 0,k,left,out,h=>by rw[ό h,ě];rfl
 |f+1,k,left,out,h=>by have hl:nx k % left.length<left.length:=Nat.mod_lt _ (by lia);unfold UD;rw[É hl];apply (An nx f (k+1) _ _ (by rw[Qf hl];lia)).trans;rw[Š,ą];exact(qX hl).append_left _
def nQ(nx:Nat->Nat)(xs:Array α):(PX nx xs).toList.Perm xs.toList:=by have:=An nx xs.size 0 xs.toList #[] rfl;unfold PX;simpa using this
section
def wp_choose(hn:n≠0)(h:∀(i:Nat) (d:TR),i<n->Q i {s with drawn:=d }):í (model prog w) A (choose src n) Q E s:=fun Γ p _=>⟨hn,h _ _ (Nat.mod_lt _ (Nat.pos_of_ne_zero hn))⟩
theorem zM:∀(n:Nat) (xs:List α) (s:ç) {Q:List α->ç->Prop},xs.length=n->(∀(ys:List α) (d:TR),ys.Perm xs->Q ys {s with drawn:=d })->í (model prog w) A (drawOrder n xs) Q E s
 | 0,xs,s,Q,hl,h=>by rw[ό hl]at h ⊢;exact Ï (h [] s.drawn (.refl _))
 |n+1,[],s,Q,hl,h=>by cases hl
 |n+1,x::r,s,Q,hl,h=>by refine È (wp_choose (by simp) λi d hi=>?_);rw[É hi];exact È (zM n _ _ (by rw[Qf hi];simp at hl ⊢;exact hl) λys d' pm=>Ï (h _ _ ((pm.cons _).trans (qX hi))))
def tH(hb:w.params.followText "set-order" = Â)(hS:s.heap.get? S=À (eC es ep t))(hf:t.fits es.size=Â)
 (h:Q (((PX (w.params.setOrder S ep) es)[i]?).map λe=>(e.2,slot)) s):í (model prog w) A (setNext S slot i ep) Q E s:=by
 refine È (š hS rfl hf (È (È (Ω (Ï (Ŵ (λ_=>?_) λz=>absurd hb z))))));simp;apply È;exact È (š hS rfl hf (È (È (Ω (Ï (Ŵ (λ_=>È (Ω (Ï (Ï h)))) λz=>absurd hb z))))))
def tI(hb:w.params.followText "set-order" = Ã)(hd:(!t.plain&&decide (es.size > 1))=Ã)(hled:t.led=Â)(hS:s.heap.get? S=À (eC es ep t))(hf:t.fits es.size=Â)
 (h:Q (match es[Ĭ t.place slot]?,t.place[Ĭ t.place slot]? with |some (_,x),À j=>À (x,j+1) |_,_=>Á) s):í (model prog w) A (setNext S slot i ep) Q E s:=by
 refine È (š hS rfl hf (È (È (Ω (Ï (Ŵ (λz=>?_) λ_=>?_))))))
 ·have z:w.params.followText "set-order" = true:=z;rw[hb]at z;cases z
 refine Ŵ (λz=>?_) λ_=>?_
 ·have z:(!t.plain&&decide (es.size > 1))=true:=z;rw[hd]at z;cases z
 apply È;show í _ _ (if (!t.led&&!es.isEmpty)=Â then unsupported "set:maker-not-led" else pure PUnit.unit) _ _ _;rw[if_neg (by rw[hled];simp)];exact Ï (Ï h)
def zy(h:Rs xs):Ĭ xs 0=0:=by
 obtain⟨b1,b2,_⟩:=rA h 0;by_cases c:0<Ĭ xs 0
 ·have:=b2 0 (è c b1) c;lia
 ·lia
def zA(h:Rs xs)(hi:i<xs.size):Ĭ xs (xs[i]+1)=i+1:=by
 obtain⟨b1,b2,b3⟩:=rA h (xs[i]+1);generalize Ĭ xs (xs[i]+1)=b at *;by_cases c:b<=i
 ·have:=b3 i hi c;lia
 ·by_cases d:i+1<b
  ·have h1:=b2 (i+1) (è d b1) d;have h2:=h.lt (i:=i) (j:=i+1) (Õ _) (è d b1)
   lia
  ·lia
def Cv{t:QO}(h:t.fits n=Â):t.place.size=n:=by unfold SetTable.fits at h;simp at h;exact h.1
def Jf(hb:w.params.followText "set-order" = Â)(hf:t.fits es.size=Â)(hne:S≠I)(A':Ŝ)(hh:A'.handled=Á) :
 Walks prog w A' I [I,S] [I] es.size (λi v=>((PX (w.params.setOrder S ep) es).toList.map λe=>e.2)[i]?=À v) (λi g=>lK g I S es.size ep (.int ((0:Nat):Int) 0) i/\g.get? S=À (eC es ep t)) where
 sub:=λb hb=>by simp at hb;simp[hb]
 frame:=λ_ _ _ st hk=>⟨st.1.at λo e=>hk I (by simp) o e,hk S (by simp) _ st.2⟩
 item:=λi s Q E hi st q=>by
  have hl:i<(PX (w.params.setOrder S ep) es).size:=by have:=(nQ (w.params.setOrder S ep) es).length_eq;simp at this;exact this ▸ hi
  refine IH (x:=(PX (w.params.setOrder S ep) es)[i].2) st.1 st.2 hf (λE' Q' z=>tH hb st.2 hf (by simp_all)) λg it sb=>q _ g s.toks ?_ ⟨it,(sb.2 S hne).trans st.2⟩ λb o hb e=>sb.extBut b o (λz=>hb (by simp[z])) e;rw[Ö,Ē,Þ hl];rfl
 done:=λs Q E st q=>by refine IY hh st.1 st.2 hf (λE' Q' z=>tH hb st.2 hf ?_) λg ex=>q g s.toks λb o hb e=>ex b o (λz=>hb (by simp[z])) e;rw[ϖ (by have:=(nQ (w.params.setOrder S ep) es).length_eq;simp at this;exact ŕ this)];exact z
 self:=λ_ _ _ _ st q=>nA st.1 q
def Jg(hb:w.params.followText "set-order" = Ã)(hd:(!t.plain&&decide (es.size > 1))=Ã)(tg:mS (jX w) t)(hf:t.fits es.size=Â)(hne:S≠I)(A':Ŝ)(hh:A'.handled=Á) :
 Walks prog w A' I [I,S] [I] es.size (λi v=>(es.toList.map λe=>e.2)[i]?=À v) (λi g=>(∃sl:Nat,lK g I S es.size ep (.int (sl:Int) 0) i/\Ĭ t.place sl=i)/\g.get? S=À (eC es ep t)) where
 sub:=λb hb=>by simp at hb;simp[hb]
 frame:=λ_ _ _ st hk=>⟨let ⟨sl,x,y⟩:=st.1;⟨sl,x.at λo e=>hk I (by simp) o e,y⟩,hk S (by simp) _ st.2⟩
 item:=λi s Q E hi st q=>by
  obtain⟨⟨sl,it0,hbl⟩,hS⟩:=st;have hp:=Cv hf;have hip:i<t.place.size:=hp ▸ hi;refine IH (x:=es[i].2) (nx:=t.place[i]+1) it0 hS hf (λE' Q' z=>tI hb hd (by rw[tg.led];unfold jX;rw[hb];rfl) hS hf ?_) λg it sb=>?_
  ·simp_all
  ·refine q _ g s.toks ?_ ⟨⟨_,it,zA tg.up hip⟩,(sb.2 S hne).trans hS⟩ λb o hb e=>sb.extBut b o (λz=>hb (by simp[z])) e;rw[Ö,Ē,Þ hi];rfl
 done:=λs Q E st q=>by obtain⟨⟨sl,it0,hbl⟩,hS⟩:=st;refine IY hh it0 hS hf (λE' Q' z=>tI hb hd (by rw[tg.led];unfold jX;rw[hb];rfl) hS hf ?_) λg ex=>q g s.toks λb o hb e=>ex b o (λz=>hb (by simp[z])) e;rw[hbl,ϖ (Õ _)];exact z
 self:=λ_ _ _ _ st q=>let ⟨_,x,_⟩:=st.1;nA x q
def Jh{ys:List Nat}(hy:ys.Perm (ê es.size))(hf:t.fits es.size=Â)(hne:S≠I)(hnT:T≠I)(A':Ŝ)(hh:A'.handled=Á) :
 Walks prog w A' I [I,S,T] [I] es.size (λi v=>(ys.map λp=>(es.getD p (0,.none)).2)[i]?=À v) (λi g=>lK g I S es.size ep (.ref T) i/\g.get? S=À (eC es ep t)/\g.get? T=À (û "tuple" (ys.map λ(i:Nat)=>ũ (i:Int)).toArray 0)) where
 sub:=λb hb=>by simp at hb;simp[hb]
 frame:=λ_ _ _ st hk=>⟨st.1.at λo e=>hk I (by simp) o e,hk S (by simp) _ st.2.1,hk T (by simp) _ st.2.2⟩
 item:=λi s Q E hi st q=>by
  have hl:i<ys.length:=by rw[hy.length_eq,Ę];exact hi
  have hp:=ö.mp (hy.mem_iff.mp (Ĳ hl));refine Mf (tk:=0) st.1 st.2.1 hf st.2.2 (by simp[hl,ũ]) (Þ hp) λg it sb=>q _ g s.toks ?_ ⟨it,(sb.2 S hne).trans st.2.1,(sb.2 T hnT).trans st.2.2⟩ λb o hb e=>sb.extBut b o (λz=>hb (by simp[z])) e;rw[Ö,É hl];simp[hp]
 done:=λs Q E st q=>by
  refine Mq hh st.1 st.2.1 hf st.2.2 ?_ λg ex=>q g s.toks λb o hb e=>ex b o (λz=>hb (by simp[z])) e;have:ys.length=es.size:=by rw[hy.length_eq,Ę]
  simp[this]
 self:=λ_ _ _ _ st q=>nA st.1 q
def ES(hS:s.heap.get? S=À (eC es ep t))(hf:t.fits es.size=Â)(tg:mS (jX w) t)(hsz:es.size<=Î)
 (h:∀(g:Ő) (d:TR) (I:Ý) (ord:List Ù) (fp:List Ý) (St:Nat->Ő->Prop),ord.Perm (es.toList.map λe=>e.2)->(∀b o,s.heap.get? b=À o->g.get? b=À o)->(∀b∈fp,b<s.heap.objs.size->b=S)->(∀b∈fp,b<g.objs.size)->s.heap.objs.size<=I ->
  (∀A':Ŝ,A'.handled=Á->Walks prog w A' I fp [I] es.size (λi v=>ord[i]?=À v) St)->St 0 g->Q (.ref I) {s with heap:=g,drawn:=d }):í (model prog w) A (Tj (.ref S)) Q E s:=by
 have ty:s.TypeIs (.ref S) "set" := ⟨_,hS,rfl⟩
 have lS:S<s.heap.objs.size:=Ø hS;refine Qt ty Rz (ĳ Rz ty xH ?_ (PySem.F.args_set_iter_1 _));unfold ŭ.«frozenset.__iter__»;refine È ?_;unfold UA;refine È (Ï (Ï ?_));refine È ?_;unfold Us;refine È (Ο hS rfl hf (Ï ?_));refine È ?_;unfold setDrawn;refine È (š hS rfl hf ?_);dsimp only;unfold setsByText;refine È (È (Ω (Ï ?_)));refine Ï ?_;have nI:S≠s.heap.objs.size:=Ü lS;refine Ŵ (λz=>?_) λz=>?_
 ·refine È (zM es.size (ê es.size) _ (by simp) λys d pm=>?_);simp only[newTuple];refine È (ń ?_ (by show (ys.map λ(i:Nat)=>ũ (i:Int)).toArray.size<=Î;simp[pm.length_eq];exact hsz));have hS1:(s.heap.push (û "tuple" (ys.map λ(i:Nat)=>ũ (i:Int)).toArray 0)).get? S=À (eC es ep t):=Ì _ hS;have hT1:(s.heap.push (û "tuple" (ys.map λ(i:Nat)=>ũ (i:Int)).toArray 0)).get? s.heap.objs.size=À (û "tuple" (ys.map λ(i:Nat)=>ũ (i:Int)).toArray 0):=å _ rfl;have zz:(s.heap.push (û "tuple" (ys.map λ(i:Nat)=>ũ (i:Int)).toArray 0)).objs.size=s.heap.objs.size+1:=ų ..;have kp:∀b o,s.heap.get? b=À o->(s.heap.push (û "tuple" (ys.map λ(i:Nat)=>ũ (i:Int)).toArray 0)).get? b=À o:=λb o e=>Ì _ e;show í _ _ _ _ _ {s with heap:=s.heap.push (û "tuple" (ys.map λ(i:Nat)=>ũ (i:Int)).toArray 0),drawn:=d };generalize s.heap.push (û "tuple" (ys.map λ(i:Nat)=>ũ (i:Int)).toArray 0)=g1 at *;refine È ?_;unfold setEpoch;refine È (š hS1 rfl hf (Ï ?_));unfold newFields;refine È (ń ?_ (by size_fits));refine Ï ⟨_,rfl, "set_iterator", _,⟨_,å _ rfl,rfl⟩,bE.lookup,?_⟩;have n1:S≠g1.objs.size:=by rw[zz];exact Ü (ÿ lS)
  have n2:s.heap.objs.size≠g1.objs.size:=by rw[zz];exact Ü (ĸ _)
  refine h _ d g1.objs.size (ys.map λp=>(es.getD p (0,.none)).2) [g1.objs.size,S,s.heap.objs.size] _ ?_ (λb o e=>Ì _ (kp b o e)) (λb hb lt=>?_) (λb hb=>?_) (by rw[zz];exact ţ _) (λA' hh=>Jh (t:=t) (ep:=ep) pm hf n1 n2 A' hh) ⟨⟨_,å _ rfl,rfl,rfl⟩,Ì _ hS1,Ì _ hT1⟩
  ·refine(pm.map _).trans (List.Perm.of_eq ?_);refine Τ (by simp) λi h1 h2=>?_;have hi:i<es.size:=by simpa using h1
   simp[Array.getD,hi]
  ·simp only[Ú,Ĥ,or_false]at hb;rcases hb with rfl |rfl |rfl
   ·rw[zz]at lt;exact absurd lt (ņ.mpr (ţ _))
   ·rfl
   ·exact absurd lt (ĕ _)
  ·rw[ų,zz];simp only[Ú,Ĥ,or_false]at hb;rcases hb with rfl |rfl |rfl
   ·rw[zz];exact ĸ _
   ·exact ÿ (ÿ lS)
   ·exact ÿ (ĸ _)
 ·refine È (Ï ?_);refine È ?_;unfold setEpoch;refine È (š hS rfl hf (Ï ?_));unfold newFields;refine È (ń ?_ (by size_fits));refine Ï ⟨_,rfl, "set_iterator", _,⟨_,å _ rfl,rfl⟩,bE.lookup,?_⟩
  have fpl:∀b∈[s.heap.objs.size,S],b<s.heap.objs.size->b=S:=λb hb lt=>by
   simp only[Ú,Ĥ,or_false]at hb;rcases hb with rfl |rfl
   ·exact absurd lt (ĕ _)
   ·rfl
  have fpt:∀(o:ϯ),∀b∈[s.heap.objs.size,S],b<(s.heap.push o).objs.size:=λo b hb=>by
   rw[ų];simp only[Ú,Ĥ,or_false]at hb;rcases hb with rfl |rfl
   ·exact ĸ _
   ·exact ÿ lS
  cases hb:w.params.followText "set-order" with
  |true =>refine h _ s.drawn s.heap.objs.size ((PX (w.params.setOrder S ep) es).toList.map λe=>e.2) [s.heap.objs.size,S] _ ((nQ _ _).map _) (λb o e=>Ì _ e) fpl (fpt _) (Õ _) (λA' hh=>Jf hb hf nI A' hh) ⟨⟨_,å _ rfl,rfl,rfl⟩,Ì _ hS⟩
  |false =>
   have hd:(!t.plain&&decide (es.size > 1))=false:=by have z:¬((!w.params.followText "set-order" && (!t.plain&&decide (es.size > 1)))=Â):=z;rw[hb]at z;simpa using z
   refine h _ s.drawn s.heap.objs.size (es.toList.map λe=>e.2) [s.heap.objs.size,S] _ (.refl _) (λb o e=>Ì _ e) fpl (fpt _) (Õ _) (λA' hh=>Jg hb hd tg hf nI A' hh) ⟨⟨0,⟨_,å _ rfl,rfl,rfl⟩,zy tg.up⟩,Ì _ hS⟩
end
section
def E1(ty:s.TypeIs (.ref S) "set")(q:Q Ã s):í (model prog w) A (PQ (.ref S)) Q E s:=by refine È (OD ty PySem.F.slot_set_len.lookup ?_);exact È (Pd (b:=Â) ty (by kernel_rfl) (Ŵ (λz=>absurd z (by decide)) λ_=>Ŵ (λ_=>È (Tc ty (Ï q))) λz=>absurd (by decide +kernel) z))
def zk(hh:A.handled=Á)(hS:s.heap.get? S=À (eC es ep t))(hf:t.fits es.size=Â)(tg:mS (jX w) t)(hsz:es.size<=Î)(hL:s.heap.get? L=À (û "list" #[] 0))
 (h:∀(g:Ő) (tk:Nat) (d:TR) (acc:Array Ù) (c:Nat),acc.toList.Perm (es.toList.map λe=>e.2)->g.get? L=À (û "list" acc c)->(∀b o,b≠L->s.heap.get? b=À o->g.get? b=À o)->R (.ok (.ret (.ref L))) {s with heap:=g,toks:=tk,drawn:=d }) :
 í (model prog w) A.in1 (Ņ (.ref L) (.ref S) (.ref L)) (λfin u=>match fin with |.done f=>R (.ok f) u |.again c=>c.quiet=Â/\OR (model prog w) A c R u) (λe u=>R (.error e) u) s:=by
 have ty:s.TypeIs (.ref S) "set" := ⟨_,hS,rfl⟩
 have ne:L≠S:=λz=>by rw[z,hS]at hL;have q:ŋ "set" = ŋ "list" := congrArg Obj.cls (þ hL);injection q with q;exact absurd q (by decide)
 unfold Ņ;refine È (Tc ty ?_);have n1:Ξ (.ref L) (.ref S)=false:=by simp[Ξ,ne]
 have n2:(ŋ "set" == ŋ "list")=false:=by decide
 have n3:(ŋ "set" == ŋ "tuple")=false:=by decide
 simp only[n1,n2,n3,Ut,ϓ,if_false];refine È (ES hS hf tg hsz λg d I ord fp St pm kp fpl fpt hI W st=>?_);have W:=W A.in1 hh;have hL1:=kp _ _ hL;have nL:L∉fp:=λz=>ne (fpl L z (Ø hL))
 have key:∀(g2:Ő) (c1 tk:Nat),St 0 g2->(∀b o,b≠L->s.heap.get? b=À o->g2.get? b=À o)->g2.get? L=À (û "list" #[] c1)->OR (model prog w) A (.builtin "list.extend.loop" ⟨[.ref L,.ref I,.ref L],[]⟩) R {s with heap:=g2,toks:=tk,drawn:=d }:=by
  intro g2 c1 tk hst hk hL2;refine codeAny_extend_loopS W.toS hsz L nL (.ref L) es.size 0 _ #[] c1 rfl (Ą _) hst hL2 (ItemsOf.nil _) λu acc c mv hu hacc=>?_;rw[Moved.eq_with mv];refine h u.heap u.toks d acc c ?_ hu λb o hb e=>mv.heap b o (λz=>?_) (hk b o hb e)
  ·have e:acc.toList=ord:=by
    refine Ń λj=>?_;have hl:ord.length=es.size:=by rw[pm.length_eq];simp
    by_cases c:j<es.size
    ·rw[Ē,Þ (by rw[hacc.1];exact c)];exact(hacc.2 j _ (Þ (by rw[hacc.1];exact c))).symm
    ·rw[Ĕ (by rw[ß,hacc.1];exact ņ.1 c),Ĕ (by lia)]
   rw[e];exact pm
  ·rcases Ú.mp z with z |z
   ·exact hb z
   ·have:=Ø e;rw[Ð.mp z]at this;exact absurd (è this hI) (ĕ _)
 refine È (Ċ (E1 ⟨_,kp _ _ hS,rfl⟩ ?_));refine Ŵ (λ_=>?_) λ_=>Ï ⟨ő Qk _,key g 0 s.toks st (λb o _ e=>kp b o e) hL1⟩;refine È (Α (È ?_));show í _ _ (QQ L (·.push .none) >>= λ_=>QQ L (·.pop)) _ _ _;have hL2:(g.update L (ù (·.push Ŋ))).get? L=À _:=ĝ _ hL1 rfl;refine È (ϛ hL1 rfl (ϛ hL2 rfl ?_));have oth:∀b o,b≠L->g.get? b=À o->((g.update L (ù (·.push Ŋ))).update L (ù (·.pop))).get? b=À o:=λb o hb e=>(č _ _ (ĩ hb)).trans ((č _ _ (ĩ hb)).trans e);exact Ï ⟨ő Qk _,key _ _ _ (W.frame 0 _ _ st λb hb o e=>oth b o (λz=>nL (z ▸ hb)) e) (λb o hb e=>oth b o hb (kp b o e)) (ĝ _ hL2 rfl)⟩
def xU(hh:A.handled=Á)(hS:s.heap.get? S=À (eC es ep t))(hf:t.fits es.size=Â)(tg:mS (jX w) t)(hsz:es.size<=Î)
 (h:∀(g:Ő) (tk:Nat) (d:TR) (vs:List Ù),vs.Perm (es.toList.map λe=>e.2)->(∀b o,s.heap.get? b=À o->g.get? b=À o)->s.heap.objs.size<g.objs.size->R vs {s with heap:=g,toks:=tk,drawn:=d }):í (model prog w) A (collect (.ref S)) R E s:=by
 refine È (RV (Ĵ RX ?_));refine È (ń (Ï ⟨ő OL _,Ĵ entry_list_iadd' ?_⟩));rw[Ś OL _]
 have key:=zk (prog:=prog) (s:={s with heap:=s.heap.push (û "list" #[] 0) }) hh (Ì _ hS) hf tg hsz (å _ rfl) (R:=λq u=>∃(g:Ő) (tk:Nat) (d:TR) (acc:Array Ù) (c:Nat),q=.ok (.ret (.ref s.heap.objs.size))/\u={s with heap:=g,toks:=tk,drawn:=d }/\acc.toList.Perm (es.toList.map λe=>e.2)/\g.get? s.heap.objs.size=À (û "list" acc c)/\∀b o,s.heap.get? b=À o->g.get? b=À o)
  λg tk d acc c pm hg kp=>⟨g,tk,d,acc,c,rfl,rfl,pm,hg,λb o e=>kp b o (Ü (Ø e)) (Ì _ e)⟩
 refine ħ key (λfin u x=>?_) λe u x=>?_
 ·cases fin with
  |done f =>obtain⟨g,tk,d,acc,c,e,rfl,pm,hg,kp⟩:=x;cases e;exact È (SD hg (Ï (h g tk d _ pm kp (Ø hg))))
  |again c1 =>refine⟨x.1,ϐ x.2 λq u2 y=>?_⟩;obtain⟨g,tk,d,acc,c,rfl,rfl,pm,hg,kp⟩:=y;exact È (SD hg (Ï (h g tk d _ pm kp (Ø hg))))
 ·simp_all
def Gx{l:List (Int×Ù)}(h:∀e∈l,Mw e):∀{vs:List Ù},vs.Perm (l.map λe=>e.2)->∃ns:List Int,Ŧ vs ns/\ns.Perm (l.map keyOf):=by
 have hv:∀vs,(∀v∈vs,∃k t,v=.int k t)->Ŧ vs (vs.map λv=>match v with |.int k _=>k |_=>0):=by
  intro vs;induction vs with
  |nil=>intro _;exact .nil
  |cons v r ih =>intro hz;obtain⟨k,t,rfl⟩:=hz v Ò;exact .cons k t (ih λu hu=>hz u (Ñ _ hu))
 intro vs pm;refine⟨_,hv vs λv z=>?_,?_⟩
 ·obtain⟨e,he,rfl⟩:=ò.mp (pm.mem_iff.mp z);obtain⟨k,t,rfl⟩:=h e he;exact⟨k,t,rfl⟩
 ·have:=pm.map λv=>match v with |.int k _=>k |_=>0
  rw[ë]at this;exact this
def yC(hh:A.handled=Á)(hS:rF (jX w) s.heap S ks)(hl:ks.length<1000)
 (h:∀(g:Ő) (tk:Nat) (d:TR) (D:Ý) (out:List Ù) (ms:List Int) (c:Nat),Ŧ out ms->ms.Perm ks->ms.Pairwise (·<=·)->s.heap.objs.size<=D->g.get? D=À (û "list" out.toArray c)->(∀b o,s.heap.get? b=À o->g.get? b=À o)->Q (.ref D) {s with heap:=g,toks:=tk,drawn:=d }):í (model prog w) A (call (.builtin "sorted") [.ref S]) Q E s:=by
 obtain⟨es,ep,t,ho,bJ,rfl,hf,tg⟩:=hS;have hline:=ă;rw[Ê,ß]at hl;apply Ζ Qq PM PN (Q6 _);refine È (Ï (È (xU (A:=A.in1) hh ho hf tg (by lia) λg tk d vs pm kp big=>?_)));obtain⟨ns,hi,pn⟩:=Gx bJ pm;have hvl:vs.length<1000:=by rw[pm.length_eq,Ê];exact hl
 refine È (Ž ?_ (by lia));have hD:(g.push (û "list" vs.toArray 0)).get? g.objs.size=À (û "list" vs.toArray 0):=å _ rfl;refine È (Ċ (ĳ O1 ⟨_,hD,rfl⟩ OE (Tm.jV hD hi (by lia) λout ms a1 a2 a3=>⟨_,rfl,?_⟩) (Qc _)));obtain⟨c,hc⟩:=Sq (out:=out) hD;exact Ï ⟨_,rfl,h _ tk d g.objs.size out.toList ms c a1 (a2.trans pn) a3 (ĉ big) (by simp_all) λb o e=>(RS (Ü (Ø (kp b o e))) (by rw[ų];exact ÿ (Ø (kp b o e)))).trans (Ì _ (kp b o e))⟩
end
def Inv.Oq(I:Inv X pins Y H s):Inv X pins Y H {s with drawn:=d }:=⟨I.ok,I.os,I.bare,I.base,I.loc,I.cell,I.free,I.gV,I.pin,I.bJ,I.len⟩
def j6(ns ms:List Int):Prop:=ms.Nodup/\(∀x,x∈ms↔x∈ns)/\ms.Pairwise (·<=·)
def Il(K:Í)(ta:TE):TE:=λY H Q=>ta Y H λv H1=>∃(a:Ý) (ns:List Int),v=.ref a/\cE K H1 a (ns.map V.int)/\ns.length<800/\∀ms,j6 ns ms->∀D,H1 D=Á->Q (.ref D) (upd H1 D (.lst (ms.map V.int)))
def tU{K:Í}(hK:X.K=K)(hc:X.calm=Â)(hg1:Gl X "sorted")(hm1:X.mg "sorted" = Á)(hg2:Gl X "set")(hm2:X.mg "set" = Á)(ha:PE X a ta)
 (e1:ġ [.Call (.Name "set" p2) [a] [] q2] X.env=[(Ã,eval (.Call (.Name "set" p2) [a] [] q2) X.env)]:=by rfl) (e2:ġ [a] X.env=[(Ã,eval a X.env)]:=by rfl) :
 PE X (.Call (.Name "sorted" p1) [.Call (.Name "set" p2) [a] [] q2] [] q1) (Il K ta):=by
 subst hK;intro pins s Y H Q I h;have hh:=I.ok.hd hc;refine ť (eI I hg1 hm1 ox ?_ (by decide) (by decide));refine O8 (rest:=[]) ?_ (by rw[e1];rfl) rfl;rw[e1];show í _ _ (spliced [(Ã,eval (.Call (.Name "set" p2) [a] [] q2) X.env)]) _ _ s;refine P1 ?_;refine ť (eI I hg2 hm2 Lc ?_ (by decide) (by decide));refine Ğ (rest:=[]) ?_ (by rw[e2];rfl) rfl
 refine cc (aa ha aj (hs:=by rw[e2];rfl) q2 pins s Y H (λxs H1=>match xs with
  |[v]=>∃(a:Ý) (ns:List Int),v=.ref a/\cE X.K H1 a (ns.map V.int)/\ns.length<800/\∀ms,j6 ns ms->∀D,H1 D=Á->Q (.ref D) (upd H1 D (.lst (ms.map V.int)))
  |_=>False) I h) λus s1 ⟨vs0,H1,I1,r1,z1⟩=>?_
 match vs0,z1 with
 |[v],z1 =>
 obtain⟨b,ns,rfl,hq,hl,hQ⟩:=z1;cases r1 with
 |cons r1 r2 =>
 cases r2;cases (show _=Č b from r1);obtain⟨its,rv,pl,_⟩:=I1.list hq;have hi:=intsAre_of rv;have hil:its.length=ns.length:=by rw[<-rv.length,Ê]
 have hsb:QP=4096:=rfl;refine FA hh pl.isList (by simpa using hi) (by rw[ã];lia) λg tk ks hS ho kp=>?_;refine Qm ?_;have I2:Inv X pins Y H1 {s1 with heap:=g,toks:=tk }:=I1.kept λb u e=>kp b u (Ø e) e;have hkl:=ho.len;rw[ã]at hkl;refine yC hh hS (by lia) λg2 tk2 d D out ms c i1 pm up big hD kp2=>?_;have hml:ms.length=ks.length:=pm.length_eq;have I3:=I2.laid (a:=D) (o:=.lst (ms.map V.int)) (t':=tk2) kp2 big ⟨by rw[Ê,hml];have:=ă;lia,out,c,iq i1,hD⟩;refine⟨.ref D,upd H1 D (.lst (ms.map V.int)),I3.Oq,rfl,hQ ms ⟨pm.nodup_iff.mpr ho.nd,λx=>?_,up⟩ D (I2.bJ.fresh big)⟩;rw[pm.mem_iff,ho.mem,ã];constructor
 ·rintro⟨j,hj,e⟩;rw[<-e];rw[Ë,É (hil ▸ hj)];exact Ĳ _
 ·intro hx;obtain⟨j,hj,e⟩:=ŷ hx;exact⟨j,hil ▸ hj,by simp_all⟩
end L2
namespace VL
open PySem L2
section
open Classical
section
variable[aV]
omit [aV] in
theorem tE{ns a b:List Int}(h1:j6 ns a)(h2:j6 ns b):a=b:=by refine Ν (λx y _ _ p q=>by lia) h1.2.2 h2.2.2 ?_;refine(Qg h1.1 h2.1).mpr λx=>(h1.2.1 x).trans (h2.2.1 x).symm
def rf(a:DE):aW->Option (List D):=λO=>match asL a O with
 |some ds=>(match eK ds with
  |some ns=>if h:ns.length<800/\∃ms,j6 ns ms then À ((h.2.choose).map D.int) else Á
  |none=>Á)
 |none=>Á
omit [aV] in
theorem xK{a:DE}{O:aW}{ns ms:List Int}(h:asL a O=À (ns.map D.int))(hl:ns.length<800)(hm:j6 ns ms):rf a O=À (ms.map D.int):=by
 have hh:ns.length<800/\∃ms,j6 ns ms:=⟨hl,ms,hm⟩
 unfold rf;rw[h];dsimp only;rw[gc];dsimp only;rw[dif_pos hh,tE hh.2.choose_spec hm]
def G6(ha:SemB K ta a):cZ K (Il K ta) (rf a):=λ{B Z os O Y H Q es} f q k=>by
 unfold rf at q;split at q
 ·rename_i ds e0;split at q
  ·rename_i ns e1;split at q
   ·rename_i hh;cases q;obtain⟨d,e0,ed⟩:=cu e0;refine ha f e0 λv H1 s1 i1=>?_;obtain⟨p,vs,rfl,hlv,hn,hr⟩:=i1.seq ed;obtain⟨hq,il⟩:=hr H1 _ Kp.refl;have ei:=fj e1;subst ei;have ev:=IsL.ints il;subst ev;refine⟨p,ns,rfl,hq,hh.1,λms hm D hD=>?_⟩;rw[tE hm hh.2.choose_spec];have hs:=ă;have hlen:=by have sp:=hh.2.choose_spec;exact ϊ sp.1 λx hx=>(sp.2.1 x).mp hx
    exact k D _ _ (s1.trans (bq hD)) (aH.free s1 hD) az (by rw[Ê];lia) (.ofInts _)
   ·cases q
  ·cases q
 ·cases q
def GS:∀ns:List Int,∃ms,j6 ns ms:=by
 intro ns
 have key:∀l:List Int,∃ms:List Int,ms.Nodup/\∀x,x∈ms↔x∈l:=by
  intro l;induction l with
  |nil=>exact⟨[],ī,λx=>Iff.rfl⟩
  |cons y r ih =>
   obtain⟨ms,h1,h2⟩:=ih;by_cases c:y∈ms
   ·refine⟨ms,h1,λx=>?_⟩;rw[h2,Ú];constructor
    ·exact .inr
    ·rintro(rfl |z)
     ·exact(h2 _).mp c
     ·exact z
   ·exact⟨y::ms,ā.mpr ⟨c,h1⟩,λx=>by simp_all⟩
 obtain⟨ms,h1,h2⟩:=key ns;exact⟨yB ms,(km ms).nodup_iff.mpr h1,λx=>by rw[(km ms).mem_iff];exact h2 x,z0 ms⟩
end
end
end VL
namespace L2
open PySem PySem.Spec PyProof.Rows VL
def stepI(lo hi st:Option Int)(n:Nat):List Nat:=SE (ϧ lo hi st n).1 (ϧ lo hi st n).2.1 (ϧ lo hi st n).2.2
def cn{α:Type}(xs:List α)(is:List Nat):List α:=is.filterMap λi=>xs[i]?
theorem nO(r:Vals vs us):∀is:List Nat,Vals (cn vs is) (cn us is)
 |[]=>.nil
 |i::is=>by
  unfold cn;rw[Ŀ,Ŀ];have hl:=r.length;by_cases c:i<vs.length
  ·obtain⟨u,e,ru⟩:=r.get (É c);rw[É c,e];exact .cons ru (nO r is)
  ·rw[Ĕ (ņ.1 c),Ĕ (by lia)];exact nO r is
noncomputable def Nd(K:Í):V->Option Int->Option Int->Option Int->Hp->VK->Prop:=λx lo hi st H Q=>∃a xs,x=.ref a/\cE K H a xs/\st≠À 0/\(cn xs (stepI lo hi st xs.length)).length<=Î/\∀p,H p=Á->Q (.ref p) (upd H p (.lst (cn xs (stepI lo hi st xs.length))))
def LJ(K:Í)(te:TE)(tl th ts:TO):TE:=λY H Q=>te Y H λx H1=>tl Y H1 λl H2=>th Y H2 λu H3=>ts Y H3 λw H4=>Nd K x l u w H4 Q
def fP{K:Í}{lo:Option PZ}{st:PZ}(hK:X.K=K)(he:PE X e te)(hl:PO X lo tl)(hu:PO X hi th)(hw:PO X (À st) ts):PE X (.Subscript e (.Slice lo hi (À st) p2) pos) (LJ K te tl th ts):=by
 subst hK;intro pins s Y H Q I h;refine Sv (cc (he pins s Y H _ I h) λv s1 ⟨x,H1,I1,r1,q1⟩=>wpAny_Slice (cc (hl pins s1 Y H1 _ I1 q1) λvl s2 ⟨l,H2,I2,pl,q2⟩=>cc (hu pins s2 Y H2 _ I2 q2) λvu s3 ⟨u,H3,I3,pu,q3⟩=>cc (hw pins s3 Y H3 _ I3 q3) λvw s4 ⟨w,H4,I4,pw,q4⟩=>?_));obtain⟨a,xs,rfl,hx,hz,hlen,q⟩:=q4;cases r1;have I5:Inv X pins Y H4 {s4 with heap:=s4.heap.push {cls:=.type "slice", data:=.fields #[vl,vu,vw] } }:=I4.kept λb ob q=>Ì _ q;obtain⟨its,r,ht,hsz⟩:=I5.list hx;have hlen2:=r.length;refine tail_any ht.isList.typeIs Qn.lookup (Qz ht.isList (Sw ..) pl pu pw hz ?_ (by simp_all)) (by with_unfolding_all rfl);have ep:Tp its.toArray l u w=(cn its (stepI l u w xs.length)).toArray:=by unfold Tp cn stepI;rw[hlen2];simp
 rw[ep];refine⟨.ref _,upd H4 _ (.lst (cn xs (stepI l u w xs.length))),I5.laid (λb ob q=>Ì _ q) (Õ _) ⟨hlen,_,0,nO r _,å _ rfl⟩,rfl,q _ (I5.bJ.fresh (Õ _))⟩
def w5(xs:List α):∀is:List Nat,(cn xs is).length<=is.length:=λis=>List.length_filterMap_le _ _
end L2
namespace VL
open PySem L2
section
open Classical
section
variable[aV]
theorem vi(r:IsL K H Z vs ds):∀is:List Nat,IsL K H Z (cn vs is) (cn ds is)
 |[]=>.nil
 |i::is=>by
  unfold cn;rw[Ŀ,Ŀ];have hl:=r.length;by_cases c:i<vs.length
  ·obtain⟨d,e⟩:∃d,ds[i]?=À d:=⟨_,É (hl ▸ c)⟩
   obtain⟨v,ev,iv⟩:=r.get e;rw[e,ev];exact .cons iv (vi r is)
  ·rw[Ĕ (ņ.1 c),Ĕ (by lia)];exact vi r is
noncomputable def oZ(a:DE)(lo hi st:aW->Option (Option Int)):aW->Option (List D):=λO=>match asL a O with
 |some ds=>(match lo O,hi O,st O with
  |some l,À h,À w=>if w≠À 0/\(stepI l h w ds.length).length<=Î then À (cn ds (stepI l h w ds.length)) else Á
  |_,_,_=>Á)
 |_=>Á
omit [aV] in
theorem Fd{a:DE}{lo hi st:aW->Option (Option Int)}{O:aW}{ds:List D}{l h w:Option Int}(ha:asL a O=À ds)(h1:lo O=À l)(h2:hi O=À h)(h3:st O=À w)(hc:w≠À 0/\(stepI l h w ds.length).length<=Î):oZ a lo hi st O=À (cn ds (stepI l h w ds.length)):=by unfold oZ;rw[ha,h1,h2,h3];exact if_pos hc
def JO(ha:aN K ta a)(hl:zE K tl lo)(hh:zE K th hi)(hs:zE K ts st):cZ K (LJ K ta tl th ts) (oZ a lo hi st):=λ{B Z os O Y H Q ds} f q k=>by
 unfold oZ at q;split at q
 ·rename_i es e1;split at q
  ·rename_i l u w e2 e3 e4;split at q
   ·rename_i hc;cases q;obtain⟨d,e1,ed⟩:=cu e1;refine ha f e1 λv H1 s1 i1=>hl (f.grow s1) e2 λH2 s2=>hh (f.grow (s1.trans s2)) e3 λH3 s3=>hs (f.grow ((s1.trans s2).trans s3)) e4 λH4 s4=>?_;obtain⟨p,vs,rfl,hn,_,hr⟩:=i1.seq ed;obtain⟨hr,r⟩:=hr H4 _ (Kp.same ((s2.trans s3).trans s4));have s14:=((s1.trans s2).trans s3).trans s4;rw[<-r.length]at hc k;have hpl:(cn vs (stepI l u w vs.length)).length<=Î:=ø (w5 _ _) hc.2;exact⟨p,vs,rfl,hr,hc.1,hpl,λn hn'=>k n _ _ (s14.trans (bq hn')) (aH.free s14 hn') az hpl ((vi r _).kp (jY hn'))⟩
   ·cases q
  ·cases q
 ·cases q
end
end
section
open Classical
section
variable[aV]
def n8(kvs:List (Int×Int))(k:Int):Option Int:=(kvs.find? λp=>decide (p.1=k)).map (·.2)
def mj(kvs:List (Int×Int))(k v:Int):List (Int×Int):=if kvs.any (λp=>decide (p.1=k)) then kvs.map λp=>if p.1=k then (p.1,v) else p else kvs++[(k,v)]
omit [aV] in
theorem uB(k:Int):∀kvs:List (Int×Int),L2.pS (kvs.map lG) (.inl k)=(n8 kvs k).map V.int
 |[]=>rfl
 |p::r=>by
  rw[Ā];by_cases e:p.1=k
  ·rw[L2.lU (show (lG p).1=.inl k by show OM p.1=_;rw[e])];unfold n8;rw[List.find?_cons_of_pos (by simpa using e)];rfl
  ·rw[L2.lV (show ¬(lG p).1=.inl k from λz=>e (TF z)),uB k r];unfold n8;rw[List.find?_cons_of_neg (by simpa using e)]
def Is.IM(h:Is K H Z v (.dct kvs)):∃a,v=.ref a/\Rd H a (.dK (kvs.map lG))/\kvs.length<=Î:=by
 cases h with
 |dct hz h hl=>exact⟨_,rfl,h,hl⟩
def Fu(neg:Bool)(a b:DE):DE:=λO=>match a O,b O with
 |some (.int k),À (.dct kvs)=>À (.bl (if neg=Â then !(n8 kvs k).isSome else (n8 kvs k).isSome))
 |_,_=>Á
omit [aV] in
theorem K1{neg:Bool}{a b:DE}{O:aW}{k:Int}{kvs:List (Int×Int)}(ha:a O=À (.int k))(hb:b O=À (.dct kvs)):Fu neg a b O=À (.bl (if neg=Â then !(n8 kvs k).isSome else (n8 kvs k).isSome)):=by unfold Fu;rw[ha,hb]
def BM(ha:SemB K ta a)(hb:SemB K tb b):aN K (zV ta tb) (Fu Â a b):=λ{B Z os O Y H Q d} f q k=>by
 unfold Fu at q;split at q
 ·rename_i i kvs e1 e2;cases q;refine ha f e1 λv H1 s1 i1=>hb (f.grow s1) e2 λw H2 s2 i2=>?_;cases i1.isInt;obtain⟨x,rfl,rd,_⟩:=i2.IM;refine⟨x,_,rfl,.inl ⟨_,.inl i,rd,rfl,rfl⟩,?_⟩;rw[uB,Qo];exact k _ _ (s1.trans s2) (.bl _)
 ·cases q
def rj(a b:DE):DE:=λO=>match a O,b O with
 |some (.dct kvs),À (.int k)=>(n8 kvs k).map D.int
 |_,_=>Á
omit [aV] in
theorem HJ{a b:DE}{O:aW}{k v:Int}{kvs:List (Int×Int)}(ha:a O=À (.dct kvs))(hb:b O=À (.int k))(h:n8 kvs k=À v):rj a b O=À (.int v):=by unfold rj;rw[ha,hb];dsimp only;rw[h];rfl
def G3(ha:SemB K ta a)(hb:SemB K tb b):aN K (Iu ta tb) (rj a b):=λ{B Z os O Y H Q d} f q k=>by
 unfold rj at q;split at q
 ·rename_i kvs i e1 e2;obtain⟨v,ev,rfl⟩:=ė.mp q;refine ha f e1 λw H1 s1 i1=>hb (f.grow s1) e2 λu H2 s2 i2=>?_;cases i2.isInt;obtain⟨x,rfl,rd,_⟩:=(i1.same s2).IM;refine⟨x,.int v,rfl,.inl ⟨_,.inl i,rd,rfl,?_⟩,k _ _ (s1.trans s2) (.int _)⟩;rw[uB,ev];rfl
 ·cases q
end
end
section
open Classical
section
variable[aV]
@[irreducible] def wR(i:Nat):DS:=λO=>if i < O.length then .nx (O.set i (.od [])) else .no
def GP:SemS fr K (pW DJ (fz i)) (wR i):=λ{B Z os O Y H E} f p=>by
 unfold wR at p;by_cases hi:i < O.length
 ·rw[if_pos hi]at p;intro x hx
  have st:=f.step hi (s:=.od []) (λa u e _=>bq hx _ _ e) (λa ha=>let ⟨u,e⟩:=(f.sl i).pH ha;⟨_,bq hx _ _ e⟩) (by simp) λa ha=>by simp_all
   ⟨x,rfl,rfl,az,Ą _⟩
  exact p _ _ _ st.1 st.2
 ·rw[if_neg hi]at p;exact p.elim
omit [aV] in
theorem Bi(k:Int):∀kvs:List (Int×Int),((kvs.map lG).any λkv=>decide (kv.1=OM k))=kvs.any λp=>decide (p.1=k)
 |[]=>rfl
 |p::r=>by
  rw[Ā,Sn,Sn,Bi k r];have e:decide ((lG p).1=OM k)=decide (p.1=k):=by rw[Ķ,decide_eq_true_iff,decide_eq_true_iff];exact⟨λh=>TF h,λh=>by show OM p.1=_;rw[h]⟩
  rw[e]
omit [aV] in
theorem Ai(kvs:List (Int×Int))(k v:Int):L2.putK (kvs.map lG) (.inl k) (.int v)=(mj kvs k v).map lG:=by
 unfold L2.putK mj;rw[Bi];split
 ·rw[ë,ë];refine ę λp _=>?_;show (if (lG p).1=OM k then ((lG p).1,V.int v) else lG p)=lG (if p.1=k then (p.1,v) else p);by_cases e:p.1=k
  ·rw[if_pos e,if_pos (by show OM p.1=_;rw[e])];rfl
  ·rw[if_neg e,if_neg (show ¬(lG p).1=OM k from λz=>e (TF z))]
 ·rw[î];rfl
omit [aV] in
theorem wZ(kvs:List (Int×Int))(k v:Int):(mj kvs k v).length<=kvs.length+1:=by
 unfold mj;split
 ·rw[Ê];exact ţ _
 ·rw[á,ĥ];exact Õ _
@[irreducible] noncomputable def wU(i:Nat)(b a:DE):DS:=λO=>match O.getD i .un with
 |.od kvs=>(match a O with
  |some (.int v)=>(match b O with
   |some (.int k)=>if kvs.length<Î then .nx (O.set i (.od (mj kvs k v))) else .no
   |_=>.no)
  |_=>.no)
 |_=>.no
omit [aV] in
theorem Gr{i:Nat}{O:aW}{W:Wk}(hi:i < O.length)(k:W.nx (O.set i (.od []))):Wp (wR i) O W:=by unfold Wp wR;rw[if_pos hi];exact k
omit [aV] in
theorem Gu{i:Nat}{b a:DE}{O:aW}{kvs:List (Int×Int)}{k v:Int}{W:Wk}(h0:O.getD i .un=.od kvs)(ha:a O=À (.int v))(hb:b O=À (.int k))(hl:kvs.length<Î)(q:W.nx (O.set i (.od (mj kvs k v)))):Wp (wU i b a) O W:=by unfold Wp wU;rw[h0];dsimp only;rw[ha];dsimp only;rw[hb];dsimp only;rw[if_pos hl];exact q
def GQ (ha:SemB K ta a) (hb:SemB K tb b):SemS fr K (Eb (tVar i) tb ta) (wU i b a):=fun {B Z os O Y H E} f p=>by
  unfold wU at p;split at p
  · rename_i kvs e;split at p
    · rename_i v e1;split at p
      · rename_i k e2;by_cases hl:kvs.length<Î
        · rw[if_pos hl]at p;have s:=f.sl i;rw[e]at s;obtain⟨x,eo,hu,hH,hlen⟩:=s;refine ha f e1 λw H1 s1 i1=>⟨_,join_some hu,hb (f.grow s1) e2 λy H2 s2 i2=>?_⟩
          cases i1.isInt;cases i2.isInt;have s12:=s1.trans s2;have hx:x∈os i:=by rw[eo];simp
          have st:=(f.grow s12).step (di e (by intro z;cases z)) (s:=.od (mj kvs k v)) (λb u e n=>by rw[upd_ne λz=>n (by rw[z];exact hx)];exact e) (λb hb=>by rw[eo]at hb;rw[Ð.mp hb];exact⟨_,az⟩) (by simp) λb hb=>by rw[Ð.mp hb];exact .inl hx
            ⟨x,rfl,rfl,az,by have:=wZ kvs k v;lia⟩
          rw[dw hu]at st;refine⟨x,_,rfl,.inl ⟨_,.inl k,s12 _ _ hH,rfl,by simp_all,rfl⟩,?_⟩;rw[Ai];exact p _ _ _ st.1 ((Kp.same s12).trans st.2)
        · rw[if_neg hl]at p;exact p.elim
      · exact p.elim
    · exact p.elim
  · exact p.elim
end
end
section
open Classical
section
variable[aV]
section
def Fr.LF{os:Own}(f:Fr K B Z os O Y H)(e:O.getD i .un=.pm a ps rows):Fr K B Z os (O.set i (.om rows)) Y H/\os i=a::ps:=by
 have s:=f.sl i;rw[e]at s;obtain⟨eo,hu,hH,hl,r⟩:=s;refine⟨⟨f.keep,f.C6,by rw[Ħ];exact f.len,f.nd,f.dj,f.new,λj=>?_,f.tab⟩,eo⟩;by_cases hj:j=i
 ·subst hj;rw[cO (di e (by intro z;cases z))];exact⟨a,ps,eo,hu,hH,hl,r⟩
 ·rw[gU hj];exact f.sl j
def Fr.pin{os:Own}(f:Fr K B Z os O Y H)(e:O.getD i .un=.om rows)(eo:os i=a::ps):Fr K B Z os (O.set i (.pm a ps rows)) Y H:=by
 have s:=f.sl i;rw[e]at s;obtain⟨b,qs,eo',hu,hH,hl,r⟩:=s;rw[eo]at eo';cases eo';refine⟨f.keep,f.C6,by rw[Ħ];exact f.len,f.nd,f.dj,f.new,λj=>?_,f.tab⟩;by_cases hj:j=i
 ·subst hj;rw[cO (di e (by intro z;cases z))];exact⟨eo,hu,hH,hl,r⟩
 ·rw[gU hj];exact f.sl j
end
@[irreducible] noncomputable def sAug2P(g:Int->Int->Int)(i:Nat)(b c a:DE):DS:=λO=>match O.getD i .un with
  |.pm q0 qs rows=>(match b O with
    | some (.int n)=>(match ixN rows.length n with
      | some r=>(match rows[r]? with
        |some ds=>(match c O with
          |some (.int m)=>(match ixN ds.length m with
            |some j=>(match ds[j]? with
              |some (.int x)=>(match a O with
                |some (.int y)=>.nx (O.set i (.pm q0 qs (rows.set r (ds.set j (.int (g x y))))))
                |_=>.no)
              |_=>.no)
            |none=>.no)
          |_=>.no)
        |none=>.no)
      |none=>.no)
    |_=>.no)
  |_=>.no
def ss_aug2P (hb:SemB K tb b) (hc:SemB K tc c) (ha:SemB K ta a):SemS fr K (tAugS (tOp (rIx K) (tVar i) tb) tc ta (rIxL K) (ipI g) rSetL) (sAug2P g i b c a):=fun {B Z os O Y H E} f p=>by
  unfold sAug2P at p;split at p
  · rename_i q0 qs rows e;split at p
    · rename_i n e2;split at p
      · rename_i r e3;split at p
        · rename_i ds e4;split at p
          · rename_i m e5;split at p
            · rename_i j e6;split at p
              · rename_i z e7;split at p
                · rename_i y e8;obtain⟨f0,eo0⟩:=f.LF e;have hi:=di e (by intro z;cases z);have e':(O.set i (.om rows)).getD i .un=.om rows:=cO hi;obtain⟨x,ps,q,vs,eo,hu,hH,hat,hr,hq,hl,il⟩:=vb f0 e' e3 e4;rw[eo0]at eo;cases eo;refine⟨_,join_some hu,hb f e2 λw H2 s2 i2=>.inl ⟨q0,qs.map V.ref,n,.ref q,rfl,i2.isInt,cE.of (s2 _ _ hH),hat,hc (f.grow s2) e5 λu H3 s3 i3=>?_⟩⟩;have s13:=s2.trans s3;obtain⟨v,ev,iv⟩:=il.get e7;refine⟨q,vs,m,v,rfl,i3.isInt,cE.of (s13 _ _ hq),?_,ha (f.grow s13) e8 λu' H4 s4 i4=>⟨z,y,iv.isInt,i4.isInt,?_⟩⟩
                  · unfold kB;rw[il.length,e6];exact ev
                  · have s14:=s13.trans s4;obtain⟨f',k⟩:=(f0.grow s14).II e' eo0 hu hr (by simp_all) ((il.same s14).set (.int _) j);have f'':=f'.pin (cO (by simp_all)) aX;rw[Td,Td]at f'';exact⟨q,vs,m,j,rfl,i3.isInt,s14 _ _ hq,by rw[il.length];exact e6,p _ _ _ f'' ((Kp.same s14).trans k)⟩
                · exact p.elim
              · exact p.elim
            · exact p.elim
          · exact p.elim
        · exact p.elim
      · exact p.elim
    · exact p.elim
  · exact p.elim
def wo(h0:O.getD i .un=.pm q0 qs rows)(h2:e O=À (.int n))(h3:ixN rows.length n=À r)(h4:rows[r]?=À ds)(h5:c O=À (.int m))(h6:ixN ds.length m=À j)(h7:ds[j]?=À (.int x))(h8:a O=À (.int y))(k:W.nx (O.set i (.pm q0 qs (rows.set r (ds.set j (.int (g x y))))))):Wp (sAug2P g i e c a) O W:=by unfold Wp sAug2P;rw[h0];simp only[h2,h3,h4,h5,h6,h7,h8];exact k
def Kk{ms:List Bool}(h:(ms.set ip Â).all id=Â):∀j,j≠ip->ms.getD j Â=true:=λj hj=>by
 rw[Ë];by_cases c:j<ms.length
 ·have e:(ms.set ip Â)[j]?=ms[j]?:=Ļ (ĩ hj);rw[É c]at e;have:=Ľ.mp h ms[j] (õ e);rw[É c];exact this
 ·simp_all
def Jv(h:(eZ n ms ds).getD j .un=.bo d):ms.getD j Â=false:=by
 unfold eZ at h;rw[Ë]at h;by_cases hj:j<(ź pe ms ds).length
 ·rw[ú hj,Ϟ]at h;rw[Ϻ]at hj;rw[É (by lia),É (by lia)]at h;rw[Ë,É (by lia)];cases e:ms[j]with
  |false=>rfl
  |true=>rw[e]at h;cases h
 ·rw[ï (ņ.1 hj),đ]at h;split at h <;> cases h
def Jw:(eZ n ms ds).getD j .un≠.bk C ks es:=λh=>by
 unfold eZ at h;rw[Ë]at h;by_cases hj:j<(ź pe ms ds).length
 ·rw[ú hj,Ϟ]at h;rw[Ϻ]at hj;rw[É (by lia),É (by lia)]at h;cases e:ms[j]with
  |false=>rw[e]at h;cases h
  |true=>rw[e]at h;cases h
 ·rw[ï (ņ.1 hj),đ]at h;split at h <;> cases h
def Mb(hz:ZT Z H)(h:Args K H Z ms vs ds)(hm:∀j,j≠ip->ms.getD j Â=Â)(hip:ip<N.length)(hv:vs[ip]?=À (.ref a))(hn:(a::ps).Nodup)(hZ:∀b∈a::ps,Z b)(hH:H a=À (.lst (ps.map V.ref)))(hl:ps.length<=Î)
 (hp:Ł (λp ds=>∃vs,H p=À (.lst vs)/\vs.length<=Î/\IsL K H Z vs ds) ps rows) :
 Fr K (λb=>if b∈a::ps then Á else H b) (λb=>Z b/\b∉a::ps) (λj=>if j=ip then a::ps else []) ((eZ N.length ms ds).set ip (.pm a ps rows)) (L2.start N vs) H:=by
 have f0:=o7 (N:=N) hz h
 have tt:∀b,bD (λb=>Z b/\b∉a::ps) (λj=>if j=ip then a::ps else []) b->Z b:=by
  rintro b (z |⟨j,z⟩)
  ·exact z.1
  ·by_cases hj:j=ip
   ·have z:b∈(if j=ip then a::ps else []):=z;rw[if_pos hj]at z;exact hZ b z
   ·have z:b∈(if j=ip then a::ps else []):=z;rw[if_neg hj]at z;cases z
 have pH:∀b∈a::ps,∃vs,H b=À (.lst vs):=λb hb=>by
  rcases Ú.mp hb with rfl |hb
  ·exact⟨_,hH⟩
  ·obtain⟨_,vs,q,_⟩:=Paired.any hp hb;exact⟨_,q⟩
 refine⟨λb o e=>?_,λb z=>hz.1 b z.1,by rw[Ħ];exact f0.len,λj=>?_,λi j b h1 h2=>?_,λi b hb=>?_,λj=>?_,λp hp'=>?_⟩
 ·split at e
  ·cases e
  ·exact e
 ·split
  ·exact hn
  ·exact ī
 ·split at h1
  ·split at h2
   ·rename_i x y;rw[x,y]
   ·cases h2
  ·cases h1
 ·split at hb
  ·exact⟨if_pos hb,λz=>z.2 hb⟩
  ·cases hb
 ·by_cases hj:j=ip
  ·subst hj;rw[cO (by rw[<-f0.len];unfold L2.start;rw[á,Ê,ü];lia)];refine⟨if_pos rfl,?_,hH,hl,Paired.mono hp λq ds _ ⟨vs,h1,h2,h3⟩=>⟨vs,h1,h2,h3.kp (Kp.less tt)⟩⟩;unfold L2.start;rw[ú (by rw[Ê];exact((Ó.mp hv).1)),Ö,hv];rfl
  ·rw[gU hj];rw[if_neg hj];have s:=f0.sl j;cases e:(eZ N.length ms ds).getD j .un with
   |un=>exact rfl
   |pu d=>rw[e]at s;obtain⟨_,u,hu,i1⟩:=s;exact⟨rfl,u,hu,i1.kp (Kp.less λb z=>.inl (tt b z))⟩
   |bo d=>have:=Jv e;rw[hm j hj]at this;cases this
   |ol d=>rw[e]at s;obtain⟨_,_,z,_⟩:=s;cases z
   |om d=>rw[e]at s;obtain⟨_,_,z,_⟩:=s;cases z
   |od d=>rw[e]at s;obtain⟨_,z,_⟩:=s;cases z
   |pm _ _ d=>rw[e]at s;obtain⟨z,_⟩:=s;cases z
   |pd _ d=>rw[e]at s;obtain⟨z,_⟩:=s;cases z
   |dk _ _ _=>rw[e]at s;obtain⟨_,_,_,z,_⟩:=s;cases z
   |pk _ _ _ _ _ _=>rw[e]at s;obtain⟨z,_⟩:=s;cases z
   |bk _ _ _=>exact absurd e Jw
 ·obtain⟨t,e⟩:=hz.2 p hp';refine⟨t,?_⟩;rw[if_neg]
  ·exact e
  ·intro hb;obtain⟨vs,q⟩:=pH _ hb;rw[e]at q;cases q
@[irreducible] noncomputable def BY(n ip:Nat)(ms:List Bool)(b:DS)(a:Ý)(ps:List Ý)(ds:List D):Option (List (List D)):=match ds[ip]? with
 |some (.lst rs)=>(match pT rs with
  |some rows=>(match b ((eZ n ms ds).set ip (.pm a ps rows))with
   |.nx O=>(match O.getD ip .un with
    |.pm a' ps' rows'=>if a'=a/\ps'=ps then À rows' else Á
    |_=>Á)
   |_=>Á)
  |none=>Á)
 |_=>Á
noncomputable def M0(K:Í)(ip:Nat)(ms:List Bool)(F:Ý->List Ý->List D->Option (List (List D))):Sp:=λvs H Q _=>∃(Z:Ý->Prop) (ds:List D) (a:Ý) (ps:List Ý) (rows rows':List (List D)),
 ZT Z H/\Args K H Z ms vs ds/\vs[ip]?=À (.ref a)/\ds[ip]?=À (cS rows)/\(a::ps).Nodup/\(∀b∈a::ps,Z b)/\H a=À (.lst (ps.map V.ref))/\ps.length<=Î/\Ł (λp ds=>∃vs,H p=À (.lst vs)/\vs.length<=Î/\IsL K H Z vs ds) ps rows/\F a ps ds=À rows' /\
 ∀H',(∀b o,H b=À o->b∉a::ps->H' b=À o)->H' a=À (.lst (ps.map V.ref))->Ł (λp ds=>∃vs,H' p=À (.lst vs)/\vs.length<=Î/\IsL K H' Z vs ds) ps rows'->Q .non H'
def gB.Oi(F:gB K x qual st f fd)(S:aL N qs (av st))(ip:Nat)(ms:List Bool)(hms:ms.length=qs.length)(hm:∀j,j≠ip->ms.getD j Â=Â)(hip:ip<N.length)(b:DS)
    (hbody:∀(cdv:Ù) (A:Ŝ) (outer:List Ux) (s:ç) (H:Hp) (E:XK),ej k (A.deeper (ϸ qual (av st) s.heap.objs.size f cdv)) ->
      ∃t,wd (sQ gE P w K mg base N qual (av st) f cdv A outer s H E).Ga (dW st) t/\SemS .v K t b):ck P w K mg base gE (k+1) f fd qs (M0 K ip ms (BY N.length ip ms b)):=by
  refine F.ok S (λvs H Q E h=>?_) λcdv A outer s H vs Q E hr h=>?_
  · obtain⟨Z,ds,_,_,_,_,hz,a,_⟩:=h;rw[a.len.1,hms]
  · obtain⟨Z,ds,a,ps,rows,rows',hz,ar,hv,hd,hn,hZ,hH,hl,hp,hF,k⟩:=h;obtain⟨t,h1,h2⟩:=hbody cdv A outer s H E hr;refine⟨t,h1,h2 (Mb hz ar hm hip hv hn hZ hH hl hp) ?_⟩;unfold BY at hF;rw[hd]at hF;unfold cS at hF;dsimp only at hF;rw[fS]at hF;dsimp only at hF;split at hF
    · rename_i O e1;rw[e1];split at hF
      · rename_i a' ps' r' e2;split at hF
        · rename_i e3;obtain⟨rfl,rfl⟩:=e3;cases hF;intro os' Y' H' f' _;have s':=f'.sl ip;rw[e2]at s';obtain⟨eo,hu,hH',hl',pr⟩:=s';refine k H' (λb o e n=>f'.keep b o ?_) hH' (Paired.mono pr λq ds _ ⟨us,g1,g2,g3⟩=>⟨us,g1,g2,g3.kp (Kp.less λb z=>?_)⟩)
          · rw[if_neg n];exact e
          · by_cases hb:b∈a'::ps'
            · exact .inr ⟨ip,by rw[eo];exact hb⟩
            · exact .inl ⟨z,hb⟩
        · cases hF
      · cases hF
    · cases hF
noncomputable def H0(K:Í)(i ip:Nat)(ms:List Bool)(t:TA)(e:aW->Option (List D)):Prop:=∀{B:Hp} {Z:Ý->Prop} {os:Own} {O:aW} {Y:L2.St} {H:Hp} {Q:List V->Hp->Prop} {ds:List D},Fr K B Z os O Y H->e O=À ds->(∀vs H',aH H H'->Args K H' (bD Z os) ms vs ds->vs[ip]?=(Y[i]?).join->ds[ip]?=dVar i O->Q vs H')->t Y H Q
def GH(hr:rH K ms tr es):H0 K i 0 (false::ms) (a9 (tVar i) tr) (dCons (dVar i) es):=λ{B Z os O Y H Q ds} f q k=>by
 obtain⟨d,r,e1,e2,rfl⟩:=jd q
 have hv:∃u,(Y[i]?).join=À u/\Is K H No u d:=by
  have s:=f.sl i;unfold dVar at e1;cases e:O.getD i .un with
  |un=>rw[e]at e1;cases e1
  |pu d'=>rw[e]at e1 s;cases e1;obtain⟨_,u,hu,i1⟩:=s;exact⟨u,hu,i1.all⟩
  |bo d'=>rw[e]at e1 s;cases e1;obtain⟨_,u,hu,i1⟩:=s;exact⟨u,hu,i1.same f.keep⟩
  |ol ds=>rw[e]at e1 s;cases e1;obtain⟨a,vs,_,hu,hH,hl,i1⟩:=s;exact⟨_,hu,.lst (λz=>z) (.inl hH) hl i1.all⟩
  |om rows=>rw[e]at e1 s;cases e1;obtain⟨a,ps,_,hu,hH,hl,i1⟩:=s;exact⟨_,hu,.lst (λz=>z) (.inl hH) (by simp_all) (gL i1)⟩
  |od kvs=>rw[e]at e1 s;cases e1;obtain⟨a,_,hu,hH,hl⟩:=s;exact⟨_,hu,.dct (λz=>z) (.inl hH) hl⟩
  |pm a ps rows=>rw[e]at e1 s;cases e1;obtain⟨_,hu,hH,hl,i1⟩:=s;exact⟨_,hu,.lst (λz=>z) (.inl hH) (by simp_all) (gL i1)⟩
  |pd a kvs=>rw[e]at e1 s;cases e1;obtain⟨_,hu,hH,hl⟩:=s;exact⟨_,hu,.dct (λz=>z) (.inl hH) hl⟩
  |dk C ks ds=>rw[e]at e1 s;cases e1;obtain⟨x,dx,p,_,hu,q⟩:=s;exact⟨_,hu,q.is⟩
  |pk x dx p C ks ds=>rw[e]at e1 s;cases e1;obtain⟨_,hu,q⟩:=s;exact⟨_,hu,q.is⟩
  |bk C ks ds=>rw[e]at e1 s;cases e1;obtain⟨_,x,dx,p,hu,q⟩:=s;exact⟨_,hu,(q.h f.keep).is⟩
 obtain⟨u,hu,iu⟩:=hv;exact⟨u,join_some hu,hr f e2 λvs H' s a=>k (u::vs) H' s (.any (iu.same s) a) (by rw[hu];rfl) (by rw[e1];rfl)⟩
def uH(ha:aN K ta a)(hr:H0 K i ip ms tr es):H0 K i (ip+1) (true::ms) (a9 ta tr) (dCons a es):=λ{B Z os O Y H Q ds} f q k=>by obtain⟨d,r,e1,e2,rfl⟩:=jd q;exact ha f e1 λv H1 s1 i1=>hr (f.grow s1) e2 λvs H2 s2 ar hv hd=>k (v::vs) H2 (s1.trans s2) (.own (i1.same s2) ar) hv hd
@[irreducible] noncomputable def qo(i:Nat)(F:Ý->List Ý->List D->Option (List (List D)))(es:aW->Option (List D)):DS:=λO=>match O.getD i .un with
 |.om rows=>(match es O with
  |some ds=>if h:∃rows',∀a ps,ps.length=rows.length->F a ps ds=À rows' then .nx (O.set i (.om h.choose)) else .no
  |none=>.no)
 |_=>.no
def Df(h0:O.getD i .un=.om rows)(h1:es O=À ds)(h2:∀a ps,ps.length=rows.length->F a ps ds=À rows')(k:W.nx (O.set i (.om rows'))):Wp (qo i F es) O W:=by
 have ex:∃rows',∀a ps,ps.length=rows.length->F a ps ds=À rows':=⟨_,h2⟩
 have e:=by have q:=ex.choose_spec 0 (æ rows.length 0) (ü ..);rw[h2 0 _ (ü ..)]at q;exact(þ q).symm
 unfold Wp qo;rw[h0];simp only[h1];rw[dif_pos ex,e];exact k
def DR{E0:XK}(hu:H0 K i ip ms t es):SemS fr K (wG (tj (M0 K ip ms F) [] E0 t)) (qo i F es):=λ{B Z os O Y H E} f p=>by
 unfold qo at p;split at p
 ·rename_i rows e;split at p
  ·rename_i ds e1;split at p
   ·rename_i ex;have hF:=ex.choose_spec;generalize ex.choose=rows' at p hF;refine hu f e1 λvs H1 s1 ar hv hd=>?_;rw[ě];have f1:=f.grow s1;obtain⟨a,ps,eo,hua,hH,hl,hln,pr⟩:=Av f1 e;have hn:=f1.nd i;rw[eo]at hn;refine⟨bD Z os,ds,a,ps,rows,rows',f1.zt,ar,by rw[hv,hua],by rw[hd];unfold dVar;rw[e];rfl,hn,λb hb=>.inr ⟨i,by rw[eo];exact hb⟩,hH,hl,pr,hF a ps hln,λH' hk ha hp=>?_⟩
    have tt:bD Z (h9 os i (a::ps))=bD Z os:=by
     funext c;apply propext;constructor
     ·rintro(z |⟨j,z⟩)
      ·exact .inl z
      ·by_cases hj:j=i
       ·subst hj;rw[aX]at z;exact .inr ⟨j,by rw[eo];exact z⟩
       ·rw[bM hj]at z;exact .inr ⟨j,z⟩
     ·rintro(z |⟨j,z⟩)
      ·exact .inl z
      ·by_cases hj:j=i
       ·subst hj;exact .inr ⟨j,by rw[aX,<-eo];exact z⟩
       ·exact .inr ⟨j,by rw[bM hj];exact z⟩
    have st:=f1.step (di e (by intro z;cases z)) (s:=.om rows') (λb u e n=>hk b u e (by rw[<-eo];exact n)) (λb hb=>?_) hn λb hb=>by rw[<-eo]at hb;exact .inl hb
     ⟨a,ps,rfl,rfl,ha,hl,by rw[tt];exact hp⟩
    ·rw[dw hua]at st;exact p _ _ _ st.1 ((Kp.same s1).trans st.2)
    ·rw[eo]at hb;rcases Ú.mp hb with rfl |hb
     ·exact⟨_,ha⟩
     ·obtain⟨_,us,q,_⟩:=Paired.any hp hb;exact⟨_,q⟩
   ·exact p.elim
  ·exact p.elim
 ·exact p.elim
def Ha(hF:F=BY n ip ms b)(hd:ds[ip]?=À (cS rows))(h:Wp b ((eZ n ms ds).set ip (.pm a ps rows)) {nx:=λO=>O.getD ip .un=.pm a ps rows',rt:=λ_=>False }):F a ps ds=À rows':=by
 subst hF;unfold BY;rw[hd];unfold cS;dsimp only;rw[fS];dsimp only;unfold Wp at h;split at h
 ·simp_all
 ·exact h.elim
 ·exact h.elim
 ·exact h.elim
 ·exact h.elim
end
end
end VL
namespace L2
open PySem PySem.Spec PyProof.Rows VL
section
def Inv.Nv(I:Inv X pins Y H s)(e:H d=À (.dK kvs))(eo:s.heap.get? d=À ob):Inv X pins Y (upd H d (.jM ob (.dK kvs))) s:=by have q:=I.bJ d _ e;exact I.un (Un.write (by rw[e];trivial) (.inl rfl) (λb u _ q=>q) ⟨_,eo⟩) (I.bJ.write (by rw[e];trivial) (.inl rfl) (λb u _ q=>q) ⟨_,eo⟩ ⟨eo,q⟩)
noncomputable def Oe(d:Ý)(o:ϯ)(kvs:List (Int×Int)):It :=
 ⟨λi H=>H d=À (.jM o (.dK (kvs.map lG)))/\i<kvs.length,λi H x H'=>H'=H/\∃p,kvs[i]?=À p/\x=.int p.1,λi H=>H d=À (.jM o (.dK (kvs.map lG)))/\kvs.length<=i⟩
def Ba{kvs:List (Int×Int)}(hd:o.data=.dict es ep)(x:cF P w H h d (.jM o (.dK (kvs.map lG)))):∃vs,KV (kvs.map lG) vs/\h.DictAt (cq P w) d vs ep/\(d==ů)=false:=by obtain⟨e,_,lo,vs,r,o',es',ep',e1,c1,c2,c3⟩:=x;rw[e]at e1;cases e1;rw[hd]at c2;cases c2;exact⟨vs,r,⟨o,es,e,c1,hd,c3⟩,lo⟩
def Bw{K:Í}(d it:Ý)(o:ϯ)(kvs:List (Int×Int))(hd:o.data=.dict es ep):Turn P w K tg (Oe d o kvs) [it] it (λi h=>h.IsKeyIter it d i kvs.length ep) where
 mem:=by simp
 obj:=λi h st b hb=>by
  have e:b=it:=by simpa using hb
  subst e;obtain⟨o,e,c,d⟩:=st;exact⟨o,e,λv z=>by rw[d]at z;cases z⟩
 keep:=λi h h' st k=>st.at λo e=>k it (by simp) o e
 item:=by
  intro X hP hw hK hc i pins s Y H E I hf st hg;subst hP hw hK;obtain⟨hq,hi⟩:=hg;obtain⟨vs,r,hat,lo⟩:=Ba hd (I.bJ d _ hq);have hl:kvs.length=vs.length:=by rw[<- ň r,Ê]
  obtain⟨f0,f1,f2,f3,f4,f5⟩:=hf it (by simp)
  obtain⟨q,eq,h1,h2⟩:∃q,vs[i]?=À q/\(lG kvs[i]).1=q.1/\RelV (lG kvs[i]).2 q.2:=by
   have:∀{l:List (Key×V)} {m:List (Key×Ù)} {i:Nat} {p:Key×V},KV l m->l[i]?=À p->∃q,m[i]?=À q/\p.1=q.1/\RelV p.2 q.2:=by
    intro l m i p r;induction r generalizing i with
    |nil=>intro e;simp at e
    |cons h _ ih =>
     intro e;cases i with
     |zero=>cases e;exact⟨_,rfl,h⟩
     |succ i=>exact ih (by simpa using e)
   exact this r (by rw[Ö,É hi];rfl)
  rw[hl]at st;refine wpAny_pyNext_dict_item st hat (by rw[eq]) λkey h' hk st' sb=>?_;rw[<-hl]at st';obtain⟨o2,e2,c2,d2⟩:=id st';rw[<-h1]at hk;have hk':oK (.inl kvs[i].1) key=true:=hk;rcases bU hk' with⟨n,t,z1,rfl⟩ |⟨x,t,z1,_⟩
  ·cases z1;exact⟨_,rfl,AZ e2 c2 d2 (rfl) ⟨.int kvs[i].1,H,(I.turned (λb o hb e=>(sb.2 b hb).trans e) f0 f1 f3 f4 f5),⟨t,rfl⟩,⟨rfl,kvs[i],É hi,rfl⟩,st',λb hb=>(hf b hb).1⟩⟩
  ·cases z1
 done:=by
  intro X hP hw hK hc i pins s Y H E I hf st hg;subst hP hw hK;obtain⟨hq,hi⟩:=hg;obtain⟨vs,r,hat,lo⟩:=Ba hd (I.bJ d _ hq);have hl:kvs.length=vs.length:=by rw[<- ň r,Ê]
  obtain⟨f0,f1,f2,f3,f4,f5⟩:=hf it (by simp);rw[hl]at st;exact wpAny_pyNext_dict_end (I.ok.hd hc) st hat (by simp;exact hl ▸ hi) λh' eb=>⟨rfl,I.turned (λb o hb e=>eb b o hb e) f0 f1 f3 f4 f5⟩
 self:=λ_ _ _ _ _ st h=>wpAny_pyIter_keyiter st h
def IS(tl:TE):TI:=λY H R=>tl Y H λx H1=>∃a kvs,x=.ref a/\H1 a=À (.dK (kvs.map lG))/\∀o,R (Oe a o kvs) (upd H1 a (.jM o (.dK (kvs.map lG))))
def Hg(hl:PE X l tl):PI X tg l (IS tl):=by
 intro pins s Y H R I h;refine cc (hl pins s Y H _ I h) λv s1 ⟨x,H1,I1,r1,q1⟩=>?_;obtain⟨a,kvs,e,hq,q⟩:=q1;subst e;cases r1;obtain⟨hz,lo,vs,r,o,es,ep,e1,c1,c2,c3⟩:=I1.bJ a _ hq;apply wpAny_pyIter_dict lo ⟨o,es,e1,c1,c2,c3⟩;have I2:=I1.Nv hq e1;rw[(by rw[<- ň r,Ê]:vs.length=kvs.length)];refine⟨s1.heap.objs.size,[s1.heap.objs.size],_,_,_,rfl,I2.kept λb o e=>Ì _ e,Bw a _ o kvs c2,⟨_,å _ rfl,rfl,rfl⟩,λb hb=>?_,q o⟩;have e:=by simpa using hb
 subst e;exact I2.zh (Õ _) (I2.bJ.fresh (Õ _))
def MU(K:Í)(a:Ý)(n:Nat):It :=
 ⟨λi H=>i<n/\∃xs,cE K H a xs/\xs.length=n,λi H x H'=>H'=H/\∀xs,cE K H a xs->xs.length=n->xs[n-1-i]?=À x,λi H=>n<=i⟩
def Dr{K:Í}(a it:Ý)(n:Nat):Turn P w K tg (MU K a n) [it] it (λi h=>i<=n/\h.IsRevIter it a ((n:Int)-1-(i:Int))) where
 mem:=by simp
 obj:=λi h st b hb=>by
  have e:b=it:=by simpa using hb
  subst e;obtain⟨_,o,e,c,d⟩:=st;exact⟨o,e,λv z=>by rw[d]at z;cases z⟩
 keep:=λi h h' st k=>⟨st.1,st.2.at λo e=>k it (by simp) o e⟩
 item:=by
  intro X hP hw hK hc i pins s Y H E I hf st hg;subst hP hw hK;obtain⟨hi,xs,hq,hn⟩:=hg;obtain⟨its,rv,p,hz⟩:=I.list hq;have hi':n-1-i<xs.length:=by lia
  obtain⟨u,hu,ru⟩:=rv.get (É hi');obtain⟨f0,f1,f2,f3,f4,f5⟩:=hf it (by simp);have e:(n:Int)-1-(i:Int)=((n-1-i:Nat)):=by lia
  have hit:=st.2;rw[e]at hit;refine wpAny_pyNext_rev_item hit p.isList (by simpa using hu) λh' st' sb=>?_;rw[(by lia:((n-1-i:Nat):Int)-1=n-1-((i+1)))]at st';obtain⟨o,e,c,d⟩:=id st';exact⟨u,rfl,AZ e c d (rfl) ⟨xs[n-1-i],H,(I.turned (λb o hb e=>(sb.2 b hb).trans e) f0 f1 f3 f4 f5),ru,⟨rfl,λys hy _=>by rw[I.jW hy hq];simp⟩,⟨hi,st'⟩,λb hb=>(hf b hb).1⟩⟩
 done:=by
  intro X hP hw hK hc i pins s Y H E I hf st hg;have hg:n<=i:=hg;have ei:i=n:=by lia
  subst ei;obtain⟨f0,f1,f2,f3,f4,f5⟩:=hf it (by simp);have hit:=st.2;rw[show (i:Int)-1-i=-1 by lia]at hit;exact wpAny_pyNext_rev_end (I.ok.hd hc) hit λh' eb=>⟨rfl,I.turned (λb o hb e=>eb b o hb e) f0 f1 f3 f4 f5⟩
 self:=λ_ _ _ _ _ st h=>RY st.2 h
def Ml(K:Í)(tl:TE):TI:=λY H R=>tl Y H λx H1=>∃a xs,x=.ref a/\cE K H1 a xs/\R (MU K a xs.length) H1
def J7{K:Í}(hK:X.K=K)(hg:Gl X "reversed")(hm:X.mg "reversed" = Á)(hl:PE X l tl)(hs:ġ [l] X.env=[(Ã,eval l X.env)]:=by rfl):PI X tg (.Call (.Name "reversed" p) [l] [] pos) (Ml K tl):=by
 subst hK;intro pins s Y H R I h;refine Call_ (eI I hg hm xZ (Ğ (cc ((aa hl aj hs) pos pins s Y H (λvs H1=>match vs with |[x]=>∃a xs,x=.ref a/\cE X.K H1 a xs/\R (MU X.K a xs.length) H1 |_=>False) I h) λus s1 ⟨vs,H1,I1,r1,q1⟩=>?_) hs rfl))
 ·match vs,r1,q1 with
  |[x],r1,q1 =>
  obtain⟨a,xs,rfl,hq,q⟩:=q1;obtain⟨u,rfl,ru⟩:=vals1 r1;cases ru;obtain⟨its,rv,pl,hz⟩:=I1.list hq;have hlen:=rv.length;apply call_reversed_list pl.isList;have hit:(s1.heap.push (revObj a ((its.toArray.size)-1))).IsRevIter s1.heap.objs.size a (xs.length-1-((0:Nat))):=by rw[show (xs.length:Int)-1-((0:Nat))=its.toArray.size-1 by simp_all];exact⟨_,å _ rfl,rfl,rfl⟩
  apply RY hit;refine⟨s1.heap.objs.size,[s1.heap.objs.size],_,_,H1,rfl,(I1.kept λb o e=>Ì _ e),Dr a _ xs.length,⟨Ą _,hit⟩,λb hb=>?_,q⟩;have e:=by simpa using hb
  subst e;exact I1.zh (Õ _) (I1.bJ.fresh (Õ _))
end
end L2
namespace VL
open PySem L2
section
open Classical
section
variable[aV]
def E8{os:Own}(f:Fr K B Z os O Y H1)(W:Walk K m B J H1 (bD Z os) ds)(hg:sU K m t g)(hb:SemS fr K tb b)(p:lJ fr K B Z os H1 E (kJ g b ds O)):DI (λY H R=>R J H) t tb E Y H1:=by
 refine⟨λi m Y' H'=>∃os' O',m=ds.length-i/\i<=ds.length/\Fr K B Z os' O' Y' H'/\Kp (bD Z os) H1 (bD Z os') H'/\lJ fr K B Z os H1 E (kJ g b (ds.drop i) O'),⟨_,os,O,rfl,Ą _,f,Kp.refl,p⟩,?_⟩;rintro i mm σ2 H2 ⟨os2,ρ2,rfl,hi,f2,k2,p2⟩;by_cases hlt:i<ds.length
 ·obtain⟨go,yl⟩:=W.go i ds[i] H2 _ k2 f2.keep f2.Ij (É hlt);rw[ó hlt]at p2;refine .inr ⟨go,λY' H'=>∃os' O',Fr K B Z os' O' Y' H'/\Kp (bD Z os) H1 (bD Z os') H'/\lJ fr K B Z os H1 E (kJ g b (ds.drop (i+1)) O'),λY' H' ⟨os',O',h1,h2,h3⟩=>⟨_,by lia,os',O',rfl,hlt,h1,h2,h3⟩,λx H3 hy=>?_⟩;obtain⟨s3,er⟩:=yl x H3 hy;unfold kJ at p2;split at p2
  ·exact p2.elim
  ·rename_i ρ1 e1;refine hg (f2.grow s3) er e1 λos3 σ3 f3 k3=>hb f3 ?_;have k13:=(k2.trans (Kp.same s3)).trans k3;split at p2
   ·rename_i ρ4 e4;rw[e4];exact λos' Y' H' f' k'=>⟨os',_,f',k13.trans k',p2⟩
   ·rename_i ρ4 e4;rw[e4];exact λos' Y' H' f' k'=>⟨os',_,f',k13.trans k',p2⟩
   ·rename_i ρ4 e4;rw[e4];exact λos' Y' H' f' k'=>p2 os' Y' H' f' (k13.trans k')
   ·rename_i d e4;rw[e4];exact p2
   ·exact p2.elim
 ·have e:i=ds.length:=by lia
  subst e;rw[ϱ]at p2;exact .inl ⟨W.stop _ H2 _ k2 f2.keep rfl,p2 os2 σ2 H2 f2 k2⟩
def jZ(kvs:List (Int×Int)):List D:=kvs.map λp=>.int p.1
@[irreducible] def wV(i:Nat)(g:DG)(b:DS):DS:=λO=>match O.getD i .un with
 |.od kvs=>kJ g b (jZ kvs) (O.set i (.pu (.dct kvs)))
 |_=>.no
def GR(hg:sU K Â t g)(hb:SemS fr K tb b):SemS fr K (DI (IS (tVar i)) t tb) (wV i g b):=λ{B Z os O Y H E} f p=>by
 unfold wV at p;split at p
 ·rename_i kvs e;have s:=f.sl i;rw[e]at s;obtain⟨a,eo,hu,hH,hl⟩:=s;refine⟨_,join_some hu,a,kvs,rfl,hH,λo=>?_⟩
  have nt:¬bD Z (h9 os i []) a:=by
   rintro(z |⟨j,z⟩)
   ·exact(f.new i a (by rw[eo];simp)).2 z
   ·by_cases hj:j=i
    ·subst hj;rw[aX]at z;cases z
    ·rw[bM hj]at z;exact hj (f.dj j i a z (by simp_all))
  have st:=f.step (di e (by intro z;cases z)) (s:=.pu (.dct kvs)) (λb u e n=>by rw[upd_ne λz=>n (by simp_all)];exact e) (λb hb=>by rw[eo]at hb;rw[Ð.mp hb];exact⟨_,az⟩) ī λb h=>by cases h
   ⟨rfl,_,rfl,.dct nt (.inr ⟨o,az⟩) hl⟩
  rw[dw hu]at st;refine E8 st.1 ⟨by unfold jZ;rw[Ê];exact hl,λj d H2 T2 kp _ hd e2=>?_,λj H2 T2 kp _ hj=>?_⟩ hg hb (lJ.kp st.2 p)
  ·unfold jZ at e2;rw[Ö]at e2;cases e3:kvs[j]? with
   |none=>rw[e3]at e2;cases e2
   |some q =>rw[e3]at e2;cases e2;refine⟨⟨(kp a _ az nt).1,(Ó.mp e3).1⟩,λx H3 ⟨z1,q',z2,z3⟩=>?_⟩;subst z1 z3;rw[e3]at z2;cases z2;exact⟨aH.refl _,.int _⟩
  ·exact⟨(kp a _ az nt).1,by rw[<-hj];unfold jZ;rw[Ê];exact Õ _⟩
 ·exact p.elim
def Gv(h0:O.getD i .un=.od kvs)(Iv:Nat->aW->Prop)(h1:Iv 0 (O.set i (.pu (.dct kvs))))
 (hs:∀j O' p,kvs[j]?=À p->Iv j O'->∃ ρ1,g (.int p.1) O'=À ρ1/\Wp b ρ1 {nx:=Iv (j+1),ct:=Iv (j+1),bk:=W.nx,rt:=W.rt }) (hd:∀ O',Iv kvs.length O'->W.nx O'):Wp (wV i g b) O W:=by
 have key:∀(n j:Nat) (O':aW),kvs.length-j=n->j<=kvs.length->Iv j O'->Wp (kJ g b ((jZ kvs).drop j)) O' W:=by
  intro n;induction n with
  |zero =>
   intro j O' e hj iv;have:j=kvs.length:=by lia
   subst this;rw[show (jZ kvs).drop kvs.length=[] by rw[List.drop_eq_nil_iff];unfold jZ;rw[Ê];exact Õ _];unfold Wp kJ;exact hd O' iv
  |succ n ih =>
   intro j O' e hj iv;have hlt:j<kvs.length:=by lia
   have e1:(jZ kvs).drop j=.int kvs[j].1::(jZ kvs).drop (j+1):=by rw[ó (by unfold jZ;rw[Ê];exact hlt)];unfold jZ;rw[List.getElem_map]
   obtain⟨ρ1,g1,w1⟩:=hs j O' kvs[j] (É hlt) iv;rw[e1];unfold Wp at w1 ⊢;unfold kJ;rw[g1];dsimp only;cases e2:b ρ1 with
   |nx ρ2 =>rw[e2]at w1;have:=ih (j+1) ρ2 (by lia) hlt w1;unfold Wp at this;exact this
   |ct ρ2 =>rw[e2]at w1;have:=ih (j+1) ρ2 (by lia) hlt w1;unfold Wp at this;exact this
   |bk ρ2=>rw[e2]at w1;exact w1
   |rt d=>rw[e2]at w1;exact w1
   |no=>rw[e2]at w1;exact w1
 have:=key kvs.length 0 _ rfl (Ą _) h1;unfold Wp at this ⊢;unfold wV;rw[h0];exact this
@[irreducible] def qj(i:Nat):DS:=λO=>match O.getD i .un with
 |.od kvs=>.rt (.dct kvs)
 |_=>.no
def DO:SemS .l K (DC (tVar i)) (qj i):=λ{B Z os O Y H E} f p=>by
 unfold qj at p;split at p
 ·rename_i kvs e;have s:=f.sl i;rw[e]at s;obtain⟨a,eo,hu,hH,hl⟩:=s;exact⟨_,join_some hu,p _ _ f.keep (.inr ⟨a,kvs,rfl,rfl,(f.new i a (by simp_all)).1,hH,hl⟩)⟩
 ·exact p.elim
def C9(h:O.getD i .un=.od kvs)(k:W.rt (.dct kvs)):Wp (qj i) O W:=by unfold Wp qj;rw[h];exact k
@[irreducible] def qi(i:Nat)(F:List D->Option D)(es:aW->Option (List D)):DS:=λO=>match aJ F es O with
 |some (.dct kvs)=>if i < O.length then .nx (O.set i (.od kvs)) else .no
 |_=>.no
def DN{E0:XK}(ha:rH K ms t es):SemS fr K (pW (tj (jJ .l K ms F) [] E0 t) (fz i)) (qi i F es):=λ{B Z os O Y H E} f p=>by
 unfold qi at p;split at p
 ·rename_i kvs e1;by_cases hi:i < O.length
  ·rw[if_pos hi]at p;unfold aJ at e1;split at e1
   ·rename_i as e;refine ha f e λvs H1 s1 a=>?_;rw[ě];refine⟨bD Z os,as,.dct kvs,(f.grow s1).zt,a,e1,λv H2 s2 i2=>?_⟩;rcases i2 with⟨q,us,ds',rfl,ed,hb,hh,hl,r⟩ |⟨q,kvs',rfl,ed,hb,hh,hl⟩
    ·cases ed
    ·cases ed;have s12:=s1.trans s2
     have st:=f.step hi (s:=.od kvs) (λa u e _=>s12 _ _ e) (λa ha=>let ⟨xs,e⟩:=(f.sl i).pH ha;⟨_,s12 _ _ e⟩) (by simp) λa ha=>by rw[Ð.mp ha];exact .inr (aH.free s1 hb)
      ⟨q,rfl,rfl,hh,hl⟩
     exact p _ _ _ st.1 st.2
   ·cases e1
  ·rw[if_neg hi]at p;exact p.elim
 ·exact p.elim
def C8(h:es O=À xs)(h2:F xs=À (.dct kvs))(hi:i < O.length)(k:W.nx (O.set i (.od kvs))):Wp (qi i F es) O W:=by unfold Wp qi aJ;rw[h];dsimp only;rw[h2];dsimp only;rw[if_pos hi];exact k
def Fq(a:DE):aW->Option (List D):=λO=>(asL a O).map List.reverse
def KZ(h:asL a O=À ds):Fq a O=À ds.reverse:=by unfold Fq;rw[h];rfl
def Dm{ds:List D}(hl:ds.length<=Î)(hd0:∀H2 T2,Kp T H1 T2 H2->aH Bx H2->cE K H2 p vs)(hn:vs.length=ds.length)
 (hi:∀H2 T2 (i:Nat) v d,Kp T H1 T2 H2->aH Bx H2->vs[i]?=À v->ds[i]?=À d->ER K m Bx H2 T2 v d):Walk K m Bx (MU K p vs.length) H1 T ds.reverse:=by
 refine⟨by simp_all,λi d H2 T2 kp sb hd e=>?_,λi H2 T2 kp sb hi=>?_⟩
 ·have hr2:=hd0 H2 T2 kp sb;have hi0:=(Ó.mp e).1;rw[Ϸ]at hi0;rw[List.getElem?_reverse hi0]at e;refine⟨⟨hn ▸ hi0,vs,hr2,rfl⟩,λx H3 ⟨e3,hx⟩=>?_⟩;subst e3;have:=hx vs hr2 rfl;rw[hn]at this;exact⟨aH.refl _,hi _ T2 _ _ d kp sb this e⟩
 ·rw[Ϸ]at hi;show vs.length<=i
  lia
def DK(ha:SemB K tl a):rG K Ã (Ml K tl) (Fq a):=λ{B Z os O Y H R ds} f q k=>by
 unfold Fq at q;cases e0:asL a O with
 |none=>rw[e0]at q;cases q
 |some es =>rw[e0]at q;cases q;obtain⟨d,q,ed⟩:=cu e0;refine ha f q λv H1 s1 i1=>?_;obtain⟨p,vs,rfl,hl,hn,hr⟩:=i1.seq ed;refine⟨p,vs,rfl,(hr H1 _ Kp.refl).1,k _ _ s1 (Dm (hn ▸ hl) (λH2 T2 kp sb=>(hr H2 No (Kp.same sb)).1) hn λH2 T2 i v d kp sb e1 e2=>?_)⟩;obtain⟨v',f1,i2⟩:=(hr H1 No Kp.refl).2.get e2;rw[e1]at f1;cases f1;exact i2
end
end
end VL
namespace PySem
open Sem (wp)
section
def lT(h:Q (s.heap.get? a) s):í M A (loadIfAlive a) Q E s:=fun Γ p _=>h
abbrev oA(h:Ő)(z TI TO:Ý)(f0:Ù)(b:Bool):Prop :=
 h.get? z=À {cls:=.type "zip", dict:=Á,data:=.fields #[f0,.bool b,.bool Ã,.ref TI,.ref TO],slots:=#[] }
def lP{T:Ý}(hz:oA s.heap z TI TO (ũ T) b)(hT:∃o,s.heap.get? T=À o)
 (h:∀h',oA h' z TI TO (ũ T) Â->Θ z s.heap h'->Q Ã {s with heap:=h' }):í (model prog w) A (Sr (.ref z)) Q E s:=by
 obtain⟨o,ho⟩:=hT;refine È (Pn hz rfl rfl (È (lT ?_)));rw[ŏ,ho];refine È (Pn hz rfl (x:=.bool b) rfl ?_);cases b with
 |true =>exact Ï (h s.heap hz ⟨rfl,λ_ _=>rfl⟩)
 |false =>exact È (wpAny_setField_rec hz (by simp) λh₁ hz₁ hs₁=>Ï (h h₁ hz₁ hs₁))
def pN{T:Ý}{Q:Ù->ç->Prop}(D:Pl z TI TO i1 i2 l1 l2)
 (hz:oA s.heap z TI TO (ũ T) bb) (hT:∃o,s.heap.get? T=À o) (hTI:QC s.heap TI (.ref i1) (.ref i2)) (hTO:QC s.heap TO a b)
 (h1:s.heap.IsListIter i1 l1 k1) (h2:s.heap.IsListIter i2 l2 k2) (hl1:s.heap.IsList l1 xs) (hl2:s.heap.IsList l2 ys) (hx:xs[k1]?=À x) (hy:ys[k2]?=À y)
 (hQ:∀h',oA h' z TI TO (ũ T) Â->h'.IsListIter i1 l1 (k1+1)->h'.IsListIter i2 l2 (k2+1)->QC h' s.heap.objs.size x y->h'.objs.size=s.heap.objs.size+1 ->
  (∀c o,c≠z->c≠i1->c≠i2->s.heap.get? c=À o->h'.get? c=À o)->Q (.ref s.heap.objs.size) {s with heap:=h' }) :
 í (model prog w) A (ŭ.«zip.__next__» ⟨[.ref z],[]⟩) (λfin s'=>∃v,fin=.done (.ret v)/\Q v s') E s:=by
 show í _ _ (field (.ref z) 2 >>= _) _ _ _;refine È (Pn hz rfl (x:=.bool Ã) rfl ?_);refine È (Pn hz rfl rfl (È (O5 hTI rfl ?_)));refine È (lP hz hT λh₁ hz₁ hs₁=>?_);apply È;simp only[Qd,Rq,Ui];refine È (È (Ċ ?_));refine È (O6 (h1.extBut hs₁.extBut D.i1z) (hl1.extBut hs₁.extBut D.l1z) hx λh₂ h1₂ hs₂=>Ï (Ï (È (È (Ċ ?_)))));refine È (O6 ((h2.extBut hs₁.extBut D.i2z).extBut hs₂.extBut D.i12.symm) ((hl2.extBut hs₁.extBut D.l2z).extBut hs₂.extBut D.l2i1) hy λh₃ h2₃ hs₃=>Ï (Ï (Ï ?_)));show í _ _ (newTuple [x,y] >>= _) _ _ _;refine È (OZ ?_);have hsz:h₃.objs.size=s.heap.objs.size:=by rw[hs₃.1,hs₂.1,hs₁.1]
 refine Ï ⟨_,rfl,?_⟩;have g:QC (h₃.push {cls:=.type "tuple", data:=.seq #[x,y] }) h₃.objs.size x y:=å _ rfl;rw[hsz]at g ⊢;exact hQ _ (Ì _ (hs₃.extBut _ _ D.i2z.symm (hs₂.extBut _ _ D.i1z.symm hz₁))) ((h1₂.extBut hs₃.extBut D.i12).at λo e=>Ì _ e) (h2₃.at λo e=>Ì _ e) g (by rw[ϫ,hsz]) λc o c1 c3 c4 e=>Ì _ ((λc o c1 c3 c4 e=>hs₃.extBut _ _ c4 (hs₂.extBut _ _ c3 (hs₁.extBut _ _ c1 e))) c o c1 c3 c4 e)
end
namespace F
def yh:Su (.type "zip") "__len__" = pure none:=by kernel_rfl
def we:Su (.type "zip") "__length_hint__" = pure none:=by kernel_rfl
end F
section
def rN{T:Ý}(hh:A.handled=Á)(D:Pl z TI TO i1 i2 l1 l2)
 (hz:oA s.heap z TI TO (ũ T) bb) (hT:∃o,s.heap.get? T=À o) (hTI:QC s.heap TI (.ref i1) (.ref i2))
 (h1:s.heap.IsListIter i1 l1 k1) (h2:s.heap.IsListIter i2 l2 k2) (hl1:s.heap.IsList l1 xs) (hl2:s.heap.IsList l2 ys) (hend:xs[k1]?=Á\/ys[k2]?=Á)
 (hE:∀h' e,(∀c o,c≠z->c≠i1->c≠i2->s.heap.get? c=À o->h'.get? c=À o)->(∃o,h'.get? e=À o/\o.cls=.type "StopIteration")->E (.ref e) {s with heap:=h' }) :
 í (model prog w) A (ŭ.«zip.__next__» ⟨[.ref z],[]⟩) Q E s:=by
 show í _ _ (field (.ref z) 2 >>= _) _ _ _;refine È (Pn hz rfl (x:=.bool Ã) rfl (È (Pn hz rfl rfl (È (O5 hTI rfl (È (lP hz hT λh₁ hz₁ hs₁=>?_)))))));apply È;simp only[Qd,Rq,Ui];refine È (È (Ċ ?_));cases hx:xs[k1]? with
 |none =>exact È (RA hh (h1.extBut hs₁.extBut D.i1z) (hl1.extBut hs₁.extBut D.l1z) hx λh₂ e hs₂ he=>hE h₂ e (λc o c1 c3 _ x=>hs₂ _ _ c3 (hs₁.extBut _ _ c1 x)) he)
 |some x =>exact È (O6 (h1.extBut hs₁.extBut D.i1z) (hl1.extBut hs₁.extBut D.l1z) hx λh₂ h1₂ hs₂=>Ï (Ï (È (È (Ċ (È (RA hh ((h2.extBut hs₁.extBut D.i2z).extBut hs₂.extBut D.i12.symm) ((hl2.extBut hs₁.extBut D.l2z).extBut hs₂.extBut D.l2i1) (by simp_all) λh₃ e hs₃ he=>hE h₃ e (λc o c1 c3 c4 x=>hs₃ _ _ c4 (hs₂.extBut _ _ c3 (hs₁.extBut _ _ c1 x))) he)))))))
noncomputable def mR(z TI TO i1 i2 l1 l2:Ý)(xs ys:Array Ù)(i:Nat)(h:Ő):Prop :=
 (IsZip h z TI TO .none\/∃(T:Ý) (b:Bool),oA h z TI TO (ũ T) b/\∃o,h.get? T=À o)/\QC h TI (.ref i1) (.ref i2)/\(∃a b,QC h TO a b)/\h.IsListIter i1 l1 i/\h.IsListIter i2 l2 i/\h.IsList l1 xs/\h.IsList l2 ys
def mR.keeps(x:mR z TI TO i1 i2 l1 l2 xs ys i h)(k:∀b o,b≠S->h.get? b=À o->h'.get? b=À o)(kS:(∃o,h.get? S=À o)->∃o,h'.get? S=À o)
 (n1:z≠S) (n2:TI≠S) (n3:TO≠S) (n4:i1≠S) (n5:i2≠S) (n6:l1≠S) (n7:l2≠S):mR z TI TO i1 i2 l1 l2 xs ys i h':=by
 obtain⟨hz,hTI,⟨a,b,hTO⟩,h1,h2,hl1,hl2⟩:=x;refine⟨?_,k _ _ n2 hTI,⟨a,b,k _ _ n3 hTO⟩,h1.at λo e=>k _ o n4 e,h2.at λo e=>k _ o n5 e,hl1.at λo e=>k _ o n6 e,hl2.at λo e=>k _ o n7 e⟩;rcases hz with hz |⟨T,b,hz,o,ho⟩
 ·exact .inl (k _ _ n1 hz)
 ·refine .inr ⟨T,b,k _ _ n1 hz,?_⟩;by_cases c:T=S
  ·subst c;exact kS ⟨o,ho⟩
  ·exact⟨o,k _ _ c ho⟩
def yj(D:Pl z TI TO i1 i2 l1 l2)(st:mR z TI TO i1 i2 l1 l2 xs ys i s.heap)(hx:xs[i]?=À x)(hy:ys[i]?=À y)
 (hQ:∀h',mR z TI TO i1 i2 l1 l2 xs ys (i+1) h'->QC h' s.heap.objs.size x y->h'.objs.size=s.heap.objs.size+1->(∀c o,c≠z->c≠TO->c≠i1->c≠i2->s.heap.get? c=À o->h'.get? c=À o)->Q (À (.ref s.heap.objs.size)) {s with heap:=h' }) :
 í (model prog w) A (ON (.ref z)) Q E s:=by
 obtain⟨hz,hTI,⟨a,b,hTO⟩,h1,h2,hl1,hl2⟩:=st;rcases hz with hz |⟨T,bb,hz,hT⟩
 ·exact wpAny_pyNext_zip_item D hz hTI hTO h1 h2 hl1 hl2 hx hy λh' a1 a2 a3 a4 a5 a6 hk=>hQ h' ⟨.inr ⟨_,Ã,a1,_,a5⟩,hk _ _ D.TIz D.TITO D.TIi1 D.TIi2 hTI,⟨_,_,a2⟩,a3,a4,hl1.at λo e=>hk _ o D.l1z D.l1TO D.l1i1 D.l1i2 e,hl2.at λo e=>hk _ o D.l2z D.l2TO D.l2i1 D.l2i2 e⟩ a5 a6 hk
 ·have hTy:s.TypeIs (.ref z) "zip" := ⟨_,hz,rfl⟩
  refine È (ż (ś hTy OF
   (ĳ OF hTy Tw
    (pN D hz hT hTI hTO h1 h2 hl1 hl2 hx hy λh' a1 a3 a4 a5 a6 hk=>Ï ?_) (Te _))))
  have hTz:∃o,h'.get? T=À o:=by
   obtain⟨o,ho⟩:=hT;by_cases c1:T=z
   ·exact⟨_,by rw[c1];exact a1⟩
   ·by_cases c3:T=i1
    ·obtain⟨o,e,_⟩:=a3;simp_all
    ·by_cases c4:T=i2
     ·obtain⟨o,e,_⟩:=a4;simp_all
     ·exact⟨o,hk _ _ c1 c3 c4 ho⟩
  exact hQ h' ⟨.inr ⟨T,Â,a1,hTz⟩,hk _ _ D.TIz D.TIi1 D.TIi2 hTI,⟨a,b,hk _ _ D.TOz D.TOi1 D.TOi2 hTO⟩,a3,a4,hl1.at λo e=>hk _ o D.l1z D.l1i1 D.l1i2 e,hl2.at λo e=>hk _ o D.l2z D.l2i1 D.l2i2 e⟩ a5 a6 λc o c1 _ c3 c4 e=>hk c o c1 c3 c4 e
def Br(hh:A.handled=Á)(D:Pl z TI TO i1 i2 l1 l2)(st:mR z TI TO i1 i2 l1 l2 xs ys i s.heap)(hend:xs[i]?=Á\/ys[i]?=Á)
 (hQ:∀h',(∀c o,c≠z->c≠TO->c≠i1->c≠i2->s.heap.get? c=À o->h'.get? c=À o)->Q Á {s with heap:=h' }):í (model prog w) A (ON (.ref z)) Q E s:=by
 obtain⟨hz,hTI,⟨a,b,hTO⟩,h1,h2,hl1,hl2⟩:=st;rcases hz with hz |⟨T,bb,hz,hT⟩
 ·exact wpAny_pyNext_zip_end hh D hz hTI hTO h1 h2 hl1 hl2 hend hQ
 ·have hTy:s.TypeIs (.ref z) "zip" := ⟨_,hz,rfl⟩
  refine È (ż (ś hTy OF
   (ĳ OF hTy Tw (rN hh D hz hT hTI h1 h2 hl1 hl2 hend λh' e hk he=>?_) (Te _))))
  obtain⟨o,ho,hc⟩:=he;exact È (Pd ⟨o,ho,hc⟩ RW (Ï (hQ _ λc o c1 _ c3 c4 e=>hk c o c1 c3 c4 e)))
def kQ{a:Nat}(h:a<lo)(g:lo<=b):b≠a:=by lia
def rD(xs ys:Array Ù)(lo:Nat)(h:Ő)(acc:List Ý):Prop:=acc.Nodup/\∀(j:Nat) (T:Ý),acc[j]?=À T->lo<=T/\∃x y,xs[j]?=À x/\ys[j]?=À y/\QC h T x y
def C4(hh:A.handled=Á)(D:Pl z TI TO i1 i2 l1 l2)(hn:n=min xs.size ys.size)(hsz:n<=Î)
 (n1:z≠S) (n2:TI≠S) (n3:TO≠S) (n4:i1≠S) (n5:i2≠S) (n6:l1≠S) (n7:l2≠S) (hlo:z<lo/\TI<lo/\TO<lo/\i1<lo/\i2<lo/\S<lo) :
 ∀(k i:Nat) (s:ç) (acc:List Ý) (c:Nat),n-i=k->i<=n->lo<=s.heap.objs.size->mR z TI TO i1 i2 l1 l2 xs ys i s.heap->s.heap.get? S=À {cls:=.type "list", dict:=Á,data:=.seq (acc.map Č).toArray c,slots:=#[] }->acc.length=i->rD xs ys lo s.heap acc ->
 (∀h' acc' c',(∀b o,b≠S->b≠z->b≠TO->b≠i1->b≠i2->s.heap.get? b=À o->h'.get? b=À o)->h'.get? S=À {cls:=.type "list", dict:=Á,data:=.seq ((acc':List Ý).map Č).toArray c',slots:=#[] }->acc'.length=n->rD xs ys lo h' acc'->R (.ok (.ret res)) {s with heap:=h' }) ->
 OR (model prog w) A (.builtin "list.extend.loop" ⟨[.ref S,.ref z,res],[]⟩) R s:=by
 intro k;induction k with
 |zero =>
  intro i s acc c hk hi hlos hst hS hacc hgot hR;have hin:i=n:=by lia
  subst hin;refine Ĵ Sa ?_;rw[Ś Ow _];show í _ A.in1 (ON (.ref z) >>= _) _ _ s
  have hend:xs[i]?=Á\/ys[i]?=none:=by
   rcases Nat.le_total xs.size ys.size with h |h
   ·exact .inl (by rw[hn,Ϛ h];exact ϖ (Õ _))
   ·exact .inr (by rw[hn,Nat.min_eq_right h];exact ϖ (Õ _))
  refine È (Br hh D hst hend λh' hk'=>?_);exact Ï (hR h' acc c (λb o _ b1 b2 b3 b4 e=>hk' b o b1 b2 b3 b4 e) (hk' _ _ (ĩ n1) (ĩ n3) (ĩ n4) (ĩ n5) hS) hacc ⟨hgot.1,λj T e=>by obtain⟨g1,x,y,g2,g3,g4⟩:=hgot.2 j T e;exact⟨g1,x,y,g2,g3,hk' _ _ (kQ hlo.1 g1) (kQ hlo.2.2.1 g1) (kQ hlo.2.2.2.1 g1) (kQ hlo.2.2.2.2.1 g1) g4⟩⟩)
 |succ k ih =>
  intro i s acc c hk hi hlos hst hS hacc hgot hR;have hlt:i<n:=by lia
  have hix:i<xs.size:=by lia
  have hiy:i<ys.size:=by lia
  refine Ĵ Sa ?_;rw[Ś Ow _];show í _ A.in1 (ON (.ref z) >>= _) _ _ s;refine È (yj D hst (Þ hix) (Þ hiy) λh' hst' hpr hz' hk'=>?_);have hS':=hk' _ _ (ĩ n1) (ĩ n3) (ĩ n4) (ĩ n5) hS;show í _ A.in1 (QQ S (·.push (.ref s.heap.objs.size)) >>= _) _ _ _;refine È ?_;have oth:∀b o,b≠S->h'.get? b=À o->(h'.update S (ù (·.push (Č s.heap.objs.size)))).get? b=À o:=λb o hb e=>(č _ _ (ĩ hb)).trans e;have hS2:=ĝ (ù (·.push (Č s.heap.objs.size))) hS' rfl;have hSs:S≠s.heap.objs.size:=(kQ hlo.2.2.2.2.2 hlos).symm
  obtain⟨c2,hS3⟩:∃c2,(h'.update S (ù (·.push (Č s.heap.objs.size)))).get? S=À {cls:=.type "list", dict:=Á,data:=.seq ((acc++[s.heap.objs.size]).map Č).toArray c2,slots:=#[] }:=by
   rw[î];have:((acc.map Č)++[s.heap.objs.size].map Č).toArray=(acc.map Č).toArray.push (.ref s.heap.objs.size):=by simp
   rw[this];exact⟨_,hS2⟩
  refine ϛ hS' rfl (Ï ⟨ő Ow _,ih (i+1) _ (acc++[s.heap.objs.size]) c2 (by lia) hlt ?_ (hst'.keeps (S:=S) (λb o hb e=>oth b o hb e) (λ_=>⟨_,hS2⟩) n1 n2 n3 n4 n5 n6 n7) hS3 (by rw[á,hacc];rfl) ?_ λh'' acc' c' hk'' hS'' hacc' hgot'=>?_⟩)
   (by rw[ã,Ê];lia) (by show ((acc.map Č).toArray.push _).size<=Î+1;rw[ű,ã,Ê];lia)
  ·show lo<=(h'.update S _).objs.size;rw[Ř,hz'];lia
  ·refine⟨Ϣ.mpr ⟨hgot.1,by simp,λT hT u hu=>?_⟩,?_⟩
   ·obtain⟨j,e⟩:=Ϡ.mp hT;obtain⟨_,_,_,_,_,g4⟩:=hgot.2 j T e;rw[Ð.mp hu];exact Ü (Ø g4)
   intro j T e;by_cases hj:j<acc.length
   ·rw[ú hj]at e;obtain⟨g1,x,y,g2,g3,g4⟩:=hgot.2 j T e;exact⟨g1,x,y,g2,g3,oth _ _ (kQ hlo.2.2.2.2.2 g1) (hk' _ _ (kQ hlo.1 g1) (kQ hlo.2.2.1 g1) (kQ hlo.2.2.2.1 g1) (kQ hlo.2.2.2.2.1 g1) g4)⟩
   ·rw[ï (ņ.1 hj)]at e
    have e0:j-acc.length=0:=by
     cases h:j-acc.length with
     |zero=>rfl
     |succ k=>rw[h]at e;simp at e
    rw[e0]at e;cases e;have:j=i:=by lia
    subst this;exact⟨hlos,_,_,Þ hix,Þ hiy,oth _ _ (ĩ hSs) hpr⟩
  ·exact hR h'' acc' c' (λb o b0 b1 b2 b3 b4 e=>hk'' b o b0 b1 b2 b3 b4 (oth b o b0 (hk' b o b1 b2 b3 b4 e))) hS'' hacc' hgot'
def yi(hh:A.handled=Á)(D:Pl z TI TO i1 i2 l1 l2)(hn:n=min xs.size ys.size)(hsz:n<=Î)
 (n1:z≠S) (n2:TI≠S) (n3:TO≠S) (n4:i1≠S) (n5:i2≠S) (n6:l1≠S) (n7:l2≠S) (hlo:z<s.heap.objs.size/\TI<s.heap.objs.size/\TO<s.heap.objs.size/\i1<s.heap.objs.size/\i2<s.heap.objs.size/\S<s.heap.objs.size)
 (hst:mR z TI TO i1 i2 l1 l2 xs ys 0 s.heap) (hS:s.heap.get? S=À {cls:=.type "list", data:=.seq #[] c₀ })
 (hR:∀h' acc' c',(∀b o,b≠S->b≠z->b≠TO->b≠i1->b≠i2->s.heap.get? b=À o->h'.get? b=À o)->h'.get? S=À {cls:=.type "list", dict:=Á,data:=.seq ((acc':List Ý).map Č).toArray c',slots:=#[] }->acc'.length=n->rD xs ys s.heap.objs.size h' acc'->R (.ok (.ret res)) {s with heap:=h' }) :
 í (model prog w) A.in1 (Ņ (.ref S) (.ref z) res)
  (λfin s'=>match fin with |.done f=>R (.ok f) s' |.again c'=>c'.quiet=Â/\OR (model prog w) A c' R s') (λe s'=>R (.error e) s') s:=by
 have hT:s.TypeIs (.ref z) "zip" := by
  rcases hst.1 with hz |⟨T,b,hz,_⟩
  ·exact⟨_,hz,rfl⟩
  ·exact⟨_,hz,rfl⟩
 unfold Ņ;refine È (Tc hT ?_);have h1:Ξ (.ref S) (.ref z)=false:=by simp[Ξ,ĩ n1]
 have h2:(ŋ "zip" == ŋ "list")=false:=by decide
 have h3:(ŋ "zip" == ŋ "tuple")=false:=by decide
 simp only[h1,h2,h3,Ut,ϓ,if_false];refine È ?_;refine Qt hT F.slot_zip_iter (ĳ F.slot_zip_iter hT F.entry_zip_iter ?_ (F.args_zip_iter_1 _));show í _ _ (ret (.ref z)) _ _ s;refine Ï ⟨_,rfl, "zip", _,hT,OF.lookup,?_⟩;refine È (Ċ ?_);unfold PQ;refine È (OD hT F.yh ?_);show í _ A.in1 (specialOf (Č z) (Tb "__length_hint__") >>= _) _ _ _;refine È (OD hT F.we ?_);refine Ï ?_;show í _ A.in1 (rule "list.extend.makes-room" >>= λ_=>Builtin.List.listTouch (.ref S) >>= λ_ =>again (.builtin "list.extend.loop" ⟨[.ref S,.ref z,res],[]⟩)) _ _ _;refine È (Α ?_);refine È ?_;show í _ A.in1 (QQ S (·.push .none) >>= λ_=>QQ S (·.pop)) _ _ _;refine È (ϛ hS rfl ?_);have hS₂:=ĝ (ù (·.push Ŋ)) hS rfl;refine ϛ hS₂ rfl ?_;have hS₃:=ĝ (ù (·.pop)) hS₂ rfl
 have oth:∀b o,b≠S->s.heap.get? b=À o->((s.heap.update S (ù (·.push Ŋ))).update S (ù (·.pop))).get? b=À o :=
  λb o hb e=>(č _ _ (ĩ hb)).trans ((č _ _ (ĩ hb)).trans e)
 exact Ï ⟨ő Ow _,C4 hh D hn hsz n1 n2 n3 n4 n5 n6 n7 hlo n 0 _ [] _ rfl (Ą _) (ŕ (by simp:((s.heap.update S (ù (·.push Ŋ))).update S (ù (·.pop))).objs.size=s.heap.objs.size).symm) (hst.keeps oth (λ_=>⟨_,hS₃⟩) n1 n2 n3 n4 n5 n6 n7) hS₃ rfl ⟨ī,λj T e=>by simp at e⟩ λh' acc' c' hk hS' hacc hgot=>hR h' acc' c' (λb o b0 b1 b2 b3 b4 e=>hk b o b0 b1 b2 b3 b4 (oth b o b0 e)) hS' hacc hgot⟩
def sR(hh:A.handled=Á)(D:Pl z TI TO i1 i2 l1 l2)(hsz:min xs.size ys.size<=Î)
 (hlo:z<s.heap.objs.size/\TI<s.heap.objs.size/\TO<s.heap.objs.size/\i1<s.heap.objs.size/\i2<s.heap.objs.size/\l1<s.heap.objs.size/\l2<s.heap.objs.size)
 (hst:mR z TI TO i1 i2 l1 l2 xs ys 0 s.heap)
 (hQ:∀h' acc' c',(∀b o,b≠z->b≠TO->b≠i1->b≠i2->s.heap.get? b=À o->h'.get? b=À o)->h'.get? s.heap.objs.size=À {cls:=.type "list", dict:=Á,data:=.seq ((acc':List Ý).map Č).toArray c',slots:=#[] }->acc'.length=min xs.size ys.size->rD xs ys (s.heap.objs.size+1) h' acc'->Q (.ref s.heap.objs.size) {s with heap:=h' }) :
 í (model prog w) A (call (.type "list") [.ref z]) Q E s:=by
 refine callType_codes (Q₁:=λobj s₁=>obj=.ref s.heap.objs.size/\s₁={s with heap:=s.heap.push {cls:=.type "list", data:=.seq #[] } }) F.called_list (F.typeCall_list_1 _) F.entry_list_init
  (code_list_new _ ⟨rfl,rfl⟩) λobj s₁ h₁=>?_
 obtain⟨rfl,rfl⟩:=h₁;have hS:(s.heap.push {cls:=.type "list", data:=.seq #[] }).get? s.heap.objs.size=À {cls:=.type "list", data:=.seq #[] }:=å _ rfl;obtain⟨m1,m2,m3,m4,m5,m6,m7⟩:=hlo;refine⟨⟨_,hS,rfl⟩,F.args_list_init_2 _ _,?_⟩;show í _ _ (do let old <-Q9 (.ref s.heap.objs.size);Builtin.List.listUpdate (.ref s.heap.objs.size) (λ_=>#[]);letGo old.toList.reverse;Ņ (.ref s.heap.objs.size) (.ref z) .none) _ _ _;refine È ?_;unfold Q9;refine È (O5 hS rfl (Ï ?_));show í _ _ (QQ s.heap.objs.size (λ_=>#[]) >>= λ_=>letGo (#[]:Array Ù).toList.reverse >>= λ_=>Ņ (.ref s.heap.objs.size) (.ref z) .none) _ _ _;refine È (ϛ hS rfl ?_);have hS₂:=ĝ (ù λ_=>(#[])) hS rfl
 have oth:∀b o,b≠s.heap.objs.size->s.heap.get? b=À o->((s.heap.push {cls:=.type "list", data:=.seq #[] }).update s.heap.objs.size (ù λ_=>(#[]))).get? b=À o :=
  λb o hb e=>(č _ _ (ĩ hb)).trans (Ì _ e)
 refine È (wpAny_letGo (yi hh D rfl hsz (Ü m1) (Ü m2) (Ü m3) (Ü m4) (Ü m5) (Ü m6) (Ü m7) ?_ (hst.keeps oth (λ_=>⟨_,hS₂⟩) (Ü m1) (Ü m2) (Ü m3) (Ü m4) (Ü m5) (Ü m6) (Ü m7)) hS₂ λh' acc' c' hk hS' hacc hgot=>?_))
 ·rw[(by simp:((s.heap.push {cls:=.type "list", data:=.seq #[] }).update s.heap.objs.size (ù λ_=>(#[]))).objs.size=s.heap.objs.size+1)];exact⟨ÿ m1,ÿ m2,ÿ m3,ÿ m4,ÿ m5,ĸ _⟩
 ·exact⟨rfl,hQ h' acc' c' (λb o b1 b2 b3 b4 e=>hk b o (Ü (Ø e)) b1 b2 b3 b4 (oth b o (Ü (Ø e)) e)) hS' hacc (by simp_all)⟩
end
end PySem
namespace L2
open PySem PySem.Spec PyProof.Rows VL
section
def ik.add(x:ik P w H h)(hn:H a=Á)(new:cF P w (upd H a o) h a o):ik P w (upd H a o) h:=λb u e=>by
 by_cases hb:b=a
 ·subst hb;rw[az]at e;cases e;exact new
 ·rw[upd_ne hb]at e;exact(x b u e).l6 (λc v _ q=>q) (λc q=>by rw[upd_ne (aO q hn)];exact q) λc xs q=>by rw[upd_ne (aO q hn)];exact q
def sv:List (Ý×List V)->Hp->Hp
 |[],H=>H
 |p::r,H=>upd (sv r H) p.1 (.tup p.2)
theorem mD:∀{l:List (Ý×List V)} {H:Hp} {b:Ý},b∉l.map Ϝ->sv l H b=H b
 |[],_,_,_=>rfl
 |p::r,H,b,h=>by rw[Ā,Ú,not_or]at h;show upd (sv r H) p.1 _ b=_;rw[upd_ne h.1,mD h.2]
theorem AJ:∀{l:List (Ý×List V)} {H:Hp} {p:Ý×List V},(l.map Ϝ).Nodup->p∈l->sv l H p.1=À (.tup p.2)
 |[],_,_,_,h=>by cases h
 |q::r,H,p,nd,h=>by
  rw[Ā,ā]at nd;show upd (sv r H) q.1 _ p.1=_;rcases Ú.mp h with rfl |h
  ·exact az
  ·rw[upd_ne λz=>nd.1 (by rw[<-z];exact ò.mpr ⟨p,h,rfl⟩),AJ nd.2 h]
theorem AI:∀{l:List (Ý×List V)} {H:Hp},ik P w H h->(l.map Ϝ).Nodup->(∀p∈l,H p.1=Á/\p.2.length<=Î/\∃its:List Ù,Vals p.2 its/\IsTup h p.1 its.toArray)->ik P w (sv l H) h
 |[],_,x,_,_=>x
 |p::r,H,x,nd,hp=>by rw[Ā,ā]at nd;obtain⟨h1,h2,h3⟩:=hp p Ò;exact ik.add (AI x nd.2 λq hq=>hp q (Ñ _ hq)) (by rw[mD nd.1];exact h1) ⟨h2,h3⟩
def Un.news(k:∀b u,h.get? b=À u->h'.get? b=À u)(e1:∀b,b<h.objs.size->H' b=H b)(e2:aH H H'):Un fs ex H H' h h' where
 keep:=λb u q _ _ _=>k b u q
 slot:=λb u q _ _ _=>⟨u.slots,k b u q⟩
 free:=λb u q n _=>by rw[e1 b (Ø q)];exact n
 there:=λb u q _=>⟨u,k b u q⟩
 rP:=λb xs q=>e2 _ _ q
 qP:=λb u xs q=>e2 _ _ q
 pU:=λb ps q=>⟨#[],by rw[e2 _ _ q];rfl⟩
end
def Gp{lo:Nat}(r1:Vals xs us)(r2:Vals ys ws)(g:rD us.toArray ws.toArray lo h acc):∀(n:Nat),n=acc.length->∃l:List (Ý×List V),l.map Ϝ=acc/\l.map Uj=(ź (λx y=>[x,y]) xs ys).take n/\∀p∈l,lo<=p.1/\p.2.length<=Î/\∃its:List Ù,Vals p.2 its/\IsTup h p.1 its.toArray:=by
 intro n hn;have hl1:=r1.length
 have key:∀k,k<=acc.length->∃l:List (Ý×List V),l.map Ϝ=acc.take k/\l.map Uj=(ź (λx y=>[x,y]) xs ys).take k/\∀p∈l,lo<=p.1/\p.2.length<=Î/\∃its:List Ù,Vals p.2 its/\IsTup h p.1 its.toArray:=by
  intro k;induction k with
  |zero=>exact λ_=>⟨[],by simp,by simp,λp hp=>by cases hp⟩
  |succ k ih =>
   intro hk;obtain⟨l,e1,e2,e3⟩:=ih (ĉ hk);have hT:acc[k]?=À acc[k]:=É hk;obtain⟨g1,u,v,g2,g3,g4⟩:=g.2 k _ hT;have g2':us[k]?=À u:=by simpa using g2
   have g3':ws[k]?=À v:=by simpa using g3
   have hk1:k<xs.length:=by rw[hl1];exact(Ó.mp g2').1
   have hk2:k<ys.length:=by rw[r2.length];exact(Ó.mp g3').1
   obtain⟨u',f1,q1⟩:=r1.get (É hk1);obtain⟨v',f2,q2⟩:=r2.get (É hk2);rw[g2']at f1;cases f1;rw[g3']at f2;cases f2;refine⟨l++[(acc[k],[xs[k],ys[k]])],?_,?_,λp hp=>?_⟩
   ·simp_all
   ·rw[î,e2,Ţ,Ϟ,É hk1,É hk2];rfl
   ·rcases â.mp hp with hp |hp
    ·exact e3 p hp
    ·rw[Ð.mp hp];exact⟨g1,by show 2<=Î;decide,[u,v],.cons q1 (.cons q2 .nil),⟨_,g4,rfl,_,rfl⟩⟩
 obtain⟨l,e1,e2,e3⟩:=key n (ŕ hn);exact⟨l,by simp_all,e2,e3⟩
noncomputable def Ir(K:Í)(t:TA):TE:=λY H Q=>t Y H λvs H1=>∃a b xs ys,vs=[.ref a,.ref b]/\cE K H1 a xs/\cE K H1 b ys/\∀S (l:List (Ý×List V)) H',aH H1 H'->H1 S=Á->H' S=À (.lst (l.map λp=>.ref p.1))->l.map Uj=ź (λx y=>[x,y]) xs ys->l.length<=Î->(∀p∈l,H1 p.1=Á/\H' p.1=À (.tup p.2))->Q (.ref S) H'
def pe_lzip {K:PySem.W.Frag} (hK:X.K=K) (hc:X.calm=true) (hg1:Gl X "list") (hm1:X.mg "list" = none) (hg2:Gl X "zip") (hm2:X.mg "zip" = none) (ha:PA X [a,b] ta)
    (e1:ġ [.Call (.Name "zip" p2) [a,b] [] q2] X.env=[(Ã,eval (.Call (.Name "zip" p2) [a,b] [] q2) X.env)]:=by rfl) (hs:ġ [a,b] X.env=(Ã,eval a X.env)::ġ [b] X.env:=by rfl) (hp:(QX q2 (ġ [b] X.env)).any (·.1)=false:=by rfl) :
    PE X (.Call (.Name "list" p1) [.Call (.Name "zip" p2) [a,b] [] q2] [] q1) (Ir K ta):=by
  subst hK;intro pins s Y H Q I h;have hh:=I.ok.hd hc;refine ť (eI I hg1 hm1 gW ?_ (by decide) (by decide));refine Ğ (rest:=[]) ?_ (by rw[e1];rfl) rfl;rw[e1];show í _ _ (spliced [(Ã,eval (.Call (.Name "zip" p2) [a,b] [] q2) X.env)]) _ _ s;refine P1 ?_;refine Call_ (eI I hg2 hm2 FF (Ğ (cc (ha q2 pins s Y H _ I h) λus s1 ⟨vs,H1,I1,r1,q1⟩=>?_) hs hp));obtain⟨x,y,xs,ys,rfl,qa,qb,q⟩:=q1;cases r1 with
  |cons ra r1 =>
    cases r1 with
    |cons rb r1 =>
      cases r1;cases ra;cases rb;obtain⟨us,v1,pl1,z1⟩:=I1.list qa;obtain⟨ws,v2,pl2,z2⟩:=I1.list qb;have l1:=v1.length;have l2:=v2.length;have la:x<s1.heap.objs.size:=by obtain⟨_,e,_⟩:=pl1.isList;exact Ø e
      have lb:y<s1.heap.objs.size:=by obtain⟨_,e,_⟩:=pl2.isList;exact Ø e
      refine call_zip_2 pl1.isList pl2.isList λh1 hz hTI hTO hi1 hi2 hsz hk=>?_;refine Qm ?_;have hm:min us.toArray.size ws.toArray.size<=Î:=by rw[ã,ã];lia
      refine sR (s:={s1 with heap:=h1 }) hh (C7 _ _ _ la lb) hm ?_ ⟨.inl hz,hTI,⟨_,_,hTO⟩,hi1,hi2,pl1.isList.at λo e=>hk _ o e,pl2.isList.at λo e=>hk _ o e⟩ λh' acc c hk' hS hacc hgot=>?_
      · have f:∀n m:Nat,m=n+5->∀i j:Nat,i<n->j<n->n+4<m/\n+2<m/\n+3<m/\n<m/\n+1<m/\i<m/\j<m:=by intros;lia
        exact f s1.heap.objs.size h1.objs.size hsz x y la lb
      · obtain⟨l,e1,e2,e3⟩:=Gp v1 v2 hgot acc.length rfl;have hlen:l.length=acc.length:=by rw[<-e1,Ê]
        have hzl:(ź (λx y=>[x,y]) xs ys).length=acc.length:=by have hacc':acc.length=min us.toArray.size ws.toArray.size:=hacc;rw[Ϻ,hacc',ã,ã,l1,l2]
        rw[Ĩ (ŕ hzl)]at e2;have big:∀b:Nat,h1.objs.size<=b->s1.heap.objs.size<=b:=λb hb=>by lia
        have kall:∀b u,s1.heap.get? b=À u->h'.get? b=À u:=λb u e=>by
          have hb:=Ø e;have f:∀n i b:Nat,b<n->b≠n+i:=by intros;lia
          exact hk' b u (f _ 4 b hb) (f _ 3 b hb) (f _ 0 b hb) (f _ 1 b hb) (hk b u e)
        have fr:∀b:Nat,h1.objs.size<=b->H1 b=none:=λb hb=>I1.bJ.fresh (big b hb);have nd:(l.map Ϝ).Nodup:=by rw[e1];exact hgot.1
        have hS0:H1 h1.objs.size=none:=fr _ (Õ _)
        have hSl:h1.objs.size∉l.map Ϝ:=λz=>by
          obtain⟨p,hp,e⟩:=ò.mp z;have:=(e3 p hp).1;have f:∀n m:Nat,n+1<=m->m≠n:=by intros;lia
          exact f _ _ this e
        have hT:∀p∈l,H1 p.1=none:=λp hp=>fr _ (Nat.le_of_succ_le (e3 p hp).1);have ok1:ik X.prog X.w (sv l H1) h':=AI (I1.bJ.kept kall) nd λp hp=>⟨hT p hp,(e3 p hp).2⟩
        have er:acc.map Č=l.map λp=>Č p.1:=by rw[<-e1,ë];rfl
        have vr:∀l:List (Ý×List V),Vals (l.map λp=>V.ref p.1) (l.map λp=>Č p.1):=by
          intro l;induction l with
          |nil=>exact .nil
          |cons p r ih=>exact .cons rfl ih
        have ok2:ik X.prog X.w (upd (sv l H1) h1.objs.size (.lst (l.map λp=>V.ref p.1))) h':=ik.add ok1 (by rw[mD hSl];exact hS0) ⟨by rw[Ê];have hacc':acc.length=min us.toArray.size ws.toArray.size:=hacc;lia,_,c,vr l,by rw[<-er];exact hS⟩
        have s12:aH H1 (upd (sv l H1) h1.objs.size (.lst (l.map λp=>V.ref p.1))):=λb o e=>by
          rw[upd_ne (aO e hS0),mD (λz=>?_)]
          · exact e
          · obtain⟨p,hp,e'⟩:=ò.mp z;have:=hT p hp;rw[e',e]at this;cases this
        have I2:Inv X pins Y (upd (sv l H1) h1.objs.size (.lst (l.map λp=>V.ref p.1))) {s1 with heap:=h' }:=I1.un (t':=s1.toks) (Un.news kall (λb hb=>by
          rw [upd_ne (fun z => by have f:∀ n m b:Nat,b<n→m=n+5→b≠m:=by intros; lia
                                  exact f _ _ _ hb hsz z),mD (λz=>?_)]
          obtain⟨p,hp,e'⟩:=ò.mp z;have g:=(e3 p hp).1;have f:∀n m b p:Nat,b<n->m=n+5->m+1<=p->p≠b:=by intros;lia
          exact f _ _ _ _ hb hsz g e') s12) ok2
        exact⟨.ref _,_,I2,rfl,q _ l _ s12 hS0 az e2 (by have hacc':acc.length=min us.toArray.size ws.toArray.size:=hacc;lia) λp hp=>⟨hT p hp,by rw[upd_ne λz=>hSl (by rw[<-z];exact ò.mpr ⟨p,hp,rfl⟩),AJ nd hp]⟩⟩
end L2
namespace VL
open PySem L2
section
open Classical
section
variable[aV]
def G8 (ha:aN K ta a) (hb:aN K tb b):cZ K (Ir K (a9 ta (a9 tb dv))) (sM a b):=fun {B Z os O Y H Q ds} f q k=>by
  unfold sM at q;cases ea:asL a O with
  |none=>rw[ea]at q;cases q
  |some xs =>
    cases eb:asL b O with
    |none=>simp_all
    |some ys =>
      rw[ea,eb]at q;cases q;obtain⟨da,ea,eda⟩:=cu ea;obtain⟨db,eb,edb⟩:=cu eb;refine ha f ea λv H1 s1 i1=>hb (f.grow s1) eb λu H2 s2 i2=>?_;obtain⟨p1,vs,rfl,hl1,hn1,hr1⟩:=i1.seq eda;obtain⟨p2,us,rfl,hl2,hn2,hr2⟩:=i2.seq edb;have s12:=s1.trans s2;obtain⟨g1,r1⟩:=hr1 H2 _ (Kp.same s2);obtain⟨g2,r2⟩:=hr2 H2 _ Kp.refl;refine⟨p1,p2,vs,us,rfl,g1,g2,λS l H' s3 hS hS' e2 hl hT=>?_⟩;apply k S _ H' (s12.trans s3) (aH.free s12 hS) hS' (by simp_all)
      have main:∀{vs us:List V} {xs ys:List D} {l:List (Ý×List V)},IsL K H2 (bD Z os) vs xs->IsL K H2 (bD Z os) us ys->l.map Uj=ź (λx y=>[x,y]) vs us->(∀p∈l,H2 p.1=Á/\H' p.1=À (.tup p.2))->IsL K H' (λa=>a=S\/bD Z os a) (l.map λp=>V.ref p.1) (CS xs ys):=by
        intro vs us xs ys l;induction l generalizing vs us xs ys with
        |nil =>
          intro r1 r2 e _;cases r1 with
          |nil=>exact .nil
          |cons h r =>
            cases r2 with
            |nil=>exact .nil
            |cons h2 r2=>cases e
        |cons p l ih =>
          intro r1 r2 e hT;cases r1 with
          |nil=>cases e
          |@cons v d vs xs h r =>
            cases r2 with
            |nil=>cases e
            |@cons u d2 us ys h2 r2 =>
              obtain⟨e4,e5⟩:=List.cons.inj e;obtain⟨t1,t2⟩:=hT p Ò;rw[e4]at t2;have kp:Kp (bD Z os) H2 (λa=>a=S\/bD Z os a) H':=λa o e z=>⟨s3 _ _ e,λw=>w.elim (λw=>by rw[w,hS]at e;cases e) z⟩
              refine .cons (.tup ?_ t2 (by show 2<=Î;decide) (.cons (h.kp kp) (.one (h2.kp kp)))) (ih r r2 e5 λq hq=>hT q (Ñ _ hq));rintro(z |z)
              · simp_all
              · exact(f.grow s12).out t1 z
      exact main r1 r2 e2 hT
end
end
section
open Classical
section
variable[aV]
def Gy:List D->Option (List Int)
 |[]=>À []
 |.int n::r=>(Gy r).map (n::·)
 |_=>Á
omit [aV] in
theorem zO:∀ns:List Int,Gy (ns.map D.int)=À ns
 |[]=>rfl
 |n::r=>by show (Gy (r.map D.int)).map (n::·)=_;rw[zO r];rfl
omit [aV] in
theorem wC:∀{ds:List D} {ns:List Int},Gy ds=À ns->ds=ns.map D.int
 |[],_,h=>by cases h;rfl
 |.int n::r,ns,h=>by
  have h:(Gy r).map (n::·)=À ns:=h;cases e:Gy r with
  |none=>rw[e]at h;cases h
  |some ms=>rw[e]at h;cases h;rw[wC e];rfl
def iw(ns:List Int)(kvs:List (Int×Int)):List (Int×Int):=ns.foldl (λm n=>mj m n n) kvs
omit [aV] in
theorem nC:∀(ns:List Int) (kvs:List (Int×Int)),(iw ns kvs).length<=kvs.length+ns.length
 |[],kvs=>Õ _
 |n::r,kvs=>by have h1:=nC r (mj kvs n n);have h2:=wZ kvs n n;show (iw r (mj kvs n n)).length<=_;rw[Û];lia
@[irreducible] noncomputable def me(i j k:Nat):DS:=λO=>match O.getD i .un with
 |.ol ds=>(match O.getD j .un with
  |.od kvs=>(match Gy ds with
   |some ns=>if k < O.length/\i≠j/\i≠k/\j≠k/\kvs.length+ns.length<Î then .nx ((O.set j (.od (iw ns kvs))).set k .un) else .no
   |none=>.no)
  |_=>.no)
 |_=>.no
omit [aV] in
theorem Bs{i j k:Nat}{O:aW}{W:Wk}{ns:List Int}{kvs:List (Int×Int)}(h0:O.getD i .un=.ol (ns.map D.int))(h1:O.getD j .un=.od kvs)(hc:k < O.length/\i≠j/\i≠k/\j≠k/\kvs.length+ns.length<Î)(q:W.nx ((O.set j (.od (iw ns kvs))).set k .un)):Wp (me i j k) O W:=by unfold Wp me;rw[h0];dsimp only;rw[h1];dsimp only;rw[zO];dsimp only;rw[if_pos hc];exact q
def BH:SemS fr K (DI (t6 K (tVar i)) (fz k) (Eb (tVar j) (tVar k) (tVar k))) (me i j k):=λ{B Z os O Y H E} f p=>by
 unfold me at p;split at p;case h_2=>exact p.elim
 case h_1 ds e =>
  split at p;case h_2=>exact p.elim
  case h_1 kvs e2 =>
   split at p;case h_2=>exact p.elim
   case h_1 ns e3 =>
    split at p;case isFalse=>exact p.elim
    case isTrue hc =>
     obtain⟨hk,hij,hik,hjk,hsm⟩:=hc;have hds:=wC e3;subst hds;obtain⟨a,vs,hu,hH,hl,r⟩:=Aw f e;have hvs:=r.ints;subst hvs;have s:=f.sl j;rw[e2]at s;obtain⟨x,eo,hux,hHx,hlx⟩:=s;have hj:=di e2 (by intro z;cases z);have kl:k < Y.length:=by rw[f.len];exact hk
     have hax:a≠x:=λz=>by rw[z,hHx]at hH;cases hH
     refine⟨_,join_some hu,a,rfl,⟨_,cE.of hH⟩,λt m Y' H'=>m=ns.length-t/\t<=ns.length/\(∀b,H' b=if b=x then À (.dK ((iw (ns.take t) kvs).map lG)) else H b)/\Ag [k,k] Y Y',⟨ns.length,rfl,Ą _,λb=>?_,Ag.refl⟩,?_⟩
     ·split
      ·rename_i z;rw[z,hHx];rfl
      ·rfl
     rintro t m σ1 H1 ⟨rfl,ht,h1,ag⟩;have hH1:H1 a=À (.lst (ns.map V.int)):=by rw[h1,if_neg hax];exact hH
     by_cases htl:t<ns.length
     ·right;refine⟨⟨ns.map V.int,.int ns[t],cE.of hH1,by rw[Ö,É htl];rfl⟩,λY' H'=>(∀b,H' b=if b=x then À (.dK ((iw (ns.take (t+1)) kvs).map lG)) else H b)/\Ag [k,k] Y Y',λY' H' h=>⟨ns.length-(t+1),by lia,rfl,htl,h.1,h.2⟩,?_⟩;rintro y H' ⟨rfl,hx⟩;have hx:=hx _ (cE.of hH1);rw[Ö,É htl]at hx;cases hx;have ag2:=ag.set (v:=À (V.int ns[t])) (i:=k) (by simp);have hHx1:H' x=À (.dK ((iw (ns.take t) kvs).map lG)):=by rw[h1,if_pos rfl]
      have sk:(σ1.set k (À (V.int ns[t])))[k]?=À (À (V.int ns[t])):=ļ (by rw[ag.1];exact kl);have sj:(σ1.set k (À (V.int ns[t])))[j]?=À (À (V.ref x)):=by rw[ag2.2 j (by simp[hjk])];exact join_some hux
      have hlen:=nC (ns.take t) kvs;have htk:(ns.take t).length<=ns.length:=by rw[İ];exact Tx ..
      refine⟨_,sk,_,sj,_,sk,x,_,rfl,.inl ⟨_,.inl ns[t],hHx1,rfl,by rw[Ê];lia,rfl⟩,λb=>?_,ag2⟩;have tk:iw (ns.take (t+1)) kvs=mj (iw (ns.take t) kvs) ns[t] ns[t]:=by unfold iw;rw[Ţ,É htl,Qv];rfl
      rw[tk,<-Ai];by_cases hb:b=x
      ·subst hb;rw[az,if_pos rfl]
      ·rw[upd_ne hb,h1,if_neg hb,if_neg hb]
     ·left;refine⟨⟨_,cE.of hH1,by rw[Ê];exact ņ.1 htl⟩,?_⟩;have ht':t=ns.length:=by lia
      subst ht';rw[Ĺ]at h1;have hx:x∈os j:=by rw[eo];exact Ð.mpr rfl
      have st:=f.step (H':=H1) (i:=j) hj (o:=[x]) (s:=.od (iw ns kvs)) (v:=À (.ref x)) (λb u e n=>by simp_all) (λb hb=>by simp_all) (by simp) λb hb=>by rw[Ð.mp hb];exact .inl hx
       ⟨x,rfl,rfl,by rw[h1,if_pos rfl],by have:=nC ns kvs;exact ĉ (OG this hsm)⟩
      rw[dw hux]at st;obtain⟨f2,k2⟩:=st.1.forget (r:=k) (by simp_all) (σ1[k]?).join;have e5:=by have:=ag.two;rw[Td]at this;exact this
      rw[<-e5]at f2;exact p _ _ _ f2 (st.2.trans k2)
end
end
end VL
namespace PySem.SeqAt
open AutoSeq1 (wpAny_loadPart')
section
open MeetsSeq MeetsSeq2 MeetsSeq3
def wb(A:Ŝ)(s:ç)(y x:Ù)(b:Bool):Prop :=
 ∀(prog:Δ) (w:Ŷ) (E:Ù->ç->Prop) (Q:Ù->ç->Prop),Q (.bool b) s->í (model prog w) A (richCompare .LtE y x) Q E s
def Cd(l b:Ý)(items items2:Array Ù)(n n2:Nat)(dd dd2:Option Ý)(sl sl2:Array (Option Ù))(e lt:Nat->Bool)(k:Nat) :
 ∀i:Nat,i<=min items.size items2.size->min items.size items2.size-i=k->Meets (ŭ.«list.__eq__.loop» ⟨[.ref l,.ref b,ũ i,ũ 1],[]⟩)
  (λA R s=>s.heap.get? l=À {cls:=.type "list", dict:=dd,data:=.seq items n,slots:=sl }/\s.heap.get? b=À {cls:=.type "list", dict:=dd2,data:=.seq items2 n2,slots:=sl2 } /\
   (∀j (h1:j<items.size) (h2:j<items2.size),EqAt A.in1 s items[j] items2[j] (e j))/\(∀j (h1:j<items.size) (h2:j<items2.size),e j=Ã->wb A.in1 s items[j] items2[j] (lt j)) /\
   R (.ok (.ret (.bool (gS e lt (decide (items.size<=items2.size)) k i)))) s):=by
 induction k with
 |zero =>
  intro i hi hk prog w A R s h;obtain⟨hp,g,d,tk,os⟩:=s;obtain⟨hl,hb,he,hlt,h⟩:=h;wp_walk using Ĉ hl,Ĉ hb;by_cases hc:items.size<=i
  ·have hi1:items[((i:Nat):Int).toNat]?=none:=by simp;exact hc
   rw[hi1];wp_walk using Ĉ hl,Ĉ hb;exact h
  ·have hi2:items2[((i:Nat):Int).toNat]?=none:=by simp;lia
   have hi1:items[((i:Nat):Int).toNat]?=À (items[i]'(O9.1 hc)):=by simp
   rw[hi1,hi2];wp_walk using Ĉ hl,Ĉ hb;exact h
 |succ k ih =>
  intro i hi hk prog w A R s h;obtain⟨hp,g,d,tk,os⟩:=s;obtain⟨hl,hb,he,hlt,h⟩:=h;wp_walk using Ĉ hl,Ĉ hb;have hlt1:i<items.size:=by lia
  have hlt2:i<items2.size:=by lia
  have hi1:items[((i:Nat):Int).toNat]?=À items[i]:=by simp[hlt1]
  have hi2:items2[((i:Nat):Int).toNat]?=À items2[i]:=by simp[hlt2]
  have hc:((i:Int)+1)=((i+1:Nat):Int):=by push_cast;rfl
  unfold gS at h;rw[hi1,hi2];refine È (he i hlt1 hlt2 prog w _ _ ?_);cases hb':e i with
  |true =>rw[hb',if_pos rfl]at h;wp_walk;rw[hc];exact⟨ő plain_eq_loop _,Ĵ entry_eq_loop (by rw[Ś plain_eq_loop _];exact ih (i+1) (by lia) (by lia) prog w A R _ ⟨hl,hb,he,hlt,h⟩)⟩
  |false =>rw[hb',if_neg ñ]at h;wp_walk using Ĉ hl,Ĉ hb;rw[hi1,hi2];dsimp only;refine È (hlt i hlt1 hlt2 hb' prog w _ _ ?_);wp_walk;exact h
def Cc(l b:Ý)(items items2:Array Ù)(n n2:Nat)(dd dd2:Option Ý)(sl sl2:Array (Option Ù))(e lt:Nat->Bool) :
 Meets (ŭ.«list.__le__» ⟨[.ref l,.ref b],[]⟩)
  (λA R s=>s.heap.get? l=À {cls:=.type "list", dict:=dd,data:=.seq items n,slots:=sl }/\s.heap.get? b=À {cls:=.type "list", dict:=dd2,data:=.seq items2 n2,slots:=sl2 } /\
   (∀j (h1:j<items.size) (h2:j<items2.size),EqAt A.in1 s items[j] items2[j] (e j))/\(∀j (h1:j<items.size) (h2:j<items2.size),e j=Ã->wb A.in1 s items[j] items2[j] (lt j)) /\
   R (.ok (.ret (.bool (gS e lt (decide (items.size<=items2.size)) (min items.size items2.size) 0)))) s):=by
 intro prog w A R s h;obtain⟨hl,hb,he,hlt,h⟩:=h;have f3:=Q7;wp_walk using Ĉ hl,Ĉ hb;exact⟨ő plain_eq_loop _,Ĵ entry_eq_loop (by exact Cd l b items items2 n n2 dd dd2 sl sl2 e lt _ 0 (Ą _) rfl prog w A R _ ⟨hl,hb,he,hlt,h⟩)⟩
section
def wb.lists(hl:s.heap.IsList l items)(hb:s.heap.IsList b items2)(hu:A.units<O7)
 (he:∀j (h1:j<items.size) (h2:j<items2.size),EqAt A.in1 s items[j] items2[j] (e j)) (hlt:∀j (h1:j<items.size) (h2:j<items2.size),e j=Ã->wb A.in1 s items[j] items2[j] (lt j)):wb A s (.ref l) (.ref b) (gS e lt (decide (items.size<=items2.size)) (min items.size items2.size) 0):=λprog w E Q h=>by
 obtain⟨⟨cls,dd,data,sl⟩,ho,hc,n,hd⟩:=id hl;obtain⟨⟨cls2,dd2,data2,sl2⟩,ho2,hc2,n2,hd2⟩:=id hb;subst hc hd hc2 hd2
 exact richCompare_meets_room ⟨_,ho,rfl⟩ ⟨_,ho2,rfl⟩ F.slot_list_le F.entry_list_le (F.args_list_le_2 _ _) (Cc l b items items2 n n2 dd dd2 sl sl2 e lt)
  ⟨ho,ho2,he,hlt,⟨(λx=>nomatch x),h⟩⟩ hu
def wb.ints(a b:Int)(t u:Tok):wb A s (.int a t) (.int b u) (decide (a<=b)):=λprog w E Q h=>PyProof.Rows.le_int h
end
end
end PySem.SeqAt
namespace VL
open PySem L2
section
open Classical
section
variable[aV]
def lexLe:List Int->List Int->Bool
 |[],_=>Â
 |_::_,[]=>Ã
 |x::xs,y::ys=>if x=y then lexLe xs ys else decide (x<=y)
omit [aV] in
theorem EH{ns ms:List Int}(hl:ns.length=ms.length):∀(k i:Nat),i+k=ns.length->SeqAt.gS (λj=>ns.getD j 0==ms.getD j 0) (λj=>decide (ns.getD j 0<=ms.getD j 0)) Â k i=lexLe (ns.drop i) (ms.drop i):=by
 intro k;induction k with
 |zero =>intro i h;rw[Ź (show ns.length<=i by lia)];rfl
 |succ k ih =>
  intro i h;have h1:i<ns.length:=by lia
  have h2:i<ms.length:=hl ▸ h1;have e1:ns.getD i 0=ns[i]:=by rw[Ë,É h1];rfl
  have e2:ms.getD i 0=ms[i]:=by rw[Ë,É h2];rfl
  rw[ó h1,ó h2];unfold SeqAt.gS lexLe;rw[ih (i+1) (by lia),e1,e2];by_cases c:ns[i]=ms[i]
  ·rw[if_pos (beq_iff_eq.mpr c),if_pos c]
  ·rw[if_neg (λz=>c (beq_iff_eq.mp z)),if_neg c]
end
end
end VL
namespace L2
open PySem PySem.Spec PyProof.Rows VL
def L5:R2:=λx y H Q=>∃p q ns ms,x=.ref p/\y=.ref q/\Rd H p (.lst (ns.map V.int))/\Rd H q (.lst (ms.map V.int))/\ns.length=ms.length/\Q (.bl (lexLe ns ms)) H
def Kg(hu:X.A.units+64<O7):o6 X (ū .LtE) L5:=by
 intro pins s Y H x y v u Q I rx ry h;obtain⟨p,q,ns,ms,rfl,rfl,h1,h2,hl,h⟩:=h;cases rx;cases ry;obtain⟨_,us,m1,k1,n1,o1⟩:=I.mB h1;obtain⟨_,ws,m2,k2,n2,o2⟩:=I.mB h2;rw[Ê]at n1 n2
 have it:∀{ns:List Int} {us:List Ù},Vals (ns.map V.int) us->∀j (h:j<us.toArray.size),∃t,us.toArray[j]=.int (ns.getD j 0) t:=λ{ns us} k j h=>by
  have hj:j<ns.length:=by have:=k.length;rw[Ê]at this;rw[ã]at h;exact this ▸ h
  obtain⟨u,q1,t,e⟩:=k.get (show (ns.map V.int)[j]?=À (.int (ns.getD j 0)) by rw[Ö,Ë,É hj];rfl);refine⟨t,?_⟩;rw[<-e];rw[ã]at h;rw[É h]at q1;simpa using q1
 have L:=SeqAt.wb.lists (A:=X.A) (s:=s) (l:=p) (b:=q) (items:=us.toArray) (items2:=ws.toArray) (e:=λj=>ns.getD j 0==ms.getD j 0) (lt:=λj=>decide (ns.getD j 0<=ms.getD j 0)) ⟨_,o1,rfl,_,rfl⟩ ⟨_,o2,rfl,_,rfl⟩ (by lia) (λj a b=>by
  obtain⟨t1,e1⟩:=it k1 j a;obtain⟨t2,e2⟩:=it k2 j b;rw[e1,e2];exact Qb _ _ _ _) λj a b _=>by
  obtain⟨t1,e1⟩:=it k1 j a;obtain⟨t2,e2⟩:=it k2 j b;rw[e1,e2];exact SeqAt.wb.ints _ _ _ _
 rw[(by simp_all:us.toArray.size=ns.length),(by simp_all:ws.toArray.size=ms.length),<-hl,S0,decide_eq_true (Õ _),EH hl ns.length 0 (S3 ..)]at L;exact L X.prog X.w X.xe _ ⟨.bl _,H,I,rfl,h⟩
end L2
namespace VL
open PySem L2
section
open Classical
section
variable[aV]
noncomputable def Ft(a b:DE):DE:=λO=>match a O with
 |some (.lst xs)=>(match b O with
  |some (.lst ys)=>(match eK xs with
   |some ns=>(match eK ys with
    |some ms=>if ns.length=ms.length then À (.bl (lexLe ns ms)) else Á
    |none=>Á)
   |none=>Á)
  |_=>Á)
 |_=>Á
def K0(ha:a O=À (.lst (ns.map D.int)))(hb:b O=À (.lst (ms.map D.int)))(h:ns.length=ms.length):Ft a b O=À (.bl (lexLe ns ms)):=by unfold Ft;rw[ha,hb];dsimp only;rw[gc,gc];exact if_pos h
def JH(ha:SemB K ta a)(hb:SemB K tb b):aN K (tOp L5 ta tb) (Ft a b):=λ{B Z os O Y H Q d} f q k=>by
  unfold Ft at q;split at q
  · rename_i xs e1;split at q
    · rename_i ys e2;split at q
      · rename_i ns e3;split at q
        · rename_i ms e4;split at q
          · rename_i hl;cases q;refine ha f e1 λv H1 s1 i1=>hb (f.grow s1) e2 λu H2 s2 i2=>?_;obtain⟨p,vs,rfl,_,h1,l1,g1⟩:=(i1.kp (Kp.same s2)).kM;obtain⟨q,ws,rfl,_,h2,l2,g2⟩:=i2.kM;have x1:=fj e3;have x2:=fj e4;subst x1;subst x2;have y1:=IsL.ints g1;have y2:=IsL.ints g2;subst y1;subst y2;exact⟨p,q,ns,ms,rfl,rfl,h1,h2,hl,k _ _ (s1.trans s2) (.bl _)⟩
          · cases q
        · cases q
      · cases q
    · cases q
  · cases q
end
end
end VL
namespace L2
open PySem PySem.Spec PyProof.Rows VL
theorem AS:∀(vs:List Ù) (ns:List Int),vs.length=ns.length->(∀(j:Nat) (v:Ù),vs[j]?=À v->∃t,v=.int (ns.getD j 0) t)->Ŧ vs ns
 |[],[],_,_=>.nil
 |v::vs,n::ns,h,hv=>by obtain⟨t,e⟩:=hv 0 v rfl;rw[e];exact .cons n t (AS vs ns (by simpa using h) λj u hu=>hv (j+1) u hu)
 |[],_::_,h,_=>by cases h
 |_::_,[],h,_=>by cases h
def vV(src:PySem.W.KdlSrc prog w T d d n Pk OK)(hh:A.handled=Á)(bJ:OK s.heap)(hn:n<=Î)
 (h:∀(g:Ő) (tk:Nat) (acc:Array Ù),ItemsOf Pk acc n->(∀b o,s.heap.get? b=À o->g.get? b=À o)->s.heap.objs.size<g.objs.size->R acc.toList {s with heap:=g,toks:=tk }):í (model prog w) A (collect (.ref d)) R E s:=by
 have hd:=(src.there _ bJ).1;refine È (RV (Ĵ RX ?_));refine È (ń (Ï ⟨ő OL _,Ĵ entry_list_iadd' ?_⟩))
 have run:=PySem.W.kdl_extend (s:={s with heap:=s.heap.push (û "list" #[] 0) }) (R:=λq u=>∃(g:Ő) (tk:Nat) (acc:Array Ù) (c:Nat),q=.ok (.ret (.ref s.heap.objs.size))/\u={s with heap:=g,toks:=tk }/\ItemsOf Pk acc n/\g.get? s.heap.objs.size=À (û "list" acc c)/\∀b o,s.heap.get? b=À o->g.get? b=À o)
  src hh (src.keep _ _ bJ λb _ o e=>Ì _ e) s.heap.objs.size (ş hd) (ş hd) (.ref s.heap.objs.size) 0 (å _ rfl)
  (λg tk acc c kp hg ha=>⟨g,tk,acc,c,rfl,rfl,ha,hg,λb o e=>kp b o (Ü (Ø e)) (Ì _ e)⟩) hn
 refine ħ run (λfin u x=>?_) λe u x=>?_
 ·cases fin with
  |done f =>obtain⟨g,tk,acc,c,e,rfl,ha,hg,kp⟩:=x;cases e;exact È (SD hg (Ï (h g tk _ ha kp (Ø hg))))
  |again c1 =>refine⟨x.1,ϐ x.2 λq u2 y=>?_⟩;obtain⟨g,tk,acc,c,rfl,rfl,ha,hg,kp⟩:=y;exact È (SD hg (Ï (h g tk _ ha kp (Ø hg))))
 ·simp_all
def wJ(hh:A.handled=Á)(hat:s.heap.DictAt (cq prog w) d kvs ep)(lo:(d==ů)=Ã)(hn:kvs.length=ns.length)(hk:∀(i:Nat) (p:Key×Ù),kvs[i]?=À p->p.1=.inl (ns.getD i 0))(hl:ns.length<800)
 (h:∀(g:Ő) (tk:Nat) (D:Ý) (out:List Ù) (ms:List Int) (c:Nat),Ŧ out ms->ms.Perm ns->ms.Pairwise (·<=·)->s.heap.objs.size<=D->g.get? D=À (û "list" out.toArray c)->(∀b o,s.heap.get? b=À o->g.get? b=À o)->Q (.ref D) {s with heap:=g,toks:=tk }):í (model prog w) A (call (.builtin "sorted") [.ref d]) Q E s:=by
 have hline:Î=16777216:=ă;refine Ζ Qq PM PN (Q6 _) ?_;unfold ŭ.«sorted»;refine È (m:=checkCount "sorted" 1 1 _) (Ï ?_);refine È (vV (A:=A.in1) (PySem.W.kdl_dict (kvs:=kvs) (ep:=ep) lo) hh hat (by lia) λg tk acc ha kp big=>?_)
 have hi:Ŧ acc.toList ns:=by
  refine AS _ _ (by rw[ß,ha.1,hn]) λj v hv=>?_;obtain⟨k,x,e1,e2⟩:=ha.2 j v (by simp_all);have ek:=hk j _ e1;have ek:k=.inl (ns.getD j 0):=ek;rw[ek]at e2;have e2:oK (.inl (ns.getD j 0)) v=true:=e2;rcases bU e2 with⟨n,t,z1,rfl⟩ |⟨x,t,z1,_⟩
  ·cases z1;exact⟨t,rfl⟩
  ·cases z1
 refine È (Ž ?_ (by rw[ß,ha.1];lia));have hD:(g.push (û "list" acc.toList.toArray 0)).get? g.objs.size=À (û "list" acc.toList.toArray 0):=å _ rfl;have hal:acc.toList.length=ns.length:=by rw[ß,ha.1,hn]
 refine È (Ċ (ĳ O1 ⟨_,hD,rfl⟩ OE (Tm.jV hD hi (by lia) λout ms a1 a2 a3=>⟨_,rfl,?_⟩) (Qc _)));obtain⟨c,hc⟩:=Sq (out:=out) hD;exact Ï ⟨_,rfl,h _ tk g.objs.size out.toList ms c a1 a2 a3 (ĉ big) (by simp_all) λb o e=>(RS (Ü (Ø (kp b o e))) (by rw[ų];exact ÿ (Ø (kp b o e)))).trans (Ì _ (kp b o e))⟩
noncomputable def Ek:List V->Hp->VK->Prop:=λxs H Q=>∃(a:Ý) (kvs:List (Int×Int)),xs=[.ref a]/\Rd H a (.dK (kvs.map lG))/\kvs.length<800/\∀ms:List Int,ms.Perm (kvs.map λp=>p.1)->ms.Pairwise (·<=·)->∀D,H D=Á->Q (.ref D) (upd H D (.lst (ms.map V.int)))
def zx(hc:X.calm=Â):cG X (.builtin "sorted") Ek:=by
 intro pins s Y H xs us Q I r h;obtain⟨a,kvs,rfl,hr,hl,q⟩:=h;cases r with
 |cons r1 r =>
  cases r;cases (show _=Č a from r1)
  obtain⟨vs,ep,hv,hat,lo⟩:∃vs ep,KV (kvs.map lG) vs/\s.heap.DictAt (cq X.prog X.w) a vs ep/\(a==ů)=false:=by
   rcases hr with hr |⟨o,hr⟩
   ·obtain⟨hz,lo,vs,r,o,es,ep,e1,c1,c2,c3⟩:=I.bJ a _ hr;exact⟨vs,ep,r,⟨o,es,e1,c1,c2,c3⟩,lo⟩
   ·obtain⟨e,_,lo,vs,r,o',es',ep',e1,c1,c2,c3⟩:=I.bJ a _ hr;exact⟨vs,ep',r,⟨o',es',e1,c1,c2,c3⟩,lo⟩
  have hvl:vs.length=kvs.length:=by rw[<- ň hv,Ê]
  refine wJ (ns:=kvs.map λp=>p.1) (I.ok.hd hc) hat lo (by simp_all) (λi p hp=>?_) (by simp_all) λg tk D out ms c i1 pm up big hD kp=>?_
  ·have hi:i<kvs.length:=by rw[<-hvl];exact(Ó.mp hp).1
   have:∀{l:List (Key×V)} {m:List (Key×Ù)} {i:Nat} {x:Key×V} {y:Key×Ù},KV l m->l[i]?=À x->m[i]?=À y->x.1=y.1:=by
    intro l m i x y r;induction r generalizing i with
    |nil=>intro e;simp
    |cons h _ ih =>
     intro e1 e2;cases i with
     |zero=>simp_all
     |succ i=>exact ih (by simpa using e1) (by simpa using e2)
   rw[<-(this hv (x:=lG kvs[i]) (by simp_all) hp),Ë,Ö,É hi];rfl
  ·exact⟨.ref D,upd H D (.lst (ms.map V.int)),(I.laid kp big ⟨by rw[Ê,pm.length_eq,Ê];have:=ă;lia,out,c,iq i1,hD⟩),rfl,q ms pm up D (I.bJ.fresh big)⟩
end L2
namespace VL
open PySem L2
section
open Classical
section
variable[aV]
def xM(a:DE):aW->Option (List D):=λO=>match a O with
 |some (.dct kvs)=>if kvs.length<800 then À ((yB (kvs.map λp=>p.1)).map D.int) else Á
 |_=>Á
def Fo(h:a O=À (.dct kvs))(hl:kvs.length<800):xM a O=À ((yB (kvs.map λp=>p.1)).map D.int):=by unfold xM;rw[h];exact if_pos hl
def G7(ha:SemB K ta a):cZ K (wc Ek (a9 ta dv)) (xM a):=λ{B Z os O Y H Q es} f q k=>by
 unfold xM at q;split at q
 ·rename_i kvs e0;split at q
  ·rename_i hl;cases q;refine ha f e0 λv H1 s1 i1=>?_;cases i1 with
   |dct hz hr hl2 =>refine⟨_,kvs,rfl,hr,hl,λms pm up D hD=>?_⟩;rw[tF pm up];exact k D _ _ (s1.trans (bq hD)) (aH.free s1 hD) az (by rw[Ê,(km _).length_eq,Ê];exact hl2) (.ofInts _)
  ·cases q
 ·cases q
end
end
end VL
namespace L2
open PySem PySem.Spec PyProof.Rows
section
def pX(K:Í)(ha:PE X a ta)(hb:PE X b tb)(h:X.K=K:=by rfl)(hs:Bm b:=by exact λ_ _=>rfl):PE X (.Subscript a b pos) (tOp (rIx K) ta tb):=Mc (Hu h) ha hb hs
def pA(i:Nat)(hN:X.N.Nodup)(he:PE X e te)(hi:X.N[i]?=À x:=by rfl)(hx:Loc X.env.scope x:=by first |exact Ė rfl |exact ĵ rfl)(hs:PU e (À (.Name x pos')) pos.line X.env=pure false:=by rfl)(hf:X.fn x=Â\/X.env.scope.names.lookup x=À .local:=by first |exact .inl rfl |exact .inr rfl |assumption) :
 PS X (.Assign [.Name x pos'] e pos) (pW te (fz i)):=J4 hN hi hx he hs hf
def pG(i:Nat)(hN:X.N.Nodup)(hi:X.N[i]?=À x:=by rfl)(hx:Loc X.env.scope x:=by first |exact Ė rfl |exact ĵ rfl)(hf:X.fn x=Â\/X.env.scope.names.lookup x=À .local:=by first |exact .inl rfl |exact .inr rfl |assumption):PG X (.Name x pos) (fz i):=Ao hN hi hx hf
structure FT(K:Í)(mg:ĺ->Option Ù)(x:ĺ)(st:Ű)(ps:List ĺ)(c:Option Ý)(f:Ý)(d:QG):Prop where
 F:gB K x x st f d
 b0:∀us:List Ù,us.length=ps.length->Ū d ⟨us,[]⟩=pure (ps.zip us)
 m:mg x=À (.ref f)
 c:∀k,c=À k->d.code=.ref k
def FT.b{K:Í}{st:Ű}{c:Option Ý}(t:FT K mg x st ps c f d):Binds K d ps []:=.all t.b0
def FT.ex{K:Í}(I:K.In h)(G:h.Ns ĭ mg){st:Ű}{c:Option Ý}{kV:Ù}(a:ϳ K ĭ x=À (À (.ref f)))
 (l:K.lookup f=À ⟨oc,od,.func (ϰ x x (mH st) (dW st) (av st) .none kV dc pm an cd ct),sl⟩) (hc:P4 K cd x=Â) (k:P2 K (.ref f)=Â) (hb:∀us:List Ù,us.length=ps.length->Ū (ϰ x x (mH st) (dW st) (av st) .none kV dc pm an cd ct) ⟨us,[]⟩=pure (ps.zip us))
 (hk:∀k,c=À k->cd=.ref k):∃f d,FT K mg x st ps c f d:=⟨_,_,KW l hc k,hb,QD I G a,hk⟩
def FAll(K:Í)(mg:ĺ->Option Ù)(tp:Nat->Ű):List (ĺ×Nat×List ĺ×Option Ý)->Prop
 |[]=>True
 |(x,i,ps,c)::r=>FAll K mg tp r/\∃f d,FT K mg x (tp i) ps c f d
def FAll.nil{K:Í}:FAll K mg tp []:=trivial
def FAll.cons{K:Í}{mg:ĺ->Option Ù}{tp:Nat->Ű}{x:ĺ}{i:Nat}{ps:List ĺ}{c:Option Ý}{r:List (ĺ×Nat×List ĺ×Option Ý)}(h:FAll K mg tp r)(e:∃f d,FT K mg x (tp i) ps c f d):FAll K mg tp ((x,i,ps,c)::r):=⟨h,e⟩
abbrev Iw(l:List (ĺ×Nat×List ĺ×Option Ý))(i:Nat):ĺ×Nat×List ĺ×Option Ý:=l.getD i ("", 0,[],Á)
theorem FAll.ex{K:Í}:∀{r:List (ĺ×Nat×List ĺ×Option Ý)},FAll K mg tp r->∃(f:Nat->Ý) (d:Nat->QG),∀i,decide (i<r.length)=Â->FT K mg (Iw r i).1 (tp (Iw r i).2.1) (Iw r i).2.2.1 (Iw r i).2.2.2 (f i) (d i)
 |[],_=>⟨λ_=>0,λ_=>default,λi h=>by simp at h⟩
 |(x,i,ps,c)::r,⟨h,f0,d0,e⟩=>by
  obtain⟨f,d,F⟩:=h.ex;refine⟨fun | 0=>f0 |n+1=>f n,fun | 0=>d0 |n+1=>d n,λi h=>?_⟩;cases i with
  |zero=>exact e
  |succ n=>exact F n (by simpa using h)
def f7{us:List Ù}(h:us.length=n+1):∃a r,us=a::r/\r.length=n:=by
 cases us with
 |nil=>cases h
 |cons a r=>exact⟨a,r,rfl,Nat.succ.inj h⟩
def bind1(h:∀a,Ū fd ⟨[a],[]⟩=pure [(x,a)])(us:List Ù)(l:us.length=[x].length):Ū fd ⟨us,[]⟩=pure ([x].zip us):=by obtain⟨a,r,rfl,l1⟩:=f7 l;cases Ů.mp l1;exact h a
def bind2(h:∀a b,Ū fd ⟨[a,b],[]⟩=pure [(x,a),(y,b)])(us:List Ù)(l:us.length=[x,y].length):Ū fd ⟨us,[]⟩=pure ([x,y].zip us):=by obtain⟨a,r,rfl,l1⟩:=f7 l;obtain⟨b,r,rfl,l2⟩:=f7 l1;cases Ů.mp l2;exact h a b
def bind3(h:∀a b c,Ū fd ⟨[a,b,c],[]⟩=pure [(x,a),(y,b),(z,c)])(us:List Ù)(l:us.length=[x,y,z].length):Ū fd ⟨us,[]⟩=pure ([x,y,z].zip us):=by obtain⟨a,r,rfl,l1⟩:=f7 l;obtain⟨b,r,rfl,l2⟩:=f7 l1;obtain⟨c,r,rfl,l3⟩:=f7 l2;cases Ů.mp l3;exact h a b c
def bind4(h:∀a b c d,Ū fd ⟨[a,b,c,d],[]⟩=pure [(x,a),(y,b),(z,c),(w,d)])(us:List Ù)(l:us.length=[x,y,z,w].length):Ū fd ⟨us,[]⟩=pure ([x,y,z,w].zip us):=by obtain⟨a,r,rfl,l1⟩:=f7 l;obtain⟨b,r,rfl,l2⟩:=f7 l1;obtain⟨c,r,rfl,l3⟩:=f7 l2;obtain⟨d,r,rfl,l4⟩:=f7 l3;cases Ů.mp l4;exact h a b c d
def hk0{v:Ù}:∀k:Ý,(none:Option Ý)=À k->v=.ref k:=λ_ h=>nomatch h
def hk1:∀k:Ý,À c=À k->Č c=.ref k:=λ_ h=>by cases h;rfl
def fu{st:Ű}(F:ck X.prog X.w X.K X.mg X.base gE k f fd ps sp)(T:FT X.K X.mg x st ps c f fd)(hr:ej j X.A)(ha:PA X (e::es) t)(hk:k<=j:=by decide)(hg:Gl X x:=by rfl)(hdb:(x==("__debug__" : ĺ))=false:=by decide)
 (he:ġ (e::es) X.env=(Ã,eval e X.env)::ġ es X.env:=by rfl) (hpl:(QX pos (ġ es X.env)).any (·.1)=false:=by rfl):PE X (.Call (.Name x p) (e::es) [] pos) (tj sp [] E0 t):=Hi F (hr.mono hk) hg T.m T.F.kp T.b .nil Md ha hdb he hpl
end
end L2
namespace VL
open PySem L2
def fW[aV]:SemB K (tC (.int i)) (dC (.int i)):=aN.b fV
section
open Classical
section
variable[aV]
@[irreducible] noncomputable def runK(n:Nat)(ms:List Bool)(b:DS)(x dx p:Ý)(es:List D):Option (List ĺ×List D):=match es.head? with
 |some (.dsk C ks ds)=>(match b ((eZ n ms es).set 0 (.pk x dx p C ks ds))with
  |.nx O=>(match O.getD 0 .un with
   |.pk x' dx' p' C' ks' ds'=>if x'=x/\dx'=dx/\p'=p/\C'=C then À (ks',ds') else Á
   |_=>Á)
  |_=>Á)
 |_=>Á
end
end
end VL
namespace L2
open PySem PySem.Spec PyProof.Rows
def AllL{α:Type}(p:α->Prop):List α->Prop
 |[]=>True
 |a::r=>p a/\AllL p r
def AllL.nil:AllL p []:=trivial
def AllL.cons{α:Type}{p:α->Prop}{a:α}{r:List α}(t:AllL p r)(h:p a):AllL p (a::r):=⟨h,t⟩
theorem AllL.imp{p q:α->Prop}(f:∀a,p a->q a):∀{l:List α},AllL p l->AllL q l
 |[],_=>trivial
 |_::_,⟨h,t⟩=>⟨f _ h,t.imp f⟩
abbrev NL{α:Type}(p:α->Prop)(l:List α)(d:α):Prop:=∀i,decide (i<l.length)=Â->p (l.getD i d)
theorem AllL.NY{p:α->Prop}{d:α}:∀{l:List α},AllL p l->NL p l d
 |[],_,i,h=>by simp at h
 |_::_,⟨h,_⟩,0,_=>h
 |_::_,⟨_,t⟩,i+1,hi=>t.NY i (by simpa using hi)
inductive GV |no |ref (a:Ý) |str (s:ĺ) |int (i:Int)
def NN(mg:ĺ->Option Ù)(p:ĺ×GV):Prop:=match p.2 with
 |.no=>mg p.1=Á
 |.ref a=>mg p.1=À (.ref a)
 |.str s=>∃t,mg p.1=À (.str s t)
 |.int i=>∃t,mg p.1=À (.int i t)
noncomputable def GK(K:Í)(p:ĺ×GV):Prop:=match p.2 with
 |.no=>ϳ K ĭ p.1=À Á
 |.ref a=>ϳ K ĭ p.1=À (À (.ref a))
 |.str s=>∃t,ϳ K ĭ p.1=À (À (.str s t))
 |.int i=>∃t,ϳ K ĭ p.1=À (À (.int i t))
def GK.ok{K:Í}(X:K.In h)(G:h.Ns ĭ mg):∀p:ĺ×GV,GK K p->NN mg p
 |(_,.no),k=>PySem.W.mg_none_of X G k
 |(_,.ref _),k=>QD X G k
 |(_,.str _),⟨t,k⟩=>⟨t,QD X G k⟩
 |(_,.int _),⟨t,k⟩=>⟨t,QD X G k⟩
def gk_no{K:Í}(h:ϳ K ĭ x=À Á):GK K (x,.no):=h
def gk_int{K:Í}(h:ϳ K ĭ x=À (À (.int i t))):GK K (x,.int i):=⟨t,h⟩
def bind5(h:∀a b c d e,Ū fd ⟨[a,b,c,d,e],[]⟩=pure [(x,a),(y,b),(z,c),(w,d),(v,e)])(us:List Ù)(l:us.length=[x,y,z,w,v].length):Ū fd ⟨us,[]⟩=pure ([x,y,z,w,v].zip us):=by obtain⟨a,r,rfl,l1⟩:=f7 l;obtain⟨b,r,rfl,l2⟩:=f7 l1;obtain⟨c,r,rfl,l3⟩:=f7 l2;obtain⟨d,r,rfl,l4⟩:=f7 l3;obtain⟨e,r,rfl,l5⟩:=f7 l4;cases Ů.mp l5;exact h a b c d e
section
open VL (s0)
section
def CY(ts zs:List ĺ)(k:Nat)(is:List Nat)(hi:PI X tg iter wi)(he:∀C s3 H3 fp pins,PE (aG X (ts++zs) scope cl C s3 H3 fp pins) elt te)(hclos:ϔ scope X.env=pure cl:=by rfl)(hc:X.calm=true:=by rfl)(hk:ts.length=k:=by rfl)(hs:SubL X cl:=by repeat (first |exact .nil |refine .cons rfl ?_))
 (hcp:mX X scope cl is zs:=by repeat (first |exact .nil |refine .cons rfl (by first |exact Ė rfl |exact ĵ rfl) rfl (by first |exact Ė rfl |exact ĵ rfl) ?_)) (ha:((relabel scope X.env).names.all λy=>!(y.2==.cell || y.2==.free) || zs.contains y.1 || (scope.names.lookup y.1==À .cell))=true:=by rfl)
 (ho:(zs.all λz=>scope.names.all λy=>!(y.2==.cell) || !(y.1==z))=true:=by rfl) (hcl:(scope.names.all λy=>!(y.2==.cell) || (cl.lookup y.1).isNone)=true:=by rfl) (hg:∀C s3 H3 fp pins,PG (aG X (ts++zs) scope cl C s3 H3 fp pins) tg g:=by exact λ_ _ _ _ _=>ic (i:=0) (by decide +kernel) rfl (by first |exact Ė rfl |exact ĵ rfl) (by first |exact ĵ rfl |exact Ė rfl)) (hl:FU k g:=by exact bx (by decide))
 (hkind:scope.kind=.function:=by rfl) (hnames:∀y∈scope.names,y.2=.local->scope.names.lookup y.1=À .local:=by decide +kernel)
 (hf:∀x,Ŏ iter X.env x=pure x:=by intro _;rfl):PE X (.ListComp elt [⟨tg,iter,[],0⟩] scope pos) (jm wi g wD te (s0 k is)):=qA hc hi hk hs hcp ha ho hcl hl hg he hclos hkind hnames hf
def MK(ts zs:List ĺ)(k:Nat)(is:List Nat)(hi:PI X tg iter wi)(ht:∀C s3 H3 fp pins,PT (aG X (ts++zs) scope cl C s3 H3 fp pins) c tt)(he:∀C s3 H3 fp pins,PE (aG X (ts++zs) scope cl C s3 H3 fp pins) elt te)(hclos:ϔ scope X.env=pure cl:=by rfl)(hc:X.calm=true:=by rfl)(hk:ts.length=k:=by rfl)(hs:SubL X cl:=by repeat (first |exact .nil |refine .cons rfl ?_))
 (hcp:mX X scope cl is zs:=by repeat (first |exact .nil |refine .cons rfl (by first |exact Ė rfl |exact ĵ rfl) rfl (by first |exact Ė rfl |exact ĵ rfl) ?_)) (ha:((relabel scope X.env).names.all λy=>!(y.2==.cell || y.2==.free) || zs.contains y.1 || (scope.names.lookup y.1==À .cell))=true:=by rfl)
 (ho:(zs.all λz=>scope.names.all λy=>!(y.2==.cell) || !(y.1==z))=true:=by rfl) (hcl:(scope.names.all λy=>!(y.2==.cell) || (cl.lookup y.1).isNone)=true:=by rfl) (hg:∀C s3 H3 fp pins,PG (aG X (ts++zs) scope cl C s3 H3 fp pins) tg g:=by exact λ_ _ _ _ _=>ic (i:=0) (by decide +kernel) rfl (by first |exact Ė rfl |exact ĵ rfl) (by first |exact ĵ rfl |exact Ė rfl)) (hl:FU k g:=by exact bx (by decide))
 (hkind:scope.kind=.function:=by rfl) (hnames:∀y∈scope.names,y.2=.local->scope.names.lookup y.1=À .local:=by decide +kernel)
 (hf:∀x,Ŏ iter X.env x=pure x:=by intro _;rfl):PE X (.ListComp elt [⟨tg,iter,[c],0⟩] scope pos) (jm wi g tt te (s0 k is)):=Kd hc hi hk hs hcp ha ho hcl hl hg ht he hclos hkind hnames hf
end
def lO(kind:sc.kind=.function:=by rfl)(co:sc.isCoroutine=false:=by rfl)(gen:sc.isGenerator=false:=by rfl)(nd:N.Nodup:=by decide +kernel)(pre:N.take P.length=P:=by rfl)(par:∀x∈P,sc.names.lookup x=À .local\/sc.names.lookup x=À .cell:=by decide +kernel)(y0:∀y∈sc.names,y.2≠.free:=by decide +kernel):aL N P sc:=⟨kind,co,gen,nd,pre,par,y0⟩
end
end L2
namespace VL
open PySem L2
section
variable[aV]
def M6:cZ K (wF dv) dNil:=ny (n:=0) fX (by decide)
def M5(h:aN K a da):cZ K (wF (a9 a dv)) (dCons da dNil):=ny (n:=1) (cg h fX) (by decide)
def M4(h:aN K a da)(i:aN K b db):cZ K (wF (a9 a (a9 b dv))) (dCons da (dCons db dNil)):=ny (n:=2) (cg h (cg i fX)) (by decide)
def M3(h:aN K a da)(i:aN K b db)(j:aN K c dc):cZ K (wF (a9 a (a9 b (a9 c dv)))) (dCons da (dCons db (dCons dc dNil))):=ny (n:=3) (cg h (cg i (cg j fX))) (by decide)
def M1(h:aN K a da)(i:aN K b db)(j:aN K c dc)(k:aN K d dd):cZ K (wF (a9 a (a9 b (a9 c (a9 d dv))))) (dCons da (dCons db (dCons dc (dCons dd dNil)))):=ny (n:=4) (cg h (cg i (cg j (cg k fX)))) (by decide)
section
def M7(hw:rG K Â wi it)(ht:jI K tt td)(he:aN K te ed):cZ K (jm wi (fz i) tt te (s0 k cs)) (dComp k cs it (gN Â i) td ed):=gI hw (aE i) ht he
def M8(hw:rG K Ã wi it)(ht:jI K tt td)(he:aN K te ed):cZ K (jm wi (fz i) tt te (s0 k cs)) (dComp k cs it (gN Ã i) td ed):=gI hw (aE i) ht he
end
end
end VL
namespace My
open PySem L2 VL
section
def top(i:Nat):Ű:=PySem.Challenge.pw_leastfloor_k43_whole_windows_kept_or_non.main.body.getD i (.Pass ⟨0,0,0,0⟩)
abbrev u9:Ű:=top 4
abbrev wM:Ű:=top 6
abbrev u7:Ű:=top 7
abbrev BO:Ű:=top 8
abbrev D8:Ű:=top 13
abbrev qd:Ű:=top 14
abbrev qh:Ű:=top 15
abbrev BP:Ű:=top 16
abbrev u0:Ű:=top 17
abbrev D7:Ű:=top 18
abbrev u4:Ű:=top 19
abbrev u6:Ű:=top 20
abbrev wK:Ű:=top 21
abbrev qg:Ű:=top 22
abbrev Ea:Ű:=top 28
abbrev BU:Ű:=top 29
abbrev rY:Ű:=top 31
abbrev qe:Ű:=top 32
abbrev wL:Ű:=top 33
abbrev BQ:Ű:=top 35
abbrev wQ:Ű:=top 36
abbrev BR:Ű:=top 37
abbrev rZ:Ű:=top 38
abbrev u5:Ű:=top 39
abbrev BS:Ű:=top 40
abbrev wN:Ű:=top 41
abbrev yL:Ű:=top 42
abbrev D9:Ű:=top 43
abbrev wO:Ű:=top 44
abbrev LY:Ű:=top 45
def rX:aL ["total", "parts"] ["total", "parts"] (av u9):=lO
def uY:aL ["hours", "benches"] ["hours", "benches"] (av wM):=lO
def rW:aL ["hours", "benches"] ["hours", "benches"] (av u7):=lO
def bN:aL ["hours", "benches", "end", "least", "rows", "bench", "moment", "work", "wanted", "left", "stop"] ["hours", "benches", "end"] (av BO):=lO
def iz:aL ["works", "benches", "stretches", "table", "way"] ["works", "benches"] (av D8):=lO
def jo:aL ["works", "moments"] ["works"] (av qd):=lO
def dE:aL ["works", "benches", "stretches", "table", "sources", "place", "number"] ["works", "benches", "stretches", "table"] (av qh):=lO
def cV:aL ["works", "stretches", "table", "places", "sources", "place", "looked", "source", "near"] ["works", "stretches", "table"] (av BP):=lO
def kO:aL ["works", "stretches", "table", "place", "many"] ["works", "stretches", "table", "place"] (av u0):=lO
def tK:aL ["sources", "place", "many", "places"] ["sources", "place", "many"] (av D7):=lO
def bR:aL ["works", "benches", "stretches", "table", "way", "gains", "losses", "amounts", "amount", "work", "number"] ["works", "benches", "stretches", "table", "way"] (av u4):=lO
def rV:aL ["works", "table", "work"] ["works", "table", "work"] (av u6):=lO
def iZ:aL ["works", "stretches", "table", "work", "number", "begin", "end"] ["works", "stretches", "table", "work", "number"] (av wK):=lO
def jq:aL ["benches", "stretches", "table", "number", "length"] ["benches", "stretches", "table", "number"] (av qg):=lO
def nF:aL ["rows", "fewest", "row"] ["rows"] (av Ea):=lO
def yK:aL ["row", "later"] ["row", "later"] (av BU):=lO
def bZ:aL ["works", "benches", "told", "stretches", "table", "rows", "number", "stretch"] ["works", "benches"] (av rY):=lO
def ft:aL ["stretch", "hours", "benches", "begin", "length"] ["stretch", "hours", "benches"] (av qe):=lO
def dg:aL ["works", "benches", "told", "stretches", "places", "many", "some"] ["works", "benches"] (av wL):=lO
def yJ:aL ["_law_found"] ["_law_found"] (av BQ):=lO
def uZ:aL ["_law_script", "_law_k"] ["_law_script", "_law_k"] (av wQ):=lO
def p9:aL ["_law_cell", "_law_k", "_law_number"] ["_law_cell", "_law_k"] (av BR):=lO
def aQ:aL ["_law_script", "_law_many", "_law_number", "_law_begins", "_law_works", "_law_some", "_law_k", "_law_work", "_law_bench", "_law_begin", "_law_end", "_law_found", "_law_ends", "_law_hours", "_law_slack"] ["_law_script", "_law_many", "_law_number"] (av rZ):=lO
def cx:aL ["_law_script", "_law_many", "_law_found", "_law_numbers", "_law_k", "_law_come", "_law_long"] ["_law_script", "_law_many"] (av u5):=lO
def b7:aL ["_law_script", "_law_cell", "_law_many", "_law_mixed_here", "_law_number", "_law_works", "_law_more", "_law_unit", "_law_far"] ["_law_script"] (av BS):=lO
def bF:aL ["_law_works", "_law_number", "_law_rows", "_law_done", "_law_last", "_law_free", "_law_ahead", "_law_row", "_law_bench", "_law_work", "_law_begin", "_law_end"] ["_law_works", "_law_number", "_law_rows"] (av wN):=lO
def cW:aL ["_law_works", "_law_stretches", "_law_ends", "_law_work", "_law_stretch"] ["_law_works", "_law_stretches"] (av yL):=lO
def dJ:aL ["_law_works", "_law_number", "_law_some", "_law_stretches", "_law_total", "_law_begin", "_law_end", "_law_inside", "_law_many"] ["_law_works", "_law_number", "_law_some", "_law_stretches"] (av D9):=lO
def cJ:aL ["_law_works", "_law_number", "_law_found", "_law_ahead", "_law_work", "_law_stretch"] ["_law_works", "_law_number", "_law_found"] (av wO):=lO
def nE:aL ["_law_script", "_law_works", "_law_number", "_law_handed", "_law_rows", "_law_found"] ["_law_script"] (av LY):=lO
set_option genInjectivity false in
set_option genSizeOf false in
structure MX where
 f:Nat->Ý
 d:Nat->QG
noncomputable def tab:List (ĺ×Nat×List ĺ×Option Ý):=(.append [("divided_up", 4,["total", "parts"],Á),("least_end", 6,["hours", "benches"],Á),("even_share", 7,["hours", "benches"],Á),("wrapped", 8,["hours", "benches", "end"],Á),("shares", 13,["works", "benches"],Á),("stretches_of", 14,["works"],Á),("shortest_way", 15,["works", "benches", "stretches", "table"],Á),("reached", 16,["works", "stretches", "table"],Á),("neighbours", 17,["works", "stretches", "table", "place"],Á),("way_to", 18,["sources", "place", "many"],Á),("move_hours", 19,["works", "benches", "stretches", "table", "way"],Á),("hours_left", 20,["works", "table", "work"],Á),("work_room", 21,["works", "stretches", "table", "work", "number"],Á),("stretch_room", 22,["benches", "stretches", "table", "number"],Á),("joined", 28,["rows"],À 129),("goes_on", 29,["row", "later"],Á),("window_plan", 31,["works", "benches"],Á),("stretch_rows", 32,["stretch", "hours", "benches"],Á),("no_window", 33,["works", "benches"],Á),("_law_whole", 35,["_law_found"],Á),("_law_cell_at", 36,["_law_script", "_law_k"],Á),("_law_mixed", 37,["_law_cell", "_law_k"],Á),("_law_by_blocks", 38,["_law_script", "_law_many", "_law_number"],Á),("_law_by_draws", 39,["_law_script", "_law_many"],Á)] [("_law_floor", 40,["_law_script"],Á),("_law_is_plan", 41,["_law_works", "_law_number", "_law_rows"],Á),("_law_pieces", 42,["_law_works", "_law_stretches"],Á),("_law_room", 43,["_law_works", "_law_number", "_law_some", "_law_stretches"],Á),("_law_is_none", 44,["_law_works", "_law_number", "_law_found"],Á),("law", 45,["_law_script"],Á)])
noncomputable def KQ:List (ĺ×GV):=[("all", .no),("any", .no),("bool", .no),("enumerate", .no),("int", .no),("isinstance", .no),("len", .no),("list", .no),("max", .no),("min", .no),("range", .no),("reversed", .no),("set", .no),("sorted", .no),("sum", .no),("tuple", .no),("zip", .no),("BEGIN", .int 2),("BENCH", .int 0),("COME", .int 0),("DUE", .int 1),("END", .int 3),("HOURS", .int 2),("WORK", .int 1)]
structure Txt[aV](K:Í)(mg:ĺ->Option Ù)(a:MX):Prop where
 F:∀i,decide (i<tab.length)=Â->FT K mg (Iw tab i).1 (top (Iw tab i).2.1) (Iw tab i).2.2.1 (Iw tab i).2.2.2 (a.f i) (a.d i)
 G:NL (NN mg) KQ ("", .no)
 Cn:(a.d 14).code=.ref 129
 Cg:Pc K 129 125=Â
 Cf:((125:Ý),("joined.<locals>.<lambda>" : ĺ))∈aV.ts
section
def F7(x0 x1:D):eZ 2 [Ã,Ã] [x0,x1]=[.bo x0,.bo x1]:=rfl
def fN:DS:=(ay (jK (ij (cj (dVar 0) (dVar 1)))
 (sRet (dAdd (cM (dVar 0) (dVar 1)) (dC (.int 1))))
  b8)
 (sRet (cM (dVar 0) (dVar 1))))
@[irreducible] def d9:List D->Option D:=bO 2 [Ã,Ã] fN
def iW:d9=bO 2 [Ã,Ã] fN:=by unfold d9;rfl
def F4(x0 x1:D):eZ 2 [Ã,Ã] [x0,x1]=[.bo x0,.bo x1]:=rfl
def jk:DS:=(sRet (aJ d9 (dCons (dy oU (dVar 0)) (dCons (dVar 1) dNil))))
@[irreducible] def d8:List D->Option D:=bO 2 [Ã,Ã] jk
def iV:d8=bO 2 [Ã,Ã] jk:=by unfold d8;rfl
def GN(x0 x1:D):eZ 2 [Ã,Ã] [x0,x1]=[.bo x0,.bo x1]:=rfl
def kc:DS:=(ay (jK (kK (ij (dVar 0)))
 (sRet (dC (.int 0)))
  b8)
 (sRet (oO (dy maxD (dVar 0)) (aJ d8 (dCons (dVar 0) (dCons (dVar 1) dNil))))))
@[irreducible] def fm:List D->Option D:=bO 2 [Ã,Ã] kc
def jA:fm=bO 2 [Ã,Ã] kc:=by unfold fm;rfl
def yw(x0 x1 x2:D):eZ 11 [Ã,Ã,Ã] [x0,x1,x2]=[.bo x0,.bo x1,.bo x2,.un,.un,.un,.un,.un,.un,.un,.un]:=rfl
noncomputable def kD:DS:=(ay (aU 3 (aJ fm (dCons (dVar 0) (dCons (dVar 1) dNil))))
 (ay (jK (dT (xP (dVar 2) (dVar 3)))
      M9
      b8)
 (ay (gJ 4 xO)
 (ay (aU 5 (dC (.int 0)))
 (ay (aU 6 (dC (.int 0)))
 (ay (iA (Fv (lE (q9 0))) (CZ 2 (bP (gN Â 7) (bP (gN Â 8) jv)))
 (ay (aU 9 (dVarI 8))
 (i6 (dT (xS (dVar 9) (dC (.int 0))))
 (ay (jK (dT (jG Ã (dVar 6) (dVar 2)))
 (ay (wW (λx y=>x+y) 5 (dC (.int 1)))
 (aU 6 (dC (.int 0))))
      b8)
 (ay (aU 10 (ui (dAdd (dVar 6) (dVar 9)) (dVar 2)))
 (ay (oG 4 (dCons (dVarI 5) (dCons (dVarI 7) (dCons (dVarI 6) (dCons (dVarI 10) dNil)))))
 (ay (wW (λx y=>x-y) 9 (gA (dVar 10) (dVar 6)))
 (aU 6 (dVarI 10)))))))))
 (lp 4)))))))
@[irreducible] def iM:List D->Option D:=jE 11 [Ã,Ã,Ã] kD
def kW:iM=jE 11 [Ã,Ã,Ã] kD:=by unfold iM;rfl
def F3(x0 x1 x2:D):eZ 3 [Â,Ã,Ã] [x0,x1,x2]=[.pu x0,.bo x1,.bo x2]:=rfl
def jj:DS:=(sRet (gA (dIx (dIx (dVar 0) (dVar 2)) (dC (.int 2))) (dy oU (dIx (dVar 1) (dVar 2)))))
@[irreducible] def bT:List D->Option D:=bO 3 [Â,Ã,Ã] jj
def iT:bT=bO 3 [Â,Ã,Ã] jj:=by unfold bT;rfl
def CW(x0 x1 x2 x3:D):eZ 5 [Â,Â,Ã,Ã] [x0,x1,x2,x3]=[.pu x0,.pu x1,.bo x2,.bo x3,.un]:=rfl
noncomputable def gz:DS:=(ay (aU 4 (gA (dIx (dIx (dVar 1) (dVar 3)) (dC (.int 1))) (dIx (dIx (dVar 1) (dVar 3)) (dC (.int 0)))))
 (sRet (gA (fg (dVar 4) (dVar 0)) (dy oU (dLst (dComp 1 [3] (asL (dVar 2)) (gN Ã 0) dTrue (gScal (dIx (dVar 0) (dVar 1)))))))))
@[irreducible] def bW:List D->Option D:=bO 5 [Â,Â,Ã,Ã] gz
def gm:bW=bO 5 [Â,Â,Ã,Ã] gz:=by unfold bW;rfl
def GL(x0 x1 x2 x3 x4:D):eZ 7 [Â,Â,Ã,Ã,Ã] [x0,x1,x2,x3,x4]=[.pu x0,.pu x1,.bo x2,.bo x3,.bo x4,.un,.un]:=rfl
noncomputable def ka:DS:=(ay (aU 5 (dIx (dIx (dVarI 1) (dVar 4)) (dC (.int 0))))
 (ay (aU 6 (dIx (dIx (dVarI 1) (dVar 4)) (dC (.int 1))))
 (ay (jK (rh (dT (xP (dVar 5) (dIx (dIx (dVar 0) (dVar 3)) (dC (.int 0))))) (dT (xS (dVar 6) (dIx (dIx (dVar 0) (dVar 3)) (dC (.int 1))))))
 (sRet (dC (.int 0)))
  b8)
 (sRet (gA (gA (dVar 6) (dVar 5)) (dIx (dIx (dVar 2) (dVar 3)) (dVar 4)))))))
@[irreducible] def dO:List D->Option D:=bO 7 [Â,Â,Ã,Ã,Ã] ka
def jy:dO=bO 7 [Â,Â,Ã,Ã,Ã] ka:=by unfold dO;rfl
def rQ(x0 x1 x2 x3 x4:D):eZ 11 [Â,Â,Â,Ã,Â] [x0,x1,x2,x3,x4]=[.pu x0,.pu x1,.pu x2,.bo x3,.pu x4,.un,.un,.un,.un,.un,.un]:=rfl
noncomputable def fL:DS:=(ay (aU 5 (dLst (sM (dLst (oZ (dVarI 4) (eA (dC (.int 0))) gP (eA (dC (.int 2))))) (dLst (oZ (dVarI 4) (eA (dC (.int 1))) gP (eA (dC (.int 2))))))))
 (ay (aU 6 (dLst (sM (dLst (oZ (dVarI 4) (eA (dC (.int 2))) gP (eA (dC (.int 2))))) (dLst (oZ (dVarI 4) (eA (dC (.int 1))) gP (eA (dC (.int 2))))))))
 (ay (fv 7 (dCons (aJ bT (dCons (dVarI 0) (dCons (dVar 3) (dCons (dIx (dVar 4) (dC (.int 0))) dNil)))) (dCons (aJ bW (dCons (dVarI 1) (dCons (dVarI 2) (dCons (dVar 3) (dCons (dIx (dVar 4) (iI (dC (.int 1)))) dNil))))) dNil)))
 (ay (yM 7 (dLst (dComp 2 [0,2,3] (asL (dVarI 5)) (CZ 2 (bP (gN Â 0) (bP (gN Â 1) jv))) dTrue (aJ dO (dCons (dVarI 2) (dCons (dVarI 3) (dCons (dVar 4) (dCons (dVar 0) (dCons (dVar 1) dNil)))))))))
 (ay (yM 7 (dLst (dComp 2 [3] (asL (dVarI 6)) (CZ 2 (bP (gN Â 0) (bP (gN Â 1) jv))) dTrue (gScal (dIx (dIx (dVar 2) (dVar 0)) (dVar 1))))))
 (ay (aU 8 (dy minD (dVar 7)))
 (ay (iA (asL (dVarI 5)) (CZ 2 (bP (gN Â 9) (bP (gN Â 10) jv)))
 (sAug2P (λx y=>x+y) 3 (dVar 9) (dVar 10) (dVar 8)))
 (iA (asL (dVarI 6)) (CZ 2 (bP (gN Â 9) (bP (gN Â 10) jv)))
 (sAug2P (λx y=>x-y) 3 (dVar 9) (dVar 10) (dVar 8))))))))))
@[irreducible] def d6:Ý->List Ý->List D->Option (List (List D)):=BY 11 3 [Â,Â,Â,Ã,Â] fL
def iO:d6=BY 11 3 [Â,Â,Â,Ã,Â] fL:=by unfold d6;rfl
def FZ(x0 x1 x2 x3:D):eZ 5 [Â,Â,Ã,Ã] [x0,x1,x2,x3]=[.pu x0,.pu x1,.bo x2,.bo x3,.un]:=rfl
noncomputable def jh:DS:=(ay (aU 4 (dy du (dVar 0)))
 (ay (jK (dT (C1 (dVar 3) (dVar 4)))
 (sRet (dLst (dComp 1 [2,3,4] (jF (dVar 4)) (gN Â 0) (dT (xS (dIx (dIx (dVar 1) (dVar 0)) (gA (dVar 2) (dVar 3))) (dC (.int 0)))) (dVarI 0))))
  b8)
 (sRet (dLst (dComp 1 [0,1,2,3,4] (jF (dy du (dVar 1))) (gN Â 0) (dT (xS (aJ dO (dCons (dVarI 1) (dCons (dVarI 2) (dCons (dVar 3) (dCons (dVar 4) (dCons (dVar 0) dNil)))))) (dC (.int 0)))) (dAdd (dVar 5) (dVar 0)))))))
@[irreducible] def dZ:List D->Option D:=bO 5 [Â,Â,Ã,Ã] jh
def iN:dZ=bO 5 [Â,Â,Ã,Ã] jh:=by unfold dZ;rfl
def yx(x0 x1 x2:D):eZ 9 [Â,Â,Ã] [x0,x1,x2]=[.pu x0,.pu x1,.bo x2,.un,.un,.un,.un,.un,.un]:=rfl
noncomputable def kE:DS:=(ay (fv 3 (dComp 1 [0,2] (jF (dy du (dVar 0))) (gN Â 0) (dT (xS (aJ bT (dCons (dVarI 1) (dCons (dVar 2) (dCons (dVar 0) dNil)))) (dC (.int 0)))) (dVarI 0)))
 (ay (wR 4)
 (ay (me 3 4 5)
 (ay (aU 6 (dC (.int 0)))
 (ay (i6 (dT (xP (dVar 6) (dy du (dVar 3))))
 (ay (aU 7 (o4 3 (dVar 6)))
 (ay (wW (λx y=>x+y) 6 (dC (.int 1)))
 (iA (asL (aJ dZ (dCons (dVarI 0) (dCons (dVarI 1) (dCons (dVar 2) (dCons (dVar 7) dNil)))))) (gN Â 8)
 (jK (dT (Fu Â (dVar 8) (dVar 4)))
 (ay (wU 4 (dVar 8) (dVar 7))
 (BX 3 (dVarI 8)))
  b8)))))
 (qj 4))))))
@[irreducible] def eM:List D->Option D:=jE 9 [Â,Â,Ã] kE
def kX:eM=jE 9 [Â,Â,Ã] kE:=by unfold eM;rfl
def BD(x0 x1 x2:D):eZ 4 [Â,Â,Â] [x0,x1,x2]=[.pu x0,.pu x1,.pu x2,.un]:=rfl
noncomputable def mY:DS:=(ay (fv 3 (dCons (dVarI 1) dNil))
 (ay (i6 (dT (jG Â (rj (dVar 0) (dIx (dVar 3) (iI (dC (.int 1))))) (dIx (dVar 3) (iI (dC (.int 1))))))
 (BX 3 (rj (dVar 0) (dIx (dVar 3) (iI (dC (.int 1)))))))
 (sRet (dLst (dComp 1 [2] (Fq (dVar 3)) (gN Ã 0) dTrue (Mt (dT (xP (dVar 0) (dVar 1))) (gScal (dVar 0)) (gA (dVar 0) (dVar 1))))))))
@[irreducible] def j8:List D->Option D:=bO 4 [Â,Â,Â] mY
def mT:j8=bO 4 [Â,Â,Â] mY:=by unfold j8;rfl
def oV(x0 x1 x2 x3:D):eZ 7 [Â,Â,Â,Ã] [x0,x1,x2,x3]=[.pu x0,.pu x1,.pu x2,.bo x3,.un,.un,.un]:=rfl
noncomputable def ee:DS:=(ay (qi 4 eM (dCons (dVarI 0) (dCons (dVarI 2) (dCons (dVar 3) dNil))))
 (ay (wV 4 (gN Â 5)
 (ay (aU 6 (gA (dVar 5) (dy du (dVar 0))))
 (jK (sP (dT (C1 (dVar 6) (dC (.int 0)))) (dT (xS (aJ bW (dCons (dVarI 1) (dCons (dVarI 2) (dCons (dVar 3) (dCons (dVar 6) dNil))))) (dC (.int 0)))))
 (sRet (aJ j8 (dCons (dVarI 4) (dCons (dVarI 5) (dCons (dy du (dVar 0)) dNil)))))
  b8)))
 (sRet (dLst dNil))))
@[irreducible] def bX:List D->Option D:=bO 7 [Â,Â,Â,Ã] ee
def gp:bX=bO 7 [Â,Â,Â,Ã] ee:=by unfold bX;rfl
def CU(x0:D):eZ 2 [Â] [x0]=[.pu x0,.un]:=rfl
noncomputable def gu:DS:=(ay (aU 1 (dLst (rf (dLst (rm (dLst (dComp 1 [] (asL (dVarI 0)) (gN Â 0) dTrue (dIx (dVarI 0) (dC (.int 0))))) (dLst (dComp 1 [] (asL (dVarI 0)) (gN Â 0) dTrue (dIx (dVarI 0) (dC (.int 1))))))))))
 (sRet (dLst (dComp 2 [] (sM (dVarI 1) (dLst (Lv (dVarI 1) (eA (dC (.int 1))) gP))) (CZ 2 (bP (gN Â 0) (bP (gN Â 1) jv))) dTrue (dLst (dCons (dVarI 0) (dCons (dVarI 1) dNil)))))))
@[irreducible] def c0:List D->Option D:=bO 2 [Â] gu
def gh:c0=bO 2 [Â] gu:=by unfold c0;rfl
def BE(x0 x1:D):eZ 5 [Â,Â] [x0,x1]=[.pu x0,.pu x1,.un,.un,.un]:=rfl
noncomputable def mZ:DS:=(ay (aU 2 (aJ c0 (dCons (dVarI 0) dNil)))
 (ay (gJ 3 (j4 1 [2] (asL (dVarI 0)) (gN Â 0) dTrue (mI (dCons (dC (.int 0)) dNil) (dy du (dVar 1)))))
 (ay (aU 4 (aJ bX (dCons (dVarI 0) (dCons (dVarI 1) (dCons (dVarI 2) (dCons (dVar 3) dNil))))))
 (ay (i6 (ij (dVar 4))
 (ay (qo 3 d6 (dCons (dVarI 0) (dCons (dVarI 1) (dCons (dVarI 2) (dCons (dVar 3) (dCons (dVarI 4) dNil))))))
 (aU 4 (aJ bX (dCons (dVarI 0) (dCons (dVarI 1) (dCons (dVarI 2) (dCons (dVar 3) dNil))))))))
  (BW 3 (sRet (dTup (dCons (dVarI 2) (dCons (dVarI 3) dNil)))))))))
@[irreducible] def c8:List D->Option D:=bO 5 [Â,Â] mZ
def mU:c8=bO 5 [Â,Â] mZ:=by unfold c8;rfl
def Jt(x0 x1:D):eZ 2 [Ã,Ã] [x0,x1]=[.bo x0,.bo x1]:=rfl
def oC:DS:=(sRet (oP (jG Ã (dIx (dVar 0) (dC (.int 0))) (dIx (dVar 1) (dC (.int 0)))) (oP (jG Ã (dIx (dVar 0) (dC (.int 1))) (dIx (dVar 1) (dC (.int 1)))) (jG Ã (dIx (dVar 0) (dC (.int 3))) (dIx (dVar 1) (dC (.int 2)))))))
@[irreducible] def iU:List D->Option D:=bO 2 [Ã,Ã] oC
def k6:iU=bO 2 [Ã,Ã] oC:=by unfold iU;rfl
def BG(x0:D):eZ 3 [Ã] [x0]=[.bo x0,.un,.un]:=rfl
noncomputable def m9:DS:=(ay (gJ 1 xO)
 (ay (iA (rg (q9 0)) (gN Ã 2)
 (jK (sP (ij (dVar 1)) (ij (aJ iU (dCons (dIx (dVar 1) (iI (dC (.int 1)))) (dCons (dVar 2) dNil)))))
 (ql 1 (iI (dC (.int 1))) (dC (.int 3)) (gScal (dIx (dVar 2) (dC (.int 3)))))
 (oG 1 (t8 (xQ (dVar 2))))))
 (qk 1 [] (dTup (dCons (gScal (dIx (dVar 0) (dC (.int 2)))) (dCons (gScal (dIx (dVar 0) (dC (.int 0)))) dNil))))))
@[irreducible] def iS:List D->Option D:=jE 3 [Ã] m9
def mW:iS=jE 3 [Ã] m9:=by unfold iS;rfl
def CV(x0 x1 x2:D):eZ 5 [Â,Â,Â] [x0,x1,x2]=[.pu x0,.pu x1,.pu x2,.un,.un]:=rfl
noncomputable def gv:DS:=(ay (aU 3 (dIx (dVarI 0) (dC (.int 0))))
 (ay (aU 4 (gA (dIx (dVar 0) (dC (.int 1))) (dVar 3)))
 (sRet (dLst (dComp 4 [3] (asL (aJ iM (dCons (dVar 1) (dCons (dVar 2) (dCons (dVar 4) dNil))))) (CZ 4 (bP (gN Â 0) (bP (gN Â 1) (bP (gN Â 2) (bP (gN Â 3) jv))))) dTrue (dLst (dCons (dVarI 0) (dCons (dVarI 1) (dCons (dAdd (dVar 4) (dVar 2)) (dCons (dAdd (dVar 4) (dVar 3)) dNil))))))))))
@[irreducible] def c7:List D->Option D:=bO 5 [Â,Â,Â] gv
def gj:c7=bO 5 [Â,Â,Â] gv:=by unfold c7;rfl
def p6(x0 x1:D):eZ 8 [Â,Â] [x0,x1]=[.pu x0,.pu x1,.un,.un,.un,.un,.un,.un]:=rfl
noncomputable def eV:DS:=(ay (aU 2 (aJ c8 (dCons (dVarI 0) (dCons (dVarI 1) dNil))))
 (ay (aU 3 (dIx (dVarI 2) (dC (.int 0))))
 (ay (aU 4 (dIx (dVarI 2) (dC (.int 1))))
 (ay (jK (ij (dy HY (dLst (dComp 1 [0,4] (jF (dy du (dVar 0))) (gN Â 0) dTrue (xS (aJ bT (dCons (dVarI 1) (dCons (dVar 2) (dCons (dVar 0) dNil)))) (dC (.int 0)))))))
 (sRet (dC .non))
      b8)
 (ay (fv 5 dNil)
 (ay (iA (Fv (dVarI 3)) (CZ 2 (bP (gN true 6) (bP (gN true 7) jv)))
      (yM 5 (aJ c7 (dCons (dVarI 7) (dCons (dLst (dComp 1 [6] (asL (dVarI 4)) (gN Â 0) dTrue (dIx (dVarI 0) (dVar 1)))) (dCons (dVarI 1) dNil))))))
 (sRet (aJ iS (dCons (dVar 5) dNil)))))))))
@[irreducible] def cP:List D->Option D:=bO 8 [Â,Â] eV
def dY:cP=bO 8 [Â,Â] eV:=by unfold cP;rfl
def uN(x0 x1:D):eZ 7 [Â,Â] [x0,x1]=[.pu x0,.pu x1,.un,.un,.un,.un,.un]:=rfl
noncomputable def gY:DS:=(ay (aU 2 (aJ c8 (dCons (dVarI 0) (dCons (dVarI 1) dNil))))
 (ay (aU 3 (dIx (dVarI 2) (dC (.int 0))))
 (ay (aU 4 (dLst (xM (aJ eM (dCons (dVarI 0) (dCons (dVarI 3) (dCons (dIx (dVar 2) (dC (.int 1))) dNil)))))))
 (ay (jK (kK (ij (dVar 4)))
 (sRet (dC .non))
  b8)
 (ay (aU 5 (dy du (dVar 0)))
 (ay (aU 6 (dLst (dComp 1 [5] (asL (dVarI 4)) (gN Â 0) (dT (xP (dVar 0) (dVar 1))) (dVarI 0))))
 (sRet (dTup (dCons (dVarI 6) (dCons (dLst (dComp 1 [5,3] (asL (dVarI 4)) (gN Â 0) (dT (C1 (dVar 0) (dVar 1))) (dIx (dVarI 2) (gA (dVar 0) (dVar 1))))) dNil))))))))))
@[irreducible] def c9:List D->Option D:=bO 7 [Â,Â] gY
def jz:c9=bO 7 [Â,Â] gY:=by unfold c9;rfl
def Jr(x0:D):eZ 1 [Ã] [x0]=[.bo x0]:=rfl
def oB:DS:=(sRet (oP (sO "int" (dVar 0)) (xN (sO "bool" (dVar 0)))))
@[irreducible] def dm:List D->Option D:=bO 1 [Ã] oB
def kY:dm=bO 1 [Ã] oB:=by unfold dm;rfl
def GO(x0 x1:D):eZ 2 [Ã,Ã] [x0,x1]=[.bo x0,.bo x1]:=rfl
def g7:DS:=(ay (jK (dT (xP (dVar 1) (dy du (dVar 0))))
 (sRet (gScal (dIx (dVar 0) (dVar 1))))
  b8)
 (sRet (dC (.int 0))))
@[irreducible] def bu:List D->Option D:=bO 2 [Ã,Ã] g7
def jD:bu=bO 2 [Ã,Ã] g7:=by unfold bu;rfl
def Js(x0 x1:D):eZ 3 [Ã,Ã] [x0,x1]=[.bo x0,.bo x1,.un]:=rfl
def kF:DS:=(ay (aU 2 (cj (dAdd (dAdd (fg (dVar 0) (dC (.int 48271))) (fg (fg (dVar 1) (dVar 1)) (dC (.int 69621)))) (dC (.int 3))) (dC (.int 2147483647))))
 (sRet (cj (fg (dVar 2) (dVar 2)) (dC (.int 2147483629)))))
@[irreducible] def cm:List D->Option D:=bO 3 [Ã,Ã] kF
def kZ:cm=bO 3 [Ã,Ã] kF:=by unfold cm;rfl
def p7(x0 x1 x2:D):eZ 15 [Ã,Ã,Ã] [x0,x1,x2]=[.bo x0,.bo x1,.bo x2,.un,.un,.un,.un,.un,.un,.un,.un,.un,.un,.un,.un]:=rfl
noncomputable def eX:DS:=(ay (fv 3 (dComp 1 [] (jF (dVar 1)) (gN Â 0) dTrue (dLst dNil)))
 (ay (fv 4 (mI (dCons (dC (.int 0)) dNil) (dVar 1)))
 (ay (fv 5 (mI (dCons (dC (.int 0)) dNil) (dVar 2)))
 (ay (iA (CD (dC (.int 4)) (ui (dC (.int 63)) (dy du (dVar 0)))) (gN Â 6)
 (ay (aU 7 (cj (aJ cm (dCons (dIx (dVar 0) (dVar 6)) (dCons (dVar 6) dNil))) (dVar 1)))
 (ay (aU 8 (cj (aJ cm (dCons (dIx (dVar 0) (dVar 6)) (dCons (dAdd (dVar 6) (dC (.int 64))) dNil))) (dVar 2)))
 (ay (aU 9 (dAdd (oO (dIx (dVar 4) (dVar 7)) (dIx (dVar 5) (dVar 8))) (oO (dC (.int 0)) (gA (cj (aJ cm (dCons (dIx (dVar 0) (dVar 6)) (dCons (dAdd (dVar 6) (dC (.int 128))) dNil))) (dC (.int 6))) (dC (.int 3))))))
 (ay (aU 10 (dAdd (dAdd (dVar 9) (dC (.int 1))) (cj (aJ cm (dCons (dIx (dVar 0) (dVar 6)) (dCons (dAdd (dVar 6) (dC (.int 192))) dNil))) (dC (.int 3)))))
 (ay (qm 4 (dVar 7) (dVarI 10))
 (ay (qm 5 (dVar 8) (dVarI 10))
 (qm 3 (dVar 7) (dLst (rm (o4 3 (dVar 7)) (dLst (dCons (dVarI 9) (dCons (dVarI 10) dNil)))))))))))))
 (ay (gJ 11 xO)
 (ay (iA (jF (dVar 1)) (gN Â 6)
 (ay (aU 12 (dLst (rm (o4 3 (dVar 6)) (dLst (mI (dCons (cj (dVar 6) (dC (.int 3))) dNil) (dy intD (jG Ã (dIx (dVar 3) (dVar 6)) (dLst dNil))))))))
 (ay (aU 13 (gA (dy oU (dLst (oZ (o4 3 (dVar 6)) (eA (dC (.int 1))) gP (eA (dC (.int 2)))))) (dy oU (dLst (oZ (o4 3 (dVar 6)) gP gP (eA (dC (.int 2))))))))
 (ay (aU 14 (cj (aJ cm (dCons (aJ bu (dCons (dVar 0) (dCons (dC (.int 3)) dNil))) (dCons (dVar 6) dNil))) (dC (.int 4))))
 (oG 11 (dCons (oO (dC (.int 0)) (gA (dy minD (dVar 12)) (cM (dVar 14) (dC (.int 2))))) (dCons (dAdd (dy maxD (dVar 12)) (cj (dVar 14) (dC (.int 2)))) (dCons (dVarI 13) dNil))))))))
 (lp 11)))))))
@[irreducible] def dA:List D->Option D:=jE 15 [Ã,Ã,Ã] eX
def gX:dA=jE 15 [Ã,Ã,Ã] eX:=by unfold dA;rfl
def rR(x0 x1:D):eZ 7 [Ã,Ã] [x0,x1]=[.bo x0,.bo x1,.un,.un,.un,.un,.un]:=rfl
noncomputable def fM:DS:=(ay (gJ 2 xO)
 (ay (fv 3 (dComp 1 [0] (jF (dC (.int 24))) (gN Â 0) dTrue (aJ cm (dCons (aJ bu (dCons (dVar 1) (dCons (dC (.int 3)) dNil))) (dCons (dAdd (dC (.int 40)) (dVar 0)) dNil)))))
 (ay (iA (CD (dC (.int 4)) (ui (dC (.int 63)) (dy du (dVar 0)))) (gN Â 4)
 (qm 3 (cj (dVar 4) (dC (.int 24))) (aJ cm (dCons (dAdd (dIx (dVar 3) (cj (dVar 4) (dC (.int 24)))) (dIx (dVar 0) (dVar 4))) (dCons (dVar 4) dNil)))))
 (ay (iA (jF (dVar 1)) (gN Â 4)
 (ay (aU 5 (cj (dIx (dVar 3) (fg (dC (.int 3)) (dVar 4))) (dC (.int 8))))
 (ay (aU 6 (cj (dIx (dVar 3) (dAdd (fg (dC (.int 3)) (dVar 4)) (dC (.int 1)))) (dC (.int 7))))
 (oG 2 (dCons (dVarI 5) (dCons (dAdd (dVar 5) (dVar 6)) (dCons (cj (dIx (dVar 3) (dAdd (fg (dC (.int 3)) (dVar 4)) (dC (.int 2)))) (dAdd (dAdd (dVar 6) (dC (.int 1))) (dy intD (jG Ã (cj (cM (dIx (dVar 3) (dAdd (fg (dC (.int 3)) (dVar 4)) (dC (.int 2)))) (dC (.int 64))) (dC (.int 9))) (dC (.int 0)))))) dNil)))))))
 (lp 2)))))
@[irreducible] def d7:List D->Option D:=jE 7 [Ã,Ã] fM
def iR:d7=jE 7 [Ã,Ã] fM:=by unfold d7;rfl
def yy(x0:D):eZ 9 [Ã] [x0]=[.bo x0,.un,.un,.un,.un,.un,.un,.un,.un]:=rfl
noncomputable def kG:DS:=(ay (aU 1 (aJ bu (dCons (dVar 0) (dCons (dC (.int 0)) dNil))))
 (ay (aU 2 (dIx (dLst (dCons (cj (cM (dVar 1) (dC (.int 3))) (dC (.int 9))) (dCons (dC (.int 8)) (dCons (cj (cM (dVar 1) (dC (.int 3))) (dC (.int 9))) dNil)))) (cj (dVar 1) (dC (.int 3)))))
 (ay (aU 3 (aJ cm (dCons (aJ bu (dCons (dVar 0) (dCons (dC (.int 1)) dNil))) (dCons (dC (.int 33)) dNil))))
 (ay (aU 4 (dIx (dLst (dCons (dAdd (dC (.int 1)) (cj (dVar 3) (dC (.int 3)))) (dCons (dAdd (dC (.int 1)) (cj (dVar 3) (dC (.int 8)))) (dCons (dC (.int 8)) dNil)))) (dAdd (dy intD (xP (cj (cM (dVar 3) (dC (.int 24))) (dC (.int 6))) (dC (.int 2)))) (dy intD (jG Ã (cj (cM (dVar 3) (dC (.int 24))) (dC (.int 6))) (dC (.int 0)))))))
 (ay (jK (rh (dT (jG Ã (cj (aJ bu (dCons (dVar 0) (dCons (dC (.int 1)) dNil))) (dC (.int 3))) (dC (.int 0)))) (dT (jG Ã (dVar 2) (dC (.int 0)))))
 (gJ 5 (oh d7 (dCons (dVar 0) (dCons (dVar 2) dNil))))
 (gJ 5 (oh dA (dCons (dVar 0) (dCons (dVar 2) (dCons (dVar 4) dNil))))))
 (ay (aU 6 (cM (aJ bu (dCons (dVar 0) (dCons (dC (.int 1)) dNil))) (dC (.int 3))))
 (ay (aU 7 (dIx (dLst (dCons (dC (.int 1)) (dCons (dC (.int 7)) (dCons (dAdd (sN (dC (.int 10)) (dC (.int 40))) (dC (.int 9))) dNil)))) (cj (dVar 6) (dC (.int 3)))))
 (ay (gJ 5 (j4 1 [7] (asL (dVar 5)) (gN Ã 0) dTrue (dCons (fg (dVar 1) (dIx (dVar 0) (dC (.int 0)))) (dCons (fg (dVar 1) (dIx (dVar 0) (dC (.int 1)))) (dCons (fg (dVar 1) (dIx (dVar 0) (dC (.int 2)))) dNil)))))
 (ay (jK (sP (dT (xS (dVar 2) (dC (.int 0)))) (dT (jG Ã (cj (cM (dVar 6) (dC (.int 3))) (dC (.int 3))) (dC (.int 1)))))
 (ql 5 (cj (cM (dVar 6) (dC (.int 9))) (dVar 2)) (dC (.int 2)) (dAdd (dIx (dIx (dVar 5) (cj (cM (dVar 6) (dC (.int 9))) (dVar 2))) (dC (.int 2))) (dC (.int 1))))
  b8)
 (ay (aU 8 (fg (cj (aJ bu (dCons (dVar 0) (dCons (dC (.int 2)) dNil))) (sN (dC (.int 10)) (dC (.int 49)))) (dy intD (jG Ã (cj (cM (dVar 6) (dC (.int 9))) (dC (.int 4))) (dC (.int 1))))))
 (sRet (dTup (dCons (dLst (dComp 1 [8] (asL (dVar 5)) (gN Ã 0) dTrue (dLst (dCons (dAdd (dIx (dVar 0) (dC (.int 0))) (dVar 1)) (dCons (dAdd (dIx (dVar 0) (dC (.int 1))) (dVar 1)) (dCons (gScal (dIx (dVar 0) (dC (.int 2)))) dNil)))))) (dCons (dVarI 4) dNil))))))))))))))
@[irreducible] def iQ:List D->Option D:=bO 9 [Ã] kG
def k5:iQ=bO 9 [Ã] kG:=by unfold iQ;rfl
def uO(x0 x1 x2:D):eZ 12 [Ã,Ã,Â] [x0,x1,x2]=[.bo x0,.bo x1,.pu x2,.un,.un,.un,.un,.un,.un,.un,.un,.un]:=rfl
noncomputable def gZ:DS:=(ay (jK (kK (ij (sO "list" (dVar 2))))
 (sRet (dC (.bl Ã)))
  b8)
 (ay (fv 3 (mI (dCons (dC (.int 0)) dNil) (dy du (dVar 0))))
 (ay (fv 4 (dComp 1 [] (jF (dVar 1)) (gN Â 0) dTrue (dLst (dCons (iI (dC (.int 1))) (dCons (iI (dC (.int 1))) dNil)))))
 (ay (fv 5 (mI (dCons (dC (.int 0)) dNil) (dy du (dVar 0))))
 (ay (aU 6 (dLst (dCons (iI (dC (.int 1))) (dCons (iI (dC (.int 1))) dNil))))
 (ay (iA (asL (dVarI 2)) (gN Â 7)
 (ay (jK (rh (kK (ij (sO "list" (dVar 7)))) (rh (dT (jG Â (dy du (dVar 7)) (dC (.int 4)))) (kK (ij (dy FJ (dLst (dComp 1 [] (asL (dVarI 7)) (gN Â 0) dTrue (aJ dm (dCons (dVar 0) dNil)))))))))
 (sRet (dC (.bl Ã)))
  b8)
 (ay (Lq (dVarI 7) (CZ 4 (bP (gN Â 8) (bP (gN Â 9) (bP (gN Â 10) (bP (gN Â 11) jv))))))
 (ay (jK (rh (dT (xP (dVar 8) (dC (.int 0)))) (rh (dT (C1 (dVar 8) (dVar 1))) (rh (dT (xP (dVar 9) (dC (.int 0)))) (dT (C1 (dVar 9) (dy du (dVar 0)))))))
 (sRet (dC (.bl Ã)))
  b8)
 (ay (jK (rh (dT (Ft (dLst (dCons (dVarI 10) (dCons (dVarI 8) dNil))) (dVar 6))) (rh (dT (C1 (dVar 10) (dVar 11))) (dT (xP (dVar 10) (oO (dIx (dIx (dVar 4) (dVar 8)) (dC (.int 1))) (dIx (dVar 5) (dVar 9)))))))
 (sRet (dC (.bl Ã)))
  b8)
 (ay (jK (rh (dT (jG Ã (dIx (dVar 4) (dVar 8)) (dLst (dCons (dVarI 9) (dCons (dVarI 10) dNil))))) (rh (dT (xP (dVar 10) (dIx (dIx (dVar 0) (dVar 9)) (dC (.int 0))))) (dT (xS (dVar 11) (dIx (dIx (dVar 0) (dVar 9)) (dC (.int 1)))))))
 (sRet (dC (.bl Ã)))
  b8)
 (ay (aU 6 (dLst (dCons (dVarI 10) (dCons (dVarI 8) dNil))))
 (ay (qm 4 (dVar 8) (dLst (dCons (dVarI 9) (dCons (dVarI 11) dNil))))
 (ay (qm 5 (dVar 9) (dVarI 11))
 (qm 3 (dVar 9) (gA (dAdd (dIx (dVar 3) (dVar 9)) (dVar 11)) (dVar 10))))))))))))
 (sRet (jG Ã (dVar 3) (dLst (dComp 1 [] (asL (dVar 0)) (gN Ã 0) dTrue (gScal (dIx (dVar 0) (dC (.int 2))))))))))))))
@[irreducible] def fo:List D->Option D:=bO 12 [Ã,Ã,Â] gZ
def jB:fo=bO 12 [Ã,Ã,Â] gZ:=by unfold fo;rfl
def wH(x0 x1:D):eZ 5 [Â,Â] [x0,x1]=[.pu x0,.pu x1,.un,.un,.un]:=rfl
noncomputable def ji:DS:=(ay (aU 2 (dLst dNil))
 (ay (iA (asL (dVarI 0)) (gN Â 3)
 (aU 2 (dLst (rm (dVarI 2) (dLst (dCons (dIx (dVarI 3) (dC (.int 0))) (dCons (dIx (dVarI 3) (dC (.int 1))) dNil)))))))
 (ay (iA (asL (dVarI 1)) (gN Â 4)
 (aU 2 (dLst (rm (dVarI 2) (dVarI 4)))))
 (ay (aU 2 (dLst (rf (dVar 2))))
 (sRet (dLst (dComp 1 [2] (jF (gA (dy du (dVar 2)) (dC (.int 1)))) (gN Â 0) dTrue (dLst (dCons (dIx (dVarI 1) (dVar 0)) (dCons (dIx (dVarI 1) (dAdd (dVar 0) (dC (.int 1)))) dNil))))))))))
@[irreducible] def gq:List D->Option D:=bO 5 [Â,Â] ji
def j9:gq=bO 5 [Â,Â] ji:=by unfold gq;rfl
def BF(x0 x1 x2 x3:D):eZ 9 [Â,Ã,Â,Â] [x0,x1,x2,x3]=[.pu x0,.bo x1,.pu x2,.pu x3,.un,.un,.un,.un,.un]:=rfl
noncomputable def m8:DS:=(ay (aU 4 (dC (.int 0)))
 (ay (iA (asL (aJ gq (dCons (dVarI 0) (dCons (dVarI 3) dNil)))) (CZ 2 (bP (gN Â 5) (bP (gN Â 6) jv)))
 (ay (aU 7 (dLst (dComp 1 [5,6] (asL (dVarI 3)) (gN Â 0) (sP (dT (Gd (dIx (dVar 0) (dC (.int 0))) (dVar 1))) (dT (Gd (dVar 2) (dIx (dVar 0) (dC (.int 1)))))) (dVarI 0))))
 (ay (aU 8 (gScal (dVar 1)))
 (ay (jK (dT (jG Ã (dVar 7) (dLst dNil)))
 (aU 8 (dy du (dLst (dComp 1 [0,5,6] (asL (dVarI 2)) (gN Â 0) (sP (dT (Gd (dIx (dIx (dVar 1) (dVar 0)) (dC (.int 0))) (dVar 2))) (dT (Gd (dVar 3) (dIx (dIx (dVar 1) (dVar 0)) (dC (.int 1)))))) (dVarI 0)))))
  b8)
 (aU 4 (dAdd (dVar 4) (fg (dVar 8) (gA (dVar 6) (dVar 5)))))))))
 (sRet (dVarI 4))))
@[irreducible] def iP:List D->Option D:=bO 9 [Â,Ã,Â,Â] m8
def mV:iP=bO 9 [Â,Ã,Â,Â] m8:=by unfold iP;rfl
def uP(x0 x1 x2:D):eZ 6 [Â,Ã,Â] [x0,x1,x2]=[.pu x0,.bo x1,.pu x2,.un,.un,.un]:=rfl
noncomputable def g6:DS:=(ay (jK (rh (kK (ij (sO "tuple" (dVar 2)))) (dT (jG Â (dy du (dVar 2)) (dC (.int 2)))))
 (sRet (dC (.bl Ã)))
  b8)
 (ay (jK (rh (kK (ij (sO "list" (dIx (dVar 2) (dC (.int 0)))))) (kK (ij (sO "list" (dIx (dVar 2) (dC (.int 1)))))))
 (sRet (dC (.bl Ã)))
  b8)
 (ay (aU 3 (iI (dC (.int 1))))
 (ay (iA (asL (dIx (dVarI 2) (dC (.int 0)))) (gN Â 4)
 (ay (jK (rh (kK (ij (aJ dm (dCons (dVar 4) dNil)))) (rh (dT (Gd (dVar 4) (dVar 3))) (dT (C1 (dVar 4) (dy du (dVar 0))))))
 (sRet (dC (.bl Ã)))
  b8)
 (aU 3 (dVarI 4))))
 (ay (aU 3 (dC (.int 0)))
 (ay (iA (asL (dIx (dVarI 2) (dC (.int 1)))) (gN Â 5)
 (ay (jK (rh (kK (ij (sO "list" (dVar 5)))) (rh (dT (jG Â (dy du (dVar 5)) (dC (.int 2)))) (kK (ij (dy FJ (dLst (dComp 1 [] (asL (dVarI 5)) (gN Â 0) dTrue (aJ dm (dCons (dVar 0) dNil)))))))))
 (sRet (dC (.bl Ã)))
  b8)
 (ay (jK (rh (dT (xP (dIx (dVar 5) (dC (.int 0))) (dVar 3))) (dT (Gd (dIx (dVar 5) (dC (.int 1))) (dIx (dVar 5) (dC (.int 0))))))
 (sRet (dC (.bl Ã)))
  b8)
 (aU 3 (dIx (dVarI 5) (dC (.int 1)))))))
 (sRet (xS (dy oU (dLst (dComp 1 [0] (asL (dIx (dVarI 2) (dC (.int 0)))) (gN Â 0) dTrue (dIx (dIx (dVarI 1) (dVar 0)) (dC (.int 2)))))) (aJ iP (dCons (dVarI 0) (dCons (dVar 1) (dCons (dIx (dVarI 2) (dC (.int 0))) (dCons (dIx (dVarI 2) (dC (.int 1))) dNil)))))))))))))
@[irreducible] def fq:List D->Option D:=bO 6 [Â,Ã,Â] g6
def jC:fq=bO 6 [Â,Ã,Â] g6:=by unfold fq;rfl
def Jq(x0:D):eZ 6 [Ã] [x0]=[.bo x0,.un,.un,.un,.un,.un]:=rfl
noncomputable def Bq:DS:=(ay (Lq (aJ iQ (dCons (dVar 0) dNil)) (CZ 2 (bP (gN Â 1) (bP (gN Â 2) jv))))
 (ay (aU 3 (dLst (dComp 1 [] (asL (dVarI 1)) (gN Â 0) dTrue (dLst (xQ (dVarI 0))))))
 (ay (aU 4 (aJ cP (dCons (dVarI 3) (dCons (dVarI 2) dNil))))
 (ay (aU 5 (aJ c9 (dCons (dVarI 3) (dCons (dVarI 2) dNil))))
 (ay (jK (dT (jG Â (dVar 3) (dVar 1)))
 (sRet (dC (.bl Ã)))
  b8)
 (ay (jK (dT (Fs (dVar 4)))
 (sRet (oP (zu (dVar 5)) (aJ fo (dCons (dVar 1) (dCons (dVar 2) (dCons (dVarI 4) dNil))))))
  b8)
 (sRet (aJ fq (dCons (dVarI 1) (dCons (dVar 2) (dCons (dVarI 5) dNil)))))))))))
@[irreducible] def Bo:List D->Option D:=bO 6 [Ã] Bq
def uz:Bo=bO 6 [Ã] Bq:=by unfold Bo;rfl
end
section
variable[aV]{P:Δ}{w:Ŷ}{K:Í}{mg:ĺ->Option Ù}{base:Ő}{ad:MX}
local macro_rules | `(tactic| walk_at "e1")=>`(tactic| first
 |with_reducible apply bG
 |with_reducible apply fW
 |with_reducible apply cI
 |with_reducible apply fX
 |with_reducible apply qc
 |with_reducible apply z8
 |with_reducible apply M6
 |with_reducible apply M5
 |with_reducible apply M4
 |with_reducible apply M3
 |with_reducible apply M1
 |with_reducible apply JD
 |with_reducible apply yG
 |with_reducible apply D1
 |with_reducible apply zW
 |with_reducible apply M7
 |with_reducible apply M8
 |with_reducible apply JG
 |with_reducible apply LW
 |with_reducible apply LP
 |with_reducible apply DZ
 |with_reducible apply gG
 |with_reducible apply JC
 |with_reducible apply G4
 |with_reducible apply LR
 |with_reducible apply GU
 |with_reducible apply Jp
 |with_reducible apply LV
 |with_reducible apply D0
 |with_reducible apply BB
 |with_reducible apply fV
 |with_reducible apply GW
 |with_reducible apply JJ
 |with_reducible apply JA
 |with_reducible apply JO
 |with_reducible apply IA
 |with_reducible apply JP
 |with_reducible apply LS
 |with_reducible apply G1
 |with_reducible apply JI
 |with_reducible apply Ju
 |with_reducible apply JQ
 |with_reducible apply G2
 |with_reducible apply G5
 |with_reducible apply G0
 |with_reducible apply tq
 |with_reducible apply JF
 |with_reducible apply Jz
 |with_reducible apply G8
 |with_reducible apply JE
 |with_reducible apply G3
 |with_reducible apply G6
 |with_reducible apply BA
 |with_reducible apply JB
 |with_reducible apply JM
 |with_reducible apply yF
 |with_reducible apply DL
 |with_reducible apply DK
 |with_reducible apply LU
 |with_reducible apply Jm
 |with_reducible apply LX
 |with_reducible apply GD
 |with_reducible apply D3
 |with_reducible apply JL
 |with_reducible apply GF
 |with_reducible apply G7
 |with_reducible apply GY
 |with_reducible apply JH
 |with_reducible apply G9
 |with_reducible apply GZ
 |with_reducible apply JK
 |with_reducible apply cg
 |with_reducible apply JR
 |with_reducible apply uM
 |with_reducible apply Jo
 |with_reducible apply o5.c
 |with_reducible apply cZ.l
 |with_reducible apply aN.b
 |with_reducible apply SemB.i
 |apply qc
 |apply z8
 |apply D1
 |apply aN.b
 |rfl |decide)
theorem si(T:Txt K mg ad)(hbm:de mg base):ck P w K mg base gE 1 (ad.f 0) (ad.d 0) ["total", "parts"] (jJ .v K [Ã,Ã] d9):=by
 rw[iW];exact gB.pj (T.F 0 rfl).F rX [Ã,Ã] rfl fN λcdv A outer s H E hr=>⟨_,
 (af (cA (bI (K:=K) rfl (aq bC (pv 0) (pv 1)) (λ_=>rfl))
 (ao (aK (aq bw (aq cB (pv 0) (pv 1)) ai)))
 bB)
 (ao (aK (aq cB (pv 0) (pv 1))))),
 (ak (cz (by repeat' walk_at "e1") (aP (by repeat' walk_at "e1")) bA) (aP (by repeat' walk_at "e1")))⟩
theorem sf(T:Txt K mg ad)(hbm:de mg base):ck P w K mg base gE 2 (ad.f 2) (ad.d 2) ["hours", "benches"] (jJ .v K [Ã,Ã] d8):=by
 rw[iV];exact gB.pj (T.F 2 rfl).F rW [Ã,Ã] rfl jk λcdv A outer s H E hr=>⟨_,
 (ao (aK (fu (si T hbm) (T.F 0 rfl) hr (aa (aw (fR (K:=K) rfl rfl) rfl (T.G 14 rfl) ou (aa (pv 0) aj)) (aa (pv 1) aj))))),
 (aP (by repeat' walk_at "e1"))⟩
theorem vp(T:Txt K mg ad)(hbm:de mg base):ck P w K mg base gE 3 (ad.f 1) (ad.d 1) ["hours", "benches"] (jJ .v K [Ã,Ã] fm):=by
 rw[jA];exact gB.pj (T.F 1 rfl).F uY [Ã,Ã] rfl kc λcdv A outer s H E hr=>⟨_,
 (af (cA (fZ (bI (K:=K) rfl (pv 0) (λ_=>rfl)))
 (ao (aK ai))
 bB)
 (ao (aK (aw (iK rfl) rfl (T.G 8 rfl) lI (aa (aw (rp (K:=K) rfl rfl) rfl (T.G 8 rfl) lI (aa (pv 0) aj)) (aa (fu (sf T hbm) (T.F 2 rfl) hr (aa (pv 0) (aa (pv 1) aj))) aj)))))),
 (ak (cz (by repeat' walk_at "e1") (aP fV) bA) (aP (by repeat' walk_at "e1")))⟩
theorem yW(T:Txt K mg ad)(hbm:de mg base):ck P w K mg base gE 4 (ad.f 3) (ad.d 3) ["hours", "benches", "end"] (jJ .m K [Ã,Ã,Ã] iM):=by
 rw[kW];exact gB.MN (T.F 3 rfl).F bN [Ã,Ã,Ã] rfl kD λcdv A outer s H E hr=>⟨_,
 (af (pA 3 bN.nd (fu (vp T hbm) (T.F 1 rfl) hr (aa (pv 0) (aa (pv 1) aj))))
 (af (cA (aF jr (pv 2) (pv 3) (aD _))
 (ao En)
 bB)
 (af (pA 4 bN.nd (aZ aj))
 (af (pA 5 bN.nd ai)
 (af (pA 6 bN.nd ai)
 (af (cQ ċ rfl (w6 (K:=K) rfl rfl (T.G 3 rfl) (pv 0)) (dR (K:=K) rfl rfl (aT (pG 7 bN.nd) (aT (pG 8 bN.nd) dQ)))
 (af (pA 9 bN.nd (pv 8))
 (ao (mn ċ (aF kP (pv 9) ai (aD _))
 (af (cA (aF (dS (K:=K) hr.units) (pv 6) (pv 2) (aD _))
 (af (yS (i:=5) bN.nd rfl (Ė rfl) ai zd)
 (ao (pA 6 bN.nd ai)))
 bB)
 (af (pA 10 bN.nd (aw (ot rfl) rfl (T.G 9 rfl) rq (aa (aq bw (pv 6) (pv 9)) (aa (pv 2) aj))))
 (af (eO (mq Į Œ œ eG (pv 4) (aa (aZ (aa (pv 5) (aa (pv 7) (aa (pv 6) (aa (pv 10) aj))))) aj)))
 (af (yS (i:=9) bN.nd rfl (Ė rfl) (aq cX (pv 10) (pv 6)) EX)
 (ao (pA 6 bN.nd (pv 10)))))))))))
 (ao (aK (pv 4))))))))),
 (ak (aB (by repeat' walk_at "e1")) (ak (cz (by repeat' walk_at "e1") DQ bA) (ak (iY uT) (ak (aB fV) (ak (aB fV) (ak (dt (m:=Â) (by repeat' walk_at "e1") (jQ (aS (aE 7) (aS (aE 8) dP))) (ak (aB (cI 8)) (l9 (by repeat' walk_at "e1") (ak (cz (by repeat' walk_at "e1") (ak (yA fW) (aB fV)) bA) (ak (aB (by repeat' walk_at "e1")) (ak (o8 (by repeat' walk_at "e1")) (ak (yA (by repeat' walk_at "e1")) (aB (cI 10))))))))) p8))))))⟩
theorem ie(T:Txt K mg ad)(hbm:de mg base):ck P w K mg base gE 1 (ad.f 11) (ad.d 11) ["works", "table", "work"] (jJ .v K [Â,Ã,Ã] bT):=by
 rw[iT];exact gB.pj (T.F 11 rfl).F rV [Â,Ã,Ã] rfl jj λcdv A outer s H E hr=>⟨_,
 (ao (aK (aq cX (pX K (pX K (pv 0) (pv 2)) (b9 rfl (T.G 22 rfl))) (aw (fR (K:=K) rfl rfl) rfl (T.G 14 rfl) ou (aa (pX K (pv 1) (pv 2)) aj))))),
 (aP (by repeat' walk_at "e1"))⟩
theorem js(T:Txt K mg ad)(hbm:de mg base):ck P w K mg base gE 1 (ad.f 13) (ad.d 13) ["benches", "stretches", "table", "number"] (jJ .v K [Â,Â,Ã,Ã] bW):=by
 rw[gm];exact gB.pj (T.F 13 rfl).F jq [Â,Â,Ã,Ã] rfl gz λcdv A outer s H E hr=>⟨_,
 (af (pA 4 jq.nd (aq cX (pX K (pX K (pv 1) (pv 3)) ai) (pX K (pX K (pv 1) (pv 3)) ai)))
 (ao (aK (aq cX (aq cT (pv 4) (pv 0)) (aw (fR (K:=K) rfl rfl) rfl (T.G 14 rfl) ou (aa (CY ["row"] ["number"] 1 [3] (aM (K:=K) rfl (pv 2)) (λ_ _ _ _ _=>(pX K (pv 0) (pv 1)))) aj)))))),
 (ak (aB (by repeat' walk_at "e1")) (aP (by repeat' walk_at "e1")))⟩
theorem mz(T:Txt K mg ad)(hbm:de mg base):ck P w K mg base gE 1 (ad.f 12) (ad.d 12) ["works", "stretches", "table", "work", "number"] (jJ .v K [Â,Â,Ã,Ã,Ã] dO):=by
 rw[jy];exact gB.pj (T.F 12 rfl).F iZ [Â,Â,Ã,Ã,Ã] rfl ka λcdv A outer s H E hr=>⟨_,
 (af (pA 5 iZ.nd (pX K (pX K (pv 1) (pv 4)) ai))
 (af (pA 6 iZ.nd (pX K (pX K (pv 1) (pv 4)) ai))
 (af (cA (PW.pt (et (aF jr (pv 5) (pX K (pX K (pv 0) (pv 3)) (b9 rfl (T.G 19 rfl))) (aD _)) (fY (aF kP (pv 6) (pX K (pX K (pv 0) (pv 3)) (b9 rfl (T.G 20 rfl))) (aD _)))))
 (ao (aK ai))
 bB)
 (ao (aK (aq cX (aq cX (pv 6) (pv 5)) (pX K (pX K (pv 2) (pv 3)) (pv 4)))))))),
 (ak (aB (by repeat' walk_at "e1")) (ak (aB (by repeat' walk_at "e1")) (ak (cz (by repeat' walk_at "e1") (aP fV) bA) (aP (by repeat' walk_at "e1")))))⟩
theorem sd(T:Txt K mg ad)(hbm:de mg base):ck P w K mg base gE 2 (ad.f 10) (ad.d 10) ["works", "benches", "stretches", "table", "way"] (M0 K 3 [Â,Â,Â,Ã,Â] d6):=by
 rw[iO];exact gB.Oi (T.F 10 rfl).F bR 3 [Â,Â,Â,Ã,Â] rfl (Kk rfl) (by decide) fL λcdv A outer s H E hr=>⟨_,
 (af (pA 5 bR.nd (pe_lzip (K:=K) rfl rfl rfl (T.G 7 rfl) rfl (T.G 16 rfl) (aa (fP (K:=K) rfl (pv 4) (dF ai) gM (dF ai)) (aa (fP (K:=K) rfl (pv 4) (dF ai) gM (dF ai)) aj))))
 (af (pA 6 bR.nd (pe_lzip (K:=K) rfl rfl rfl (T.G 7 rfl) rfl (T.G 16 rfl) (aa (fP (K:=K) rfl (pv 4) (dF ai) gM (dF ai)) (aa (fP (K:=K) rfl (pv 4) (dF ai) gM (dF ai)) aj))))
 (af (pA 7 bR.nd (aZ (aa (fu (ie T hbm) (T.F 11 rfl) hr (aa (pv 0) (aa (pv 3) (aa (pX K (pv 4) ai) aj)))) (aa (fu (js T hbm) (T.F 13 rfl) hr (aa (pv 1) (aa (pv 2) (aa (pv 3) (aa (pX K (pv 4) (jS fU ai)) aj))))) aj))))
 (af (eO (mq Į OB OC vA (pv 7) (aa (qA rfl (aM (K:=K) rfl (pv 5)) (ts:=["work", "number"]) (zs:=["works", "stretches", "table"]) (k:=2) (is:=[0,2,3]) rfl (.cons rfl (.cons rfl (.cons rfl .nil))) (.cons rfl (Ė rfl) rfl (by first |exact Ė rfl |exact ĵ rfl) (.cons rfl (Ė rfl) rfl (by first |exact Ė rfl |exact ĵ rfl) (.cons rfl (Ė rfl) rfl (by first |exact Ė rfl |exact ĵ rfl) .nil))) rfl rfl rfl (pz (lows_cons (bx (by decide)) (lows_cons (bx (by decide)) mC))) (λ_ _ _ _ _=>(dR (K:=K) rfl rfl (aT (ic (i:=0) (by decide +kernel) rfl (Ė rfl) (ĵ rfl)) (aT (ic (i:=1) (by decide +kernel) rfl (Ė rfl) (ĵ rfl)) dQ)))) (λ_ _ _ _ _=>(fu (mz T hbm) (T.F 12 rfl) hr (aa (pv 2) (aa (pv 3) (aa (pv 4) (aa (pv 0) (aa (pv 1) aj))))))) rfl rfl (by decide +kernel)) aj)))
 (af (eO (mq Į OB OC vA (pv 7) (aa (qA rfl (aM (K:=K) rfl (pv 6)) (ts:=["work", "number"]) (zs:=["table"]) (k:=2) (is:=[3]) rfl (.cons rfl .nil) (.cons rfl (Ė rfl) rfl (by first |exact Ė rfl |exact ĵ rfl) .nil) rfl rfl rfl (pz (lows_cons (bx (by decide)) (lows_cons (bx (by decide)) mC))) (λ_ _ _ _ _=>(dR (K:=K) rfl rfl (aT (ic (i:=0) (by decide +kernel) rfl (Ė rfl) (ĵ rfl)) (aT (ic (i:=1) (by decide +kernel) rfl (Ė rfl) (ĵ rfl)) dQ)))) (λ_ _ _ _ _=>(pX K (pX K (pv 2) (pv 0)) (pv 1))) rfl rfl (by decide +kernel)) aj)))
 (af (pA 8 bR.nd (aw (rn (K:=K) rfl rfl) rfl (T.G 9 rfl) rq (aa (pv 7) aj)))
 (af (cQ ċ rfl (aM (K:=K) rfl (pv 5)) (dR (K:=K) rfl rfl (aT (pG 9 bR.nd) (aT (pG 10 bR.nd) dQ)))
 (ao (Am (pX K (pv 3) (pv 9)) (pv 10) (t7 (K:=K) rfl) (pv 8) zd set_list)))
 (ao (cQ ċ rfl (aM (K:=K) rfl (pv 6)) (dR (K:=K) rfl rfl (aT (pG 9 bR.nd) (aT (pG 10 bR.nd) dQ)))
 (ao (Am (pX K (pv 3) (pv 9)) (pv 10) (t7 (K:=K) rfl) (pv 8) EX set_list))))))))))),
 (ak (aB (by repeat' walk_at "e1")) (ak (aB (by repeat' walk_at "e1")) (ak (gH (by repeat' walk_at "e1")) (ak (yz (cZ.l (gI (m:=Â) (k:=2) (cs:=[0,2,3]) (by repeat' walk_at "e1") (jQ (aS (aE 0) (aS (aE 1) dP))) gG (by repeat' walk_at "e1")))) (ak (yz (cZ.l (gI (m:=Â) (k:=2) (cs:=[3]) (by repeat' walk_at "e1") (jQ (aS (aE 0) (aS (aE 1) dP))) gG (by repeat' walk_at "e1")))) (ak (aB (by repeat' walk_at "e1")) (ak (dt (m:=Â) (by repeat' walk_at "e1") (jQ (aS (aE 9) (aS (aE 10) dP))) (ss_aug2P (bG 9) (bG 10) (bG 8))) (dt (m:=Â) (by repeat' walk_at "e1") (jQ (aS (aE 9) (aS (aE 10) dP))) (ss_aug2P (bG 9) (bG 10) (bG 8))))))))))⟩
theorem r8(T:Txt K mg ad)(hbm:de mg base):ck P w K mg base gE 2 (ad.f 8) (ad.d 8) ["works", "stretches", "table", "place"] (jJ .v K [Â,Â,Ã,Ã] dZ):=by
 rw[iN];exact gB.pj (T.F 8 rfl).F kO [Â,Â,Ã,Ã] rfl jh λcdv A outer s H E hr=>⟨_,
 (af (pA 4 kO.nd (aw (aY (K:=K) rfl) rfl (T.G 6 rfl) cy (aa (pv 0) aj)))
 (af (cA (aF qD (pv 3) (pv 4) (aD _))
 (ao (aK (MK ["work"] ["table", "place", "many"] 1 [2,3,4] (cN rfl (T.G 10 rfl) (aa (pv 4) aj)) (λ_ _ _ _ _=>(aF kP (pX K (pX K (pv 1) (pv 0)) (aq cX (pv 2) (pv 3))) ai (aD _))) (λ_ _ _ _ _=>(pv 0)))))
 bB)
 (ao (aK (MK ["number"] ["works", "stretches", "table", "place", "many"] 1 [0,1,2,3,4] (cN rfl (T.G 10 rfl) (aa (aw (aY (K:=K) rfl) rfl (T.G 6 rfl) cy (aa (pv 1) aj)) aj)) (λ_ _ _ _ _=>(aF kP (fu (mz T hbm) (T.F 12 rfl) hr (aa (pv 1) (aa (pv 2) (aa (pv 3) (aa (pv 4) (aa (pv 0) aj)))))) ai (aD _))) (λ_ _ _ _ _=>(aq bw (pv 5) (pv 0)))))))),
 (ak (aB (by repeat' walk_at "e1")) (ak (cz (by repeat' walk_at "e1") (aP (by repeat' walk_at "e1")) bA) (aP (by repeat' walk_at "e1"))))⟩
theorem qF(T:Txt K mg ad)(hbm:de mg base):ck P w K mg base gE 3 (ad.f 7) (ad.d 7) ["works", "stretches", "table"] (jJ .l K [Â,Â,Ã] eM):=by
 rw[kX];exact gB.MN (T.F 7 rfl).F cV [Â,Â,Ã] rfl kE λcdv A outer s H E hr=>⟨_,
 (af (yR (i:=3) cV.nd rfl rfl rfl (cN rfl (T.G 10 rfl) (aa (aw (aY (K:=K) rfl) rfl (T.G 6 rfl) cy (aa (pv 0) aj)) aj)) (ts:=["number"]) (zs:=["works", "table"]) (k:=1) (is:=[0,2]) rfl (.cons rfl (.cons rfl .nil)) (.cons rfl (Ė rfl) rfl (by first |exact Ė rfl |exact ĵ rfl) (.cons rfl (Ė rfl) rfl (by first |exact Ė rfl |exact ĵ rfl) .nil)) rfl rfl rfl (bx (by decide)) (λ_ _ _ _ _=>(ic (i:=0) (by decide +kernel) rfl (Ė rfl) (ĵ rfl))) (λ_ _ _ _ _=>(aF kP (fu (ie T hbm) (T.F 11 rfl) hr (aa (pv 1) (aa (pv 2) (aa (pv 0) aj)))) ai (aD _))) (λ_ _ _ _ _=>(pv 0)) rfl rfl (by decide +kernel))
 (af (pA 4 cV.nd Ez)
 (af (cQ ċ rfl (aM (K:=K) rfl (pv 3)) (pG 5 cV.nd) (ao (Ak (xw hr) (pv 4) (pv 5) (pv 5) rfl)))
 (af (pA 6 cV.nd ai)
 (af (mn ċ (aF jr (pv 6) (aw (aY (K:=K) rfl) rfl (T.G 6 rfl) cy (aa (pv 3) aj)) (aD _))
 (af (pA 7 cV.nd (pX K (pv 3) (pv 6)))
 (af (yS (i:=6) cV.nd rfl (Ė rfl) ai zd)
 (ao (cQ ċ rfl (aM (K:=K) rfl (fu (r8 T hbm) (T.F 8 rfl) hr (aa (pv 0) (aa (pv 1) (aa (pv 2) (aa (pv 7) aj)))))) (pG 8 cV.nd)
 (ao (cA (J3 (B2 (xw hr) (pv 8) (pv 4)))
 (af (Ak (xw hr) (pv 4) (pv 8) (pv 7) rfl)
 (ao (eO (mq Į Œ œ eG (pv 3) (aa (pv 8) aj)))))
 bB)))))))
 (ao (aK (pv 4)))))))),
 (ak (ma (by repeat' walk_at "e1")) (ak GP (ak BH (ak (aB fV) (ak (l9 (by repeat' walk_at "e1") (ak (aB (by repeat' walk_at "e1")) (ak (yA fW) (dt (m:=Â) (by repeat' walk_at "e1") (aE 8) (cz (uM (aN.b (BM (bG 8) (bG 4)))) (ak (GQ (bG 7) (bG 8)) (DT (cI 8))) bA))))) DO)))))⟩
theorem B3(T:Txt K mg ad)(hbm:de mg base):ck P w K mg base gE 1 (ad.f 9) (ad.d 9) ["sources", "place", "many"] (jJ .v K [Â,Â,Â] j8):=by
 rw[mT];exact gB.pj (T.F 9 rfl).F tK [Â,Â,Â] rfl mY λcdv A outer s H E hr=>⟨_,
 (af (pA 3 tK.nd (aZ (aa (pv 1) aj)))
 (af (mn ċ (aF (qC (K:=K) hr.units) (Aq (xw hr) (pv 0) (pX K (pv 3) (jS fU ai)) (λ_ _=>rfl)) (pX K (pv 3) (jS fU ai)) (aD _))
 (ao (eO (mq Į Œ œ eG (pv 3) (aa (Aq (xw hr) (pv 0) (pX K (pv 3) (jS fU ai)) (λ_ _=>rfl)) aj)))))
 (ao (aK (CY ["each"] ["many"] 1 [2] (J7 (K:=K) rfl rfl (T.G 11 rfl) (pv 3)) (λ_ _ _ _ _=>(Ey (aF jr (pv 0) (pv 1) (aD _)) (pv 0) (aq cX (pv 0) (pv 1))))))))),
 (ak (gH (by repeat' walk_at "e1")) (ak (l9 (by repeat' walk_at "e1") (DT (by repeat' walk_at "e1"))) (aP (by repeat' walk_at "e1"))))⟩
theorem jt(T:Txt K mg ad)(hbm:de mg base):ck P w K mg base gE 4 (ad.f 6) (ad.d 6) ["works", "benches", "stretches", "table"] (jJ .v K [Â,Â,Â,Ã] bX):=by
 rw[gp];exact gB.pj (T.F 6 rfl).F dE [Â,Â,Â,Ã] rfl ee λcdv A outer s H E hr=>⟨_,
 (af (pA 4 dE.nd (fu (qF T hbm) (T.F 7 rfl) hr (aa (pv 0) (aa (pv 2) (aa (pv 3) aj)))))
 (af (cQ ċ rfl (Hg (pv 4)) (pG 5 dE.nd)
 (af (pA 6 dE.nd (aq cX (pv 5) (aw (aY (K:=K) rfl) rfl (T.G 6 rfl) cy (aa (pv 0) aj))))
 (ao (cA (PW.pt (qv (aF qD (pv 6) ai (aD _)) (mi (aF kP (fu (js T hbm) (T.F 13 rfl) hr (aa (pv 1) (aa (pv 2) (aa (pv 3) (aa (pv 6) aj))))) ai (aD _)))))
 (ao (aK (fu (B3 T hbm) (T.F 9 rfl) hr (aa (pv 4) (aa (pv 5) (aa (aw (aY (K:=K) rfl) rfl (T.G 6 rfl) cy (aa (pv 0) aj)) aj))))))
 bB))))
 (ao (aK (aZ aj))))),
 (ak (DN (by repeat' walk_at "e1")) (ak (GR (aE 5) (ak (aB (by repeat' walk_at "e1")) (cz (by repeat' walk_at "e1") (aP (by repeat' walk_at "e1")) bA))) (aP (by repeat' walk_at "e1"))))⟩
theorem oW(T:Txt K mg ad)(hbm:de mg base):ck P w K mg base gE 1 (ad.f 5) (ad.d 5) ["works"] (jJ .v K [Â] c0):=by
 rw[gh];exact gB.pj (T.F 5 rfl).F jo [Â] rfl gu λcdv A outer s H E hr=>⟨_,
 (af (pA 1 jo.nd (tU (K:=K) rfl rfl rfl (T.G 13 rfl) rfl (T.G 12 rfl) (aq my (CY ["work"] [] 1 [] (aM (K:=K) rfl (pv 0)) (λ_ _ _ _ _=>(pX K (pv 0) (b9 rfl (T.G 19 rfl))))) (CY ["work"] [] 1 [] (aM (K:=K) rfl (pv 0)) (λ_ _ _ _ _=>(pX K (pv 0) (b9 rfl (T.G 20 rfl))))))))
 (ao (aK (qA rfl (J6 (K:=K) rfl rfl (T.G 16 rfl) (aa (pv 1) (aa (Ex (DY (K:=K) rfl) (pv 1) (dF ai) gM) aj))) (ts:=["begin", "end"]) (zs:=[]) (k:=2) (is:=[]) rfl .nil .nil rfl rfl rfl (pz (lows_cons (bx (by decide)) (lows_cons (bx (by decide)) mC))) (λ_ _ _ _ _=>(dR (K:=K) rfl rfl (aT (ic (i:=0) (by decide +kernel) rfl (Ė rfl) (ĵ rfl)) (aT (ic (i:=1) (by decide +kernel) rfl (Ė rfl) (ĵ rfl)) dQ)))) (λ_ _ _ _ _=>(aZ (aa (pv 0) (aa (pv 1) aj)))) rfl rfl (by decide +kernel))))),
 (ak (aB (by repeat' walk_at "e1")) (aP (cZ.l (gI (m:=Â) (k:=2) (cs:=[]) (by repeat' walk_at "e1") (jQ (aS (aE 0) (aS (aE 1) dP))) gG (by repeat' walk_at "e1")))))⟩
theorem tY(T:Txt K mg ad)(hbm:de mg base):ck P w K mg base gE 5 (ad.f 4) (ad.d 4) ["works", "benches"] (jJ .v K [Â,Â] c8):=by
 rw[mU];exact gB.pj (T.F 4 rfl).F iz [Â,Â] rfl mZ λcdv A outer s H E hr=>⟨_,
 (af (pA 2 iz.nd (fu (oW T hbm) (T.F 5 rfl) hr (aa (pv 0) aj)))
 (af (nJ (i:=3) iz.nd rfl rfl rfl (aM (K:=K) rfl (pv 0)) (ts:=["work"]) (zs:=["stretches"]) (k:=1) (is:=[2]) rfl (.cons rfl .nil) (.cons rfl (Ė rfl) rfl (by first |exact Ė rfl |exact ĵ rfl) .nil) rfl rfl rfl (bx (by decide)) (λ_ _ _ _ _=>(ic (i:=0) (by decide +kernel) rfl (Ė rfl) (ĵ rfl))) (λ_ _ _ _ _=>(aq nR (aZ (aa ai aj)) (aw (aY (K:=K) rfl) rfl (T.G 6 rfl) cy (aa (pv 1) aj)))) rfl rfl (by decide +kernel))
 (af (pA 4 iz.nd (fu (jt T hbm) (T.F 6 rfl) hr (aa (pv 0) (aa (pv 1) (aa (pv 2) (aa (pv 3) aj))))))
 (af (mn ċ (bI (K:=K) rfl (pv 4) (λ_=>rfl))
 (af (eO (fu (sd T hbm) (T.F 10 rfl) hr (aa (pv 0) (aa (pv 1) (aa (pv 2) (aa (pv 3) (aa (pv 4) aj)))))))
 (ao (pA 4 iz.nd (fu (jt T hbm) (T.F 6 rfl) hr (aa (pv 0) (aa (pv 1) (aa (pv 2) (aa (pv 3) aj)))))))))
 (ao (aK (vj (aa (pv 2) (aa (pv 3) aj))))))))),
 (ak (aB (by repeat' walk_at "e1")) (ak (wI (z6 (m:=Â) (k:=1) (cs:=[2]) (by repeat' walk_at "e1") (aE 0) gG (by repeat' walk_at "e1"))) (ak (aB (by repeat' walk_at "e1")) (ak (l9 (by repeat' walk_at "e1") (ak (DR (i:=3) (uH (cI 0) (uH (cI 1) (uH (cI 2) (GH (by repeat' walk_at "e1")))))) (aB (by repeat' walk_at "e1")))) (Jx 3 (aP (uV (n:=2) (cg (cI 2) (cg (cI 3) fX)) (by decide))))))))⟩
theorem yY(T:Txt K mg ad)(hbm:de mg base):ck P w K mg base gE 1 (ad.f 15) (ad.d 15) ["row", "later"] (jJ .v K [Ã,Ã] iU):=by
 rw[k6];exact gB.pj (T.F 15 rfl).F yK [Ã,Ã] rfl oC λcdv A outer s H E hr=>⟨_,
 (ao (aK (vm (dG (dS (K:=K) hr.units) (pX K (pv 0) (b9 rfl (T.G 18 rfl))) (pX K (pv 1) (b9 rfl (T.G 18 rfl))) (aD _)) (vm (dG (dS (K:=K) hr.units) (pX K (pv 0) (b9 rfl (T.G 23 rfl))) (pX K (pv 1) (b9 rfl (T.G 23 rfl))) (aD _)) (yT (dG (dS (K:=K) hr.units) (pX K (pv 0) (b9 rfl (T.G 21 rfl))) (pX K (pv 1) (b9 rfl (T.G 17 rfl))) (aD _))))))),
 (aP (by repeat' walk_at "e1"))⟩
theorem B5(T:Txt K mg ad)(hbm:de mg base):ck P w K mg base gE 2 (ad.f 14) (ad.d 14) ["rows"] (jJ .m K [Ã] iS):=by
 rw[mW];exact gB.Ng (T.F 14 rfl).F nF [Ã] rfl m9 λcdv hcd A outer s H E hr=>⟨_,
 (af (pA 1 nF.nd (aZ aj))
 (af (cQ ċ rfl (aM (K:=K) rfl (aw (CJ (K:=K) rfl rfl hr) rfl (T.G 13 rfl) ox (aa (pv 0) aj))) (pG 2 nF.nd)
 (ao (cA (PW.pt (qv (bI (K:=K) rfl (pv 1) (λ_=>rfl)) (mi (bI (K:=K) rfl (fu (yY T hbm) (T.F 15 rfl) hr (aa (pX K (pv 1) (jS fU ai)) (aa (pv 2) aj))) (λ_=>rfl)))))
 (ao (f6 (pX K (pv 2) (b9 rfl (T.G 21 rfl))) (i8 (pX K (pv 1) (jS fU ai)) (b9 rfl (T.G 21 rfl)) set_list)))
 (ao (eO (mq Į Œ œ eG (pv 1) (aa (eE (kU (K:=K) rfl) rfl (T.G 7 rfl) gW (aa (pv 2) aj)) aj)))))))
 (ao (aK (Ew (K:=K) (x := "each") (zs:=[]) (is:=[]) (q := "joined.<locals>.<lambda>") rfl ⟨hcd.symm.trans T.Cn,T.Cg,hbm⟩ hr rfl rfl (T.G 13 rfl) (pv 1) (j7.many .nil .nil (by decide +kernel) rfl (by decide +kernel) rfl rfl rfl) (by first |rfl |decide +kernel) rfl (λ_ _ _ _ _=>(vj (aa (pX K (pv 0) (b9 rfl (T.G 17 rfl))) (aa (pX K (pv 0) (b9 rfl (T.G 18 rfl))) aj))))))))),
 (ak (iY uT) (ak (dt (m:=Ã) (by repeat' walk_at "e1") (aE 2) (cz (by repeat' walk_at "e1") (zY (by repeat' walk_at "e1") (by repeat' walk_at "e1") fW) (o8 (by repeat' walk_at "e1")))) (DP (i:=1) (cs:=[]) T.Cf (uV (n:=2) (cg (SemB.i (qc (bG 0) fW)) (cg (SemB.i (qc (bG 0) fW)) fX)) (by decide)))))⟩
theorem oX(T:Txt K mg ad)(hbm:de mg base):ck P w K mg base gE 5 (ad.f 17) (ad.d 17) ["stretch", "hours", "benches"] (jJ .v K [Â,Â,Â] c7):=by
 rw[gj];exact gB.pj (T.F 17 rfl).F ft [Â,Â,Â] rfl gv λcdv A outer s H E hr=>⟨_,
 (af (pA 3 ft.nd (pX K (pv 0) ai))
 (af (pA 4 ft.nd (aq cX (pX K (pv 0) ai) (pv 3)))
 (ao (aK (qA rfl (aM (K:=K) rfl (fu (yW T hbm) (T.F 3 rfl) hr (aa (pv 1) (aa (pv 2) (aa (pv 4) aj))))) (ts:=["bench", "work", "first", "last"]) (zs:=["begin"]) (k:=4) (is:=[3]) rfl (.cons rfl .nil) (.cons rfl (Ė rfl) rfl (by first |exact Ė rfl |exact ĵ rfl) .nil) rfl rfl rfl (pz (lows_cons (bx (by decide)) (lows_cons (bx (by decide)) (lows_cons (bx (by decide)) (lows_cons (bx (by decide)) mC))))) (λ_ _ _ _ _=>(dR (K:=K) rfl rfl (aT (ic (i:=0) (by decide +kernel) rfl (Ė rfl) (ĵ rfl)) (aT (ic (i:=1) (by decide +kernel) rfl (Ė rfl) (ĵ rfl)) (aT (ic (i:=2) (by decide +kernel) rfl (Ė rfl) (ĵ rfl)) (aT (ic (i:=3) (by decide +kernel) rfl (Ė rfl) (ĵ rfl)) dQ)))))) (λ_ _ _ _ _=>(aZ (aa (pv 0) (aa (pv 1) (aa (aq bw (pv 4) (pv 2)) (aa (aq bw (pv 4) (pv 3)) aj)))))) rfl rfl (by decide +kernel)))))),
 (ak (aB (by repeat' walk_at "e1")) (ak (aB (by repeat' walk_at "e1")) (aP (cZ.l (gI (m:=Â) (k:=4) (cs:=[3]) (by repeat' walk_at "e1") (jQ (aS (aE 0) (aS (aE 1) (aS (aE 2) (aS (aE 3) dP))))) gG (by repeat' walk_at "e1"))))))⟩
theorem qE(T:Txt K mg ad)(hbm:de mg base):ck P w K mg base gE 6 (ad.f 16) (ad.d 16) ["works", "benches"] (jJ .v K [Â,Â] cP):=by
 rw[dY];exact gB.pj (T.F 16 rfl).F bZ [Â,Â] rfl eV λcdv A outer s H E hr=>⟨_,
 (af (pA 2 bZ.nd (fu (tY T hbm) (T.F 4 rfl) hr (aa (pv 0) (aa (pv 1) aj))))
 (af (pA 3 bZ.nd (pX K (pv 2) ai))
 (af (pA 4 bZ.nd (pX K (pv 2) ai))
 (af (cA (bI (K:=K) rfl (aw (CL (K:=K) rfl rfl) rfl (T.G 1 rfl) Ld (aa (CY ["work"] ["works", "table"] 1 [0,4] (cN rfl (T.G 10 rfl) (aa (aw (aY (K:=K) rfl) rfl (T.G 6 rfl) cy (aa (pv 0) aj)) aj)) (λ_ _ _ _ _=>(dG kP (fu (ie T hbm) (T.F 11 rfl) hr (aa (pv 1) (aa (pv 2) (aa (pv 0) aj)))) ai (aD _)))) aj)) (λ_=>rfl))
 (ao (aK vk))
 bB)
 (af (pA 5 bZ.nd (aZ aj))
 (af (cQ ċ rfl (w6 (K:=K) rfl rfl (T.G 3 rfl) (pv 3)) (dR (K:=K) rfl rfl (aT (pG 6 bZ.nd) (aT (pG 7 bZ.nd) dQ)))
 (ao (eO (mq Į OB OC vA (pv 5) (aa (fu (oX T hbm) (T.F 17 rfl) hr (aa (pv 7) (aa (CY ["row"] ["number"] 1 [6] (aM (K:=K) rfl (pv 4)) (λ_ _ _ _ _=>(pX K (pv 0) (pv 1)))) (aa (pv 1) aj)))) aj)))))
 (ao (aK (fu (B5 T hbm) (T.F 14 rfl) hr (aa (pv 5) aj)))))))))),
 (ak (aB (by repeat' walk_at "e1")) (ak (aB (by repeat' walk_at "e1")) (ak (aB (by repeat' walk_at "e1")) (ak (cz (by repeat' walk_at "e1") (aP yF) bA) (ak (gH (by repeat' walk_at "e1")) (ak (dt (m:=Â) (by repeat' walk_at "e1") (jQ (aS (aE 6) (aS (aE 7) dP))) (yz (by repeat' walk_at "e1"))) (aP (by repeat' walk_at "e1"))))))))⟩
theorem vo(T:Txt K mg ad)(hbm:de mg base):ck P w K mg base gE 6 (ad.f 18) (ad.d 18) ["works", "benches"] (jJ .v K [Â,Â] c9):=by
 rw[jz];exact gB.pj (T.F 18 rfl).F dg [Â,Â] rfl gY λcdv A outer s H E hr=>⟨_,
 (af (pA 2 dg.nd (fu (tY T hbm) (T.F 4 rfl) hr (aa (pv 0) (aa (pv 1) aj))))
 (af (pA 3 dg.nd (pX K (pv 2) ai))
 (af (pA 4 dg.nd (aw (zx rfl) rfl (T.G 13 rfl) ox (aa (fu (qF T hbm) (T.F 7 rfl) hr (aa (pv 0) (aa (pv 3) (aa (pX K (pv 2) ai) aj)))) aj)))
 (af (cA (fZ (bI (K:=K) rfl (pv 4) (λ_=>rfl)))
 (ao (aK vk))
 bB)
 (af (pA 5 dg.nd (aw (aY (K:=K) rfl) rfl (T.G 6 rfl) cy (aa (pv 0) aj)))
 (af (yR (i:=6) dg.nd rfl rfl rfl (aM (K:=K) rfl (pv 4)) (ts:=["place"]) (zs:=["many"]) (k:=1) (is:=[5]) rfl (.cons rfl .nil) (.cons rfl (Ė rfl) rfl (by first |exact Ė rfl |exact ĵ rfl) .nil) rfl rfl rfl (bx (by decide)) (λ_ _ _ _ _=>(ic (i:=0) (by decide +kernel) rfl (Ė rfl) (ĵ rfl))) (λ_ _ _ _ _=>(aF jr (pv 0) (pv 1) (aD _))) (λ_ _ _ _ _=>(pv 0)) rfl rfl (by decide +kernel))
 (ao (aK (vj (aa (pv 6) (aa (MK ["place"] ["many", "stretches"] 1 [5,3] (aM (K:=K) rfl (pv 4)) (λ_ _ _ _ _=>(aF qD (pv 0) (pv 1) (aD _))) (λ_ _ _ _ _=>(pX K (pv 2) (aq cX (pv 0) (pv 1))))) aj))))))))))),
 (ak (aB (by repeat' walk_at "e1")) (ak (aB (by repeat' walk_at "e1")) (ak (aB (by repeat' walk_at "e1")) (ak (cz (by repeat' walk_at "e1") (aP yF) bA) (ak (aB (by repeat' walk_at "e1")) (ak (uQ (by repeat' walk_at "e1")) (aP (uV (n:=2) (cg (cI 6) (cg (cZ.l (gI (m:=Â) (k:=1) (cs:=[5,3]) (o5.c (zW (cI 4))) (aE 0) (uM (aN.b (IA (bG 0) (bG 1)))) (D1 (cI 2) (aN.b (DZ (bG 0) (bG 1)))))) fX)) (by decide)))))))))⟩
theorem lq(T:Txt K mg ad)(hbm:de mg base):ck P w K mg base gE 1 (ad.f 19) (ad.d 19) ["_law_found"] (jJ .v K [Ã] dm):=by
 rw[kY];exact gB.pj (T.F 19 rfl).F yJ [Ã] rfl oB λcdv A outer s H E hr=>⟨_,
 (ao (aK (vm (aw (dN (K:=K) rfl) rfl (T.G 5 rfl) bY (aa (pv 0) (aa (gO (v:=.ty "int") rfl (T.G 4 rfl) oy rfl) aj))) (yT (Kc (aw (dN (K:=K) rfl) rfl (T.G 5 rfl) bY (aa (pv 0) (aa (gO (v:=.ty "bool") rfl (T.G 2 rfl) HW rfl) aj)))))))),
 (aP (by repeat' walk_at "e1"))⟩
theorem cL(T:Txt K mg ad)(hbm:de mg base):ck P w K mg base gE 1 (ad.f 20) (ad.d 20) ["_law_script", "_law_k"] (jJ .v K [Ã,Ã] bu):=by
 rw[jD];exact gB.pj (T.F 20 rfl).F uZ [Ã,Ã] rfl g7 λcdv A outer s H E hr=>⟨_,
 (af (cA (aF jr (pv 1) (aw (aY (K:=K) rfl) rfl (T.G 6 rfl) cy (aa (pv 0) aj)) (aD _))
 (ao (aK (pX K (pv 0) (pv 1))))
 bB)
 (ao (aK ai))),
 (ak (cz (by repeat' walk_at "e1") (aP (by repeat' walk_at "e1")) bA) (aP fV))⟩
theorem cY(T:Txt K mg ad)(hbm:de mg base):ck P w K mg base gE 1 (ad.f 21) (ad.d 21) ["_law_cell", "_law_k"] (jJ .v K [Ã,Ã] cm):=by
 rw[kZ];exact gB.pj (T.F 21 rfl).F p9 [Ã,Ã] rfl kF λcdv A outer s H E hr=>⟨_,
 (af (pA 2 p9.nd (aq bC (aq bw (aq bw (aq cT (pv 0) ai) (aq cT (aq cT (pv 1) (pv 1)) ai)) ai) ai))
 (ao (aK (aq bC (aq cT (pv 2) (pv 2)) ai)))),
 (ak (aB (by repeat' walk_at "e1")) (aP (by repeat' walk_at "e1")))⟩
theorem qG(T:Txt K mg ad)(hbm:de mg base):ck P w K mg base gE 2 (ad.f 22) (ad.d 22) ["_law_script", "_law_many", "_law_number"] (jJ .m K [Ã,Ã,Ã] dA):=by
 rw[gX];exact gB.MN (T.F 22 rfl).F aQ [Ã,Ã,Ã] rfl eX λcdv A outer s H E hr=>⟨_,
 (af (nJ (i:=3) aQ.nd rfl rfl rfl (cN rfl (T.G 10 rfl) (aa (pv 1) aj)) (ts:=["_law_k"]) (zs:=[]) (k:=1) (is:=[]) rfl .nil .nil rfl rfl rfl (bx (by decide)) (λ_ _ _ _ _=>(ic (i:=0) (by decide +kernel) rfl (Ė rfl) (ĵ rfl))) (λ_ _ _ _ _=>(aZ aj)) rfl rfl (by decide +kernel))
 (af (pA 4 aQ.nd (aq nR (aZ (aa ai aj)) (pv 1)))
 (af (pA 5 aQ.nd (aq nR (aZ (aa ai aj)) (pv 2)))
 (af (cQ ċ rfl (tT rfl (T.G 10 rfl) (aa ai (aa (aw (ot rfl) rfl (T.G 9 rfl) rq (aa ai (aa (aw (aY (K:=K) rfl) rfl (T.G 6 rfl) cy (aa (pv 0) aj)) aj))) aj))) (pG 6 aQ.nd)
 (af (pA 7 aQ.nd (aq bC (fu (cY T hbm) (T.F 21 rfl) hr (aa (pX K (pv 0) (pv 6)) (aa (pv 6) aj))) (pv 1)))
 (af (pA 8 aQ.nd (aq bC (fu (cY T hbm) (T.F 21 rfl) hr (aa (pX K (pv 0) (pv 6)) (aa (aq bw (pv 6) ai) aj))) (pv 2)))
 (af (pA 9 aQ.nd (aq bw (aw (iK rfl) rfl (T.G 8 rfl) lI (aa (pX K (pv 4) (pv 7)) (aa (pX K (pv 5) (pv 8)) aj))) (aw (iK rfl) rfl (T.G 8 rfl) lI (aa ai (aa (aq cX (aq bC (fu (cY T hbm) (T.F 21 rfl) hr (aa (pX K (pv 0) (pv 6)) (aa (aq bw (pv 6) ai) aj))) ai) ai) aj)))))
 (af (pA 10 aQ.nd (aq bw (aq bw (pv 9) ai) (aq bC (fu (cY T hbm) (T.F 21 rfl) hr (aa (pX K (pv 0) (pv 6)) (aa (aq bw (pv 6) ai) aj))) ai)))
 (af (f6 (pv 10) (i8 (pv 4) (pv 7) set_list))
 (af (f6 (pv 10) (i8 (pv 5) (pv 8) set_list))
 (ao (f6 (aq my (pX K (pv 3) (pv 7)) (aZ (aa (pv 9) (aa (pv 10) aj)))) (i8 (pv 3) (pv 7) set_list))))))))))
 (af (pA 11 aQ.nd (aZ aj))
 (af (cQ ċ rfl (cN rfl (T.G 10 rfl) (aa (pv 1) aj)) (pG 6 aQ.nd)
 (af (pA 12 aQ.nd (aq my (pX K (pv 3) (pv 6)) (aq nR (aZ (aa (aq bC (pv 6) ai) aj)) (eE iL rfl (T.G 4 rfl) oy (aa (dG (dS (K:=K) hr.units) (pX K (pv 3) (pv 6)) (aZ aj) (aD _)) aj)))))
 (af (pA 13 aQ.nd (aq cX (aw (fR (K:=K) rfl rfl) rfl (T.G 14 rfl) ou (aa (fP (K:=K) rfl (pX K (pv 3) (pv 6)) (dF ai) gM (dF ai)) aj)) (aw (fR (K:=K) rfl rfl) rfl (T.G 14 rfl) ou (aa (fP (K:=K) rfl (pX K (pv 3) (pv 6)) gM gM (dF ai)) aj))))
 (af (pA 14 aQ.nd (aq bC (fu (cY T hbm) (T.F 21 rfl) hr (aa (fu (cL T hbm) (T.F 20 rfl) hr (aa (pv 0) (aa ai aj))) (aa (pv 6) aj))) ai))
 (ao (eO (mq Į Œ œ eG (pv 11) (aa (aZ (aa (aw (iK rfl) rfl (T.G 8 rfl) lI (aa ai (aa (aq cX (aw (rn (K:=K) rfl rfl) rfl (T.G 9 rfl) rq (aa (pv 12) aj)) (aq cB (pv 14) ai)) aj))) (aa (aq bw (aw (rp (K:=K) rfl rfl) rfl (T.G 8 rfl) lI (aa (pv 12) aj)) (aq bC (pv 14) ai)) (aa (pv 13) aj)))) aj))))))))
 (ao (aK (pv 11))))))))),
 (ak (ma (by repeat' walk_at "e1")) (ak (gH (by repeat' walk_at "e1")) (ak (gH (by repeat' walk_at "e1")) (ak (dt (m:=Â) (by repeat' walk_at "e1") (aE 6) (ak (aB (by repeat' walk_at "e1")) (ak (aB (by repeat' walk_at "e1")) (ak (aB (by repeat' walk_at "e1")) (ak (aB (by repeat' walk_at "e1")) (ak (lg (cI 10) (bG 7)) (ak (lg (cI 10) (bG 8)) (lg (by repeat' walk_at "e1") (bG 7))))))))) (ak (iY uT) (ak (dt (m:=Â) (by repeat' walk_at "e1") (aE 6) (ak (aB (by repeat' walk_at "e1")) (ak (aB (by repeat' walk_at "e1")) (ak (aB (by repeat' walk_at "e1")) (o8 (by repeat' walk_at "e1")))))) p8))))))⟩
theorem se(T:Txt K mg ad)(hbm:de mg base):ck P w K mg base gE 2 (ad.f 23) (ad.d 23) ["_law_script", "_law_many"] (jJ .m K [Ã,Ã] d7):=by
 rw[iR];exact gB.MN (T.F 23 rfl).F cx [Ã,Ã] rfl fM λcdv A outer s H E hr=>⟨_,
 (af (pA 2 cx.nd (aZ aj))
 (af (nJ (i:=3) cx.nd rfl rfl rfl (cN rfl (T.G 10 rfl) (aa ai aj)) (ts:=["_law_k"]) (zs:=["_law_script"]) (k:=1) (is:=[0]) rfl (.cons rfl .nil) (.cons rfl (Ė rfl) rfl (by first |exact Ė rfl |exact ĵ rfl) .nil) rfl rfl rfl (bx (by decide)) (λ_ _ _ _ _=>(ic (i:=0) (by decide +kernel) rfl (Ė rfl) (ĵ rfl))) (λ_ _ _ _ _=>(fu (cY T hbm) (T.F 21 rfl) hr (aa (fu (cL T hbm) (T.F 20 rfl) hr (aa (pv 1) (aa ai aj))) (aa (aq bw ai (pv 0)) aj)))) rfl rfl (by decide +kernel))
 (af (cQ ċ rfl (tT rfl (T.G 10 rfl) (aa ai (aa (aw (ot rfl) rfl (T.G 9 rfl) rq (aa ai (aa (aw (aY (K:=K) rfl) rfl (T.G 6 rfl) cy (aa (pv 0) aj)) aj))) aj))) (pG 4 cx.nd)
 (ao (f6 (fu (cY T hbm) (T.F 21 rfl) hr (aa (aq bw (pX K (pv 3) (aq bC (pv 4) ai)) (pX K (pv 0) (pv 4))) (aa (pv 4) aj))) (i8 (pv 3) (aq bC (pv 4) ai) set_list))))
 (af (cQ ċ rfl (cN rfl (T.G 10 rfl) (aa (pv 1) aj)) (pG 4 cx.nd)
 (af (pA 5 cx.nd (aq bC (pX K (pv 3) (aq cT ai (pv 4))) ai))
 (af (pA 6 cx.nd (aq bC (pX K (pv 3) (aq bw (aq cT ai (pv 4)) ai)) ai))
 (ao (eO (mq Į Œ œ eG (pv 2) (aa (aZ (aa (pv 5) (aa (aq bw (pv 5) (pv 6)) (aa (aq bC (pX K (pv 3) (aq bw (aq cT ai (pv 4)) ai)) (aq bw (aq bw (pv 6) ai) (eE iL rfl (T.G 4 rfl) oy (aa (dG (dS (K:=K) hr.units) (aq bC (aq cB (pX K (pv 3) (aq bw (aq cT ai (pv 4)) ai)) ai) ai) ai (aD _)) aj)))) aj)))) aj)))))))
 (ao (aK (pv 2))))))),
 (ak (iY uT) (ak (ma (by repeat' walk_at "e1")) (ak (dt (m:=Â) (by repeat' walk_at "e1") (aE 4) (lg (by repeat' walk_at "e1") (by repeat' walk_at "e1"))) (ak (dt (m:=Â) (by repeat' walk_at "e1") (aE 4) (ak (aB (by repeat' walk_at "e1")) (ak (aB (by repeat' walk_at "e1")) (o8 (by repeat' walk_at "e1"))))) p8))))⟩
theorem yX(T:Txt K mg ad)(hbm:de mg base):ck P w K mg base gE 3 (ad.f 24) (ad.d 24) ["_law_script"] (jJ .v K [Ã] iQ):=by
 rw[k5];exact gB.pj (T.F 24 rfl).F b7 [Ã] rfl kG λcdv A outer s H E hr=>⟨_,
 (af (pA 1 b7.nd (fu (cL T hbm) (T.F 20 rfl) hr (aa (pv 0) (aa ai aj))))
 (af (pA 2 b7.nd (pX K (aZ (aa (aq bC (aq cB (pv 1) ai) ai) (aa ai (aa (aq bC (aq cB (pv 1) ai) ai) aj)))) (aq bC (pv 1) ai)))
 (af (pA 3 b7.nd (fu (cY T hbm) (T.F 21 rfl) hr (aa (fu (cL T hbm) (T.F 20 rfl) hr (aa (pv 0) (aa ai aj))) (aa ai aj))))
 (af (pA 4 b7.nd (pX K (aZ (aa (aq bw ai (aq bC (pv 3) ai)) (aa (aq bw ai (aq bC (pv 3) ai)) (aa ai aj)))) (aq bw (eE iL rfl (T.G 4 rfl) oy (aa (dG jr (aq bC (aq cB (pv 3) ai) ai) ai (aD _)) aj)) (eE iL rfl (T.G 4 rfl) oy (aa (dG (dS (K:=K) hr.units) (aq bC (aq cB (pv 3) ai) ai) ai (aD _)) aj)))))
 (af (cA (PW.pt (et (aF (dS (K:=K) hr.units) (aq bC (fu (cL T hbm) (T.F 20 rfl) hr (aa (pv 0) (aa ai aj))) ai) ai (aD _)) (fY (aF (dS (K:=K) hr.units) (pv 2) ai (aD _)))))
 (ao (pA 5 b7.nd (fu (se T hbm) (T.F 23 rfl) hr (aa (pv 0) (aa (pv 2) aj)))))
 (ao (pA 5 b7.nd (fu (qG T hbm) (T.F 22 rfl) hr (aa (pv 0) (aa (pv 2) (aa (pv 4) aj)))))))
 (af (pA 6 b7.nd (aq cB (fu (cL T hbm) (T.F 20 rfl) hr (aa (pv 0) (aa ai aj))) ai))
 (af (pA 7 b7.nd (pX K (aZ (aa ai (aa ai (aa (aq bw (aq EB ai ai) ai) aj)))) (aq bC (pv 6) ai)))
 (af (nJ (i:=5) b7.nd rfl rfl rfl (aM (K:=K) rfl (pv 5)) (ts:=["_law_work"]) (zs:=["_law_unit"]) (k:=1) (is:=[7]) rfl (.cons rfl .nil) (.cons rfl (Ė rfl) rfl (by first |exact Ė rfl |exact ĵ rfl) .nil) rfl rfl rfl (bx (by decide)) (λ_ _ _ _ _=>(ic (i:=0) (by decide +kernel) rfl (Ė rfl) (ĵ rfl))) (λ_ _ _ _ _=>(aZ (aa (aq cT (pv 1) (pX K (pv 0) ai)) (aa (aq cT (pv 1) (pX K (pv 0) ai)) (aa (aq cT (pv 1) (pX K (pv 0) ai)) aj))))) rfl rfl (by decide +kernel))
 (af (cA (PW.pt (qv (aF kP (pv 2) ai (aD _)) (mi (aF (dS (K:=K) hr.units) (aq bC (aq cB (pv 6) ai) ai) ai (aD _)))))
 (ao (f6 (aq bw (pX K (pX K (pv 5) (aq bC (aq cB (pv 6) ai) (pv 2))) ai) ai) (i8 (pX K (pv 5) (aq bC (aq cB (pv 6) ai) (pv 2))) ai set_list)))
 bB)
 (af (pA 8 b7.nd (aq cT (aq bC (fu (cL T hbm) (T.F 20 rfl) hr (aa (pv 0) (aa ai aj))) (aq EB ai ai)) (eE iL rfl (T.G 4 rfl) oy (aa (dG (dS (K:=K) hr.units) (aq bC (aq cB (pv 6) ai) ai) ai (aD _)) aj))))
 (ao (aK (vj (aa (CY ["_law_work"] ["_law_far"] 1 [8] (aM (K:=K) rfl (pv 5)) (λ_ _ _ _ _=>(aZ (aa (aq bw (pX K (pv 0) ai) (pv 1)) (aa (aq bw (pX K (pv 0) ai) (pv 1)) (aa (pX K (pv 0) ai) aj)))))) (aa (pv 4) aj))))))))))))))),
 (ak (aB (by repeat' walk_at "e1")) (ak (aB (by repeat' walk_at "e1")) (ak (aB (by repeat' walk_at "e1")) (ak (aB (by repeat' walk_at "e1")) (ak (cz (by repeat' walk_at "e1") (iY (z7 (by repeat' walk_at "e1"))) (iY (z7 (by repeat' walk_at "e1")))) (ak (aB (by repeat' walk_at "e1")) (ak (aB (by repeat' walk_at "e1")) (ak (wI (z6 (m:=Ã) (k:=1) (cs:=[7]) (by repeat' walk_at "e1") (aE 0) gG (by repeat' walk_at "e1"))) (ak (cz (by repeat' walk_at "e1") (zY (by repeat' walk_at "e1") (by repeat' walk_at "e1") fW) bA) (ak (aB (by repeat' walk_at "e1")) (aP (uV (n:=2) (cg (cZ.l (gI (m:=Ã) (k:=1) (cs:=[8]) (tq (bG 5)) (aE 0) gG (cZ.l (ny (n:=3) (cg (yG (qc (bG 0) fW) (bG 1)) (cg (yG (qc (bG 0) fW) (bG 1)) (cg (SemB.i (qc (bG 0) fW)) fX))) (by decide))))) (cg (cI 4) fX)) (by decide)))))))))))))⟩
theorem vq(T:Txt K mg ad)(hbm:de mg base):ck P w K mg base gE 2 (ad.f 25) (ad.d 25) ["_law_works", "_law_number", "_law_rows"] (jJ .v K [Ã,Ã,Â] fo):=by
 rw[jB];exact gB.pj (T.F 25 rfl).F bF [Ã,Ã,Â] rfl gZ λcdv A outer s H E hr=>⟨_,
 (af (cA (fZ (bI (K:=K) rfl (aw (dN (K:=K) rfl) rfl (T.G 5 rfl) bY (aa (pv 2) (aa (gO (v:=.ty "list") rfl (T.G 7 rfl) gW rfl) aj))) (λ_=>rfl)))
 (ao (aK jT))
 bB)
 (af (pA 3 bF.nd (aq nR (aZ (aa ai aj)) (aw (aY (K:=K) rfl) rfl (T.G 6 rfl) cy (aa (pv 0) aj))))
 (af (nJ (i:=4) bF.nd rfl rfl rfl (cN rfl (T.G 10 rfl) (aa (pv 1) aj)) (ts:=["_law_k"]) (zs:=[]) (k:=1) (is:=[]) rfl .nil .nil rfl rfl rfl (bx (by decide)) (λ_ _ _ _ _=>(ic (i:=0) (by decide +kernel) rfl (Ė rfl) (ĵ rfl))) (λ_ _ _ _ _=>(aZ (aa (jS fU ai) (aa (jS fU ai) aj)))) rfl rfl (by decide +kernel))
 (af (pA 5 bF.nd (aq nR (aZ (aa ai aj)) (aw (aY (K:=K) rfl) rfl (T.G 6 rfl) cy (aa (pv 0) aj))))
 (af (pA 6 bF.nd (aZ (aa (jS fU ai) (aa (jS fU ai) aj))))
 (af (cQ ċ rfl (aM (K:=K) rfl (pv 2)) (pG 7 bF.nd)
 (af (cA (PW.pt (et (fZ (bI (K:=K) rfl (aw (dN (K:=K) rfl) rfl (T.G 5 rfl) bY (aa (pv 7) (aa (gO (v:=.ty "list") rfl (T.G 7 rfl) gW rfl) aj))) (λ_=>rfl))) (et (aF (qC (K:=K) hr.units) (aw (aY (K:=K) rfl) rfl (T.G 6 rfl) cy (aa (pv 7) aj)) ai (aD _)) (fY (fZ (bI (K:=K) rfl (aw (uo (K:=K) rfl rfl) rfl (T.G 0 rfl) FH (aa (CY ["_law_one"] [] 1 [] (aM (K:=K) rfl (pv 7)) (λ_ _ _ _ _=>(fu (lq T hbm) (T.F 19 rfl) hr (aa (pv 0) aj)))) aj)) (λ_=>rfl)))))))
 (ao (aK jT))
 bB)
 (af (f6 (pv 7) (dR (K:=K) rfl rfl (aT (pG 8 bF.nd) (aT (pG 9 bF.nd) (aT (pG 10 bF.nd) (aT (pG 11 bF.nd) dQ))))))
 (af (cA (PW.pt (et (aF jr (pv 8) ai (aD _)) (et (aF qD (pv 8) (pv 1) (aD _)) (et (aF jr (pv 9) ai (aD _)) (fY (aF qD (pv 9) (aw (aY (K:=K) rfl) rfl (T.G 6 rfl) cy (aa (pv 0) aj)) (aD _)))))))
 (ao (aK jT))
 bB)
 (af (cA (PW.pt (et (aF (Kg hr.units) (aZ (aa (pv 10) (aa (pv 8) aj))) (pv 6) (aD _)) (et (aF qD (pv 10) (pv 11) (aD _)) (fY (aF jr (pv 10) (aw (iK rfl) rfl (T.G 8 rfl) lI (aa (pX K (pX K (pv 4) (pv 8)) ai) (aa (pX K (pv 5) (pv 9)) aj))) (aD _))))))
 (ao (aK jT))
 bB)
 (af (cA (PW.pt (et (aF (dS (K:=K) hr.units) (pX K (pv 4) (pv 8)) (aZ (aa (pv 9) (aa (pv 10) aj))) (aD _)) (et (aF jr (pv 10) (pX K (pX K (pv 0) (pv 9)) ai) (aD _)) (fY (aF kP (pv 11) (pX K (pX K (pv 0) (pv 9)) ai) (aD _))))))
 (ao (aK jT))
 bB)
 (af (pA 6 bF.nd (aZ (aa (pv 10) (aa (pv 8) aj))))
 (af (f6 (aZ (aa (pv 9) (aa (pv 11) aj))) (i8 (pv 4) (pv 8) set_list))
 (af (f6 (pv 11) (i8 (pv 5) (pv 9) set_list))
 (ao (f6 (aq cX (aq bw (pX K (pv 3) (pv 9)) (pv 11)) (pv 10)) (i8 (pv 3) (pv 9) set_list))))))))))))
 (ao (aK (dG (dS (K:=K) hr.units) (pv 3) (CY ["_law_work"] [] 1 [] (aM (K:=K) rfl (pv 0)) (λ_ _ _ _ _=>(pX K (pv 0) ai))) (aD _)))))))))),
 (ak (cz (by repeat' walk_at "e1") (aP jP) bA) (ak (gH (by repeat' walk_at "e1")) (ak (ma (by repeat' walk_at "e1")) (ak (gH (by repeat' walk_at "e1")) (ak (aB (by repeat' walk_at "e1")) (ak (dt (m:=Â) (by repeat' walk_at "e1") (aE 7) (ak (cz (by repeat' walk_at "e1") (aP jP) bA) (ak (Iz (cI 7) (jQ (aS (aE 8) (aS (aE 9) (aS (aE 10) (aS (aE 11) dP)))))) (ak (cz (by repeat' walk_at "e1") (aP jP) bA) (ak (cz (by repeat' walk_at "e1") (aP jP) bA) (ak (cz (by repeat' walk_at "e1") (aP jP) bA) (ak (aB (by repeat' walk_at "e1")) (ak (lg (by repeat' walk_at "e1") (bG 8)) (ak (lg (cI 11) (bG 9)) (lg (by repeat' walk_at "e1") (bG 9))))))))))) (aP (by repeat' walk_at "e1"))))))))⟩
theorem xa(T:Txt K mg ad)(hbm:de mg base):ck P w K mg base gE 1 (ad.f 26) (ad.d 26) ["_law_works", "_law_stretches"] (jJ .v K [Â,Â] gq):=by
 rw[j9];exact gB.pj (T.F 26 rfl).F cW [Â,Â] rfl ji λcdv A outer s H E hr=>⟨_,
 (af (pA 2 cW.nd (aZ aj))
 (af (cQ ċ rfl (aM (K:=K) rfl (pv 0)) (pG 3 cW.nd)
 (ao (pA 2 cW.nd (aq my (pv 2) (aZ (aa (pX K (pv 3) ai) (aa (pX K (pv 3) ai) aj)))))))
 (af (cQ ċ rfl (aM (K:=K) rfl (pv 1)) (pG 4 cW.nd)
 (ao (pA 2 cW.nd (aq my (pv 2) (pv 4)))))
 (af (pA 2 cW.nd (tU (K:=K) rfl rfl rfl (T.G 13 rfl) rfl (T.G 12 rfl) (pv 2)))
 (ao (aK (CY ["_law_k"] ["_law_ends"] 1 [2] (cN rfl (T.G 10 rfl) (aa (aq cX (aw (aY (K:=K) rfl) rfl (T.G 6 rfl) cy (aa (pv 2) aj)) ai) aj)) (λ_ _ _ _ _=>(aZ (aa (pX K (pv 1) (pv 0)) (aa (pX K (pv 1) (aq bw (pv 0) ai)) aj))))))))))),
 (ak (aB (by repeat' walk_at "e1")) (ak (dt (m:=Â) (by repeat' walk_at "e1") (aE 3) (aB (by repeat' walk_at "e1"))) (ak (dt (m:=Â) (by repeat' walk_at "e1") (aE 4) (aB (by repeat' walk_at "e1"))) (ak (aB (by repeat' walk_at "e1")) (aP (by repeat' walk_at "e1"))))))⟩
theorem B4(T:Txt K mg ad)(hbm:de mg base):ck P w K mg base gE 2 (ad.f 27) (ad.d 27) ["_law_works", "_law_number", "_law_some", "_law_stretches"] (jJ .v K [Â,Ã,Â,Â] iP):=by
 rw[mV];exact gB.pj (T.F 27 rfl).F dJ [Â,Ã,Â,Â] rfl m8 λcdv A outer s H E hr=>⟨_,
 (af (pA 4 dJ.nd ai)
 (af (cQ ċ rfl (aM (K:=K) rfl (fu (xa T hbm) (T.F 26 rfl) hr (aa (pv 0) (aa (pv 3) aj)))) (dR (K:=K) rfl rfl (aT (pG 5 dJ.nd) (aT (pG 6 dJ.nd) dQ)))
 (af (yR (i:=7) dJ.nd rfl rfl rfl (aM (K:=K) rfl (pv 3)) (ts:=["_law_stretch"]) (zs:=["_law_begin", "_law_end"]) (k:=1) (is:=[5,6]) rfl (.cons rfl (.cons rfl .nil)) (.cons rfl (Ė rfl) rfl (by first |exact Ė rfl |exact ĵ rfl) (.cons rfl (Ė rfl) rfl (by first |exact Ė rfl |exact ĵ rfl) .nil)) rfl rfl rfl (bx (by decide)) (λ_ _ _ _ _=>(ic (i:=0) (by decide +kernel) rfl (Ė rfl) (ĵ rfl))) (λ_ _ _ _ _=>(PW.pt (qv (aF tX (pX K (pv 0) ai) (pv 1) (aD _)) (mi (aF tX (pv 2) (pX K (pv 0) ai) (aD _)))))) (λ_ _ _ _ _=>(pv 0)) rfl rfl (by decide +kernel))
 (af (pA 8 dJ.nd (pv 1))
 (af (cA (aF (dS (K:=K) hr.units) (pv 7) (aZ aj) (aD _))
 (ao (pA 8 dJ.nd (aw (aY (K:=K) rfl) rfl (T.G 6 rfl) cy (aa (MK ["_law_k"] ["_law_works", "_law_begin", "_law_end"] 1 [0,5,6] (aM (K:=K) rfl (pv 2)) (λ_ _ _ _ _=>(PW.pt (qv (aF tX (pX K (pX K (pv 1) (pv 0)) ai) (pv 2) (aD _)) (mi (aF tX (pv 3) (pX K (pX K (pv 1) (pv 0)) ai) (aD _)))))) (λ_ _ _ _ _=>(pv 0))) aj))))
 bB)
 (ao (pA 4 dJ.nd (aq bw (pv 4) (aq cT (pv 8) (aq cX (pv 6) (pv 5))))))))))
 (ao (aK (pv 4))))),
 (ak (aB fV) (ak (dt (m:=Â) (by repeat' walk_at "e1") (jQ (aS (aE 5) (aS (aE 6) dP))) (ak (uQ (by repeat' walk_at "e1")) (ak (aB (by repeat' walk_at "e1")) (ak (cz (by repeat' walk_at "e1") (aB (by repeat' walk_at "e1")) bA) (aB (by repeat' walk_at "e1")))))) (aP (cI 4))))⟩
theorem vv(T:Txt K mg ad)(hbm:de mg base):ck P w K mg base gE 3 (ad.f 28) (ad.d 28) ["_law_works", "_law_number", "_law_found"] (jJ .v K [Â,Ã,Â] fq):=by
 rw[jC];exact gB.pj (T.F 28 rfl).F cJ [Â,Ã,Â] rfl g6 λcdv A outer s H E hr=>⟨_,
 (af (cA (PW.pt (et (fZ (bI (K:=K) rfl (aw (dN (K:=K) rfl) rfl (T.G 5 rfl) bY (aa (pv 2) (aa (gO (v:=.ty "tuple") rfl (T.G 15 rfl) FG rfl) aj))) (λ_=>rfl))) (fY (aF (qC (K:=K) hr.units) (aw (aY (K:=K) rfl) rfl (T.G 6 rfl) cy (aa (pv 2) aj)) ai (aD _)))))
 (ao (aK jT))
 bB)
 (af (cA (PW.pt (et (fZ (bI (K:=K) rfl (aw (dN (K:=K) rfl) rfl (T.G 5 rfl) bY (aa (pX K (pv 2) ai) (aa (gO (v:=.ty "list") rfl (T.G 7 rfl) gW rfl) aj))) (λ_=>rfl))) (fY (fZ (bI (K:=K) rfl (aw (dN (K:=K) rfl) rfl (T.G 5 rfl) bY (aa (pX K (pv 2) ai) (aa (gO (v:=.ty "list") rfl (T.G 7 rfl) gW rfl) aj))) (λ_=>rfl))))))
 (ao (aK jT))
 bB)
 (af (pA 3 cJ.nd (jS fU ai))
 (af (cQ ċ rfl (aM (K:=K) rfl (pX K (pv 2) ai)) (pG 4 cJ.nd)
 (af (cA (PW.pt (et (fZ (bI (K:=K) rfl (fu (lq T hbm) (T.F 19 rfl) hr (aa (pv 4) aj)) (λ_=>rfl))) (et (aF tX (pv 4) (pv 3) (aD _)) (fY (aF qD (pv 4) (aw (aY (K:=K) rfl) rfl (T.G 6 rfl) cy (aa (pv 0) aj)) (aD _))))))
 (ao (aK jT))
 bB)
 (ao (pA 3 cJ.nd (pv 4)))))
 (af (pA 3 cJ.nd ai)
 (af (cQ ċ rfl (aM (K:=K) rfl (pX K (pv 2) ai)) (pG 5 cJ.nd)
 (af (cA (PW.pt (et (fZ (bI (K:=K) rfl (aw (dN (K:=K) rfl) rfl (T.G 5 rfl) bY (aa (pv 5) (aa (gO (v:=.ty "list") rfl (T.G 7 rfl) gW rfl) aj))) (λ_=>rfl))) (et (aF (qC (K:=K) hr.units) (aw (aY (K:=K) rfl) rfl (T.G 6 rfl) cy (aa (pv 5) aj)) ai (aD _)) (fY (fZ (bI (K:=K) rfl (aw (uo (K:=K) rfl rfl) rfl (T.G 0 rfl) FH (aa (CY ["_law_one"] [] 1 [] (aM (K:=K) rfl (pv 5)) (λ_ _ _ _ _=>(fu (lq T hbm) (T.F 19 rfl) hr (aa (pv 0) aj)))) aj)) (λ_=>rfl)))))))
 (ao (aK jT))
 bB)
 (af (cA (PW.pt (et (aF jr (pX K (pv 5) ai) (pv 3) (aD _)) (fY (aF tX (pX K (pv 5) ai) (pX K (pv 5) ai) (aD _)))))
 (ao (aK jT))
 bB)
 (ao (pA 3 cJ.nd (pX K (pv 5) ai))))))
 (ao (aK (dG kP (aw (fR (K:=K) rfl rfl) rfl (T.G 14 rfl) ou (aa (CY ["_law_work"] ["_law_works"] 1 [0] (aM (K:=K) rfl (pX K (pv 2) ai)) (λ_ _ _ _ _=>(pX K (pX K (pv 1) (pv 0)) ai))) aj)) (fu (B4 T hbm) (T.F 27 rfl) hr (aa (pv 0) (aa (pv 1) (aa (pX K (pv 2) ai) (aa (pX K (pv 2) ai) aj))))) (aD _)))))))))),
 (ak (cz (by repeat' walk_at "e1") (aP jP) bA) (ak (cz (by repeat' walk_at "e1") (aP jP) bA) (ak (aB (D0 fW)) (ak (dt (m:=Â) (by repeat' walk_at "e1") (aE 4) (ak (cz (by repeat' walk_at "e1") (aP jP) bA) (aB (cI 4)))) (ak (aB fV) (ak (dt (m:=Â) (by repeat' walk_at "e1") (aE 5) (ak (cz (by repeat' walk_at "e1") (aP jP) bA) (ak (cz (by repeat' walk_at "e1") (aP jP) bA) (aB (by repeat' walk_at "e1"))))) (aP (by repeat' walk_at "e1"))))))))⟩
theorem Ki(T:Txt K mg ad)(hbm:de mg base):ck P w K mg base gE 7 (ad.f 29) (ad.d 29) ["_law_script"] (jJ .v K [Ã] Bo):=by
 rw[uz];exact gB.pj (T.F 29 rfl).F nE [Ã] rfl Bq λcdv A outer s H E hr=>⟨_,
 (af (f6 (fu (yX T hbm) (T.F 24 rfl) hr (aa (pv 0) aj)) (dR (K:=K) rfl rfl (aT (pG 1 nE.nd) (aT (pG 2 nE.nd) dQ))))
 (af (nJ (i:=3) nE.nd rfl rfl rfl (aM (K:=K) rfl (pv 1)) (ts:=["_law_work"]) (zs:=[]) (k:=1) (is:=[]) rfl .nil .nil rfl rfl rfl (bx (by decide)) (λ_ _ _ _ _=>(ic (i:=0) (by decide +kernel) rfl (Ė rfl) (ĵ rfl))) (λ_ _ _ _ _=>(eE (kU (K:=K) rfl) rfl (T.G 7 rfl) gW (aa (pv 0) aj))) rfl rfl (by decide +kernel))
 (af (pA 4 nE.nd (fu (qE T hbm) (T.F 16 rfl) hr (aa (pv 3) (aa (pv 2) aj))))
 (af (pA 5 nE.nd (fu (vo T hbm) (T.F 18 rfl) hr (aa (pv 3) (aa (pv 2) aj))))
 (af (cA (aF (qC (K:=K) hr.units) (pv 3) (pv 1) (aD _))
 (ao (aK jT))
 bB)
 (af (cA (aF Hl (pv 4) vk (aD _))
 (ao (aK (vm (dG Kh (pv 5) vk (aD _)) (yT (fu (vq T hbm) (T.F 25 rfl) hr (aa (pv 1) (aa (pv 2) (aa (pv 4) aj))))))))
 bB)
 (ao (aK (fu (vv T hbm) (T.F 28 rfl) hr (aa (pv 1) (aa (pv 2) (aa (pv 5) aj)))))))))))),
 (ak (Iz (by repeat' walk_at "e1") (jQ (aS (aE 1) (aS (aE 2) dP)))) (ak (uQ (by repeat' walk_at "e1")) (ak (aB (by repeat' walk_at "e1")) (ak (aB (by repeat' walk_at "e1")) (ak (cz (by repeat' walk_at "e1") (aP jP) bA) (ak (cz (by repeat' walk_at "e1") (aP (by repeat' walk_at "e1")) bA) (aP (by repeat' walk_at "e1"))))))))⟩
end
local macro_rules | `(tactic| walk_at "sd")=>`(tactic| first | assumption | lia | decide | (simp only [List.length_map,List.length_cons,List.length_nil]; lia) | ((with_reducible apply And.intro) <;> walk_at "sd"))
local macro_rules | `(tactic| walk_at "fn")=>`(tactic| assumption)
local macro_rules | `(tactic| walk_at "ix")=>`(tactic| first | exact N4 (by lia) (by lia) | exact ixI (by lia) (by lia) | exact ix2I _ _ _ | exact KN _ _ _ _ | exact ix4I _ _ _ _ _ | rfl)
local macro_rules | `(tactic| walk_at "ev")=>`(tactic| first
 |((with_reducible first |apply bH |apply cR |apply oM |apply uc |apply fB |apply ue |apply kA |apply vO |apply ae |apply dH |apply zm);(· walk_at "ev");(· walk_at "ev"))
 |((with_reducible first |apply j3 |apply cb |apply og |apply ev_notV |apply aI |apply vN |apply ev_oSome);(· walk_at "ev"))
 |((with_reducible first |apply cD |apply ky |apply cf |apply aR |apply zo);(· walk_at "ev");(· rfl))
 |((with_reducible first |apply ja |apply xD |apply mG |apply ev_orV);(· walk_at "ev");(· intro _;walk_at "ev"))
 |((with_reducible first |show dVar _ _=_ |show dVarI _ _=_ |show q9 _ _=_ |show dC _ _=_ |show dNil _=_ |show gP _=_ |show dTrue _=_);rfl)
 |((with_reducible apply aA);(· walk_at "ev");(· walk_at "ev");(· walk_at "ix"))
 |((with_reducible apply aC);(· walk_at "ev");(· walk_at "fn"))
 |((with_reducible first |apply ev_chain |apply IX);(· walk_at "ev");(· walk_at "ev");(· walk_at "ev"))
 |((with_reducible apply ig);(· walk_at "ev");(· walk_at "ev");(· first |assumption |(apply sI;lia)))
 |((with_reducible apply fH);(· walk_at "ev");(· walk_at "ev");(· first |exact vM (by lia) (by lia) |walk_at "sd"))
 |((with_reducible first |apply bQ |apply KY);(· walk_at "ev");(· walk_at "ev");(· walk_at "sd"))
 |((with_reducible apply lF);(· walk_at "ev");(· walk_at "sd"))
 |((with_reducible apply oe);(· walk_at "ev");(· walk_at "ev");(· simp only[Û,ð];walk_at "sd")))
local macro_rules | `(tactic| walk_at "st")=>`(tactic| dsimp only [List.set_cons_succ,List.set_cons_zero])
local macro_rules | `(tactic| walk_at "go")=>`(tactic| ((try dsimp only); walk_at "go1"))
local macro_rules | `(tactic| walk_at "go1")=>`(tactic| first
 |((with_reducible apply wp_seq);walk_at "go")
 |((with_reducible apply De);dsimp only[jM,Sb,Sd,Ă,ý];walk_at "go")
 |((with_reducible apply ax);(· walk_at "ev");walk_at "st";walk_at "go")
 |((with_reducible apply dD);(· walk_at "ev");(· simp only[Û,ð];lia);walk_at "st";walk_at "go")
 |((with_reducible apply ng);(· rfl);(· walk_at "ev");walk_at "st";walk_at "go")
 |((with_reducible apply ba);(try dsimp only);walk_at "go")
 |skip)
def eU(ns:List Int)(k:Int)(h:0<=k):bu [.scr ns,.int k]=À (.int (ns.getD k.toNat 0)):=by
 apply bS jD;unfold g7;walk_at "go";refine Dd (by walk_at "ev") (λc=>?_) λc=>?_
 ·refine br (by walk_at "ev") rfl
 ·walk_at "go";apply br (by walk_at "ev");rw[Ë,Ĕ (by lia)];rfl
def cC(c k:Int):Int:=(c*48271+k*k*69621+3) % 2147483647*((c*48271+k*k*69621+3) % 2147483647) % 2147483629
def mixed(c k:Int)(h0:0<=k)(h:k<2 ^ 31):cm [.int c,.int k]=À (.int (cC c k)):=by apply bS kZ;unfold kF;walk_at "go";apply br (by walk_at "ev");rfl
def nT(c k:Int):0<=cC c k:=ŵ _ (by decide)
local macro_rules | `(tactic| walk_at "fn")=>`(tactic| first | exact eU _ _ (by lia) | exact mixed _ _ (by lia) (by lia))
def uD(h:(CT lo n)[j]?=À d):j<n/\d=.int (lo+j):=zN h
def Cu{xs:List Int}(h:j<xs.length):(xs.set j v).getD k 0=if k=j then v else xs.getD k 0:=by
 rw[Ë,ϣ,Ë];by_cases c:j=k
 ·simp_all
 ·rw[if_neg c,if_neg (ĩ c)]
def jR(xs:List Int)(j:Nat)(v:Int):(xs.map D.int).set j (.int v)=(xs.set j v).map D.int:=by rw[ϴ]
def SM{α:Type}(l:List α)(f:α->Int):Int:=(l.map f).sum
def zG(f:α->Int):SM [] f=0:=rfl
def bp(x:α)(l:List α)(f:α->Int):SM (x::l) f=f x+SM l f:=by unfold SM;rw[Ā,Ũ]
def dX(h:∀x∈l,f x=g x):SM l f=SM l g:=by unfold SM;rw[ę h]
def FR(l:List α)(f g:α->Int):SM l (λx=>f x+g x)=SM l f+SM l g:=by
 induction l with
 |nil=>rfl
 |cons x l ih=>rw[bp,bp,bp,ih];lia
def FO(l:List α)(f g:α->Int):SM l (λx=>f x-g x)=SM l f-SM l g:=by
 induction l with
 |nil=>rfl
 |cons x l ih=>rw[bp,bp,bp,ih];lia
def Lk(l:List α)(c:Int)(f:α->Int):SM l (λx=>c*f x)=c*SM l f:=by
 induction l with
 |nil=>rw[zG,zG,Ι]
 |cons x l ih=>rw[bp,bp,ih,Po]
def pM(l:List α):SM l (λ_=>0)=0:=by
 induction l with
 |nil=>rfl
 |cons x l ih=>rw[bp,ih];rfl
def Ia(l:List α)(m:List β)(f:α->β->Int):SM l (λx=>SM m λy=>f x y)=SM m λy=>SM l λx=>f x y:=by
 induction l with
 |nil=>exact(pM m).symm
 |cons x l ih =>rw[bp,ih,<-FR];rfl
def jL:List Int->List (Int×Int)
 |x::y::r=>(x,y)::jL (y::r)
 |_=>[]
theorem qB:∀{es:List Int},es.Pairwise (· < ·)->∀p∈jL es,p.1<p.2/\p.1∈es/\p.2∈es
 |[],_,p,hp=>by cases hp
 |[x],_,p,hp=>by cases hp
 |x::y::r,h,p,hp=>by
  obtain⟨h1,h2⟩:=ď.mp h;rcases Ú.mp hp with rfl |hp
  ·exact⟨h1 y (by simp),by simp,by simp⟩
  ·obtain⟨a,b,c⟩:=qB h2 p hp;exact⟨a,Ñ _ b,Ñ _ c⟩
abbrev I2:=Int×Int
def AU(s p:I2):Prop:=s.1<=p.1/\p.2<=s.2
instance (s p:I2):Decidable (AU s p):=by unfold AU;infer_instance
def jc(l:List Int)(j:Nat):Int:=l.getD j 0
def iH(T:List (List Int))(i:Nat):List Int:=T.getD i []
def eJ(T:List (List Int))(i j:Nat):Int:=jc (iH T i) j
def kI(T:List (List Int))(i:Nat):Int:=(iH T i).sum
def mK(T:List (List Int))(j:Nat):Int:=(T.map λr=>jc r j).sum
def dI(T:List (List Int))(n m:Nat):Prop:=T.length=n/\∀i,i<n->(iH T i).length=m
def mQ(T:List (List Int))(i j:Nat)(a:Int):List (List Int):=T.set i ((iH T i).set j (eJ T i j+a))
def xG(h:j<l.length)(x:Int)(k:Nat):jc (l.set j x) k=if j=k then x else jc l k:=by
 unfold jc;rw[Ë,ϣ];split
 ·rfl
 ·rfl
def qY(h:i<T.length)(x:List Int)(k:Nat):iH (T.set i x) k=if i=k then x else iH T k:=by
 unfold iH;rw[Ë,ϣ];split
 ·rfl
 ·rfl
theorem sum_set:∀(l:List Int) (j:Nat) (x:Int),j<l.length->(l.set j x).sum=l.sum-jc l j+x
 |[],_,_,h=>by simp at h
 |y::l,0,x,_=>by show (x::l).sum=(y::l).sum-y+x;rw[Ũ,Ũ];lia
 |y::l,j+1,x,h=>by have:=sum_set l j x (by simpa using h);show (y::l.set j x).sum=(y::l).sum-jc l j+x;rw[Ũ,Ũ,this];lia
def dI.add(h:dI T n m):dI (mQ T i j a) n m:=by
 unfold mQ;refine⟨by rw[Ħ];exact h.1,λk hk=>?_⟩;by_cases hi:i<T.length
 ·rw[qY hi];split
  ·rename_i e;subst e;rw[Ħ];exact h.2 _ hk
  ·exact h.2 k hk
 ·rw[OA (ņ.1 hi)];exact h.2 k hk
def HU(h:dI T n m)(hi:i<n)(hj:j<m)(k l:Nat):eJ (mQ T i j a) k l=eJ T k l+if i=k/\j=l then a else 0:=by
 show jc (iH (T.set i _) k) l=_;rw[qY (by rw[h.1];exact hi)];by_cases e:i=k
 ·subst e;rw[if_pos rfl,xG (by rw[h.2 i hi];exact hj)];by_cases e2:j=l
  ·simp_all
  ·rw[if_neg e2,if_neg λz=>e2 z.2,Κ];rfl
 ·rw[if_neg e,if_neg λz=>e z.1,Κ];rfl
def Eh(h:dI T n m)(hi:i<n)(hj:j<m)(k:Nat):kI (mQ T i j a) k=kI T k+if i=k then a else 0:=by
 unfold mQ kI;rw[qY (by rw[h.1];exact hi)];by_cases e:i=k
 ·subst e;rw[if_pos rfl,if_pos rfl,sum_set _ _ _ (by rw[h.2 i hi];exact hj)];unfold eJ;lia
 ·simp_all
def Fy(h:dI T n m)(hi:i<n)(hj:j<m)(l:Nat):mK (mQ T i j a) l=mK T l+if j=l then a else 0:=by
 have hi':i<T.length:=by rw[h.1];exact hi
 unfold mQ mK;rw[ϴ,sum_set _ _ _ (by simp_all)];have e1:jc (T.map λr=>jc r l) i=eJ T i l:=by unfold jc eJ iH;rw[Ë,Ö,Ë,É hi'];rfl
 rw[e1,xG (by rw[h.2 i hi];exact hj)];by_cases e:j=l
 ·subst e;lia
 ·rw[if_neg e,if_neg e];show _-eJ T i l+eJ T i l=_;lia
def bV(T:List (List Int))(ps:List (Nat×Nat))(a:Int):List (List Int):=ps.foldl (λT p=>mQ T p.1 p.2 a) T
def cnt{α:Type}(f:α->Bool)(l:List α):Int:=(l.countP f:Nat)
def cnt_nil(f:α->Bool):cnt f []=0:=rfl
def cnt_cons(f:α->Bool)(x:α)(l:List α):cnt f (x::l)=cnt f l+if f x=Â then 1 else 0:=by unfold cnt;rw[Tz];split <;> rfl
theorem kC:∀{ps:List (Nat×Nat)} {T:List (List Int)},dI T n m->(∀p∈ps,p.1<n/\p.2<m) ->
 dI (bV T ps a) n m/\(∀k l,eJ (bV T ps a) k l=eJ T k l+a*cnt (λp=>decide (p=(k,l))) ps)/\(∀k,kI (bV T ps a) k=kI T k+a*cnt (λp=>decide (p.1=k)) ps)/\∀l,mK (bV T ps a) l=mK T l+a*cnt (λp=>decide (p.2=l)) ps
 |[],T,h,_=>⟨h,λk l=>by rw[cnt_nil,Ι,Κ];rfl,λk=>by rw[cnt_nil,Ι,Κ];rfl,λk=>by rw[cnt_nil,Ι,Κ];rfl⟩
 |p::ps,T,h,hp=>by
  obtain⟨p1,p2⟩:=hp p (by simp);obtain⟨r,c,w,s⟩:=kC (h.add) λq hq=>hp q (Ñ _ hq);refine⟨r,λk l=>?_,λk=>?_,λl=>?_⟩
  ·rw[show bV T (p::ps) a=bV (mQ T p.1 p.2 a) ps a from rfl,c,HU h p1 p2,cnt_cons,Po];have:(p=(k,l))↔(p.1=k/\p.2=l):=by constructor <;> intro z;(grind);(exact Prod.ext z.1 z.2)
   by_cases e:p.1=k/\p.2=l
   ·rw[if_pos e,if_pos (by simpa using this.mpr e)];lia
   ·rw[if_neg e,if_neg (by simp_all)];lia
  ·rw[show bV T (p::ps) a=bV (mQ T p.1 p.2 a) ps a from rfl,w,Eh h p1 p2,cnt_cons,Po];by_cases e:p.1=k
   ·rw[if_pos e,if_pos (by simpa using e)];lia
   ·simp_all
  ·rw[show bV T (p::ps) a=bV (mQ T p.1 p.2 a) ps a from rfl,s,Fy h p1 p2,cnt_cons,Po];by_cases e:p.2=l
   ·rw[if_pos e,if_pos (by simpa using e)];lia
   ·simp_all
def bL(ws ss:List Nat):List (Nat×Nat):=ws.zip ss
def bt(ws ss:List Nat):List (Nat×Nat):=(ws.drop 1).zip ss
theorem vX:∀{ws ss:List Nat} (k:Nat),ws.length<=ss.length->cnt (λp:Nat×Nat=>decide (p.1=k)) (ws.zip ss)=cnt (λx=>decide (x=k)) ws
 |[],ss,k,_=>rfl
 |w::ws,[],k,h=>by simp at h
 |w::ws,s::ss,k,h=>by rw[Qh,cnt_cons,cnt_cons,vX k (by simpa using h)]
theorem vW:∀{ws ss:List Nat} (k:Nat),cnt (λp:Nat×Nat=>decide (p.2=k)) (ws.zip ss)=cnt (λx=>decide (x=k)) (ss.take ws.length)
 |[],ss,k=>rfl
 |w::ws,[],k=>rfl
 |w::ws,s::ss,k=>by rw[Qh,cnt_cons,Û,Se,cnt_cons,vW k]
theorem lH:∀{ws ss:List Nat} (k l:Nat),ws.Nodup->cnt (λp:Nat×Nat=>decide (p=(k,l))) (ws.zip ss)<=1
 |[],ss,k,l,_=>by simp[cnt]
 |w::ws,[],k,l,_=>by simp[cnt]
 |w::ws,s::ss,k,l,h=>by
  obtain⟨h1,h2⟩:=ā.mp h;rw[Qh,cnt_cons];split
  ·rename_i e;have e:(w,s)=(k,l):=by simpa using e
   cases e;have:cnt (λp=>decide (p=(w,s))) (ws.zip ss)=0:=by unfold cnt;rw[Sf.mpr λq hq=>?_];rfl;have:=(Ŕ hq).1;simp;rintro rfl;exact h1 this
   lia
  ·have:=lH (ss:=ss) k l h2
   lia
def jf(f:α->Bool)(l:List α):0<=cnt f l:=by unfold cnt;exact à _
def xV(h:∀x∈l,f x=Ã):cnt f l=0:=by unfold cnt;rw[Sf.mpr λx hx=>by rw[h x hx];simp];rfl
structure Gi(n m:Nat)(Ja:Nat->Nat->Int)(EZ bnd:Nat->Int)(T:List (List Int)):Prop where
 i7:dI T n m
 lo:∀i j,i<n->j<m->0<=eJ T i j
 hi:∀i j,i<n->j<m->eJ T i j<=Ja i j
 row:∀i,i<n->kI T i<=EZ i
 col:∀j,j<m->mK T j<=bnd j
def moved(T:List (List Int))(ws ss:List Nat)(a:Int):List (List Int):=bV (bV T (bL ws ss) a) (bt ws ss) (-a)
theorem Gi.moved(h:Gi n m Ja EZ bnd T)(ha:0<=a)(hl:(w0::ws).length=ss.length)(hlast:ss=ss.take ws.length++[sl])(hw:∀w∈w0::ws,w<n)(hs:∀s∈ss,s<m)(nd:(w0::ws).Nodup)
 (h0:kI T w0+a<=EZ w0) (h1:mK T sl+a<=bnd sl) (hg:∀p∈bL (w0::ws) ss,eJ T p.1 p.2+a<=Ja p.1 p.2) (hlo:∀p∈bt (w0::ws) ss,a<=eJ T p.1 p.2) :
 Gi n m Ja EZ bnd (My.moved T (w0::ws) ss a)/\(∀k,kI (My.moved T (w0::ws) ss a) k=kI T k+if w0=k then a else 0):=by
 have hz:∀{vs us:List Nat} {p:Nat×Nat},p∈vs.zip us->p.1∈vs/\p.2∈us:=λ{vs us p} hp=>Ŕ (a:=p.1) (b:=p.2) hp;obtain⟨r1,c1,w1,s1⟩:=kC (a:=a) (ps:=bL (w0::ws) ss) h.i7 λp hp=>⟨hw _ (hz hp).1,hs _ (hz hp).2⟩
 obtain⟨r2,c2,w2,s2⟩:=kC (a:=-a) (ps:=bt (w0::ws) ss) r1 λp hp=>⟨hw _ (Ģ (hz hp).1),hs _ (hz hp).2⟩
 have row:∀k,kI (My.moved T (w0::ws) ss a) k=kI T k+if w0=k then a else 0:=λk=>by
  show kI (bV _ _ _) k=_;rw[w2,w1];unfold bL bt;rw[vX k (by rw[hl];exact Õ _),Uu,Uk,vX k (by rw[<-hl];simp),cnt_cons];by_cases e:w0=k
  ·rw[if_pos e,if_pos (by simpa using e),Po,Qw];lia
  ·rw[if_neg e,if_neg (by simpa using e),Κ,Qw];lia
 have col:∀l,mK (My.moved T (w0::ws) ss a) l=mK T l+if sl=l then a else 0:=λl=>by
  show mK (bV _ _ _) l=_;rw[s2,s1];unfold bL bt;rw[vW,Uu,Uk,vW,hl,Ĺ]
  have e:cnt (λx=>decide (x=l)) ss=cnt (λx=>decide (x=l)) (ss.take ws.length)+if sl=l then 1 else 0:=by
   conv=>lhs;rw[hlast]
   unfold cnt;rw[List.countP_append,Tz];by_cases e:sl=l
   ·rw[if_pos (by simpa using e),if_pos e];simp
   ·rw[if_neg (by simpa using e),if_neg e];simp
  rw[e,Po,Qw];by_cases e:sl=l
  ·rw[if_pos e,if_pos e];lia
  ·rw[if_neg e,if_neg e];lia
 refine⟨⟨r2,λi j hi hj=>?_,λi j hi hj=>?_,λi hi=>?_,λj hj=>?_⟩,row⟩
 ·show 0<=eJ (bV _ _ _) i j;rw[c2,c1];have n1:=jf (λp=>decide (p=(i,j))) (bL (w0::ws) ss);have a1:=Ϯ ha n1;have l0:=h.lo i j hi hj;by_cases e:(i,j)∈bt (w0::ws) ss
  ·have b1:=lH (ws:=ws) (ss:=ss) i j (ā.mp nd).2;have b0:=jf (λp=>decide (p=(i,j))) (bt (w0::ws) ss);have b1:cnt (λp=>decide (p=(i,j))) (bt (w0::ws) ss)<=1:=b1;have b2:=hlo _ e
   have b3:a*cnt (λp=>decide (p=(i,j))) (bt (w0::ws) ss)<=a:=by
    rcases Sg.mp b1 with z |z
    ·rw[show cnt (λp=>decide (p=(i,j))) (bt (w0::ws) ss)=0 by lia,Ι];exact ha
    ·rw[z,RE];exact ř _
   rw[Qw];have b2:a<=eJ T i j:=b2
   lia
  ·rw[xV (l:=bt (w0::ws) ss) λp hp=>by simp only[decide_eq_false_iff_not];rintro rfl;exact e hp,Ι]
   lia
 ·show eJ (bV _ _ _) i j<=_;rw[c2,c1];have n1:=jf (λp=>decide (p=(i,j))) (bt (w0::ws) ss);have a1:=Ϯ ha n1;have l0:=h.hi i j hi hj;rw[Qw];by_cases e:(i,j)∈bL (w0::ws) ss
  ·have b1:cnt (λp=>decide (p=(i,j))) (bL (w0::ws) ss)<=1:=lH (ws:=w0::ws) (ss:=ss) i j nd;have b0:=jf (λp=>decide (p=(i,j))) (bL (w0::ws) ss);have b2:eJ T i j+a<=Ja i j:=hg _ e
   have b3:a*cnt (λp=>decide (p=(i,j))) (bL (w0::ws) ss)<=a:=by
    rcases Sg.mp b1 with z |z
    ·rw[show cnt (λp=>decide (p=(i,j))) (bL (w0::ws) ss)=0 by lia,Ι];exact ha
    ·rw[z,RE];exact ř _
   lia
  ·rw[xV (l:=bL (w0::ws) ss) λp hp=>by simp only[decide_eq_false_iff_not];rintro rfl;exact e hp,Ι]
   lia
 ·rw[row];have:=h.row i hi;by_cases e:w0=i
  ·subst e;rw[if_pos rfl];exact h0
  ·rw[if_neg e];lia
 ·rw[col];have:=h.col j hj;by_cases e:sl=j
  ·subst e;rw[if_pos rfl];exact h1
  ·rw[if_neg e];lia
structure Bf(root:Nat->Prop)(edge:Nat->Nat->Prop)(kvs:List (Nat×Nat)):Prop where
 nd:(kvs.map Ϝ).Nodup
 src:∀(t p q:Nat),kvs[t]?=À (p,q)->(q=p/\root p)\/∃u r,u<t/\kvs[u]?=À (q,r)/\edge q p
def NP(R:Nat->Nat->Prop):List Nat->Prop
 |x::y::r=>R x y/\NP R (y::r)
 |_=>True
def key(kvs:List (Nat×Nat))(t p:Nat):Prop:=∃q,kvs[t]?=À (p,q)
def AL(h:(kvs.map Ϝ).Nodup)(a:key kvs t p)(b:key kvs u p):t=u:=by
 obtain⟨q,a⟩:=a;obtain⟨r,b⟩:=b;have a':(kvs.map Ϝ)[t]?=À p:=by simp_all
 exact(List.getElem?_inj ((Ó.mp a').1) h).mp (a'.trans (by simp_all:(kvs.map Ϝ)[u]?=À p).symm)
structure Bk(edge:Nat->Nat->Prop)(kvs:List (Nat×Nat))(place t:Nat)(L:List Nat):Prop where
 front:∃x r,L=x::r/\key kvs t x
 Oa:NP edge L
 last:L.getLast?=À place
 up:∀y∈L,∃u,t<=u/\key kvs u y
 nd:L.Nodup
def Bk.one{edge:Nat->Nat->Prop}{kvs:List (Nat×Nat)}{place t:Nat}(h:key kvs t place):Bk edge kvs place t [place] :=
 ⟨⟨place,[],rfl,h⟩,trivial,rfl,λy hy=>by rw[Ð.mp hy];exact⟨t,Õ _,h⟩,by simp⟩
def Bk.step{root:Nat->Prop}{edge:Nat->Nat->Prop}{kvs:List (Nat×Nat)}(B:Bf root edge kvs){place t x q:Nat}{r:List Nat}(h:Bk edge kvs place t (x::r))(e:kvs[t]?=À (x,q))(hq:q≠x):∃u,u<t/\Bk edge kvs place u (q::x::r):=by
 rcases B.src t x q e with⟨z,_⟩ |⟨u,s,hu,eu,ed⟩
 ·exact absurd z hq
 ·refine⟨u,hu,⟨q,_,rfl,s,eu⟩,⟨ed,h.Oa⟩,by have:=h.last;simpa using this,λy hy=>?_,ā.mpr ⟨λz=>?_,h.nd⟩⟩
  ·rcases Ú.mp hy with rfl |hy
   ·exact⟨u,Õ _,s,eu⟩
   ·obtain⟨v,hv,k⟩:=h.up y hy;exact⟨v,ĉ (è hu hv),k⟩
  ·obtain⟨v,hv,k⟩:=h.up q z;have:=AL B.nd k ⟨s,eu⟩
   lia
theorem Bf.root{root:Nat->Prop}(B:Bf root edge kvs){t:Nat}(e:kvs[t]?=À (x,x)):root x:=by
 rcases B.src t x x e with⟨_,z⟩ |⟨u,s,hu,eu,ed⟩
 ·exact z
 ·have:=AL B.nd ⟨_,e⟩ ⟨s,eu⟩
  lia
def cU(n:Nat):List Nat->List Nat->List Nat
 |w::ws,s::ss=>w::(n+s)::cU n ws ss
 |_,_=>[]
theorem alt{wr tb:Nat->Nat->Prop}:∀(k:Nat) (x:Nat) (P:List Nat),P.length<=k->NP (λu v=>(u<n/\n<=v/\v<n+m/\wr u (v-n))\/(n<=u/\v<n/\tb v (u-n))) (x::P)->x<n->∀place,(x::P).getLast?=À place->n<=place ->
 ∃ws ss,x::P=cU n (x::ws) ss/\(x::ws).length=ss.length/\(∀p∈bL (x::ws) ss,p.2<m/\wr p.1 p.2)/\(∀p∈bt (x::ws) ss,tb p.1 p.2)/\(∀w∈x::ws,w<n)/\(x::ws).Sublist (x::P)/\ss=ss.take ws.length++[place-n]
 |k,x,[],_,_,hx,place,hl,hp=>by
  have:x=place:=by simpa using hl
  lia
 |k,x,[y],_,hc,hx,place,hl,hp=>by
  have e:y=place:=by simpa using hl
  subst e;rcases hc.1 with⟨_,h2,h3,h4⟩ |⟨h1,_⟩
  ·refine⟨[],[y-n],?_,rfl,λp hp=>?_,λp hp=>?_,λw hw=>?_,?_,rfl⟩
   ·show [x,y]=[x,n+(y-n)]
    rw[show n+(y-n)=y by lia]
   ·have:p=(x,y-n):=by simpa [bL]using hp
    rw[this];exact⟨by show y-n<m;lia,h4⟩
   ·simp[bt]at hp
   ·rw[Ð.mp hw];exact hx
   ·simp
  ·lia
 | 0,x,y::z::P,h,_,_,_,_,_=>by simp at h
 |k+1,x,y::z::P,h,hc,hx,place,hl,hp=>by
  obtain⟨c1,c2,c3⟩:=hc;rcases c1 with⟨_,h2,h3,h4⟩ |⟨h1,_⟩
  ·rcases c2 with⟨q1,_⟩ |⟨q1,q2,q3⟩
   ·lia
   ·obtain⟨ws,ss,e1,e2,e3,e4,e5,e6,e7⟩:=alt k z P (by simp at h;exact ĉ h) c3 q2 place (by simpa using hl) hp;refine⟨z::ws,(y-n)::ss,?_,by simpa using e2,λp hp=>?_,λp hp=>?_,λw hw=>?_,?_,?_⟩
    ·show x::y::z::P=x::(n+(y-n))::cU n (z::ws) ss;rw[<-e1,show n+(y-n)=y by lia]
    ·have hp':p∈(x,y-n)::bL (z::ws) ss:=hp;rcases Ú.mp hp' with rfl |hp'
     ·exact⟨by show y-n<m;lia,h4⟩
     ·exact e3 p hp'
    ·have hp':=hp;rcases Ú.mp hp' with rfl |hp'
     ·exact q3
     ·exact e4 p hp'
    ·rcases Ú.mp hw with rfl |hw
     ·exact hx
     ·exact e5 w hw
    ·exact(e6.cons y).cons_cons x
    ·rw[Û,Se,QL,<-e7]
  ·lia
def pE{α:Type}:List α->List α
 |x::_::r=>x::pE r
 |[x]=>[x]
 |[]=>[]
theorem qU(n:Nat):∀(ws ss:List Nat),ws.length=ss.length->pE (cU n ws ss)=ws
 |[],[],_=>rfl
 |w::ws,s::ss,h=>by show w::pE (cU n ws ss)=_;rw[qU n ws ss (by simpa using h)]
 |[],s::ss,h=>rfl
 |w::ws,[],h=>by simp at h
theorem xb(n:Nat):∀(ws ss:List Nat),ws.length=ss.length->pE ((cU n ws ss).drop 1)=ss.map (n+·)
 |[],[],_=>rfl
 |[w],[s],_=>rfl
 |w::w2::ws,s::s2::ss,h=>by have:=xb n (w2::ws) (s2::ss) (by simpa using h);exact congrArg _ this
 |[],s::ss,h=>by simp at h
 |w::ws,[],h=>rfl
 |[w],s::s2::ss,h=>by simp at h
 |w::w2::ws,[s],h=>rfl
def Cw(n:Nat):∀(ws ss:List Nat),ws.length=ss.length->pE ((cU n ws ss).drop 2)=ws.drop 1
 |[],[],_=>rfl
 |w::ws,s::ss,h=>qU n ws ss (by simpa using h)
 |[],s::ss,h=>rfl
 |w::ws,[],h=>by simp at h
theorem xu(n:Nat):∀(ws ss:List Nat),ws.length=ss.length->(cU n ws ss).length=2*ws.length
 |[],[],_=>rfl
 |w::ws,s::ss,h=>by
  have:=xu n ws ss (by simpa using h);show (cU n ws ss).length+1+1=2*(ws.length+1)
  lia
 |[],s::ss,h=>rfl
 |w::ws,[],h=>by simp at h
theorem xt:∀(ws ss:List Nat),(∀w∈ws,w<n)->(cU n ws ss).map (λe=>if e<n then e else e-n)=cU 0 ws ss
 |[],_,_=>rfl
 |_::_,[],_=>rfl
 |w::ws,s::ss,h=>by show (if w<n then w else w-n)::(if n+s<n then n+s else n+s-n)::(cU n ws ss).map _=w::(0+s)::cU 0 ws ss;rw[if_pos (h w (by simp)),if_neg (by lia),xt ws ss λv hv=>h v (Ñ _ hv),show n+s-n=0+s by lia]
theorem ED[DecidableEq α]:∀{l m:List α},l.Nodup->(∀x∈l,x∈m)->l.length<=m.length
 |[],_,_,_=>Ą _
 |x::l,m,h,hs=>by
  obtain⟨h1,h2⟩:=ā.mp h;have hx:=hs x Ò;have:=ED h2 λy hy=>(List.mem_erase_of_ne λz:y=x=>h1 (z ▸ hy)).mpr (hs y (Ñ _ hy));rw[List.length_erase_of_mem hx]at this;have:=List.length_pos_of_mem hx;show l.length+1<=_
  lia
def keys(kvs:List (Nat×Nat)):List Nat:=kvs.map Ϝ
def mE(h:p∈keys kvs):∃t,key kvs t p:=by obtain⟨q,hq,rfl⟩:=ò.mp h;obtain⟨t,ht⟩:=Ϡ.mp hq;exact⟨t,q.2,ht⟩
def vG(h:key kvs t p):p∈keys kvs:=by obtain⟨q,h⟩:=h;exact ò.mpr ⟨_,õ h,rfl⟩
def KC(h:(keys kvs)[t]?=À p):key kvs t p:=by
 unfold keys at h;rw[Ö]at h;cases e:kvs[t]? with
 |none=>rw[e]at h;cases h
 |some q=>rw[e]at h;cases h;exact⟨q.2,e⟩
def Bf.roots{root:Nat->Prop}{rs:List Nat}(nd:rs.Nodup)(h:∀r∈rs,root r):Bf root edge (rs.map λr=>(r,r)):=by
 refine⟨by rw[ë,show (Ϝ∘λr=>(r,r))=id from rfl,Qx];exact nd,λt p q e=>.inl ?_⟩;rw[Ö]at e;cases e2:rs[t]? with
 |none=>rw[e2]at e;cases e
 |some r=>rw[e2]at e;cases e;exact⟨rfl,h _ (õ e2)⟩
def Bf.more{root:Nat->Prop}(B:Bf root edge kvs)(hp:p∉keys kvs)(hq:q∈keys kvs)(he:edge q p):Bf root edge (kvs++[(p,q)]):=by
 refine⟨?_,λt a b e=>?_⟩
 ·rw[î];refine Ϣ.mpr ⟨B.nd,by simp,λx hx y hy z=>?_⟩;have:=by simpa using hy
  exact hp (by rw[<-this,<-z];exact hx)
 ·by_cases ht:t<kvs.length
  ·rw[ú ht]at e;rcases B.src t a b e with z |⟨u,r,hu,eu,ed⟩
   ·exact .inl z
   ·exact .inr ⟨u,r,hu,by rw[ú (ϒ hu ht)];exact eu,ed⟩
  ·rw[ï (ņ.1 ht)]at e
   have e0:t-kvs.length=0:=by
    cases h:t-kvs.length with
    |zero=>rfl
    |succ k=>rw[h]at e;simp at e
   rw[e0]at e;cases e;obtain⟨u,r,eu⟩:=mE hq;have hu:=(Ó.mp eu).1;exact .inr ⟨u,r,by lia,by rw[ú hu];exact eu,he⟩
def iF(kvs:List (Nat×Nat)):(keys kvs).length=kvs.length:=Ê ..
def iE(kvs:List (Nat×Nat))(p q:Nat):keys (kvs++[(p,q)])=keys kvs++[p]:=by unfold keys;rw[î];rfl
def qL{l:List Nat}(h:l.Nodup)(hl:∀x∈l,x<n):l.length<=n:=by have:=ED h λx hx=>ö.mpr (hl x hx);rw[Ę]at this;exact this
theorem xC:∀(l:List α),(ê ((l.length+1) / 2)).filterMap (λk=>l[2*k]?)=pE l
 |[]=>by rw[show (([]).length+1) / 2=0 by simp];rfl
 |[x]=>by rw[show ([x].length+1) / 2=1 by simp];rfl
 |x::y::r=>by have ih:=xC r;rw[show ((x::y::r).length+1) / 2=(r.length+1) / 2+1 by simp;lia,Ż];show x::_=x::pE r;rw[SF];congr 1
def Fc(l:List α)(a n:Nat)(hn:n=l.length)(ha:a<=n):((ê ((n-a+1) / 2)).map λk=>a+2*k).filterMap (λi=>l[i]?)=pE (l.drop a):=by rw[SF,<-xC (l.drop a),ğ,hn];congr 1;funext k;show l[a+2*k]?=_;rw[ž]
theorem A5(f:α->β):∀l:List α,pE (l.map f)=(pE l).map f
 |[]=>rfl
 |[x]=>rfl
 |x::y::r=>by show f x::pE (r.map f)=f x::(pE r).map f;rw[A5 f r]
def Al:List Int->Prop
 |[]=>True
 |b::e::r=>b<=e/\Al r
 |[_]=>False
theorem Al.snoc:∀{l:List Int},Al l->∀{b e:Int},b<=e->Al (l++[b,e])
 |[],_,b,e,h=>⟨h,trivial⟩
 |[x],q,_,_,_=>q.elim
 |x::y::r,q,b,e,h=>⟨q.1,Al.snoc q.2 h⟩
theorem Al.sums:∀{l:List Int},Al l->(pE l).sum<=(pE (l.drop 1)).sum
 |[],_=>ř _
 |[x],q=>q.elim
 |x::y::r,q=>by
  have ih:=Al.sums q.2;rw[(by cases r <;> rfl:pE ((x::y::r).drop 1)=y::pE (r.drop 1))];show (x::pE r).sum<=_;rw[Ũ,Ũ];have:=q.1
  lia
def step2(n a:Nat)(o:Option Int)(h:o=À (a:Int)\/(o=Á/\a=0)):L2.stepI o Á (À 2) n=(ê ((n-min a n+1) / 2)).map λk=>min a n+2*k:=by
 have e:L2.stepI o Á (À 2) n=SE ((min a n:Nat)) n 2:=by
  rcases h with rfl |⟨rfl,rfl⟩
  ·show SE (max 0 (min (if a<0 then a+n else a) n)) n 2=_;rw[if_neg (Nat.not_lt_zero _),show max 0 (min (a:Int) n)=((min a n)) by lia]
  ·rfl
 rw[e];generalize ha:min a n=b;unfold SE;simp only[show (2:Int) > 0 from by decide,if_true];have e2:(if (b:Int)<n then ((n:Int)-b+2-1) / 2 else 0).toNat=(n-b+1) / 2:=by grind
 rw[e2];refine ę λk _=>?_;exact rfl
def Et(l:List α)(a:Nat)(o:Option Int)(h:o=À (a:Int)\/(o=Á/\a=0)):L2.cn l (L2.stepI o Á (À 2) l.length)=pE (l.drop a):=by
 rw[step2 l.length a o h];unfold L2.cn;rw[Fc l (min a l.length) l.length rfl (Tx ..)];by_cases c:a<=l.length
 ·grind
 ·rw[show min a l.length=l.length by lia,ϱ,OW (by lia)]
def ir(o:Option Int)(n:Nat)(a:Nat)(h:o=À (a:Int)\/(o=Á/\a=0)):(L2.stepI o Á (À 2) n).length<=n:=by
 rw[step2 n a o h,Ê,Ę]
 lia
abbrev eh:=Int×Int×Int
def cH(w:eh):List D:=[.int w.1,.int w.2.1,.int w.2.2]
def au(W:List eh):D:=.lst (W.map λw=>.lst (cH w))
def eY(W:List eh):cS (W.map cH)=au W:=by unfold cS au;rw[ë];rfl
def df{W:List eh}(hk:k<W.length):(W.map λw=>D.lst (cH w))[k]?=À (.lst (cH (W.getD k (0,0,0)))):=by simp_all
def lC(h:a<n):ixN n (a:Int)=À a:=by rw[EO (à _) (ϗ.2 h)];rfl
def sG{a:Nat}(h:xs[a]?=À d):yf (.lst xs) (a:Int)=À d:=by show kB xs a=À d;unfold kB;rw[lC ((Ó.mp h).1)];exact h
def sF{a:Nat}(e:i=(a:Int))(h:xs[a]?=À d):yf (.lst xs) i=À d:=by rw[e];exact sG h
def Ma:sN (dC (.int 10)) (dC (.int 40)) O=À (.int (10 ^ 40)):=Fe (j:=40) rfl rfl (by unfold CQ;decide)
def L9:sN (dC (.int 10)) (dC (.int 49)) O=À (.int (10 ^ 49)):=Fe (j:=49) rfl rfl (by unfold CQ;decide)
def int_at{L:List Int}(h:i<L.length):(L.map D.int)[i]?=À (.int (L.getD i 0)):=by simp_all
def Gs(w:eh):Prop:=0<=w.1/\w.1<=w.2.1/\w.2.1<2 ^ 50/\0<=w.2.2/\w.2.2<2 ^ 50
def mF(h:a O=À (.bl b)):dy intD a O=À (.int (if b=Â then 1 else 0)):=cf h rfl
def D6(ha:a O=À (.scr ns))(hb:b O=À (.int k))(h0:0<=k)(h1:k<ns.length):dIx a b O=À (.int (ns.getD k.toNat 0)):=aA ha hb (N4 h0 h1)
def FE(ns:List Int)(hl:ns.length<=63)(m:Nat)(hm:m<=8):∃W:List eh,d7 [.scr ns,.int (m:Int)]=À (au W)/\W.length=m/\∀w∈W,Gs w:=by
  have hline:Î=16777216:=ă
  obtain⟨d,e,W,rfl,hW⟩:=va iR (ds:=[.scr ns,.int (m:Int)]) (P:=λd=>∃W:List eh,d=au W/\W.length=m/\∀w∈W,Gs w) (by
    rw[rR];unfold fM;refine wp_seq (fC (rows:=([]:List eh).map cH) rfl (by simp only[Û,ð];exact Đ ..) ?_);walk_at "st";have e24:∀ O:aW,jF (dC (.int 24)) O=À ((ê 24).map λ(i:Nat)=>D.int (0+i)):=λO=>by rw[lF (i:=24) rfl ⟨by decide,by rw[hline];decide⟩];rfl
    refine wp_seq (dD (ds:=((ê 24).map λ(i:Nat)=>cC (ns.getD (3:Int).toNat 0) (40+(0+(i:Int)))).map D.int) ?_ (by simp only[Û,ð];exact Đ ..) ?_)
    · rw[ë];refine bh (λ(i:Nat)=>D.int (0+i)) (e24 _) (λi=>D.int (cC (ns.getD (3:Int).toNat 0) (40+(0+(i:Int))))) λi hi=>⟨_,rfl,?_⟩
      have:=ö.mp hi;exact aC (ae (aC (ae rfl (ae rfl rfl)) (eU _ _ (by decide))) (ae (bH rfl rfl) rfl)) (mixed _ _ (à _) (by lia))
    walk_at "st";refine wp_seq (dq (by walk_at "ev") (λj O=>∃(L:List Int) (v4:Sl),L.length=24/\O=[.bo (.scr ns),.bo (.int (m:Int)),.om (([]:List eh).map cH),.ol (L.map D.int),v4,.un,.un]) ⟨_,_,by simp,rfl⟩ ?_ ?_)
    · rintro j d O hd ⟨L,v4,hL,rfl⟩;obtain⟨hj,rfl⟩:=uD hd;refine⟨_,rfl,?_⟩;dsimp only[gN,pe,Ă,ý];have hk:(4:Int)+j<ns.length:=by lia
      have hk0:0<=(4:Int)+j:=à _;generalize (4:Int)+(j:Int)=k at hk hk0;have hr:(k % 24).toNat<24:=by lia
      have er:k % 24=((k % 24).toNat:Int):=by lia
      refine k8 (n:=k % 24) (j:=(k % 24).toNat) (d:=.int (cC (L.getD (k % 24).toNat 0+ns.getD k.toNat 0) k)) rfl ?_ (bQ rfl rfl (by decide)) (by rw[er,Ê];exact lC (hL ▸ hr)) ?_
      · exact aC (ae (bH (aA rfl (bQ rfl rfl (by decide)) (sF er (int_at (hL ▸ hr)))) (D6 rfl rfl hk0 hk)) (ae rfl rfl)) (mixed _ _ hk0 (by lia))
      · walk_at "st";rw[jR];exact⟨_,_,by rw[Ħ];exact hL,rfl⟩
    · rintro O ⟨L,v4,hL,rfl⟩;refine wp_seq (dq (ds:=CT 0 m) (by rw[lF (i:=(m:Int)) rfl ⟨à _,by lia⟩,ŏ]) (λj O=>∃(W:List eh) (v4 v5 v6:Sl),W.length=j/\(∀w∈W,Gs w)/\O=[.bo (.scr ns),.bo (.int (m:Int)),.om (W.map cH),.ol (L.map D.int),v4,v5,v6]) ⟨[],_,_,_,rfl,by simp,rfl⟩ ?_ ?_)
      · rintro j d O hd ⟨W,v4,v5,v6,hW,hg,rfl⟩;obtain⟨hj,rfl⟩:=uD hd;refine⟨_,rfl,?_⟩;dsimp only[gN,pe,Ă,ý];rw[show (0:Int)+(j:Int)=(j:Int) from Rb ..];have g0:∀ O:aW,dVar 3 O=À (.lst (L.map D.int))->dVar 4 O=À (.int (j:Int))->dIx (dVar 3) (fg (dC (.int 3)) (dVar 4)) O=À (.int (L.getD (3*j) 0)):=λO h3 h4=>aA h3 (ig rfl h4 (sI (by lia))) (sF (a:=3*j) rfl (int_at (by lia)));have g1:∀ O:aW,dVar 3 O=À (.lst (L.map D.int))->dVar 4 O=À (.int (j:Int))->dIx (dVar 3) (dAdd (fg (dC (.int 3)) (dVar 4)) (dC (.int 1))) O=À (.int (L.getD (3*j+1) 0)):=λO h3 h4=>aA h3 (bH (ig rfl h4 (sI (by lia))) rfl) (sF (a:=3*j+1) rfl (int_at (by lia)));have g2:∀ O:aW,dVar 3 O=À (.lst (L.map D.int))->dVar 4 O=À (.int (j:Int))->dIx (dVar 3) (dAdd (fg (dC (.int 3)) (dVar 4)) (dC (.int 2))) O=À (.int (L.getD (3*j+2) 0)):=λO h3 h4=>aA h3 (bH (ig rfl h4 (sI (by lia))) rfl) (sF (a:=3*j+2) rfl (int_at (by lia)));generalize L.getD (3*j) 0=x0 at g0;generalize L.getD (3*j+1) 0=x1 at g1;generalize L.getD (3*j+2) 0=x2 at g2;refine wp_seq (ax (bQ (g0 _ rfl rfl) rfl (by decide)) ?_);walk_at "st";refine wp_seq (ax (bQ (g1 _ rfl rfl) rfl (by decide)) ?_);walk_at "st";obtain⟨q,hq,hq0,hq1⟩:∃q:Int,q=(if decide (x2 / 64 % 9=0)=Â then (1:Int) else 0)/\0<=q/\q<=1:=⟨_,rfl,by split <;> lia,by split <;> lia⟩
        have hm3:0<x1 % 7+1+q:=by lia
        refine ke (ds:=cH (x0 % 8,x0 % 8+x1 % 7,x2 % (x1 % 7+1+q))) rfl (ae rfl (ae (bH rfl rfl) (ae ?_ rfl))) (by rw[Ê];lia) ?_
        · refine bQ (g2 _ rfl rfl) (bH (bH rfl rfl) ?_) hm3;rw[hq];exact mF (dH (bQ (fH (g2 _ rfl rfl) rfl (vM (à _) (à _))) rfl (by decide)) rfl)
        · walk_at "st";refine⟨W++[(x0 % 8,x0 % 8+x1 % 7,x2 % (x1 % 7+1+q))],_,_,_,by rw[á,ĥ,hW],λw hw=>?_,by rw[î];rfl⟩;rcases â.mp hw with hw |hw
          · exact hg w hw
          · rw[Ð.mp hw];have a1:=ŵ x2 (show x1 % 7+1+q≠0 from OO hm3);have a2:=Ϙ x2 hm3;exact⟨by show 0<=x0 % 8;lia,by show x0 % 8<=x0 % 8+x1 % 7;lia,by show x0 % 8+x1 % 7<2 ^ 50;lia,by show 0<=x2 % (x1 % 7+1+q);exact a1,by show x2 % (x1 % 7+1+q)<2 ^ 50;lia⟩
      · rintro O ⟨W,v4,v5,v6,hW,hg,rfl⟩;rw[lX]at hW;exact pP rfl ⟨W,eY W,hW,hg⟩)
  exact⟨W,e,hW⟩
def rM(l:List Int):D:=.lst (l.map D.int)
def AA{B:List (List Int)}(h:i<B.length):(B.map rM)[i]?=À (rM (B.getD i [])):=by simp_all
def zb{a:Nat}(h0:O.getD i .un=.ol xs)(hb:b O=À (.int k))(e:k=(a:Int))(h:xs[a]?=À d):o4 i b O=À d:=by unfold o4;rw[h0];rw[hb];dsimp only;unfold kB;rw[e,lC ((Ó.mp h).1)];exact h
def Es(l:List Int)(is:List Nat):cn (l.map D.int) is=(cn l is).map D.int:=by
 unfold cn;induction is with
 |nil=>rfl
 |cons i is ih =>
  rw[Ŀ,Ŀ,Ö];cases l[i]? with
  |none=>exact ih
  |some x=>exact congrArg (D.int x::·) ih
theorem sum_bound(hM:0<=M):∀l:List Int,(∀x∈l,0<=x/\x<=M)->0<=l.sum/\l.sum<=M*l.length
 |[],_=>by simp
 |x::r,h=>by
  have h1:=h x Ò;have h2:=sum_bound hM r λy hy=>h y (Ñ _ hy);rw[Ũ,Û]
  lia
def Er{l:List Int}(h:x∈cn l is):x∈l:=by obtain⟨i,_,e⟩:=ώ.mp h;exact õ e
def tZ(x:Int)(r:List Int):minD (.lst ((x::r).map D.int))=À (.int (su x r)):=eF _ (x::r)
def ku(x:Int)(r:List Int):maxD (.lst ((x::r).map D.int))=À (.int (nU x r)):=eF _ (x::r)
def iX(ns:List Int):oU (.lst (ns.map D.int))=À (.int ns.sum):=eF _ ns
def HP(xs:List D):fJ 20 (.lst xs) (.lst [])=true:=by show (decide (xs.length≠([]).length) || (Pj xs []).all λp=>fJ 19 p.1 p.2)=Â;simp
def ud(ha:a O=À (.lst xs)):jG Ã a (dLst dNil) O=À (.bl (decide (xs=[]))):=by
 rw[xF ha rfl (HP xs)];cases xs with
 |nil=>simp
 |cons x r=>simp
def Sm(M:Int)(l:List Int):Prop:=∀x∈l,0<=x/\x<=M
def Sm.at(h:Sm M l)(hM:0<=M)(i:Nat):0<=l.getD i 0/\l.getD i 0<=M:=by
 rw[Ë];cases e:l[i]? with
 |none=>exact⟨ř _,hM⟩
 |some x=>exact h x (õ e)
theorem Sm.set(h:Sm M l)(hx:0<=x/\x<=M)(i:Nat):Sm M (l.set i x):=λy hy=>by
 rcases ϵ hy with hy |rfl
 ·exact h y hy
 ·exact hx
def Sm.up(h:Sm M l)(hMN:M<=N):Sm N l:=λx hx=>by have:=h x hx;lia
def vc(n:Nat):(æ n [D.int 0]).flatten=(æ n (0:Int)).map D.int:=by simp
def CM (ns:List Int) (hl:ns.length≤63) (m N:Nat) (hm0:1≤m) (hm:m≤8) (hN0:1≤N) (hN:N≤8):∃ W:List eh,dA [.scr ns,.int (m:Int),.int (N:Int)]=some (au W)∧W.length=m∧∀ w∈W,Gs w:=by
  have hline:Î=16777216:=ă
  obtain⟨d,e,W,rfl,hW⟩:=va gX (ds:=[.scr ns,.int (m:Int),.int (N:Int)]) (P:=λd=>∃W:List eh,d=au W/\W.length=m/\∀w∈W,Gs w) (by
    rw[p7];unfold eX;refine wp_seq (dD (ds:=(æ m ([]:List Int)).map rM) ?_ (by simp only[Û,ð];exact Đ ..) ?_)
    · rw[bh (λ(i:Nat)=>D.int (0+i)) (xs:=ê m) (by rw[lF (i:=(m:Int)) rfl ⟨à _,by lia⟩,ŏ];rfl) (λ_=>D.lst []) λi _=>⟨_,rfl,rfl⟩];rw[PD,OI,Ę];rfl
    walk_at "st";have eR:∀(O:aW) (b:DE) (n:Nat),n<=8->b O=À (.int (n:Int))->mI (dCons (dC (.int 0)) dNil) b O=À ((æ n (0:Int)).map D.int):=λO b n hn hb=>by rw[oe (ds:=[.int 0]) (i:=(n:Int)) rfl hb ⟨à _,by lia,by simp;lia⟩,ŏ,vc]
    refine wp_seq (dD (eR _ _ m hm rfl) (by simp only[Û,ð];exact Đ ..) ?_);walk_at "st";refine wp_seq (dD (eR _ _ N hN rfl) (by simp only[Û,ð];exact Đ ..) ?_);walk_at "st";have sm0:∀n:Nat,Sm 0 (æ n (0:Int)):=λn x hx=>by rw[(SG.mp hx).2];exact⟨ř _,ř _⟩
    refine wp_seq (dq (by walk_at "ev") (λj O=>∃(B:List (List Int)) (A C:List Int) (v6 v7 v8 v9 v10:Sl),B.length=m/\A.length=m/\C.length=N/\Sm (5*j) A/\Sm (5*j) C/\(∀l∈B,Sm (5*j) l/\l.length<=2*j/\Al l)/\O=[.bo (.scr ns),.bo (.int (m:Int)),.bo (.int (N:Int)),.ol (B.map rM),.ol (A.map D.int),.ol (C.map D.int),v6,v7,v8,v9,v10,.un,.un,.un,.un]) ⟨_,_,_,_,_,_,_,_,ü,ü,ü,sm0 m,sm0 N,λl hl=>by rw[(SG.mp hl).2];exact⟨λx hx=>by(cases hx),Ą _,trivial⟩,rfl⟩ ?_ ?_)
    · rintro j d O hd ⟨B,A,C,v6,v7,v8,v9,v10,hB,hA,hC,sA,sC,sB,rfl⟩;obtain⟨hj,rfl⟩:=uD hd;refine⟨_,rfl,?_⟩;dsimp only[gN,pe,Ă,ý];have hk:(4:Int)+j<ns.length:=by lia
      have hk0:0<=(4:Int)+j:=à _;have hk1:(4:Int)+j<63:=by lia
      have hj60:j<60:=by lia
      generalize (4:Int)+(j:Int)=k at hk hk0 hk1;have ex:∀ O:aW,dVar 0 O=À (.scr ns)->dVar 6 O=À (.int k)->dIx (dVar 0) (dVar 6) O=À (.int (ns.getD k.toNat 0)):=λO h1 h2=>D6 h1 h2 hk0 hk;generalize ns.getD k.toNat 0=x at ex;refine wp_seq (ax (bQ (aC (ae (ex _ rfl rfl) (ae rfl rfl)) (mixed _ _ hk0 (by lia))) rfl (by lia)) ?_);walk_at "st";refine wp_seq (ax (bQ (aC (ae (ex _ rfl rfl) (ae (bH rfl rfl) rfl)) (mixed _ _ (by lia) (by lia))) rfl (by lia)) ?_);walk_at "st";have w0:=ŵ (cC x k) (show (m:Int)≠0 by lia);have w1:=Ϙ (cC x k) (show 0<(m:Int) by lia);have b0:=ŵ (cC x (k+64)) (show (N:Int)≠0 by lia);have b1:=Ϙ (cC x (k+64)) (show 0<(N:Int) by lia);obtain⟨a,ea⟩:∃a:Nat,cC x k % (m:Int)=(a:Int):=⟨(cC x k % (m:Int)).toNat,by lia⟩
      obtain⟨c,ec⟩:∃c:Nat,cC x (k+64) % (N:Int)=(c:Int):=⟨(cC x (k+64) % (N:Int)).toNat,by lia⟩
      rw[ea,ec];rw[ea]at w0 w1;rw[ec]at b0 b1;have ha:a<m:=ϗ.1 w1;have hc:c<N:=ϗ.1 b1;have d1:=sA.at (à _) a;have d2:=sC.at (ϲ d1.1 d1.2) c;have m6:=nT x (k+128);have m3:=nT x (k+192);refine wp_seq (ax (d:=.int (max (A.getD a 0) (C.getD c 0)+max 0 (cC x (k+128) % 6-3))) (bH (kA (aA rfl rfl (sG (int_at (hA ▸ ha)))) (aA rfl rfl (sG (int_at (hC ▸ hc))))) (kA rfl (cR (bQ (aC (ae (ex _ rfl rfl) (ae (bH rfl rfl) rfl)) (mixed _ _ (by lia) (by lia))) rfl (by decide)) rfl))) ?_);walk_at "st";generalize hbg:max (A.getD a 0) (C.getD c 0)+max 0 (cC x (k+128) % 6-3)=bg;refine wp_seq (ax (d:=.int (bg+1+cC x (k+192) % 3)) (bH (bH rfl rfl) (bQ (aC (ae (ex _ rfl rfl) (ae (bH rfl rfl) rfl)) (mixed _ _ (by lia) (by lia))) rfl (by decide))) ?_);walk_at "st";generalize hen:bg+1+cC x (k+192) % 3=en;have hbg1:0<=bg/\bg<=5*((j+1:Nat):Int):=by lia
      have hen1:0<=en/\en<=5*((j+1:Nat):Int):=by lia
      refine wp_seq (k8 (n:=(a:Int)) (j:=a) (d:=.int en) rfl rfl rfl (by rw[Ê];exact lC (hA ▸ ha)) ?_);walk_at "st";refine wp_seq (k8 (n:=(c:Int)) (j:=c) (d:=.int en) rfl rfl rfl (by rw[Ê];exact lC (hC ▸ hc)) ?_);walk_at "st";have bl:(B.getD a [])∈B:=by rw[Ë,É (hB ▸ ha)];exact Ĳ _
      obtain⟨sb,lb,ab⟩:=sB _ bl;refine k8 (n:=(a:Int)) (j:=a) (d:=rM (B.getD a []++[bg,en])) rfl (aI ?_) rfl (by rw[Ê];exact lC (hB ▸ ha)) ?_
      · rw[î];exact qV (zb rfl rfl rfl (AA (hB ▸ ha))) (aI (ae rfl (ae rfl rfl))) (by rw[Ê,Ê,Û,Û,ð];lia)
      · walk_at "st";rw[jR,jR,<- ϴ];refine⟨_,_,_,_,_,_,_,_,by rw[Ħ];exact hB,by rw[Ħ];exact hA,by rw[Ħ];exact hC,(sA.up (by lia)).set hen1 _,(sC.up (by lia)).set hen1 _,λl hl=>?_,rfl⟩;rcases ϵ hl with hl |rfl
        · obtain⟨q1,q2,q3⟩:=sB l hl;exact⟨q1.up (by lia),by lia,q3⟩
        · refine⟨λy hy=>?_,by rw[á,Û,Û,ð];lia,ab.snoc (by lia)⟩;rcases â.mp hy with hy |hy
          · have:=sb y hy;lia
          · simp only[Ú,Ĥ,or_false]at hy;rcases hy with rfl |rfl
            · exact hbg1
            · exact hen1
    · rintro O ⟨B,A,C,v6,v7,v8,v9,v10,hB,hA,hC,sA,sC,sB,rfl⟩;rw[lX]at sB;have hJ:((min (63:Int) (ns.length:Int))-4).toNat<=59:=by lia
      generalize ((min (63:Int) (ns.length:Int))-4).toNat=J at sB hJ;refine wp_seq (fC (rows:=([]:List eh).map cH) rfl (by simp only[Û,ð];exact Đ ..) ?_);walk_at "st";refine wp_seq (dq (ds:=CT 0 m) (by rw[lF (i:=(m:Int)) rfl ⟨à _,by lia⟩,ŏ]) (λj O=>∃(W:List eh) (v6 v7 v8 v9 v10 v12 v13 v14:Sl),W.length=j/\(∀w∈W,Gs w)/\O=[.bo (.scr ns),.bo (.int (m:Int)),.bo (.int (N:Int)),.ol (B.map rM),.ol (A.map D.int),.ol (C.map D.int),v6,v7,v8,v9,v10,.om (W.map cH),v12,v13,v14]) ⟨[],_,_,_,_,_,_,_,_,rfl,by simp,rfl⟩ ?_ ?_)
      · rintro j d O hd ⟨W,v6,v7,v8,v9,v10,v12,v13,v14,hW,hg,rfl⟩;obtain⟨hj,rfl⟩:=uD hd;refine⟨_,rfl,?_⟩;dsimp only[gN,pe,Ă,ý];rw[show (0:Int)+(j:Int)=(j:Int) from Rb ..];have bl:(B.getD j [])∈B:=by rw[Ë,É (hB ▸ hj)];exact Ĳ _
        obtain⟨sb,lb,ab⟩:=sB _ bl;have eB:∀ O:aW,O.getD 3 .un=.ol (B.map rM)->dVar 6 O=À (.int (j:Int))->o4 3 (dVar 6) O=À (rM (B.getD j [])):=λO h1 h2=>zb h1 h2 rfl (AA (hB ▸ hj));have eB2:∀ O:aW,dVar 3 O=À (.lst (B.map rM))->dVar 6 O=À (.int (j:Int))->dIx (dVar 3) (dVar 6) O=À (rM (B.getD j [])):=λO h1 h2=>aA h1 h2 (sG (AA (hB ▸ hj)));generalize B.getD j []=l at sb lb ab eB eB2
        obtain⟨x,r,hE,sE⟩:∃(x:Int) (r:List Int),l++(if l=[] then [(j:Int) % 3] else [])=x::r/\Sm 1000 (x::r):=by
          cases l with
          |nil=>exact⟨(j:Int) % 3,[],rfl,λy hy=>by rw[Ð.mp hy];lia⟩
          |cons x r=>exact⟨x,r,by simp,sb.up (by lia)⟩
        have erep:∀ O:aW,dVar 3 O=À (.lst (B.map rM))->dVar 6 O=À (.int (j:Int))->dLst (mI (dCons (cj (dVar 6) (dC (.int 3))) dNil) (dy intD (jG Ã (dIx (dVar 3) (dVar 6)) (dLst dNil)))) O=À (rM (if l=[] then [(j:Int) % 3] else [])):=λO h1 h2=>by
          refine aI ?_;have hb:=mF (ud (xs:=l.map D.int) (eB2 O h1 h2));by_cases c:l=[]
          · subst c;rw[oe (ds:=[.int ((j:Int) % 3)]) (i:=1) (ae (bQ h2 rfl (by decide)) rfl) hb ⟨by decide,by decide,by show 1*1<=Î;exact OU _⟩];rfl
          · have hb0:dy intD (jG Ã (dIx (dVar 3) (dVar 6)) (dLst dNil)) O=À (.int 0):=by rw[hb,if_neg (by simpa using c)]
            rw[oe (ds:=[.int ((j:Int) % 3)]) (i:=0) (ae (bQ h2 rfl (by decide)) rfl) hb0 ⟨by decide,by decide,by show 1*0<=Î;exact Ą _⟩,if_neg c];rfl
        refine wp_seq (ax (d:=rM (x::r)) (aI ?_) ?_)
        · rw[<-hE,î];exact qV (eB _ rfl rfl) (erep _ rfl rfl) (by rw[Ê,Ê];split <;> simp <;> lia)
        walk_at "st";have pk:∀(O:aW) (lo:aW->Option (Option Int)) (o:Option Int),o=Á\/o=À 1->O.getD 3 .un=.ol (B.map rM)->dVar 6 O=À (.int (j:Int))->lo O=À o->dy oU (dLst (oZ (o4 3 (dVar 6)) lo gP (eA (dC (.int 2))))) O=À (.int (cn l (L2.stepI o Á (À 2) l.length)).sum):=λO lo o ho h1 h2 h3=>by have q:=Fd (a:=o4 3 (dVar 6)) (lo:=lo) (hi:=gP) (st:=eA (dC (.int 2))) (ds:=l.map D.int) (aR (eB O h1 h2) rfl) h3 rfl rfl ⟨by decide,by rw[Ê];have:=(ho.elim (λz=>ir o l.length 0 (.inr ⟨z,rfl⟩)) λz=>ir o l.length 1 (.inl z):(L2.stepI o Á (À 2) l.length).length<=l.length);lia⟩;rw[Ê,Es]at q;exact cf (aI q) (iX _)
        refine wp_seq (ax (d:=.int ((cn l (L2.stepI (À 1) Á (À 2) l.length)).sum-(cn l (L2.stepI Á Á (À 2) l.length)).sum)) (cR (pk _ _ (À 1) (.inr rfl) rfl rfl rfl) (pk _ _ Á (.inl rfl) rfl rfl rfl)) ?_);walk_at "st"
        have pb:∀o:Option Int,o=Á\/o=À 1->0<=(cn l (L2.stepI o Á (À 2) l.length)).sum/\(cn l (L2.stepI o Á (À 2) l.length)).sum<=1000*118:=λo ho=>by
          have s1:=sum_bound (M:=1000) (à _) (cn l (L2.stepI o Á (À 2) l.length)) λy hy=>by have:=sb y (Er hy);lia
          have l1:=w5 l (L2.stepI o Á (À 2) l.length);have l2:(L2.stepI o Á (À 2) l.length).length<=l.length:=ho.elim (λz=>ir o l.length 0 (.inr ⟨z,rfl⟩)) λz=>ir o l.length 1 (.inl z)
          lia
        have p1:=pb (À 1) (.inr rfl);have p2:=pb Á (.inl rfl);have p3:=ab.sums;rw[<-Et l 1 (À 1) (.inl rfl),show pE l=pE (l.drop 0) from rfl,<-Et l 0 Á (.inr ⟨rfl,rfl⟩)]at p3;generalize (cn l (L2.stepI (À 1) Á (À 2) l.length)).sum=S1 at p1 p3;generalize (cn l (L2.stepI Á Á (À 2) l.length)).sum=S2 at p2 p3;refine wp_seq (ax (d:=.int (cC (ns.getD (3:Int).toNat 0) (j:Int) % 4)) (bQ (aC (ae (aC (ae rfl (ae rfl rfl)) (eU _ _ (by decide))) (ae rfl rfl)) (mixed _ _ (à _) (by lia))) rfl (by decide)) ?_);walk_at "st";generalize cC (ns.getD (3:Int).toNat 0) (j:Int)=sl;obtain⟨mn1,mn2⟩:=iC r x;obtain⟨mx1,mx2⟩:=fQ r x;have z1:=sE _ mn1;have z2:=sE _ mx1;have z3:=mn2 _ mx1;refine ke (ds:=cH (max 0 (su x r-sl % 4 / 2),nU x r+sl % 4 % 2,S1-S2)) rfl (ae (kA rfl (cR (cf rfl (tZ _ _)) (fH rfl rfl (vM (à _) (à _))))) (ae (bH (cf rfl (ku _ _)) (bQ rfl rfl (by decide))) (ae rfl rfl))) (by rw[Ê];lia) ?_;walk_at "st";refine⟨W++[(max 0 (su x r-sl % 4 / 2),nU x r+sl % 4 % 2,S1-S2)],_,_,_,_,_,_,_,_,by rw[á,ĥ,hW],λw hw=>?_,by rw[î];rfl⟩;rcases â.mp hw with hw |hw
        · exact hg w hw
        · rw[Ð.mp hw];exact⟨by show 0<=max 0 (su x r-sl % 4 / 2);lia,by show max 0 (su x r-sl % 4 / 2)<=nU x r+sl % 4 % 2;lia,by show nU x r+sl % 4 % 2<2 ^ 50;lia,by show 0<=S1-S2;lia,by show S1-S2<2 ^ 50;lia⟩
      · rintro O ⟨W,v6,v7,v8,v9,v10,v12,v13,v14,hW,hg,rfl⟩;rw[lX]at hW;exact pP rfl ⟨W,eY W,hW,hg⟩)
  exact⟨W,e,hW⟩
def Gf(w:eh):Prop:=0<=w.1/\w.1<=w.2.1/\0<=w.2.2
def vb{W:List eh}(h:i<W.length):(W.map cH)[i]?=À (cH (W.getD i (0,0,0))):=by simp_all
def qp(W:List eh):(W.map cH).map D.lst=W.map λw=>D.lst (cH w):=by rw[ë];rfl
def Ht(ns:List Int)(hl:ns.length<=63):∃(W:List eh) (N:Nat),iQ [.scr ns]=À (.tup [au W,.int (N:Int)])/\W.length<=8/\(1<=N/\N<=8)/\∀w∈W,Gf w:=by
  have hline:Î=16777216:=ă
  obtain⟨d,e,W,N,rfl,hW⟩:=ph k5 (ds:=[.scr ns]) (P:=λd=>∃(W:List eh) (N:Nat),d=.tup [au W,.int (N:Int)]/\W.length<=8/\(1<=N/\N<=8)/\∀w∈W,Gf w) (by
    rw[yy];unfold kG;refine wp_seq (ax (aC (ae rfl (ae rfl rfl)) (eU _ _ (by decide))) ?_);walk_at "st";generalize ns.getD (0:Int).toNat 0=c
    obtain⟨m,hm,em⟩:∃m:Nat,m<=8/\Lr (c % 3) (c / 3 % 9) 8 (c / 3 % 9)=(m:Int):=by
      unfold Lr;split
      · exact⟨(c / 3 % 9).toNat,by lia,by lia⟩
      · split
        · exact⟨8,Õ _,rfl⟩
        · exact⟨(c / 3 % 9).toNat,by lia,by lia⟩
    have ef:∀ O:aW,dVar 1 O=À (.int c)->cj (cM (dVar 1) (dC (.int 3))) (dC (.int 9)) O=À (.int (c / 3 % 9)):=λO h=>bQ (fH h rfl (vM (à _) (à _))) rfl (by decide);refine wp_seq (ax (d:=.int (m:Int)) (by rw[<-em];exact aA (aI (ae (ef _ rfl) (ae rfl (ae (ef _ rfl) rfl)))) (bQ rfl rfl (by decide)) (KN _ _ _ _)) ?_);walk_at "st";refine wp_seq (ax (aC (ae (aC (ae rfl (ae rfl rfl)) (eU _ _ (by decide))) (ae rfl rfl)) (mixed _ _ (by decide) (by decide))) ?_);walk_at "st";have mx0:=nT (ns.getD (1:Int).toNat 0) 33;generalize cC (ns.getD (1:Int).toNat 0) 33=mx at mx0
    obtain⟨N,hN0,hN,eN⟩:∃N:Nat,1<=N/\N<=8/\yf (.lst [.int (1+mx % 3),.int (1+mx % 8),.int 8]) ((if decide (mx / 24 % 6<2)=Â then (1:Int) else 0)+(if decide (mx / 24 % 6=0)=Â then (1:Int) else 0))=À (.int (N:Int)):=by
      by_cases a:mx / 24 % 6<2
      · by_cases b:mx / 24 % 6=0
        · rw[if_pos (decide_eq_true a),if_pos (decide_eq_true b)];exact⟨8,OU _,Õ _,rfl⟩
        · rw[if_pos (decide_eq_true a),if_neg (by simpa using b)];exact⟨(1+mx % 8).toNat,by lia,by lia,by rw[show (((1+mx % 8).toNat:Nat):Int)=1+mx % 8 by lia];rfl⟩
      · rw[if_neg (by simpa using a),if_neg (by simp;lia)];exact⟨(1+mx % 3).toNat,by lia,by lia,by rw[show (((1+mx % 3).toNat:Nat):Int)=1+mx % 3 by lia];rfl⟩
    have e246:∀ O:aW,dVar 3 O=À (.int mx)->cj (cM (dVar 3) (dC (.int 24))) (dC (.int 6)) O=À (.int (mx / 24 % 6)):=λO h=>bQ (fH h rfl (vM (à _) (à _))) rfl (by decide);refine wp_seq (ax (d:=.int (N:Int)) (aA (aI (ae (bH rfl (bQ rfl rfl (by decide))) (ae (bH rfl (bQ rfl rfl (by decide))) (ae rfl rfl)))) (bH (mF (oM (e246 _ rfl) rfl)) (mF (dH (e246 _ rfl) rfl))) eN) ?_);walk_at "st";have rest:∀W:List eh,W.length=m->(∀w∈W,Gs w)->Wp (ay (aU 6 (cM (aJ bu (dCons (dVar 0) (dCons (dC (.int 1)) dNil))) (dC (.int 3))))
 (ay (aU 7 (dIx (dLst (dCons (dC (.int 1)) (dCons (dC (.int 7)) (dCons (dAdd (sN (dC (.int 10)) (dC (.int 40))) (dC (.int 9))) dNil)))) (cj (dVar 6) (dC (.int 3)))))
 (ay (gJ 5 (j4 1 [7] (asL (dVar 5)) (gN Ã 0) dTrue (dCons (fg (dVar 1) (dIx (dVar 0) (dC (.int 0)))) (dCons (fg (dVar 1) (dIx (dVar 0) (dC (.int 1)))) (dCons (fg (dVar 1) (dIx (dVar 0) (dC (.int 2)))) dNil)))))
 (ay (jK (sP (dT (xS (dVar 2) (dC (.int 0)))) (dT (jG Ã (cj (cM (dVar 6) (dC (.int 3))) (dC (.int 3))) (dC (.int 1)))))
 (ql 5 (cj (cM (dVar 6) (dC (.int 9))) (dVar 2)) (dC (.int 2)) (dAdd (dIx (dIx (dVar 5) (cj (cM (dVar 6) (dC (.int 9))) (dVar 2))) (dC (.int 2))) (dC (.int 1))))
        b8)
 (ay (aU 8 (fg (cj (aJ bu (dCons (dVar 0) (dCons (dC (.int 2)) dNil))) (sN (dC (.int 10)) (dC (.int 49)))) (dy intD (jG Ã (cj (cM (dVar 6) (dC (.int 9))) (dC (.int 4))) (dC (.int 1))))))
 (sRet (dTup (dCons (dLst (dComp 1 [8] (asL (dVar 5)) (gN false 0) dTrue (dLst (dCons (dAdd (dIx (dVar 0) (dC (.int 0))) (dVar 1)) (dCons (dAdd (dIx (dVar 0) (dC (.int 1))) (dVar 1)) (dCons (gScal (dIx (dVar 0) (dC (.int 2)))) dNil)))))) (dCons (dVarI 4) dNil)))))))))
        [.bo (.scr ns),.pu (.int c),.pu (.int (m:Int)),.pu (.int mx),.pu (.int (N:Int)),.om (W.map cH),.un,.un,.un] {nx:=λ_=>∃(W:List eh) (N:Nat),D.non=.tup [au W,.int (N:Int)]/\W.length<=8/\(1<=N/\N<=8)/\∀w∈W,Gf w,rt:=λd=>∃(W:List eh) (N:Nat),d=.tup [au W,.int (N:Int)]/\W.length<=8/\(1<=N/\N<=8)/\∀w∈W,Gf w }:=by
      intro W hW hg;refine wp_seq (ax (d:=.int (ns.getD (1:Int).toNat 0 / 3)) (fH (aC (ae rfl (ae rfl rfl)) (eU _ _ (by decide))) rfl (vM (à _) (à _))) ?_);walk_at "st";generalize ns.getD (1:Int).toNat 0 / 3=mo;refine wp_seq (ax (d:=.int (Lr (mo % 3) 1 7 (10 ^ 40+9))) (aA (aI (ae rfl (ae rfl (ae (bH Ma rfl) rfl)))) (bQ rfl rfl (by decide)) (KN _ _ _ _)) ?_);walk_at "st";generalize hu:Lr (mo % 3) 1 7 (10 ^ 40+9)=u;have hu0:0<=u:=by rw[<-hu];unfold Lr;split <;> (try split) <;> exact à _
      clear hu;refine wp_seq (fC (rows:=(W.map λw=>((u*w.1,u*w.2.1,u*w.2.2):eh)).map cH) ?_ (by simp only[Û,ð];exact Đ ..) ?_)
      · rw[ë];refine uf (λw:eh=>D.lst (cH w)) (by rw[<-qp];exact aR (d:=cS (W.map cH)) rfl rfl) (λw=>cH (u*w.1,u*w.2.1,u*w.2.2)) λw hw=>⟨_,rfl,?_⟩
        obtain⟨g1,g2,g3,g4,g5⟩:=hg w hw;exact ae (ig rfl (aA rfl rfl rfl) (sI (.inr ⟨by lia,by lia⟩))) (ae (ig rfl (aA rfl rfl rfl) (sI (.inr ⟨by lia,by lia⟩))) (ae (ig rfl (aA rfl rfl rfl) (sI (.inr ⟨by lia,by lia⟩))) rfl))
      walk_at "st";have hg2:∀w∈W.map (λw=>((u*w.1,u*w.2.1,u*w.2.2):eh)),Gf w:=λw hw=>by obtain⟨v,hv,rfl⟩:=ò.mp hw;obtain⟨g1,g2,_,g4,_⟩:=hg v hv;exact⟨Ϯ hu0 g1,Int.mul_le_mul_of_nonneg_left g2 hu0,Ϯ hu0 g4⟩
      have hW2:(W.map λw=>((u*w.1,u*w.2.1,u*w.2.2):eh)).length=m:=by rw[Ê];exact hW
      generalize W.map (λw=>((u*w.1,u*w.2.1,u*w.2.2):eh))=V at hg2 hW2;have fin:∀V:List eh,V.length=m->(∀w∈V,Gf w)->Wp (ay (aU 8 (fg (cj (aJ bu (dCons (dVar 0) (dCons (dC (.int 2)) dNil))) (sN (dC (.int 10)) (dC (.int 49)))) (dy intD (jG Ã (cj (cM (dVar 6) (dC (.int 9))) (dC (.int 4))) (dC (.int 1))))))
 (sRet (dTup (dCons (dLst (dComp 1 [8] (asL (dVar 5)) (gN false 0) dTrue (dLst (dCons (dAdd (dIx (dVar 0) (dC (.int 0))) (dVar 1)) (dCons (dAdd (dIx (dVar 0) (dC (.int 1))) (dVar 1)) (dCons (gScal (dIx (dVar 0) (dC (.int 2)))) dNil)))))) (dCons (dVarI 4) dNil)))))
          [.bo (.scr ns),.pu (.int c),.pu (.int (m:Int)),.pu (.int mx),.pu (.int (N:Int)),.om (V.map cH),.pu (.int mo),.pu (.int u),.un] {nx:=λ_=>∃(W:List eh) (N:Nat),D.non=.tup [au W,.int (N:Int)]/\W.length<=8/\(1<=N/\N<=8)/\∀w∈W,Gf w,rt:=λd=>∃(W:List eh) (N:Nat),d=.tup [au W,.int (N:Int)]/\W.length<=8/\(1<=N/\N<=8)/\∀w∈W,Gf w }:=by
        intro V hV hgV;have hq:∀b:Bool,0<=(if b=Â then (1:Int) else 0)/\(if b=Â then (1:Int) else 0)<=1:=λb=>by cases b <;> decide
        refine wp_seq (ax (ig (bQ (aC (ae rfl (ae rfl rfl)) (eU _ _ (by decide))) L9 (by decide)) (mF (dH (bQ (fH rfl rfl (vM (à _) (à _))) rfl (by decide)) rfl)) (sI (.inr (by have:=hq (decide (mo / 9 % 4=1));lia)))) ?_);walk_at "st";have hf0:0<=ns.getD (2:Int).toNat 0 % 10 ^ 49*(if decide (mo / 9 % 4=1)=Â then (1:Int) else 0):=Ϯ (ŵ _ (by decide)) (hq _).1;generalize ns.getD (2:Int).toNat 0 % 10 ^ 49*(if decide (mo / 9 % 4=1)=Â then (1:Int) else 0)=fa at hf0;refine br (d:=.tup [au (V.map λw=>((w.1+fa,w.2.1+fa,w.2.2):eh)),.int (N:Int)]) (vN (ae (aI ?_) (ae rfl rfl))) ⟨_,N,rfl,by rw[Ê];exact hV ▸ hm,⟨hN0,hN⟩,λw hw=>?_⟩
        · rw[ë];exact bh (λw:eh=>D.lst (cH w)) (by rw[<-qp];exact aR (d:=cS (V.map cH)) rfl rfl) (λw=>D.lst (cH (w.1+fa,w.2.1+fa,w.2.2))) λw hw=>⟨_,rfl,aI (ae (bH (aA rfl rfl rfl) rfl) (ae (bH (aA rfl rfl rfl) rfl) (ae (ky (aA rfl rfl rfl) rfl) rfl)))⟩
        · obtain⟨v,hv,rfl⟩:=ò.mp hw;obtain⟨g1,g2,g3⟩:=hgV v hv;exact⟨by show 0<=v.1+fa;lia,by show v.1+fa<=v.2.1+fa;lia,g3⟩
      by_cases q:0<m
      · have r0:=ŵ (mo / 9) (show (m:Int)≠0 by lia);have r1:=Ϙ (mo / 9) (show 0<(m:Int) by lia);obtain⟨i,ei⟩:∃i:Nat,mo / 9 % (m:Int)=(i:Int):=⟨(mo / 9 % (m:Int)).toNat,by lia⟩
        have hi:i<V.length:=by lia
        have eix:∀ O:aW,dVar 6 O=À (.int mo)->dVar 2 O=À (.int (m:Int))->cj (cM (dVar 6) (dC (.int 9))) (dVar 2) O=À (.int (i:Int)):=λO h6 h2=>by rw[<-ei];exact bQ (fH h6 rfl (vM (à _) (à _))) h2 (Qi r0 r1)
        have hgi:Gf (V.getD i (0,0,0)):=by rw[Ë,É hi];exact hg2 _ (Ĳ _)
        have erow:yf (cS (V.map cH)) (i:Int)=À (.lst (cH (V.getD i (0,0,0)))):=by show yf (.lst ((V.map cH).map D.lst)) _=_;rw[qp];exact sG (df hi)
        refine wp_seq (jl (ja (cb (fB rfl rfl)) λ_=>cb (dH (bQ (fH rfl rfl (vM (à _) (à _))) rfl (by decide)) rfl)) (λ_=>?_) λ_=>ba (fin V hW2 hg2));refine zL (r:=i) (j:=2) (ds:=cH (V.getD i (0,0,0))) (n:=(i:Int)) (m:=2) (d:=.int ((V.getD i (0,0,0)).2.2+1)) rfl (bH (aA (aA rfl (eix _ rfl rfl) erow) rfl rfl) rfl) (eix _ rfl rfl) (by rw[Ê];exact lC hi) (vb hi) rfl rfl ?_;walk_at "st";have e6:(V.map cH).set i [.int (V.getD i (0,0,0)).1,.int (V.getD i (0,0,0)).2.1,.int ((V.getD i (0,0,0)).2.2+1)]=(V.set i ((V.getD i (0,0,0)).1,(V.getD i (0,0,0)).2.1,(V.getD i (0,0,0)).2.2+1)).map cH:=by rw[ϴ];rfl
        have q6:=fin (V.set i ((V.getD i (0,0,0)).1,(V.getD i (0,0,0)).2.1,(V.getD i (0,0,0)).2.2+1)) (by rw[Ħ];exact hW2) λw hw=>by
          rcases ϵ hw with hw |rfl
          · exact hg2 w hw
          · exact⟨hgi.1,hgi.2.1,by have:=hgi.2.2;show 0<=(V.getD i (0,0,0)).2.2+1;lia⟩
        rw[<-e6]at q6;exact q6
      · refine wp_seq (cw (ja (x:=Ã) (y:=Ã) (cb ?_) λz=>by cases z) (ba (fin V hW2 hg2)));rw[fB (i:=(m:Int)) (j:=0) rfl rfl];exact congrArg (λb=>À (D.bl b)) (decide_eq_false (by lia))
    obtain⟨W1,e1,hW1,hg1⟩:=FE ns hl m hm;by_cases q:m=0
    · refine wp_seq (jl (x:=Â) ?_ (λ_=>fC (rows:=W1.map cH) (qW (ae rfl (ae rfl rfl)) (by rw[eY];exact e1)) (by simp only[Û,ð];exact Đ ..) (rest W1 hW1 hg1)) λz=>by cases z);rw[xD (cb (dH (bQ (aC (ae rfl (ae rfl rfl)) (eU _ _ (by decide))) rfl (by decide)) rfl)) λ_=>cb (dH (i:=(m:Int)) (j:=0) rfl rfl)];rw[SK,Ro,decide_eq_true_iff,decide_eq_true_iff];exact .inr (by lia)
    · obtain⟨W2,e2,hW2,hg2⟩:=CM ns hl m N (by lia) hm hN0 hN;refine wp_seq (jl (xD (cb (dH (bQ (aC (ae rfl (ae rfl rfl)) (eU _ _ (by decide))) rfl (by decide)) rfl)) λ_=>cb (dH (i:=(m:Int)) (j:=0) rfl rfl)) (λ_=>fC (rows:=W1.map cH) (qW (ae rfl (ae rfl rfl)) (by rw[eY];exact e1)) (by simp only[Û,ð];exact Đ ..) (rest W1 hW1 hg1)) λ_=>fC (rows:=W2.map cH) (qW (ae rfl (ae rfl (ae rfl rfl))) (by rw[eY];exact e2)) (by simp only[Û,ð];exact Đ ..) (rest W2 hW2 hg2)))
  exact⟨W,N,e,hW⟩
def natD(x:Nat):D:=.int (x:Int)
def l8(s:I2):D:=.lst [.int s.1,.int s.2]
def bK(S:List I2):D:=.lst (S.map l8)
def tD(T:List (List Int)):D:=.lst (T.map rM)
def ki(T:List (List Int)):cS (T.map λr=>r.map D.int)=tD T:=by unfold cS tD;rw[ë];rfl
def zT{T:List (List Int)}(h:i<T.length):yf (tD T) (i:Int)=À (rM (iH T i)):=sG (AA h)
def Dz(h:dI T n m)(hi:i<n)(hj:j<m):yf (rM (iH T i)) (j:Int)=À (.int (eJ T i j)):=sG (int_at (by rw[h.2 i hi];exact hj))
def dI.mem(h:dI T n m)(hr:r∈T):r.length=m:=by obtain⟨i,e⟩:=Ϡ.mp hr;have:=h.2 i (by rw[<-h.1];exact((Ó.mp e).1));unfold iH at this;rw[Ë,e]at this;exact this
abbrev wk(W:List eh)(i:Nat):eh:=W.getD i (0,0,0)
abbrev sg(S:List I2)(j:Nat):I2:=S.getD j (0,0)
def tL(h:j<S.length):(S.map l8)[j]?=À (l8 (sg S j)):=by simp_all
def dU(xs:List D):du (.lst xs)=À (.int (xs.length:Int)):=rfl
def ju(W:List eh)(T:List (List Int))(i:Nat):Int:=(wk W i).2.2-kI T i
def rK(W:List eh)(S:List I2)(T:List (List Int))(i j:Nat):Int:=if (sg S j).1<(wk W i).1\/(wk W i).2.1<(sg S j).2 then 0 else (sg S j).2-(sg S j).1-eJ T i j
def rL(N:Nat)(S:List I2)(T:List (List Int))(j:Nat):Int:=((sg S j).2-(sg S j).1)*N-mK T j
section
def lD(hW:W.length=n)(h:dI T n m)(hi:i<n):bT [au W,tD T,.int (i:Int)]=À (.int (ju W T i)):=by apply bS iT;exact br (cR (aA (aA rfl rfl (sG (df (hW ▸ hi)))) rfl rfl) (cf (aA rfl rfl (zT (by rw[h.1];exact hi))) (iX _))) rfl
def K8(h:dI T n m)(hj:j<m)(hi:it O=À (T.map rM))(hs:∀r∈T,∃ ρ1,g (rM r) (r0 k cs O)=À ρ1/\el ρ1=À (.int (jc r j))):dy oU (dLst (dComp k cs it g dTrue el)) O=À (.int (mK T j)):=by refine cf (aI ?_) (iX (T.map λr=>jc r j));rw[ë];exact bh rM hi (λr=>D.int (jc r j)) hs
def L3(h:dI T n m)(hj:j<m)(hr:r∈T):yf (rM r) (j:Int)=À (.int (jc r j)):=sG (int_at (by rw[h.mem hr];exact hj))
def lZ{N:Nat}(hN:N<=8)(hS:S.length=m)(h:dI T n m)(hj:j<m):bW [.int (N:Int),bK S,tD T,.int (j:Int)]=À (.int (rL N S T j)):=by apply bS gm;exact wp_seq (ax (cR (aA (aA rfl rfl (sG (tL (hS ▸ hj)))) rfl rfl) (aA (aA rfl rfl (sG (tL (hS ▸ hj)))) rfl rfl)) (br (cR (ig rfl rfl (sI (.inr ⟨à _,by lia⟩))) (K8 h hj (aR rfl rfl) λr hr=>⟨_,rfl,ky (aA rfl rfl (L3 h hj hr)) rfl⟩)) rfl))
def sW(hW:W.length=n)(hS:S.length=m)(h:dI T n m)(hi:i<n)(hj:j<m):dO [au W,bK S,tD T,.int (i:Int),.int (j:Int)]=À (.int (rK W S T i j)):=by
 apply bS jy;refine wp_seq (ax (aA (aA rfl rfl (sG (tL (hS ▸ hj)))) rfl rfl) (wp_seq (ax (aA (aA rfl rfl (sG (tL (hS ▸ hj)))) rfl rfl) (wp_seq (jl (xD (cb (oM rfl (aA (aA rfl rfl (sG (df (hW ▸ hi)))) rfl rfl))) λ_=>cb (fB rfl (aA (aA rfl rfl (sG (df (hW ▸ hi)))) rfl rfl))) (λc=>?_) λc=>?_)))))
 ·rw[Ro,decide_eq_true_iff,decide_eq_true_iff]at c;exact br rfl (by unfold rK;rw[if_pos c])
 ·rw[Bool.or_eq_false_iff,decide_eq_false_iff_not,decide_eq_false_iff_not]at c;refine ba (br (cR (cR rfl rfl) (aA (aA rfl rfl (zT (by rw[h.1];exact hi))) rfl (Dz h hi hj))) ?_);unfold rK;rw[if_neg (by rintro(z |z);exact c.1 z;exact c.2 z)]
def Gb(W:List eh)(S:List I2)(T:List (List Int))(n m p:Nat):List Nat :=
 if n<=p then (ê n).filter λw=>decide (0<eJ T w (p-n)) else ((ê m).filter λj=>decide (0<rK W S T p j)).map (n+·)
def A7(W:List eh)(S:List I2)(T:List (List Int))(n m u v:Nat):Prop:=(u<n/\n<=v/\v<n+m/\0<rK W S T u (v-n))\/(n<=u/\v<n/\0<eJ T v (u-n))
def Az:v∈Gb W S T n m p↔A7 W S T n m p v:=by
 unfold Gb A7;by_cases c:n<=p
 ·rw[if_pos c,Ě,ö,decide_eq_true_iff];constructor
  ·simp_all
  ·rintro(h |h)
   ·lia
   ·exact⟨h.2.1,h.2.2⟩
 ·rw[if_neg c,ò];constructor
  ·rintro⟨j,hj,rfl⟩;simp_all
  ·rintro(h |h)
   ·exact⟨v-n,by grind,by lia⟩
   ·lia
def qt(h:a O=À (.int (k:Int)))(hk:k<=1000):jF a O=À ((ê k).map natD):=by have hline:=ă;rw[lF h ⟨à _,by lia⟩];congr 1;refine ę λi _=>?_;show D.int (0+i)=D.int i;rw[Tf]
def y4(hW:W.length=n)(hS:S.length=m)(hn:n<=8)(hm:m<=20)(h:dI T n m)(hp:p<n+m):dZ [au W,bK S,tD T,.int (p:Int)]=À (.lst ((Gb W S T n m p).map natD)):=by
 apply bS iN;refine wp_seq (ax (cf rfl (by unfold au;rw[dU,Ê,hW])) ?_);refine wp_seq (Dd (cb (ue rfl rfl)) (λc=>?_) λc=>?_)
 ·have c':n<=p:=Tg.1 c;refine br (aI (fe natD (qt rfl (by lia)) (λw=>decide (0<eJ T w (p-n))) natD λw hw=>⟨_,rfl,cb (fB (aA (aA rfl rfl (zT ?_)) (cR rfl rfl) ?_) rfl),λ_=>rfl⟩)) ?_
  ·rw[h.1];exact ö.mp hw
  ·rw[show (p:Int)-n=((p-n:Nat)) by lia];exact Dz h (ö.mp hw) (by lia)
  ·unfold Gb;rw[if_pos c']
 ·have c':¬n<=p:=by lia
  refine ba (br (aI (fe natD (qt (cf rfl (by unfold bK;rw[dU,Ê,hS])) (by lia)) (λj=>decide (0<rK W S T p j)) (λj=>natD (n+j)) λj hj=>⟨_,rfl,cb (fB (aC (ae rfl (ae rfl (ae rfl (ae rfl (ae rfl rfl))))) (sW hW hS h (O9.1 c') (ö.mp hj))) rfl),λ_=>?_⟩)) ?_)
  ·show À (D.int (n+j))=À (D.int ((n+j:Nat)));rw[Int.natCast_add]
  ·unfold Gb;rw[if_neg c',ë];rfl
end
def zz(p:Nat×Nat):Int×Int:=((p.1:Int),(p.2:Int))
def A1(p:Nat):(n8 (kvs.map zz) (p:Int)).isSome=decide (p∈keys kvs):=by
 unfold n8 keys;induction kvs with
 |nil=>rfl
 |cons q r ih =>
  rw[Ā,Ā,TM];by_cases c:q.1=p
  ·rw[show decide ((zz q).1=p)=Â by simp[zz,c]];simp[c]
  ·rw[decide_eq_false (by show ¬((q.1:Int)=p);lia)];rw[ih];have c':¬p=q.1:=λz=>c z.symm;simp only[Ú,c',false_or]
def HD(nd:(keys kvs).Nodup){t:Nat}(e:kvs[t]?=À (p,q)):n8 (kvs.map zz) (p:Int)=À (q:Int):=by
 unfold n8;unfold keys at nd;induction kvs generalizing t with
 |nil=>simp at e
 |cons x r ih =>
  rw[Ā,ā]at nd;rw[Ā,TM];cases t with
  |zero =>cases e;rw[show decide ((zz (p,q)).1=p)=Â by simp[zz]];rfl
  |succ t =>have:x.1≠p:=λz=>nd.1 (by rw[z];exact ò.mpr ⟨_,õ e,rfl⟩);rw[decide_eq_false (by show ¬((x.1:Int)=p);lia)];exact ih nd.2 e
def wY(h:p∉keys kvs)(q:Nat):mj (kvs.map zz) (p:Int) (q:Int)=(kvs++[(p,q)]).map zz:=by
 unfold mj;rw[if_neg,î]
 ·rfl
 ·rw[List.any_map,Pa];rintro⟨x,hx,e⟩;have e:=by simpa using e
  have:x.1=p:=by unfold zz at e;lia
  exact h (by rw[<-this];exact ò.mpr ⟨x,hx,rfl⟩)
theorem tJ:∀{rs:List Nat} {kvs:List (Nat×Nat)},rs.Nodup->(∀r∈rs,r∉keys kvs)->iw (rs.map λr:Nat=>(r:Int)) (kvs.map zz)=(kvs++rs.map λr=>(r,r)).map zz
 |[],kvs,_,_=>by rw[PR,PR,ě];rfl
 |r::rs,kvs,nd,h=>by
  obtain⟨n1,n2⟩:=ā.mp nd;show iw (rs.map λr:Nat=>r) (mj (kvs.map zz) r r)=_;rw[wY (h r Ò),tJ n2 λs hs=>?_]
  ·rw[ą];rfl
  ·rw[iE,â,not_or];exact⟨h s (Ñ _ hs),λz=>n1 (by simp_all)⟩
def xh(l:List Nat):l.map natD=(l.map λr:Nat=>(r:Int)).map D.int:=by rw[ë];rfl
structure C2(W:List eh)(S:List I2)(T:List (List Int))(n m:Nat)(kvs:List (Nat×Nat)):Prop where
 bf:Bf (λr=>r<n/\0<ju W T r) (A7 W S T n m) kvs
 roots:∀r,r<n->0<ju W T r->r∈keys kvs
 lt:∀p∈keys kvs,p<n+m
section
def K4(h:A7 W S T n m u v):v<n+m:=by
 unfold A7 at h
 lia
def C2.len(h:C2 W S T n m kvs):kvs.length<=n+m:=by rw[<-iF];exact qL h.bf.nd h.lt
def vd (hW:W.length=n) (hS:S.length=m) (hn:n≤8) (hm:m≤20) (h:dI T n m):∃ kvs:List (Nat×Nat),eM [au W,bK S,tD T]=some (.dct (kvs.map zz))∧C2 W S T n m kvs∧∀ p∈keys kvs,∀ v,A7 W S T n m p v→v∈keys kvs:=by
  have hline:Î=16777216:=ă;have eW:du (au W)=À (.int (n:Int)):=by unfold au;rw[dU,Ê,hW]
  obtain⟨d,e,kvs,rfl,hk⟩:=va kX (ds:=[au W,bK S,tD T]) (P:=λd=>∃kvs:List (Nat×Nat),d=.dct (kvs.map zz)/\C2 W S T n m kvs/\∀p∈keys kvs,∀v,A7 W S T n m p v->v∈keys kvs) (by
    rw[yx];unfold kE;generalize EZ:(ê n).filter (λi=>decide (0<ju W T i))=rs;have rnd:rs.Nodup:=by rw[<-EZ];exact QR.filter _
    have rmem:∀r,r∈rs↔r<n/\0<ju W T r:=λr=>by rw[<-EZ,Ě,ö,decide_eq_true_iff]
    have rlen:rs.length<=n:=qL rnd λr hr=>((rmem r).mp hr).1;refine wp_seq (dD (ds:=rs.map natD) ?_ (by simp only[Û,ð];exact Đ ..) ?_)
    · rw[<-EZ];exact fe natD (xs:=ê n) (qt (cf rfl eW) (by lia)) (λi=>decide (0<ju W T i)) natD λi hi=>⟨_,rfl,cb (fB (aC (ae rfl (ae rfl (ae rfl rfl))) (lD hW h (ö.mp hi))) rfl),λ_=>rfl⟩
    walk_at "st";refine wp_seq (Gr (by simp only[Û,ð];exact Đ ..) ?_);walk_at "st";refine wp_seq (Bs (ns:=rs.map λr:Nat=>(r:Int)) (kvs:=([]:List (Nat×Nat)).map zz) (by rw[<-xh];rfl) rfl ⟨by simp only[Û,ð];exact Đ ..,by decide,by decide,by decide,by simp only[PR,ð,Ê];lia⟩ ?_);rw[tJ rnd λr _ z=>by cases z];rw[Py];walk_at "st";refine wp_seq (ax rfl ?_);walk_at "st"
    have R0:C2 W S T n m (rs.map λr=>(r,r)):=by
      refine⟨Bf.roots rnd λr hr=>(rmem r).mp hr,λr h1 h2=>?_,λp hp=>?_⟩
      · exact ò.mpr ⟨(r,r),ò.mpr ⟨r,(rmem r).mpr ⟨h1,h2⟩,rfl⟩,rfl⟩
      · obtain⟨q,hq,rfl⟩:=ò.mp hp;obtain⟨r,hr,rfl⟩:=ò.mp hq;have:=((rmem r).mp hr).1;show r<n+m
        lia
    have k0:rs.map natD=(keys (rs.map λr=>(r,r))).map natD:=by unfold keys;rw[ë,ë];rfl
    rw[k0];refine wp_seq (jN (λk O=>∃(kvs:List (Nat×Nat)) (l:Nat) (v7 v8:Sl),k=n+m-l/\l<=kvs.length/\C2 W S T n m kvs/\(∀t p,t<l->key kvs t p->∀v,A7 W S T n m p v->v∈keys kvs)/\O=[.pu (au W),.pu (bK S),.bo (tD T),.ol ((keys kvs).map natD),.od (kvs.map zz),.un,.pu (.int (l:Int)),v7,v8]) (n+m) ⟨_,0,_,_,rfl,Ą _,R0,λt p ht=>by lia,rfl⟩ ?_);rintro k O ⟨kvs,l,v7,v8,rfl,hl,R,cl,rfl⟩;have hkl:=R.len;refine⟨_,cb (oM rfl (cf rfl (dU _))),λc=>?_,λc=>?_⟩
    · have c:(l:Int)<(((keys kvs).map natD).length:Int):=by simpa using c
      rw[Ê,iF]at c;have hlt:l<kvs.length:=ϗ.1 c;obtain⟨p,hp⟩:∃p,(keys kvs)[l]?=À p:=⟨_,É (by rw[iF];exact hlt)⟩
      have hpk:=KC hp;have hpl:=R.lt p (vG hpk);refine wp_seq (ax (d:=natD p) (zb rfl rfl rfl (by rw[Ö,hp];rfl)) ?_);walk_at "st";refine wp_seq (ng (x:=(l:Int)) (y:=1) rfl rfl ?_);walk_at "st";refine dq (ds:=(Gb W S T n m p).map natD) (aR (aC (ae rfl (ae rfl (ae rfl (ae rfl rfl)))) (y4 hW hS hn hm h hpl)) rfl) (λj O=>∃(kvs':List (Nat×Nat)) (v8:Sl),C2 W S T n m kvs'/\(∃more,kvs'=kvs++more)/\(∀v∈(Gb W S T n m p).take j,v∈keys kvs')/\O=[.pu (au W),.pu (bK S),.bo (tD T),.ol ((keys kvs').map natD),.od (kvs'.map zz),.un,.pu (.int ((l:Int)+1)),.pu (natD p),v8]) ⟨kvs,_,R,⟨[],by rw[ě]⟩,λv hv=>by simp at hv,rfl⟩ ?_ ?_
      · rintro j d O hd ⟨kvs',v8,R',⟨more,em⟩,hv,rfl⟩;rw[Ö]at hd;cases ed:(Gb W S T n m p)[j]? with
        |none=>rw[ed]at hd;cases hd
        |some v =>
          rw[ed]at hd;cases hd;refine⟨_,rfl,?_⟩;dsimp only[gN,pe,Ă,ý];have hpm:p∈keys kvs':=by rw[em];unfold keys;rw[î];exact ô _ (vG hpk)
          have hev:A7 W S T n m p v:=Az.mp (õ ed);have tk:(Gb W S T n m p).take (j+1)=(Gb W S T n m p).take j++[v]:=by rw[Ţ,ed];rfl
          have hl':=R'.len;refine jl (cb (K1 (k:=(v:Int)) (kvs:=kvs'.map zz) rfl rfl)) (λc=>?_) λc=>?_
          · have c:v∉keys kvs':=by rw[if_pos rfl,A1]at c;simpa using c
            refine wp_seq (Gu (kvs:=kvs'.map zz) (k:=(v:Int)) (v:=(p:Int)) rfl rfl rfl (by rw[Ê];lia) ?_);walk_at "st";rw[wY c p];refine Dg (ds:=(keys kvs').map natD) (d:=natD v) rfl rfl (by rw[Ê,iF];lia) ?_;walk_at "st";refine⟨kvs'++[(v,p)],_,⟨R'.bf.more c hpm hev,λr h1 h2=>?_,λq hq=>?_⟩,⟨more++[(v,p)],by rw[em,ą]⟩,λw hw=>?_,by rw[iE,î (f:=natD)];rfl⟩
            · rw[iE];exact ô _ (R'.roots r h1 h2)
            · rw[iE]at hq;rcases â.mp hq with hq |hq
              · exact R'.lt q hq
              · rw[Ð.mp hq];exact K4 hev
            · rw[iE];rw[tk]at hw;rcases â.mp hw with hw |hw
              · exact ô _ (hv w hw)
              · exact Ô _ hw
          · have c:v∈keys kvs':=by rw[if_pos rfl,A1]at c;simpa using c
            refine ba ⟨kvs',_,R',⟨more,em⟩,λw hw=>?_,rfl⟩;rw[tk]at hw;rcases â.mp hw with hw |hw
            · exact hv w hw
            · rw[Ð.mp hw];exact c
      · rintro O ⟨kvs',v8,R',⟨more,em⟩,hv,rfl⟩;rw[Ê,Ĺ]at hv;refine⟨n+m-(l+1),by lia,kvs',l+1,_,_,rfl,by rw[em,á];lia,R',λt q ht hk v hq=>?_,rfl⟩;have hk':key kvs t q:=by obtain⟨r,hr⟩:=hk;rw[em,ú (by lia)]at hr;exact⟨r,hr⟩
        by_cases ht':t<l
        · have:=cl t q ht' hk' v hq;rw[em];unfold keys;rw[î];exact ô _ this
        · have:t=l:=by lia
          subst this;have:q=p:=by obtain⟨r1,h1⟩:=hk';obtain⟨r2,h2⟩:=hpk;rw[h1]at h2;cases h2;rfl
          subst this;exact hv v (Az.mpr hq)
    · have c:¬(l:Int)<(((keys kvs).map natD).length:Int):=by simpa using c
      rw[Ê,iF]at c;have:l=kvs.length:=by lia
      subst this;refine C9 rfl ⟨kvs,rfl,R,λp hp v hv=>?_⟩;obtain⟨t,ht⟩:=mE hp;exact cl t p (by obtain⟨q,e⟩:=ht;exact(Ó.mp e).1) ht v hv)
  exact⟨kvs,e,hk⟩
end
def K2(h:c O=À x)(h1:x=Â->a O=À d)(h2:x=Ã->b O=À d):Mt c a b O=À d:=by
 unfold Mt;rw[h];cases x with
 |true=>exact h1 rfl
 |false=>exact h2 rfl
def AO(xs:List D)(d:D):yf (.lst (xs++[d])) (-1)=À d:=by show kB (xs++[d]) (-1)=À d;unfold kB ixN;rw[if_neg (by lia),á,ĥ,if_pos (by lia)];rw[show ((-1:Int)+((xs.length+1:Nat))).toNat=xs.length by lia];show (xs++[d])[xs.length]?=À d;rw[ï (Õ _),Q4];rfl
structure Wy(W:List eh)(S:List I2)(T:List (List Int))(n m w0:Nat)(ws ss:List Nat)(sl:Nat):Prop where
 len:(w0::ws).length=ss.length
 last:ss=ss.take ws.length++[sl]
 gn:∀p∈bL (w0::ws) ss,p.2<m/\0<rK W S T p.1 p.2
 ls:∀p∈bt (w0::ws) ss,0<eJ T p.1 p.2
 lt:∀w∈w0::ws,w<n
 nd:(w0::ws).Nodup
 root:0<ju W T w0
theorem zJ:∀{ws ss:List Nat},ws.length=ss.length->∀s∈ss,∃p∈ws.zip ss,p.2=s
 |[],[],_,s,h=>by cases h
 |w::ws,t::ss,hl,s,h=>by
  rcases Ú.mp h with rfl |h
  ·simp
  ·obtain⟨p,hp,e⟩:=zJ (by simpa using hl) s h;exact⟨p,by simp_all,e⟩
 |[],t::ss,hl,_,_=>by simp at hl
 |w::ws,[],hl,_,_=>by simp at hl
section
def Wy.slt(h:Wy W S T n m w0 ws ss sl):∀s∈ss,s<m:=λs hs=>by obtain⟨p,hp,e⟩:=zJ h.len s hs;rw[<-e];exact(h.gn p hp).1
def Wy.LQ(h:Wy W S T n m w0 ws ss sl):sl<m:=h.slt sl (by rw[h.last];simp)
def Je(hn:n<=8)(hm:m<=20)(R:C2 W S T n m kvs)(hp:place∈keys kvs)(hpl:n<=place):∃(w0:Nat) (ws ss:List Nat),j8 [.dct (kvs.map zz),.int (place:Int),.int (n:Int)]=À (.lst ((cU 0 (w0::ws) ss).map natD))/\Wy W S T n m w0 ws ss (place-n):=by
  have hline:Î=16777216:=ă;obtain⟨t0,ht0⟩:=mE hp
  obtain⟨d,e,w0,ws,ss,rfl,hk⟩:=ph mT (ds:=[.dct (kvs.map zz),.int (place:Int),.int (n:Int)]) (P:=λd=>∃(w0:Nat) (ws ss:List Nat),d=.lst ((cU 0 (w0::ws) ss).map natD)/\Wy W S T n m w0 ws ss (place-n)) (by
    rw[BD];unfold mY;refine wp_seq (dD (ds:=[place].reverse.map natD) rfl (by simp only[Û,ð];exact Õ _) ?_);walk_at "st";refine wp_seq (jN (λt O=>∃(x:Nat) (r:List Nat),Bk (A7 W S T n m) kvs place t (x::r)/\O=[.pu (.dct (kvs.map zz)),.pu (.int (place:Int)),.pu (.int (n:Int)),.ol ((x::r).reverse.map natD)]) t0 ⟨place,[],Bk.one ht0,rfl⟩ ?_);rintro t O ⟨x,r,B,rfl⟩;obtain⟨x',r',e1,q,eq⟩:=B.front;cases e1;have el:∀ O:aW,dVar 3 O=À (.lst ((x::r).reverse.map natD))->dIx (dVar 3) (iI (dC (.int 1))) O=À (natD x):=λO h=>by refine aA h (j3 rfl) ?_;rw[Th,î];exact AO _ _
    have eg:∀ O:aW,dVar 0 O=À (.dct (kvs.map zz))->dVar 3 O=À (.lst ((x::r).reverse.map natD))->rj (dVar 0) (dIx (dVar 3) (iI (dC (.int 1)))) O=À (natD q):=λO h0 h3=>HJ h0 (el O h3) (HD R.bf.nd eq);have hlen:(x::r).length<=n+m:=qL B.nd λy hy=>by obtain⟨u,_,hu⟩:=B.up y hy;exact R.lt y (vG hu)
    refine⟨_,cb (zm (eg _ rfl rfl) (el _ rfl)),λc=>?_,λc=>?_⟩
    · have c:q≠x:=by
        have c:¬((q:Int)=(x:Int)):=by simpa using c
        intro z;exact c (by rw[z])
      obtain⟨u,hu,B'⟩:=Bk.step R.bf B eq c;refine Dg (ds:=(x::r).reverse.map natD) (d:=natD q) rfl (eg _ rfl rfl) (by rw[Ê,Ϸ];lia) ?_;walk_at "st";refine⟨u,hu,q,x::r,B',?_⟩;rw[Th (a:=q),î];rfl
    · have c:q=x:=by
        have c:(q:Int)=(x:Int):=by simpa using c
        lia
      subst c;have hr:=R.bf.root eq;obtain⟨ws,ss,a1,a2,a3,a4,a5,a6,a7⟩:=alt (wr:=λu j=>0<rK W S T u j) (tb:=λv j=>0<eJ T v j) r.length q r (Õ _) B.Oa hr.1 place B.last hpl;refine br (aI (bh natD (xs:=q::r) ?_ (λe=>natD (if e<n then e else e-n)) λe he=>⟨_,rfl,?_⟩)) ⟨q,ws,ss,?_,a2,a7,a3,a4,a5,a6.nodup B.nd,hr.2⟩
      · rw[KZ (aR rfl rfl),<-List.map_reverse,RO]
      · refine K2 (cb (oM rfl rfl)) (λz=>?_) λz=>?_
        · rw[if_pos (by lia)];rfl
        · have z:¬(e:Int)<n:=by simpa using z
          rw[if_neg (by lia)];show À (D.int (e-n))=À (D.int ((e-n:Nat)));rw[show (e:Int)-n=((e-n:Nat)) by lia]
      · have:=xt (q::ws) ss a5;rw[<-a1]at this;rw[<-this,ë];rfl)
  exact⟨w0,ws,ss,e,hk⟩
def uX{N:Nat}(hW:W.length=n)(hS:S.length=m)(hn:n<=8)(hm:m<=20)(hN:N<=8)(h:dI T n m) :
    (bX [au W,.int (N:Int),bK S,tD T]=À (.lst [])/\∃kvs,C2 W S T n m kvs/\(∀p∈keys kvs,∀v,A7 W S T n m p v->v∈keys kvs)/\∀j,n+j∈keys kvs->rL N S T j<=0) \/
    ∃(w0:Nat) (ws ss:List Nat) (sl:Nat),bX [au W,.int (N:Int),bK S,tD T]=À (.lst ((cU 0 (w0::ws) ss).map natD))/\Wy W S T n m w0 ws ss sl/\0<rL N S T sl:=by
  have eW:du (au W)=À (.int (n:Int)):=by unfold au;rw[dU,Ê,hW]
  obtain⟨kvs,ek,R,cl⟩:=vd hW hS hn hm h
  obtain⟨d,e,hd⟩:=ph gp (ds:=[au W,.int (N:Int),bK S,tD T]) (P:=λd=>(d=.lst []/\∀j,n+j∈keys kvs->rL N S T j<=0)\/∃(w0:Nat) (ws ss:List Nat) (sl:Nat),d=.lst ((cU 0 (w0::ws) ss).map natD)/\Wy W S T n m w0 ws ss sl/\0<rL N S T sl) (by
    rw[oV];unfold ee;refine wp_seq (C8 (ae rfl (ae rfl (ae rfl rfl))) ek (by simp only[Û,ð];exact Đ ..) ?_);walk_at "st";refine wp_seq (Gv (kvs:=kvs.map zz) rfl (λj O=>∃(v5 v6:Sl),(∀i p,i<j->(keys kvs)[i]?=À p->∀k,p=n+k->rL N S T k<=0)/\O=[.pu (au W),.pu (.int (N:Int)),.pu (bK S),.bo (tD T),.pu (.dct (kvs.map zz)),v5,v6]) ⟨_,_,λi p hi=>by lia,rfl⟩ ?_ ?_)
    · rintro j O p hp ⟨v5,v6,hv,rfl⟩;rw[Ö]at hp;cases ep:kvs[j]? with
      |none=>rw[ep]at hp;cases hp
      |some q =>
        rw[ep]at hp;cases hp;refine⟨_,rfl,?_⟩;dsimp only[gN,pe,Ă,ý];have hkj:(keys kvs)[j]?=À q.1:=by unfold keys;rw[Ö,ep];rfl
        have hq:q.1∈keys kvs:=õ hkj;have hql:=R.lt _ hq;refine wp_seq (ax (d:=.int ((q.1:Int)-(n:Int))) (cR rfl (cf rfl eW)) ?_);walk_at "st";by_cases c:n<=q.1
        · have es:bW [.int (N:Int),bK S,tD T,.int ((q.1:Int)-(n:Int))]=À (.int (rL N S T (q.1-n))):=by rw[show (q.1:Int)-(n:Int)=((q.1-n:Nat):Int) by lia];exact lZ hN hS h (by lia)
          refine jl (ja (cb (ue rfl rfl)) λ_=>cb (fB (aC (ae rfl (ae rfl (ae rfl (ae rfl rfl)))) es) rfl)) (λz=>?_) λz=>?_
          · rw[Υ,decide_eq_true_iff,decide_eq_true_iff]at z;obtain⟨w0,ws,ss,ew,hw⟩:=Je hn hm R hq c;exact br (aC (ae rfl (ae rfl (ae (cf rfl eW) rfl))) ew) (.inr ⟨w0,ws,ss,_,rfl,hw,z.2⟩)
          · refine ba ⟨_,_,λi p hi ei k ek=>?_,rfl⟩;by_cases hij:i<j
            · exact hv i p hij ei k ek
            · have:i=j:=by lia
              subst this;rw[hkj]at ei;cases ei;rw[Bool.and_eq_false_iff,decide_eq_false_iff_not,decide_eq_false_iff_not]at z;rw[show q.1-n=k by lia]at z
              lia
        · refine cw ?_ (ba ⟨_,_,λi p hi ei k ek=>?_,rfl⟩)
          · refine(ja (x:=Ã) (y:=Ã) (cb ?_) λz=>by cases z);rw[ue (i:=(q.1:Int)-(n:Int)) (j:=0) rfl rfl];exact congrArg (λb=>À (D.bl b)) (decide_eq_false (by lia))
          · by_cases hij:i<j
            · exact hv i p hij ei k ek
            · have:i=j:=by lia
              lia
    · rintro O ⟨v5,v6,hv,rfl⟩;refine br rfl (.inl ⟨rfl,λj hj=>?_⟩);obtain⟨t,ht⟩:=Ϡ.mp hj;refine hv t _ ?_ ht j rfl;rw[Ê,<-iF];exact(Ó.mp ht).1)
  rcases hd with⟨rfl,hj⟩ |⟨w0,ws,ss,sl,rfl,hw⟩
  · exact .inl ⟨e,kvs,R,cl,hj⟩
  · exact .inr ⟨w0,ws,ss,sl,e,hw⟩
end
def pD(p:Nat×Nat):D:=.tup [natD p.1,natD p.2]
theorem yg:∀(ws ss:List Nat),CS (ws.map natD) (ss.map natD)=(ws.zip ss).map pD
 |[],_=>rfl
 |_::_,[]=>rfl
 |w::ws,s::ss=>by have:=yg ws ss;unfold CS at this ⊢;rw[Ā,Ā,Rc,this];rfl
def tR(T:List (List Int)):List (List D):=T.map λr=>r.map D.int
def DD(T:List (List Int)):(tR T).length=T.length:=Ê ..
def Im(h:i<T.length):(tR T)[i]?=À ((iH T i).map D.int):=by unfold tR iH;rw[Ö,Ë,É h];rfl
def DF:(tR T).set i (((iH T i).map D.int).set j (.int (eJ T i j+a)))=tR (mQ T i j a):=by unfold mQ tR;rw[ϴ,ϴ]
def Hq(h:l≠[]):∃a,minD (.lst (l.map D.int))=À (.int a)/\a∈l/\∀x∈l,a<=x:=by
 cases l with
 |nil=>exact absurd rfl h
 |cons x r=>exact⟨_,tZ x r,iC r x⟩
section
def rC{ps:List (Nat×Nat)}(hr:dI T n m)(hp:∀p∈ps,p.1<n/\p.2<m)(j:Nat):dI (bV T (ps.take j) a) n m:=(kC hr λp hp'=>hp p (ģ hp')).1
def oS(T:List (List Int))(ps:List (Nat×Nat))(p:Nat×Nat)(a:Int):bV T (ps++[p]) a=mQ (bV T ps a) p.1 p.2 a:=by unfold bV;rw[Qv];rfl
def y7(hW:W.length=n)(hS:S.length=m)(hn:n<=8)(hm:m<=20)(hN:N<=8)(h:dI T n m)(y:Wy W S T n m w0 ws ss sl)(hs:0<rL N S T sl):∃a:Int,0<a/\a<=ju W T w0/\a<=rL N S T sl/\(∀p∈bL (w0::ws) ss,a<=rK W S T p.1 p.2)/\(∀p∈bt (w0::ws) ss,a<=eJ T p.1 p.2) /\
 ∀q qs,d6 q qs [au W,.int (N:Int),bK S,tD T,.lst ((cU 0 (w0::ws) ss).map natD)]=À (tR (moved T (w0::ws) ss a)):=by
 have hline:Î=16777216:=ă;have hwl:(w0::ws).length<=n:=qL y.nd y.lt;generalize hl:(ju W T w0::rL N S T sl::((bL (w0::ws) ss).map λp=>rK W S T p.1 p.2))++((bt (w0::ws) ss).map λp=>eJ T p.1 p.2)=l;obtain⟨a,ea,ha,hmin⟩:=Hq (l:=l) (by rw[<-hl];simp)
 have pos:∀x∈l,0<x:=λx hx=>by
  rw[<-hl]at hx;rcases â.mp hx with hx |hx
  ·rcases Ú.mp hx with rfl |hx
   ·exact y.root
   ·rcases Ú.mp hx with rfl |hx
    ·exact hs
    ·obtain⟨p,hp,rfl⟩:=ò.mp hx;exact(y.gn p hp).2
  ·obtain⟨p,hp,rfl⟩:=ò.mp hx;exact y.ls p hp
 have inL:∀x,x∈l↔x∈(ju W T w0::rL N S T sl::((bL (w0::ws) ss).map λp=>rK W S T p.1 p.2))++((bt (w0::ws) ss).map λp=>eJ T p.1 p.2):=λx=>by rw[hl]
 refine⟨a,pos a ha,hmin _ ((inL _).mpr (ô _ Ò)),hmin _ ((inL _).mpr (ô _ (Ñ _ Ò))),λp hp=>hmin _ ((inL _).mpr (ô _ (Ñ _ (Ñ _ (ò.mpr ⟨p,hp,rfl⟩))))),λp hp=>hmin _ ((inL _).mpr (Ô _ (ò.mpr ⟨p,hp,rfl⟩))),λq qs=>?_⟩;have gl:∀p∈bL (w0::ws) ss,p.1<n/\p.2<m:=λp hp=>⟨y.lt _ (Ŕ (a:=p.1) (b:=p.2) hp).1,(y.gn p hp).1⟩
 have ll:∀p∈bt (w0::ws) ss,p.1<n/\p.2<m:=λp hp=>⟨y.lt _ (Ģ (Ŕ (a:=p.1) (b:=p.2) hp).1),y.slt _ (Ŕ (a:=p.1) (b:=p.2) hp).2⟩
 refine Ha iO (rows:=tR T) (by rw[show cS (tR T)=tD T from ki T];rfl) ?_;rw[rQ];dsimp only[Ă,ý];unfold fL;have il:=xu 0 (w0::ws) ss y.len;have sl2:∀(O:aW) (lo:aW->Option (Option Int)) (k:Nat),dVarI 4 O=À (.lst ((cU 0 (w0::ws) ss).map natD))->lo O=À (À (k:Int))->dLst (oZ (dVarI 4) lo gP (eA (dC (.int 2)))) O=À (.lst ((pE ((cU 0 (w0::ws) ss).drop k)).map natD)):=λO lo k h4 hlo=>by have q:=Fd (a:=dVarI 4) (lo:=lo) (hi:=gP) (st:=eA (dC (.int 2))) (ds:=(cU 0 (w0::ws) ss).map natD) (aR h4 rfl) hlo rfl rfl ⟨by decide,by have:=ir (À (k:Int)) ((cU 0 (w0::ws) ss).map natD).length k (.inl rfl);rw[Ê]at this ⊢;lia⟩;rw[Et _ k _ (.inl rfl),<-Uv,A5]at q;exact aI q
 have e0:pE ((cU 0 (w0::ws) ss).drop 0)=w0::ws:=qU 0 (w0::ws) ss y.len;have e1:pE ((cU 0 (w0::ws) ss).drop 1)=ss:=by rw[xb 0 (w0::ws) ss y.len];rw[show (λx:Nat=>0+x)=id from funext λx=>Nat.zero_add x,Qx]
 have e2:pE ((cU 0 (w0::ws) ss).drop 2)=(w0::ws).drop 1:=Cw 0 (w0::ws) ss y.len;refine wp_seq (ax (d:=.lst ((bL (w0::ws) ss).map pD)) (aI ?_) ?_)
 ·rw[zl (aR (sl2 _ _ 0 rfl rfl) rfl) (aR (sl2 _ _ 1 rfl rfl) rfl),e0,e1,yg];rfl
 walk_at "st";refine wp_seq (ax (d:=.lst ((bt (w0::ws) ss).map pD)) (aI ?_) ?_)
 ·rw[zl (aR (sl2 _ _ 2 rfl rfl) rfl) (aR (sl2 _ _ 1 rfl rfl) rfl),e2,e1,yg];rfl
 walk_at "st";have t0:∀ O:aW,O.getD 3 .un=.pm q qs (tR T)->dVar 3 O=À (tD T):=λO h3=>by unfold dVar;rw[h3];dsimp only;rw[<-ki];rfl
 obtain⟨ss',ess⟩:∃ss',ss=ss'++[sl]:=⟨_,y.last⟩
 have elast:∃xs,(cU 0 (w0::ws) ss).map natD=xs++[natD sl]:=by
  have key:∀(ws us:List Nat),ws.length=us.length+1->∃xs,(cU 0 ws (us++[sl])).map natD=xs++[natD sl]:=by
   intro ws us;induction us generalizing ws with
   |nil =>
    intro h
    match ws,h with
    |[w],_=>exact⟨[natD w],by show [natD w,natD (0+sl)]=_;rw[Nat.zero_add];rfl⟩
   |cons u us ih =>
    intro h
    match ws,h with
    |w::ws,h =>obtain⟨xs,e⟩:=ih ws (by simpa using h);exact⟨natD w::natD (0+u)::xs,by show natD w::natD (0+u)::(cU 0 ws (us++[sl])).map natD=_;rw[e];rfl⟩
  have hlen:=y.len;rw[ess]at hlen ⊢;exact key (w0::ws) ss' (by rw[hlen,á];rfl)
 have ehead:∃xs,(cU 0 (w0::ws) ss).map natD=natD w0::xs:=by
  have hlen:=y.len;cases ss with
  |nil=>simp at hlen
  |cons s r=>exact⟨_,rfl⟩
 obtain⟨x1,ex1⟩:=elast;obtain⟨x2,ex2⟩:=ehead;have hl0:∀ O:aW,dVarI 0 O=À (au W)->O.getD 3 .un=.pm q qs (tR T)->dVar 4 O=À (.lst ((cU 0 (w0::ws) ss).map natD))->aJ bT (dCons (dVarI 0) (dCons (dVar 3) (dCons (dIx (dVar 4) (dC (.int 0))) dNil))) O=À (.int (ju W T w0)):=λO h0 h3 h4=>aC (ae h0 (ae (t0 O h3) (ae (aA (e:=natD w0) h4 rfl (by rw[ex2];exact sF (a:=0) rfl rfl)) rfl))) (lD hW h (y.lt _ Ò));have hr0:∀ O:aW,dVarI 1 O=À (.int (N:Int))->dVarI 2 O=À (bK S)->O.getD 3 .un=.pm q qs (tR T)->dVar 4 O=À (.lst ((cU 0 (w0::ws) ss).map natD))->aJ bW (dCons (dVarI 1) (dCons (dVarI 2) (dCons (dVar 3) (dCons (dIx (dVar 4) (iI (dC (.int 1)))) dNil)))) O=À (.int (rL N S T sl)):=λO h1 h2 h3 h4=>aC (ae h1 (ae h2 (ae (t0 O h3) (ae (aA (e:=natD sl) h4 (j3 rfl) (by rw[ex1];exact AO _ _)) rfl)))) (lZ hN hS h y.LQ);refine wp_seq (dD (ds:=[ju W T w0,rL N S T sl].map D.int) (ae (hl0 _ rfl rfl rfl) (ae (hr0 _ rfl rfl rfl rfl) rfl)) (by simp only[Û,ð];exact Đ ..) ?_);walk_at "st";have gln:(bL (w0::ws) ss).length<=8:=by unfold bL;rw[PB];lia
 have lln:(bt (w0::ws) ss).length<=8:=by unfold bt;rw[PB,ğ];lia
 have vw:∀(k:Nat) (cs:List Nat) (O:aW),True:=λ_ _ _=>trivial;refine wp_seq (ym (ds:=[ju W T w0,rL N S T sl].map D.int) (es:=((bL (w0::ws) ss).map λp=>rK W S T p.1 p.2).map D.int) rfl (aI ?_) (by rw[Ê,Ê,Ê,Û,Û,ð];lia) ?_)
 ·rw[show ((bL (w0::ws) ss).map λp=>rK W S T p.1 p.2).map D.int=(bL (w0::ws) ss).map λp=>D.int (rK W S T p.1 p.2) by rw[ë];rfl];refine bh pD (xs:=bL (w0::ws) ss) ?_ (λp=>D.int (rK W S T p.1 p.2)) ?_
  ·exact aR rfl rfl
  intro p hp;refine⟨_,rfl,?_⟩;refine aC (ae rfl (ae rfl (ae (d:=tD T) ?_ (ae rfl (ae rfl rfl))))) (sW hW hS h (gl p hp).1 (gl p hp).2);show À (D.lst ((tR T).map D.lst))=_;rw[<-ki];rfl
 walk_at "st";refine wp_seq (ym (ds:=[ju W T w0,rL N S T sl].map D.int++((bL (w0::ws) ss).map λp=>rK W S T p.1 p.2).map D.int) (es:=((bt (w0::ws) ss).map λp=>eJ T p.1 p.2).map D.int) rfl (aI ?_) (by rw[á,Ê,Ê,Ê,Ê,Ê,Û,Û,ð];lia) ?_)
 ·rw[show ((bt (w0::ws) ss).map λp=>eJ T p.1 p.2).map D.int=(bt (w0::ws) ss).map λp=>D.int (eJ T p.1 p.2) by rw[ë];rfl];refine bh pD (xs:=bt (w0::ws) ss) ?_ (λp=>D.int (eJ T p.1 p.2)) ?_
  ·exact aR rfl rfl
  intro p hp;refine⟨_,rfl,?_⟩;refine ky (aA (aA (d:=tD T) ?_ rfl (zT (by rw[h.1];exact(ll p hp).1))) rfl (Dz h (ll p hp).1 (ll p hp).2)) rfl;show À (D.lst ((tR T).map D.lst))=_;rw[<-ki];rfl
 walk_at "st";rw[<- î,<- î,show ([ju W T w0,rL N S T sl]++(bL (w0::ws) ss).map λp=>rK W S T p.1 p.2)++((bt (w0::ws) ss).map λp=>eJ T p.1 p.2)=l from hl];refine wp_seq (ax (d:=.int a) (cf rfl ea) ?_);walk_at "st";refine wp_seq (dq (ds:=(bL (w0::ws) ss).map pD) (aR rfl rfl) (λj O=>∃v9 v10:Sl,O=[.pu (au W),.pu (.int (N:Int)),.pu (bK S),.pm q qs (tR (bV T ((bL (w0::ws) ss).take j) a)),.pu (.lst ((cU 0 (w0::ws) ss).map natD)),.pu (.lst ((bL (w0::ws) ss).map pD)),.pu (.lst ((bt (w0::ws) ss).map pD)),.ol (l.map D.int),.pu (.int a),v9,v10]) ⟨_,_,rfl⟩ ?_ ?_)
 ·rintro j d O hd ⟨v9,v10,rfl⟩;rw[Ö]at hd;cases ed:(bL (w0::ws) ss)[j]? with
  |none=>rw[ed]at hd;cases hd
  |some p =>rw[ed]at hd;cases hd;refine⟨_,rfl,?_⟩;dsimp only[gN,pe,Ă,ý];obtain⟨p1,p2⟩:=gl p (õ ed);have hR:=rC (a:=a) h gl j;rw[Ţ,ed,show (À p).toList=[p] from rfl,oS];generalize bV T ((bL (w0::ws) ss).take j) a=T1 at hR;refine wo (n:=(p.1:Int)) (r:=p.1) (m:=(p.2:Int)) (j:=p.2) (x:=eJ T1 p.1 p.2) (y:=a) (ds:=(iH T1 p.1).map D.int) rfl rfl (by rw[DD,hR.1];exact lC p1) (Im (by rw[hR.1];exact p1)) rfl (by rw[Ê,hR.2 _ p1];exact lC p2) (int_at (by rw[hR.2 _ p1];exact p2)) rfl ?_;rw[DF];exact⟨_,_,rfl⟩
 ·rintro O ⟨v9,v10,rfl⟩;rw[Ê,Ĺ];have hR1:=rC (a:=a) h gl (bL (w0::ws) ss).length;rw[Ĺ]at hR1;refine dq (ds:=(bt (w0::ws) ss).map pD) (aR rfl rfl) (λj O=>∃v9 v10:Sl,O=[.pu (au W),.pu (.int (N:Int)),.pu (bK S),.pm q qs (tR (bV (bV T (bL (w0::ws) ss) a) ((bt (w0::ws) ss).take j) (-a))),.pu (.lst ((cU 0 (w0::ws) ss).map natD)),.pu (.lst ((bL (w0::ws) ss).map pD)),.pu (.lst ((bt (w0::ws) ss).map pD)),.ol (l.map D.int),.pu (.int a),v9,v10]) ⟨_,_,rfl⟩ ?_ ?_
  ·rintro j d O hd ⟨v9,v10,rfl⟩;rw[Ö]at hd;cases ed:(bt (w0::ws) ss)[j]? with
   |none=>rw[ed]at hd;cases hd
   |some p =>rw[ed]at hd;cases hd;refine⟨_,rfl,?_⟩;dsimp only[gN,pe,Ă,ý];obtain⟨p1,p2⟩:=ll p (õ ed);have hR:=rC (a:=-a) hR1 ll j;rw[Ţ,ed,show (À p).toList=[p] from rfl,oS];generalize bV (bV T (bL (w0::ws) ss) a) ((bt (w0::ws) ss).take j) (-a)=T1 at hR;refine wo (n:=(p.1:Int)) (r:=p.1) (m:=(p.2:Int)) (j:=p.2) (x:=eJ T1 p.1 p.2) (y:=a) (ds:=(iH T1 p.1).map D.int) rfl rfl (by rw[DD,hR.1];exact lC p1) (Im (by rw[hR.1];exact p1)) rfl (by rw[Ê,hR.2 _ p1];exact lC p2) (int_at (by rw[hR.2 _ p1];exact p2)) rfl ?_;rw[show eJ T1 p.1 p.2-a=eJ T1 p.1 p.2+-a from Int.sub_eq_add_neg,DF];exact⟨_,_,rfl⟩
  ·rintro O ⟨v9,v10,rfl⟩;rw[Ê,Ĺ];rfl
end
def jx(W:List eh):List Int:=(W.map λw=>w.1)++W.map λw=>w.2.1
def ug(W:List eh):(jx W).length=2*W.length:=by unfold jx;rw[á,Ê,Ê];lia
def uR(h:j6 ns ms):ms.Pairwise (· < ·):=by
 refine ŧ (λ{a b} _ _ q=>?_) (List.Pairwise.and h.1 h.2.2)
 lia
def zZ(he:j6 (jx W) es):es.length<=2*W.length:=by rw[<-ug];exact ϊ he.1 λx hx=>(he.2.1 x).mp hx
theorem vn:∀es:List Int,(jL es).length=es.length-1
 |[]=>rfl
 |[x]=>rfl
 |x::y::r=>by have:=vn (y::r);show (jL (y::r)).length+1=_;rw[this];rfl
theorem Ar:∀es:List Int,jL es=es.zip (es.drop 1)
 |[]=>rfl
 |[x]=>rfl
 |x::y::r=>by have:=Ar (y::r);show (x,y)::jL (y::r)=_;rw[this];rfl
theorem tW:∀es:List Int,jL es=(ê (es.length-1)).map λk=>(es.getD k 0,es.getD (k+1) 0)
 |[]=>rfl
 |[x]=>rfl
 |x::y::r=>by show (x,y)::jL (y::r)=_;rw[(tW (y::r)),show (x::y::r).length-1=r.length+1 from rfl,Ż,Ā,ë];rfl
def HK(hW:W.length<=8)(he:j6 (jx W) es)(ha:a O=À (.lst ((W.map λw=>w.1).map D.int)))(hb:b O=À (.lst ((W.map λw=>w.2.1).map D.int))):dLst (rf (dLst (rm a b))) O=À (.lst (es.map D.int)):=by have hline:=ă;refine aI (xK (aR (aI (qV ha hb (by rw[Ê,Ê,Ê,Ê];lia))) ?_) (by rw[ug];lia) he);unfold jx;rw[î];rfl
theorem C3:∀(xs ys:List Int),CS (xs.map D.int) (ys.map D.int)=(xs.zip ys).map λp=>D.tup [.int p.1,.int p.2]
 |[],_=>rfl
 |_::_,[]=>rfl
 |x::xs,y::ys=>by have:=C3 xs ys;unfold CS at this ⊢;rw[Ā,Ā,Rc,this];rfl
def ND(ds:List D):CH ds (À 1) Á=ds.drop 1:=by
 cases ds with
 |nil=>rfl
 |cons d r =>show ((d::r).take (d::r).length).drop 1=_;rw[Ĺ]
def uI(hW:W.length<=8)(he:j6 (jx W) es):c0 [au W]=À (bK (jL es)):=by
 apply bS gh;refine wp_seq (ax (HK hW he (aI ?_) (aI ?_)) ?_)
 ·rw[ë];exact bh (λw=>D.lst (cH w)) (aR rfl rfl) (λw=>D.int w.1) λw _=>⟨_,rfl,aA rfl rfl rfl⟩
 ·rw[ë];exact bh (λw=>D.lst (cH w)) (aR rfl rfl) (λw=>D.int w.2.1) λw _=>⟨_,rfl,aA rfl rfl rfl⟩
 refine br (aI ?_) rfl;rw[Ar];refine bh (λp=>D.tup [.int p.1,.int p.2]) ?_ l8 λp _=>⟨_,rfl,aI (ae rfl (ae rfl rfl))⟩
 rw[zl (aR rfl rfl) (aR (aI (IX (aR rfl rfl) rfl rfl)) (by rw[ND,<-Uv];rfl)),C3]
def xX(W:List eh)(S:List I2)(i j:Nat):Int:=if (sg S j).1<(wk W i).1\/(wk W i).2.1<(sg S j).2 then 0 else (sg S j).2-(sg S j).1
abbrev lM(W:List eh)(S:List I2)(N n m:Nat)(T:List (List Int)):Prop:=Gi n m (xX W S) (λi=>(wk W i).2.2) (λj=>((sg S j).2-(sg S j).1)*N) T
def Gq(h:0<rK W S T i j):rK W S T i j=xX W S i j-eJ T i j:=by
 unfold rK xX at *;by_cases c:(sg S j).1<(wk W i).1\/(wk W i).2.1<(sg S j).2
 ·rw[if_pos c]at h;lia
 ·rw[if_neg c,if_neg c]
theorem zF:∀{l:List Nat} {w:Nat},l.Nodup->w∈l->SM l (λi=>if w=i then a else 0)=a
 |[],_,_,h=>by cases h
 |x::l,w,nd,h=>by
  obtain⟨n1,n2⟩:=ā.mp nd;rw[bp];by_cases c:w=x
  ·subst c;rw[if_pos rfl,dX λi hi=>if_neg λz=>n1 (by rw[z];exact hi),pM]
   lia
  ·rw[if_neg c,zF n2 (by simp_all)]
   lia
theorem FP{f:α->Int}:∀{l:List α},(∀x∈l,0<=f x)->0<=SM l f
 |[],_=>ř _
 |x::l,h=>by
  rw[bp];have:=h x Ò;have:=FP λy hy=>h y (Ñ _ hy)
  lia
def Full(W:List eh)(S:List I2)(N n m:Nat)(T:List (List Int)):Prop:=∃kvs,C2 W S T n m kvs/\(∀p∈keys kvs,∀v,A7 W S T n m p v->v∈keys kvs)/\∀j,n+j∈keys kvs->rL N S T j<=0
def pO(h:i<n):iH (æ n (æ m (0:Int))) i=æ m 0:=by unfold iH;rw[Ë,đ,if_pos h];rfl
def wg(m:Nat):(æ m (0:Int)).sum=0:=by simp
def wm:jc (æ m (0:Int)) j=0:=by unfold jc;rw[Ë,đ];split <;> rfl
section
def Nw(hg:∀w∈W,Gf w)(hW:W.length=n)(hS:S.length=m)(hlt:∀s∈S,s.1<s.2):lM W S N n m (æ n (æ m 0)):=by
 have hs:∀j,j<m->(sg S j).1<(sg S j).2:=λj hj=>hlt _ (by simp_all);have hw:∀i,i<n->0<=(wk W i).2.2:=λi hi=>(hg _ (by simp_all)).2.2;have hc:∀i j,i<n->eJ (æ n (æ m 0)) i j=0:=λi j hi=>by unfold eJ;rw[pO hi,wm]
 refine⟨⟨ü,λi hi=>by rw[pO hi,ü]⟩,λi j hi hj=>by simp_all,λi j hi hj=>?_,λi hi=>?_,λj hj=>?_⟩
 ·rw[hc i j hi];have:=hs j hj;unfold xX;split <;> lia
 ·unfold kI;rw[pO hi,wg];exact hw i hi
 ·unfold mK;rw[OI,wm,wg];have:=hs j hj;exact Ϯ (by lia) (à _)
def JN{N:Nat}(hW:W.length=n)(hn:n<=8)(hN:N<=8)(hg:∀w∈W,Gf w)(he:j6 (jx W) es):∃T,c8 [au W,.int (N:Int)]=À (.tup [bK (jL es),tD T])/\lM W (jL es) N n (jL es).length T/\Full W (jL es) N n (jL es).length T:=by
  have hline:Î=16777216:=ă;have hel:=zZ he;have hlt:=uR he;generalize hS:jL es=S;have hSl:S.length<=20:=by rw[<-hS,vn];lia
  have hSlt:∀s∈S,s.1<s.2:=λs hs=>by rw[<-hS]at hs;exact(qB hlt s hs).1
  have eS:=uI (hW ▸ hn) he;rw[hS]at eS;generalize hm:S.length=m;have hm20:m<=20:=hm ▸ hSl;have eL:du (bK S)=À (.int (m:Int)):=by unfold bK;rw[dU,Ê,hm]
  obtain⟨d,e,T,rfl,hT⟩:=ph mU (ds:=[au W,.int (N:Int)]) (P:=λd=>∃T,d=.tup [bK S,tD T]/\lM W S N n m T/\Full W S N n m T) (by
    rw[BE];unfold mZ;refine wp_seq (ax (aC (ae rfl rfl) eS) ?_);walk_at "st";refine wp_seq (fC (rows:=tR (æ n (æ m 0))) ?_ (by simp only[Û,ð];exact ţ _) ?_)
    · have:=uf (O:=[.pu (au W),.pu (.int (N:Int)),.pu (bK S),.un,.un]) (k:=1) (cs:=[2]) (it:=asL (dVarI 0)) (g:=gN Â 0) (el:=mI (dCons (dC (.int 0)) dNil) (dy du (dVar 1))) (λw:eh=>D.lst (cH w)) (xs:=W) (aR rfl rfl) (λ_=>(æ m (0:Int)).map D.int) λw _=>⟨_,rfl,by rw[oe (ds:=[.int 0]) (i:=(m:Int)) rfl (cf rfl eL) ⟨à _,by lia,by simp;lia⟩,ŏ,vc]⟩
      rw[this];unfold tR;simp only[PD,OI,hW]
    walk_at "st";have F0:=Nw (N:=N) hg hW hm hSlt;have tv:∀(T:List (List Int)) (O:aW),O.getD 3 .un=.om (tR T)->dVar 3 O=À (tD T):=λT O h3=>by unfold dVar;rw[h3];dsimp only;rw[<-ki];rfl
    generalize æ n (æ m (0:Int))=T0 at F0
    /- ahead of each turn: a way,or Á -/
    have fin:∀(T:List (List Int)) (v4:Sl),lM W S N n m T->Full W S N n m T->Wp (BW 3 (sRet (dTup (dCons (dVarI 2) (dCons (dVarI 3) dNil))))) [.pu (au W),.pu (.int (N:Int)),.pu (bK S),.om (tR T),v4] {nx:=λ_=>∃T,D.non=.tup [bK S,tD T]/\lM W S N n m T/\Full W S N n m T,rt:=λd=>∃T,d=.tup [bK S,tD T]/\lM W S N n m T/\Full W S N n m T }:=by intro T v4 F1 F2;refine De ?_;dsimp only[jM,Sb,Sd,Ă,ý];refine br (d:=.tup [bK S,tD T]) (vN (ae rfl (ae ?_ rfl))) ⟨T,rfl,F1,F2⟩;rw[<-ki];rfl
    have way:∀T,lM W S N n m T->∃d,bX [au W,.int (N:Int),bK S,tD T]=À d/\((d=.lst []/\Full W S N n m T)\/∃(w0:Nat) (ws ss:List Nat) (sl:Nat),d=.lst ((cU 0 (w0::ws) ss).map natD)/\Wy W S T n m w0 ws ss sl/\0<rL N S T sl):=λT F1=>by
      rcases uX hW hm hn hm20 hN F1.i7 with⟨e1,kvs,k1,k2,k3⟩ |⟨w0,ws,ss,sl,e1,y,hs⟩
      · exact⟨_,e1,.inl ⟨rfl,kvs,k1,k2,k3⟩⟩
      · exact⟨_,e1,.inr ⟨w0,ws,ss,sl,rfl,y,hs⟩⟩
    obtain⟨d0,ed0,hd0⟩:=way T0 F0;refine wp_seq (ax (aC (ae rfl (ae rfl (ae rfl (ae (tv T0 _ rfl) rfl)))) ed0) ?_);walk_at "st";refine wp_seq (jN (λk O=>∃(T:List (List Int)) (d:D),k=(SM (ê n) (ju W T)).toNat/\lM W S N n m T/\((d=.lst []/\Full W S N n m T)\/∃(w0:Nat) (ws ss:List Nat) (sl:Nat),d=.lst ((cU 0 (w0::ws) ss).map natD)/\Wy W S T n m w0 ws ss sl/\0<rL N S T sl)/\O=[.pu (au W),.pu (.int (N:Int)),.pu (bK S),.om (tR T),.pu d]) _ ⟨T0,d0,rfl,F0,hd0,rfl⟩ ?_);rintro k O ⟨T,d,rfl,F1,hd,rfl⟩;rcases hd with⟨rfl,hF⟩ |⟨w0,ws,ss,sl,rfl,y,hs⟩
    · exact⟨Ã,cD rfl rfl,λz=>(by cases z),λ_=>fin T _ F1 hF⟩
    · have hne:Dx (.lst ((cU 0 (w0::ws) ss).map natD))=À true:=by
        have hlen:=y.len;cases ss with
        |nil=>simp at hlen
        |cons s r=>rfl
      refine⟨Â,cD rfl hne,λ_=>?_,λz=>(by cases z)⟩;obtain⟨a,a0,a1,a2,a3,a4,a5⟩:=y7 hW hm hn hm20 hN F1.i7 y hs;refine wp_seq (Df (rows:=tR T) rfl (ae rfl (ae rfl (ae rfl (ae (tv T _ rfl) (ae rfl rfl))))) (λq qs _=>a5 q qs) ?_);walk_at "st"
      obtain⟨F2,hrow⟩:=Gi.moved F1 (w0:=w0) (ws:=ws) (ss:=ss) (sl:=sl) (a:=a) (OP a0) y.len y.last y.lt y.slt y.nd (by unfold ju at a1;lia) (by unfold rL at a2;lia) (λp hp=>by
        have h1:=Gq (y.gn p hp).2;have h2:=a3 p hp
        lia) a4
      obtain⟨d2,ed2,hd2⟩:=way _ F2;refine ax (aC (ae rfl (ae rfl (ae rfl (ae (tv _ _ rfl) rfl)))) ed2) ?_;refine⟨(SM (ê n) (ju W (moved T (w0::ws) ss a))).toNat,?_,_,d2,rfl,F2,hd2,rfl⟩
      have e1:SM (ê n) (ju W (moved T (w0::ws) ss a))=SM (ê n) (ju W T)-a:=by
        have e2:SM (ê n) (ju W (moved T (w0::ws) ss a))=SM (ê n) λi=>ju W T i-if w0=i then a else 0:=dX λi _=>by
          unfold ju;rw[hrow i]
          lia
        rw[e2,FO,zF QR (ö.mpr (y.lt _ Ò))]
      have nn:0<=SM (ê n) (ju W (moved T (w0::ws) ss a)):=FP λi hi=>by
        have:=F2.row i (ö.mp hi);unfold ju
        lia
      lia)
  exact⟨T,e,hT⟩
end
namespace Wr
local macro_rules | `(tactic| walk_at "fn")=>`(tactic| first | exact eU _ _ (by lia))
def lC(h:a<n):ixN n (a:Int)=À a:=by rw[EO (à _) (ϗ.2 h)];simp
structure Ou(hs:List Int):Prop where
 len:hs.length<=20
 bd:∀h∈hs,0<=h
def xI(h b:Int):Int:=if h % b≠0 then h / b+1 else h / b
def zq(h b:Int)(h0:0<b)(h1:b<2 ^ 64):d9 [.int h,.int b]=À (.int (xI h b)):=by
 apply bS iW;unfold fN;walk_at "go";refine jl (by walk_at "ev") (λc=>?_) λc=>?_
 ·apply br (by walk_at "ev");unfold xI;rw[if_pos (by simpa using c)]
 ·walk_at "go";apply br (by walk_at "ev");unfold xI;rw[if_neg (by simpa using c)]
def GC:List Int->Int
 |[]=>0
 |x::r=>nU x r
def lz(hs:List Int)(b:Int):Int:=max (GC hs) (xI hs.sum b)
def ku(x:Int)(r:List Int):maxD (.lst ((x::r).map D.int))=À (.int (nU x r)):=eF _ (x::r)
def Ny(hs:List Int)(b:Int)(h0:0<b)(h1:b<2 ^ 64):d8 [.lst (hs.map D.int),.int b]=À (.int (xI hs.sum b)):=by apply bS iV;exact br (aC (ae (cf rfl (BC _)) (ae rfl rfl)) (zq _ _ h0 h1)) rfl
def least(hs:List Int)(b:Int)(h0:0<b)(h1:b<2 ^ 64):fm [.lst (hs.map D.int),.int b]=À (.int (lz hs b)):=by
 apply bS jA;cases hs with
 |nil =>refine wp_seq (k9 (og (x:=Ã) (cD rfl rfl)) (br rfl ?_));unfold lz GC xI;simp
 |cons x r =>exact wp_seq (cw (og (x:=Â) (cD rfl rfl)) (ba (br (kA (cf rfl (ku _ _)) (aC (ae rfl (ae rfl rfl)) (Ny _ _ h0 h1))) rfl)))
def uF(hh:h∈hs):h<=GC hs:=by
 cases hs with
 |nil=>cases hh
 |cons x r=>exact(fQ r x).2 h hh
noncomputable def iy(e w b a:Int):List (List Int):=if b<a then (if min a ((b / e+1)*e)<a then [[b / e,w,b-b / e*e,min a ((b / e+1)*e)-b / e*e],[b / e+1,w,0,a-(b / e+1)*e]] else [[b / e,w,b-b / e*e,min a ((b / e+1)*e)-b / e*e]]) else []
def pre(hs:List Int)(j:Nat):Int:=(hs.take j).sum
def fb(e:Int)(hs:List Int):Nat->List (List Int)
 | 0=>[]
 |j+1=>fb e hs j++iy e j (pre hs j) (pre hs (j+1))
def D5(e w b a:Int):(iy e w b a).length<=2:=by
 unfold iy;split
 ·split <;> simp
 ·simp
theorem qr(e:Int)(hs:List Int):∀j,(fb e hs j).length<=2*j
 | 0=>Õ _
 |j+1=>by have h1:=qr e hs j;have h2:=D5 e j (pre hs j) (pre hs (j+1));show (fb e hs j++iy e j (pre hs j) (pre hs (j+1))).length<=_;rw[á];lia
def qw(e:hs[j]?=À h):pre hs (j+1)=pre hs j+h:=by unfold pre;rw[Ţ,e];simp
def L0(z:List Int):List D:=z.map D.int
def dM(zs:List (List Int)):List (List D):=zs.map L0
def Kn(zs:List (List Int)):List D:=zs.map λz=>D.lst (L0 z)
def tN(R:List (List Int))(a b c d:Int):dM R++[[.int a,.int b,.int c,.int d]]=dM (R++[[a,b,c,d]]):=by unfold dM;rw[î];rfl
def Hb(R:List (List Int)):cS (dM R)=.lst (Kn R):=by unfold cS dM Kn;rw[ë];rfl
def K6{e:Int}(he:0<e)(h:k*e+r=b)(h0:0<=r)(h1:r<e):b / e=k:=by rw[<-h,Rb,Int.add_mul_ediv_right _ _ (OO he),Int.ediv_eq_zero_of_lt h0 h1,Tf]
structure Gi(hs:List Int)(b e:Int):Prop where
 EZ:Ou hs
 b0:1<=b/\b<=20
 le:lz hs b<=e
 e0:0<=e
def Gi.hour(f:Gi hs b e)(hh:h∈hs):0<=h/\h<=e:=by
 have h1:=uF hh;have h2:=f.le;have h3:=f.EZ.bd h hh;unfold lz at h2
 lia
def Ep(h:∀x∈hs,0<=x):∀j,0<=pre hs j/\pre hs j<=hs.sum:=by
 have key:∀(hs:List Int),(∀x∈hs,0<=x)->0<=hs.sum:=λhs=>by
  induction hs with
  |nil=>intro _;simp
  |cons x r ih=>intro h;rw[Ũ];have:=h x Ò;have:=ih λy hy=>h y (Ñ _ hy);lia
 intro j;have e:hs.sum=pre hs j+(hs.drop j).sum:=by unfold pre;rw[<-Rr,ē]
 have k1:=key (hs.take j) λx hx=>h x (ģ hx);have k2:=key (hs.drop j) λx hx=>h x (Ģ hx);unfold pre at *
 lia
def Oo{hs:List Int}(h:a O=À (.lst (hs.map D.int))):Fv (lE a) O=À (Cz (hs.map D.int)):=by
 have hf:kT (hs.map D.int)=true:=by unfold kT;rw[List.all_map];exact Ľ.mpr λ_ _=>rfl
 have e1:lE a O=À (.lst (hs.map D.int)):=by unfold lE;rw[aR h rfl];exact if_pos hf
 unfold Fv;rw[aR e1 rfl]
def Fh(ds:List D):(Cz ds).length=ds.length:=by unfold Cz;rw[Sy]
def wrapped(f:Gi hs b e):iM [.lst (hs.map D.int),.int b,.int e]=À (cS (dM (fb e hs hs.length))):=by
 have hline:Î=16777216:=ă;have hb:=f.b0;have hlen:=f.EZ.len;refine Ac kW ?_;rw[yw];unfold kD;refine wp_seq (ax (aC (ae rfl (ae rfl rfl)) (least hs b (by lia) (by lia))) ?_);walk_at "st";have hle:=f.le;refine wp_seq (cw (by rw[cb (oM rfl rfl),decide_eq_false (Qa.2 hle)]) (ba ?_));generalize lz hs b=L;refine wp_seq (fC (rows:=dM []) rfl (by simp only[Û,ð];exact Đ ..) ?_);walk_at "st";refine wp_seq (ax rfl ?_);walk_at "st";refine wp_seq (ax rfl ?_);walk_at "st";refine wp_seq (dq (Oo rfl) (λj O=>∃(k m:Int) (v7 v8 v9 v10:Sl),k*e+m=pre hs j/\0<=m/\m<=e/\O=[.bo (.lst (hs.map D.int)),.bo (.int b),.bo (.int e),.pu (.int L),.om (dM (fb e hs j)),.pu (.int k),.pu (.int m),v7,v8,v9,v10]) ⟨0,0,_,_,_,_,by unfold pre;simp,ř _,by have:=f.e0;exact this,rfl⟩ ?_ ?_)
 ·rintro j d O hd ⟨k,m,v7,v8,v9,v10,hkm,hm0,hme,rfl⟩;obtain⟨e',he',rfl⟩:=vQ hd;rw[Ö]at he';obtain⟨h,hh,rfl⟩:=ė.mp he';have hmem:=õ hh;have hj:j<hs.length:=(Ó.mp hh).1;have fh:=f.hour hmem;have ps:=qw hh;have rl:=qr e hs j;refine⟨_,rfl,?_⟩;dsimp only[gN,pe,Ă,ý];show Wp _ _ {nx:=λO=>∃(k m:Int) (v7 v8 v9 v10:Sl),k*e+m=pre hs (j+1)/\0<=m/\m<=e/\O=[.bo (.lst (hs.map D.int)),.bo (.int b),.bo (.int e),.pu (.int L),.om (dM (fb e hs j++iy e j (pre hs j) (pre hs (j+1)))),.pu (.int k),.pu (.int m),v7,v8,v9,v10],rt:=_,bk:=_,ct:=_ };generalize hR:fb e hs j=R at rl;generalize hp:pre hs j=p at hkm ps;rw[ps];refine wp_seq (ax rfl ?_);walk_at "st";by_cases hh0:h=0
  ·-- nothing to lay
   subst hh0;refine jN (λ_ O=>O=[.bo (.lst (hs.map D.int)),.bo (.int b),.bo (.int e),.pu (.int L),.om (dM R),.pu (.int k),.pu (.int m),.pu (.int (j:Int)),.pu (.int 0),.pu (.int 0),v10]) 0 rfl ?_;rintro n O rfl;refine⟨Ã,by rw[cb (fB rfl rfl),decide_eq_false (Qa.2 fh.1)],(λz=>by cases z),λ_=>?_⟩;have hs0:iy e j p (p+0)=[]:=by unfold iy;rw[if_neg (by lia)]
   dsimp only;rw[hs0,ě];exact⟨k,m,_,_,_,_,by lia,hm0,hme,rfl⟩
  ·have he:0<e:=by lia
   have hpos:0<h:=by lia
   obtain⟨k0,m0,hkm0,hm00,hm0e⟩:∃k0 m0:Int,k0*e+m0=p/\0<=m0/\m0<e:=by refine⟨p / e,p % e,?_,ŵ _ (OO he),Ϙ _ he⟩;rw[Rf];exact RB p e
   have hdiv:=K6 he hkm0 hm00 hm0e;have e1:(k0+1)*e=k0*e+e:=by rw[Pp,Pq]
   have hseg:iy e j p (p+h)=if p+h<=k0*e+e then [[k0,(j:Int),m0,m0+h]] else [[k0,(j:Int),m0,e],[k0+1,(j:Int),0,p+h-(k0*e+e)]]:=by
    unfold iy;rw[if_pos (by lia),hdiv,e1];by_cases c:p+h<=k0*e+e
    ·rw[if_neg (by lia),if_pos c];have a1:p-k0*e=m0:=by lia
     have a2:min (p+h) (k0*e+e)-k0*e=m0+h:=by lia
     rw[a1,a2]
    ·rw[if_pos (by lia),if_neg c];have a1:p-k0*e=m0:=by lia
     have a2:min (p+h) (k0*e+e)-k0*e=e:=by lia
     rw[a1,a2]
   rw[hseg]
   have hst:(k=k0/\m=m0)\/(m=e/\k0=k+1/\m0=0):=by
    by_cases c:m=e
    ·right;have:p / e=k+1:=K6 he (k:=k+1) (r:=0) (by rw[Pp,Pq];lia) (ř _) he;have hk1:k0=k+1:=by lia
     have e2:(k+1)*e=k*e+e:=by rw[Pp,Pq]
     subst hk1;exact⟨c,rfl,by lia⟩
    ·left;have:=K6 he hkm hm0 (by lia);have hk1:k=k0:=by lia
     subst hk1;exact⟨rfl,by lia⟩
   refine jN (λn O=>(n=2/\∃v10,O=[.bo (.lst (hs.map D.int)),.bo (.int b),.bo (.int e),.pu (.int L),.om (dM R),.pu (.int k),.pu (.int m),.pu (.int (j:Int)),.pu (.int h),.pu (.int h),v10]) \/
    (n=1/\p+h<=k0*e+e/\∃v10,O=[.bo (.lst (hs.map D.int)),.bo (.int b),.bo (.int e),.pu (.int L),.om (dM (R++[[k0,(j:Int),m0,m0+h]])),.pu (.int k0),.pu (.int (m0+h)),.pu (.int (j:Int)),.pu (.int h),.pu (.int 0),v10]) \/
    (n=1/\¬p+h<=k0*e+e/\∃v10,O=[.bo (.lst (hs.map D.int)),.bo (.int b),.bo (.int e),.pu (.int L),.om (dM (R++[[k0,(j:Int),m0,e]])),.pu (.int k0),.pu (.int e),.pu (.int (j:Int)),.pu (.int h),.pu (.int (p+h-(k0*e+e))),v10]) \/
    (n=0/\¬p+h<=k0*e+e/\∃v10,O=[.bo (.lst (hs.map D.int)),.bo (.int b),.bo (.int e),.pu (.int L),.om (dM (R++[[k0,(j:Int),m0,e],[k0+1,(j:Int),0,p+h-(k0*e+e)]])),.pu (.int (k0+1)),.pu (.int (p+h-(k0*e+e))),.pu (.int (j:Int)),.pu (.int h),.pu (.int 0),v10])) 2 (.inl ⟨rfl,_,rfl⟩) ?_
   rintro n O (⟨rfl,v,rfl⟩ |⟨rfl,c,v,rfl⟩ |⟨rfl,c,v,rfl⟩ |⟨rfl,c,v,rfl⟩)
   ·refine⟨Â,by rw[cb (fB rfl rfl),decide_eq_true hpos],λ_=>?_,λz=>by cases z⟩
    have norm:∀(s:DS) (W:Wk),Wp s [.bo (.lst (hs.map D.int)),.bo (.int b),.bo (.int e),.pu (.int L),.om (dM R),.pu (.int k0),.pu (.int m0),.pu (.int (j:Int)),.pu (.int h),.pu (.int h),v] W ->
     Wp (ay (jK (dT (jG Ã (dVar 6) (dVar 2))) (ay (wW (λx y=>x+y) 5 (dC (.int 1))) (aU 6 (dC (.int 0)))) b8) s) [.bo (.lst (hs.map D.int)),.bo (.int b),.bo (.int e),.pu (.int L),.om (dM R),.pu (.int k),.pu (.int m),.pu (.int (j:Int)),.pu (.int h),.pu (.int h),v] W:=by
     intro s W hW;rcases hst with⟨rfl,rfl⟩ |⟨rfl,rfl,rfl⟩
     ·exact wp_seq (cw (by rw[cb (dH rfl rfl),decide_eq_false (Int.ne_of_lt hm0e)]) (ba hW))
     ·refine wp_seq (k9 (by rw[cb (dH rfl rfl),decide_eq_true rfl]) (wp_seq (ng rfl rfl ?_)));walk_at "st";exact ax rfl hW
    refine norm _ _ ?_;refine wp_seq (ax (vO (bH rfl rfl) rfl) ?_);walk_at "st";refine wp_seq (ke rfl rfl (by unfold dM;rw[Ê];lia) ?_);walk_at "st";rw[tN];refine wp_seq (ng rfl (cR rfl rfl) ?_);walk_at "st";refine ax rfl ?_;walk_at "st";by_cases c:p+h<=k0*e+e
    ·refine⟨1,Õ _,.inr (.inl ⟨rfl,c,.pu (.int (m0+h)),?_⟩)⟩;have a1:min (m0+h) e=m0+h:=by lia
     have a2:h-(m0+h-m0)=0:=by lia
     rw[a1,a2]
    ·refine⟨1,Õ _,.inr (.inr (.inl ⟨rfl,c,.pu (.int e),?_⟩))⟩;have a1:min (m0+h) e=e:=by lia
     have a2:h-(e-m0)=p+h-(k0*e+e):=by lia
     rw[a1,a2]
   ·refine⟨Ã,by rw[cb (fB rfl rfl),decide_eq_false (Int.lt_irrefl _)],(λz=>by cases z),λ_=>?_⟩;dsimp only;rw[if_pos c];exact⟨k0,m0+h,_,_,_,_,by lia,by lia,by lia,rfl⟩
   ·refine⟨Â,by rw[cb (fB rfl rfl),decide_eq_true (by lia)],λ_=>?_,λz=>by cases z⟩;refine wp_seq (k9 (by rw[cb (dH rfl rfl),decide_eq_true rfl]) (wp_seq (ng rfl rfl ?_)));walk_at "st";refine ax rfl ?_;walk_at "st";refine wp_seq (ax (vO (bH rfl rfl) rfl) ?_);walk_at "st";refine wp_seq (ke rfl rfl (by unfold dM;rw[Ê,á,ĥ];lia) ?_);walk_at "st";rw[tN];refine wp_seq (ng rfl (cR rfl rfl) ?_);walk_at "st";refine ax rfl ?_;walk_at "st";refine⟨0,Õ _,.inr (.inr (.inr ⟨rfl,c,.pu (.int (p+h-(k0*e+e))),?_⟩))⟩;have a1:min (0+(p+h-(k0*e+e))) e=p+h-(k0*e+e):=by lia
    have a2:p+h-(k0*e+e)-(p+h-(k0*e+e)-0)=0:=by lia
    rw[a1,a2,ą];rfl
   ·refine⟨Ã,by rw[cb (fB rfl rfl),decide_eq_false (Int.lt_irrefl _)],(λz=>by cases z),λ_=>?_⟩;dsimp only;rw[if_neg c];exact⟨k0+1,p+h-(k0*e+e),_,_,_,_,by lia,by lia,by lia,rfl⟩
 ·rintro O ⟨k,m,v7,v8,v9,v10,_,_,_,rfl⟩;apply pP rfl;rw[Fh,Ê]
end Wr
abbrev R4:=Int×Int×Int×Int
namespace R4
abbrev b(r:R4):Int:=r.1
abbrev w(r:R4):Int:=r.2.1
abbrev s(r:R4):Int:=r.2.2.1
abbrev e(r:R4):Int:=r.2.2.2
end R4
def Dj(x y:R4):Prop:=x.b=y.b->x.e<=y.s\/y.e<=x.s
structure Ap(rs:List R4):Prop where
 pos:∀r∈rs,r.s<r.e
 dj:rs.Pairwise Dj
def Nx(x y:R4):Prop:=y.b=x.b/\y.w=x.w/\y.s=x.e
instance (x y:R4):Decidable (Nx x y):=by unfold Nx;infer_instance
def FV(x y:R4):Prop:=x.b<y.b\/(x.b=y.b/\(x.w<y.w\/(x.w=y.w/\(x.s<y.s\/(x.s=y.s/\x.e<=y.e)))))
theorem Dj.symm(h:Dj x y):Dj y x:=λq=>(h q.symm).symm
def Ap.perm(h:Ap rs)(p:ss.Perm rs):Ap ss:=⟨λr hr=>h.pos r (p.mem_iff.mp hr),(p.pairwise_iff λh=>Dj.symm h).mpr h.dj⟩
theorem El{R:α->α->Prop}(sy:∀x y,R x y->R y x):∀{l:List α},l.Pairwise R->∀{x y:α},x∈l->y∈l->x=y\/R x y
 |a::l,h,x,y,hx,hy=>by
  obtain⟨h1,h2⟩:=ď.mp h;rcases Ú.mp hx with ex |hx <;> rcases Ú.mp hy with ey |hy
  ·exact .inl (ex.trans ey.symm)
  ·exact .inr (ex ▸ h1 y hy)
  ·exact .inr (ey ▸ sy _ _ (h1 x hx))
  ·exact El sy h2 hx hy
def Ap.two(h:Ap rs)(hx:x∈rs)(hy:y∈rs)(eb:x.b=y.b)(es:x.s=y.s):x=y:=by
 have h1:=h.pos x hx;have h2:=h.pos y hy;rcases El (λ_ _ q=>Dj.symm q) h.dj hx hy with q |q
 ·exact q
 ·rcases q eb with q |q <;> lia
inductive Fi(rs:List R4):R4->Int->Prop
 |stop {x:R4}:(∀q∈rs,¬Nx x q)->Fi rs x x.e
 |step {x q:R4} {E:Int}:q∈rs->Nx x q->Fi rs q E->Fi rs x E
def Fi.uniq(h:Ap rs)(a:Fi rs x E)(c:Fi rs x F):E=F:=by
 induction a with
 |stop h0 =>
  cases c with
  |stop=>rfl
  |step hq hn _=>exact absurd hn (h0 _ hq)
 |step hq hn _ ih =>
  cases c with
  |stop h0=>simp_all
  |step hq' hn' c' =>have:=h.two hq hq' (by have:=hn.1;have:=hn'.1;lia) (by have:=hn.2.2;have:=hn'.2.2;lia);subst this;exact ih c'
def Fi.perm(p:rs.Perm ss)(a:Fi rs x E):Fi ss x E:=by
 induction a with
 |stop h0=>exact .stop λq hq=>h0 q (p.mem_iff.mpr hq)
 |step hq hn _ ih=>exact .step (p.mem_iff.mp hq) hn ih
def Bg(rs:List R4)(x:R4):Prop:=∀q∈rs,¬Nx q x
instance (rs:List R4)(x:R4):Decidable (Bg rs x):=by unfold Bg;infer_instance
def bg(rs:List R4)(x:R4):Bool:=decide (Bg rs x)
open Classical in
noncomputable def fin(rs:List R4)(x:R4):Int:=if h:∃E,Fi rs x E then h.choose else 0
def qT(h:Ap rs)(a:Fi rs x E):fin rs x=E:=by
 have hh:∃E,Fi rs x E:=⟨E,a⟩
 unfold fin;rw[dif_pos hh];exact Fi.uniq h hh.choose_spec a
def kN(x:R4)(E:Int):R4:=(x.b,x.w,x.s,E)
def jw:List R4->List R4
 |[]=>[]
 |x::xs=>match jw xs with
  |[]=>[x]
  |y::ys=>if Nx x y then kN x y.e::ys else x::y::ys
def xx(x:R4)(xs:List R4):∃E ys,jw (x::xs)=kN x E::ys:=by
 show ∃E ys,(match jw xs with |[]=>[x] |y::ys=>if Nx x y then kN x y.e::ys else x::y::ys)=_;split
 ·exact⟨x.e,[],rfl⟩
 ·split
  ·exact⟨_,_,rfl⟩
  ·exact⟨x.e,_,rfl⟩
def IJ(x:R4):List R4->List R4
 |[]=>[x]
 |y::ys=>if Nx x y then IJ (kN x y.e) ys else x::IJ y ys
def KR(x y:R4)(h:Nx x y)(T:List R4):jw (kN x y.e::T)=jw (x::y::T):=by
 have e1:jw (x::y::T)=match jw (y::T)with |[]=>[x] |z::ys=>if Nx x z then kN x z.e::ys else x::z::ys:=rfl
 have e2:jw (y::T)=match jw T with |[]=>[y] |z::ys=>if Nx y z then kN y z.e::ys else y::z::ys:=rfl
 have e3:jw (kN x y.e::T)=match jw T with |[]=>[kN x y.e] |z::ys=>if Nx (kN x y.e) z then kN (kN x y.e) z.e::ys else kN x y.e::z::ys:=rfl
 rw[e3,e1,e2];cases jw T with
 |nil=>exact(if_pos h).symm
 |cons z ys =>
  by_cases c:Nx y z
  ·simp;rw[if_pos c,if_pos ⟨c.1.trans h.1,c.2.1.trans h.2.1,c.2.2⟩];exact(if_pos h).symm
  ·simp;rw[if_neg c,if_neg λq=>c ⟨q.1.trans h.1.symm,q.2.1.trans h.2.1.symm,q.2.2⟩];exact(if_pos h).symm
theorem vB:∀(T:List R4) (x:R4),IJ x T=jw (x::T)
 |[],x=>rfl
 |y::T,x=>by
  by_cases h:Nx x y
  ·rw[IJ,if_pos h,vB T,KR x y h]
  ·rw[IJ,if_neg h,vB T];obtain⟨E,ys,e⟩:=xx y T;show _=match jw (y::T)with |[]=>[x] |z::ys=>if Nx x z then kN x z.e::ys else x::z::ys
   rw[e];exact(if_neg h).symm
theorem ze(ap:Ap S)(so:S.Pairwise FV):∀(T P:List R4) (x:R4),S=P++x::T->Fi S x (fin S x)/\jw (x::T)=kN x (fin S x)::(T.filter (bg S)).map λr=>kN r (fin S r)
 |[],P,x,e=>by
  have st:∀q∈S,¬Nx x q:=λq hq hn=>by
   have hx:x∈S:=by rw[e];simp
   have p1:=ap.pos x hx;rw[e]at hq so;have hq':q∈P\/q=x:=by simpa using hq
   rcases hq' with hq' |hq'
   ·have:=(é.mp so).2.2 q hq' x (by simp);unfold FV at this;obtain⟨n1,n2,n3⟩:=hn;lia
   ·subst hq';have:=hn.2.2;lia
  have f:=Fi.stop st;rw[qT ap f];exact⟨f,rfl⟩
 |y::T,P,x,e=>by
  obtain⟨fy,ih⟩:=ze ap so T (P++[x]) y (by rw[e];simp);have hx:x∈S:=by rw[e];simp
  have hy:y∈S:=by rw[e];simp
  have px:=ap.pos x hx;have py:=ap.pos y hy;have so':=so;rw[e]at so';obtain⟨soP,soT,soPT⟩:=é.mp so';obtain⟨sx,sT⟩:=ď.mp soT;obtain⟨sy,_⟩:=ď.mp sT;have mem:∀q∈S,q∈P\/q=x\/q=y\/q∈T:=λq hq=>by rw[e]at hq;simpa using hq
  have djxy:Dj x y:=by have:=ap.dj;rw[e]at this;exact(ď.mp (é.mp this).2.1).1 y (by simp)
  have xy:=sx y (by simp)
  have nxt:∀q∈S,Nx x q->q=y:=λq hq hn=>by
   have pq:=ap.pos q hq;obtain⟨n1,n2,n3⟩:=hn;rcases mem q hq with h |h |h |h
   ·have:=soPT q h x (by simp);unfold FV at this;lia
   ·subst h;lia
   ·exact h
   ·have yq:=sy q h;unfold FV at xy yq;have eb:x.b=y.b:=by lia
    refine ap.two hq hy (by lia) ?_;rcases djxy eb with d |d <;> lia
  have prv:∀q∈S,Nx q y->q=x:=λq hq hn=>by
   have pq:=ap.pos q hq;obtain⟨n1,n2,n3⟩:=hn;rcases mem q hq with h |h |h |h
   ·have qx:=soPT q h x (by simp);unfold FV at xy qx;have eb:q.b=x.b:=by lia
    rcases El (λ_ _ q=>Dj.symm q) ap.dj hq hx with z |z
    ·exact z
    ·rcases z eb with d |d
     ·rcases djxy (by lia)with d2 |d2 <;> lia
     ·lia
   ·exact h
   ·subst h;lia
   ·have:=sy q h;unfold FV at this;lia
  have eg:jw (x::y::T)=if Nx x y then kN x (fin S y)::(T.filter (bg S)).map (λr=>kN r (fin S r)) else x::kN y (fin S y)::(T.filter (bg S)).map λr=>kN r (fin S r):=by show (match jw (y::T)with |[]=>[x] |z::ys=>if Nx x z then kN x z.e::ys else x::z::ys)=_;rw[ih];rfl
  rw[eg];by_cases h:Nx x y
  ·have fx:Fi S x (fin S y):=.step hy h fy;rw[if_pos h,qT ap fx,List.filter_cons_of_neg]
   ·exact⟨fx,rfl⟩
   ·unfold bg;rw[decide_eq_true_iff];exact λz=>z x hx h
  ·have fx:Fi S x x.e:=.stop λq hq hn=>h (nxt q hq hn ▸ hn);rw[if_neg h,qT ap fx,ϋ]
   ·exact⟨fx,rfl⟩
   ·unfold bg;rw[decide_eq_true_iff];exact λq hq hn=>h (prv q hq hn ▸ hn)
def HB(ap:Ap S)(so:S.Pairwise FV):jw S=(S.filter (bg S)).map λr=>kN r (fin S r):=by
 cases S with
 |nil=>rfl
 |cons x T =>
  obtain⟨_,h⟩:=ze ap so T [] x rfl;rw[h,ϋ]
  ·rfl
  ·unfold bg;rw[decide_eq_true_iff];intro q hq hn;have p1:=ap.pos q hq;rcases Ú.mp hq with z |z
   ·subst z;have:=hn.2.2;lia
   ·have:=(ď.mp so).1 q z;unfold FV at this;obtain⟨n1,n2,n3⟩:=hn;lia
abbrev iB(r:R4):List D:=[.int r.b,.int r.w,.int r.s,.int r.e]
abbrev hX(r:R4):D:=.lst (iB r)
def zR(r:R4):List Int:=[r.b,r.w,r.s,r.e]
def HC(x y:R4):iU [hX x,hX y]=À (.bl (decide (Nx x y))):=by
 apply bS k6;apply br (mG (dH (aA rfl rfl rfl) (aA rfl rfl rfl)) λ_=>mG (dH (aA rfl rfl rfl) (aA rfl rfl rfl)) λ_=>dH (aA rfl rfl rfl) (aA rfl rfl rfl));apply congrArg D.bl;rw[Ķ];simp;unfold Nx;constructor
 ·simp_all
 ·simp_all
def Ji(z:List Int):R4:=(z.getD 0 0,z.getD 1 0,z.getD 2 0,z.getD 3 0)
def LD(r:R4):Ji (zR r)=r:=rfl
noncomputable def s4(rs:List R4):List R4:=(kH (rs.map zR)).map Ji
def LZ(rs:List R4):(s4 rs).map zR=kH (rs.map zR):=by
 unfold s4;rw[ë]
 conv=>rhs;rw[<-Qx (kH (rs.map zR))]
 refine ę λz hz=>?_;obtain⟨r,_,rfl⟩:=ò.mp ((fO _).mem_iff.mp hz);rfl
def cK(rs:List R4):(s4 rs).Perm rs:=by have:=(fO (rs.map zR)).map Ji;rw[ë,show (Ji∘zR)=id from funext LD,Qx]at this;exact this
def Nn(h:L2.lexLt (zR y) (zR x)=Ã):FV x y:=by
 unfold zR at h;simp only[L2.lexLt]at h;unfold FV
 ·lia
def IC(rs:List R4):(s4 rs).Pairwise FV:=by have h:=o9 (rs.map zR);rw[<-LZ,Ī]at h;exact h.imp λh=>Nn h
def zX(acc:List R4)(r:R4):List R4:=match acc.getLast? with
 |some x=>if Nx x r then acc.dropLast++[kN x r.e] else acc++[r]
 |none=>acc++[r]
def uK(acc:List R4)(x r:R4):zX (acc++[x]) r=if Nx x r then acc++[kN x r.e] else acc++[x]++[r]:=by unfold zX;rw[List.getLast?_concat];simp only[List.dropLast_concat]
theorem qQ:∀(T acc:List R4) (x:R4),T.foldl zX (acc++[x])=acc++IJ x T
 |[],acc,x=>rfl
 |y::T,acc,x=>by
  rw[Px,uK];by_cases h:Nx x y
  ·rw[if_pos h,qQ T,IJ,if_pos h]
  ·rw[if_neg h,qQ T,IJ,if_neg h,ą];rfl
def xB(S:List R4):S.foldl zX []=jw S:=by
 cases S with
 |nil=>rfl
 |cons x T =>have:=qQ T [] x;rw[vB]at this;exact this
def GJ(acc:List R4)(r:R4):(zX acc r).length<=acc.length+1:=by
 unfold zX;split
 ·split
  ·simp
  ·simp
 ·simp
theorem qR:∀(T acc:List R4),(T.foldl zX acc).length<=acc.length+T.length
 |[],acc=>by simp
 |r::T,acc=>by have h1:=qR T (zX acc r);have h2:=GJ acc r;rw[Px,Û];lia
def IV(r:R4):kT (iB r)=true:=rfl
def kR(l:List D):List Int:=match l with
 |[.int b,.int _,.int s,.int _]=>[s,b]
 |_=>[]
noncomputable def jn(rs:List R4):List (List D):=rS kR ((jw (s4 rs)).map iB)
def Co(hl:rs.length<800)(hn:(((jw (s4 rs)).map iB).map kR).Nodup):iS [.lst (rs.map hX)]=À (cS (jn rs)):=by
 refine Ac mW ?_;rw[BG];unfold m9;have hs:Î=16777216:=ă;refine wp_seq (fC (rows:=(([]:List R4).map iB)) rfl (by simp only[Û,ð];lia) ?_);walk_at "st";have esrt:rg (q9 0) [.bo (.lst (rs.map hX)),.om (([]:List R4).map iB),.un]=À ((s4 rs).map hX):=by have:=Fl (a:=q9 0) (O:=[.bo (.lst (rs.map hX)),.om (([]:List R4).map iB),.un]) (zs:=rs.map zR) (by rw[ë];rfl) (by rw[Ê];exact hl);rw[this,<-LZ,ë];rfl
 have hsl:(s4 rs).length<800:=by rw[(cK rs).length_eq];exact hl
 refine wp_seq (dq esrt (λj O=>∃v2:Sl,O=[.bo (.lst (rs.map hX)),.om ((((s4 rs).take j).foldl zX []).map iB),v2]) ⟨_,rfl⟩ ?_ ?_)
 ·rintro j d O hd ⟨v2,rfl⟩;rw[Ö]at hd;obtain⟨r,hr,rfl⟩:=ė.mp hd;refine⟨_,rfl,?_⟩;dsimp only[gN,pe,Ă,ý];have tk:((s4 rs).take (j+1)).foldl zX []=zX (((s4 rs).take j).foldl zX []) r:=by rw[Ţ,hr];simp[Qv]
  have al:(((s4 rs).take j).foldl zX []).length<800:=by have h1:=qR ((s4 rs).take j) [];have h2:=Si j (s4 rs);have h3:((s4 rs).take j).length<=(s4 rs).length:=Pr j (s4 rs);simp only[ð]at h1;lia
  rw[tk];generalize ((s4 rs).take j).foldl zX []=acc at al;rcases List.eq_nil_or_concat acc with rfl |⟨init,x,rfl⟩
  ·refine jl (x:=Ã) (ja (x:=Ã) (y:=Ã) (cD (d:=.lst []) rfl rfl) λz=>by cases z) (λz=>by cases z) λ_=>?_;refine ke rfl (A6 (zo rfl rfl) (IV r)) (by simp;lia) ?_;exact⟨_,rfl⟩
  ·rw[List.concat_eq_append]at *;have hL:((init++[x]).map iB).length=init.length+1:=by simp
   have t1:Dx (cS ((init++[x]).map iB))=À true:=by show À (!(((init++[x]).map iB).map D.lst).isEmpty)=_;simp
   have ixl:ixN (init.length+1) (-1)=À init.length:=by unfold ixN;rw[if_neg (by lia),if_pos (by lia)];exact congrArg À (by lia)
   have ix:yf (cS ((init++[x]).map iB)) (-1)=À (hX x):=by show kB (((init++[x]).map iB).map D.lst) (-1)=_;unfold kB;rw[Ê,hL,ixl];simp
   refine jl (ja (cD rfl t1) λ_=>cD (aC (ae (aA rfl rfl ix) (ae rfl rfl)) (HC x r)) rfl) (λh=>?_) λh=>?_
   ·have h:Nx x r:=by simpa using h
    refine zL (r:=init.length) (j:=3) (ds:=iB x) (n:=-1) (m:=3) (d:=.int r.e) rfl rfl rfl ?_ ?_ rfl rfl ?_
    ·rw[hL];exact ixl
    ·rw[î,ï (by simp)];simp
    ·refine⟨.bo (hX r),?_⟩;rw[uK,if_pos h,î,Rw _ _ (by simp)];simp only[Ê,Q4,î,Ā,PR,ý];rfl
   ·refine ke rfl (A6 (zo rfl rfl) (IV r)) (by simp only[hL];simp at al;lia) ⟨.bo (hX r),?_⟩;rw[uK,if_neg (by simpa using h),î (l₁:=init++[x])];rfl
 ·rintro O ⟨v2,rfl⟩;rw[Ê,Ĺ,xB];have hg:(jw (s4 rs)).length<800:=by rw[<-xB];have:=qR (s4 rs) [];simp only[ð]at this;lia
  refine Dc kR rfl (λl hl'=>?_) hn (by simp_all) rfl;obtain⟨r,_,rfl⟩:=ò.mp hl';exact⟨rfl,by intro z;cases z⟩
def IW(ap:Ap rs)(h:r∈rs):Fi rs r (fin rs r):=by obtain⟨P,T,e⟩:=List.append_of_mem ((cK rs).mem_iff.mpr h);have f:=Fi.perm (cK rs) (ze (ap.perm (cK rs)) (IC rs) T P r e).1;rw[qT ap f];exact f
def HX(p:ss.Perm rs)(r:R4):bg ss r=bg rs r:=by unfold bg;rw[Ķ,decide_eq_true_iff,decide_eq_true_iff];exact⟨λh q hq=>h q (p.mem_iff.mpr hq),λh q hq=>h q (p.mem_iff.mp hq)⟩
noncomputable def Lw(rs:List R4):List R4:=rs.filter (bg rs)
noncomputable def full(rs:List R4)(r:R4):R4:=kN r (fin rs r)
def vI(ap:Ap rs):jw (s4 rs)=((s4 rs).filter (bg rs)).map (full rs):=by have ap2:=ap.perm (cK rs);rw[HB ap2 (IC rs),funext λr=>HX (cK rs) r];exact ę λr hr=>congrArg (kN r) (qT ap2 (Fi.perm (cK rs).symm (IW ap ((cK rs).mem_iff.mp ((Ě.mp hr).1)))))
def dz(r:R4):List Int:=[r.s,r.b,r.w,r.e]
def LG(z:List Int):R4:=(z.getD 1 0,z.getD 2 0,z.getD 0 0,z.getD 3 0)
noncomputable def out(rs:List R4):List R4:=(kH ((Lw rs).map λr=>dz (full rs r))).map LG
def EA(rs:List R4):kH ((Lw rs).map λr=>dz (full rs r))=(out rs).map dz:=by
 unfold out;rw[ë]
 conv=>lhs;rw[<-Qx (kH _)]
 refine ę λz hz=>?_;obtain⟨r,_,rfl⟩:=ò.mp ((fO _).mem_iff.mp hz);rfl
def mw(rs:List R4):(out rs).Perm ((Lw rs).map (full rs)):=by have:=(fO ((Lw rs).map λr=>dz (full rs r))).map LG;rw[ë]at this;exact this
def Hs(h:L2.lexLt (dz y) (dz x)=Ã):L2.lexLt (kR (iB y)) (kR (iB x))=false:=by
 show L2.lexLt [y.s,y.b] [x.s,x.b]=Ã;unfold dz at h;simp only[L2.lexLt]at h ⊢;split at h
 ·split at h
  ·simp_all
  ·simp_all
 ·simp_all
def AK(ap:Ap rs){l:List R4}(hl:l.Nodup)(hm:∀r∈l,r∈rs):(((l.map (full rs)).map iB).map kR).Nodup:=by rw[ë,ë];refine Ī.mpr (ŧ (λ{x y} hx hy ne e=>ne ?_) hl);injection e with e1 e2;injection e2 with e2 _;exact ap.two (hm x hx) (hm y hy) e2 e1
def Ap.nodup(ap:Ap rs):rs.Nodup:=by refine ŧ (λ{x y} hx hy d e=>?_) ap.dj;subst e;have:=ap.pos x hx;rcases d rfl with h |h <;> exact ϑ.2 this h
def KD(ap:Ap rs):jn rs=(out rs).map iB:=by
 have nd:(((jw (s4 rs)).map iB).map kR).Nodup:=by rw[vI ap];exact AK ap (SH Ρ (ap.perm (cK rs)).nodup) λr hr=>(cK rs).mem_iff.mp ((Ě.mp hr).1)
 refine(nr (λ_ _=>rfl) nd ?_ ?_).symm
 ·rw[vI ap];exact((mw rs).trans (((cK rs).filter _).map _).symm).map iB
 ·have h:=o9 ((Lw rs).map λr=>dz (full rs r));rw[EA,Ī]at h;rw[Ī];exact h.imp λh=>Hs h
def joined(ap:Ap rs)(hl:rs.length<800):iS [.lst (rs.map hX)]=À (.lst ((out rs).map hX)):=by
 rw[Co hl,KD ap]
 ·unfold cS;rw[ë];rfl
 ·rw[vI ap];exact AK ap (SH Ρ (ap.perm (cK rs)).nodup) λr hr=>(cK rs).mem_iff.mp ((Ě.mp hr).1)
open Wr (iy pre fb)
def yI(he:0<e)(hb:0<=b)(h:b<=a)(hl:a<=b+e) :
 (b=a/\iy e w b a=[])\/(∃k:Int,0<=k/\k*e<=b/\a<=k*e+e/\b<a/\iy e w b a=[[k,w,b-k*e,a-k*e]]) \/
 ∃k:Int,0<=k/\k*e<=b/\b<k*e+e/\k*e+e<a/\iy e w b a=[[k,w,b-k*e,e],[k+1,w,0,a-(k*e+e)]]:=by
 unfold iy;by_cases c:b<a
 ·have k0:0<=b / e:=Int.ediv_nonneg hb (OP he);have k1:b / e*e<=b:=Int.ediv_mul_le b (OO he);have k2:=Int.lt_ediv_add_one_mul_self b he;rw[Pp,Pq]at k2;rw[if_pos c,Pp,Pq];by_cases d:min a (b / e*e+e)<a
  ·rw[if_pos d];refine .inr (.inr ⟨b / e,k0,k1,k2,by lia,?_⟩);rw[show min a (b / e*e+e)-b / e*e=e by lia]
  ·rw[if_neg d];refine .inr (.inl ⟨b / e,k0,k1,by lia,c,?_⟩);rw[show min a (b / e*e+e)=a by lia]
 ·rw[if_neg c];exact .inl ⟨by lia,rfl⟩
def rws(e:Int)(hs:List Int)(j:Nat):List R4:=(fb e hs j).map Ji
abbrev gs(e:Int)(r:R4):Int:=r.b*e+r.s
abbrev ge(e:Int)(r:R4):Int:=r.b*e+r.e
structure Ob(e:Int)(hs:List Int)(j:Nat)(L:List R4):Prop where
 all:∀r∈L,∃i:Nat,i<j/\r.w=(i:Int)/\0<=r.s/\r.s<r.e/\r.e<=e/\0<=r.b/\pre hs i<=gs e r/\ge e r<=pre hs (i+1)
 ord:L.Pairwise λx y=>ge e x<=gs e y
 wk:L.Pairwise λx y=>x.w=y.w->x.b≠y.b/\y.e<=x.s
 sum:∀i:Nat,i<j->SM L (λr=>if r.w=(i:Int) then r.e-r.s else 0)=hs.getD i 0
def Eo(h:∀x∈hs,0<=x)(hij:i<=j):pre hs i<=pre hs j:=by
 unfold pre
 have:hs.take j=hs.take i++(hs.drop i).take (j-i):=by
  rw[<-So];congr 1
  lia
 rw[this,Rr]
 have:∀l:List Int,(∀x∈l,0<=x)->0<=l.sum:=λl=>by
  induction l with
  |nil=>intro _;simp
  |cons x r ih=>intro h;rw[Ũ];have:=h x Ò;have:=ih λy hy=>h y (Ñ _ hy);lia
 have:=this ((hs.drop i).take (j-i)) λx hx=>h x (Ģ (ģ hx))
 lia
def zI(l m:List α)(f:α->Int):SM (l++m) f=SM l f+SM m f:=by unfold SM;rw[î,Rr]
theorem NX(he:0<e)(h:∀x∈hs,0<=x/\x<=e):∀j,j<=hs.length->Ob e hs j (rws e hs j)
 | 0,_=>⟨λr hr=>(by cases hr),.nil,.nil,λi hi=>by lia⟩
 |j+1,hj=>by
  have S:=NX he h j (ĉ hj);have hj2:j<hs.length:=hj;have ep:pre hs (j+1)=pre hs j+hs.getD j 0:=by rw[Ë,É hj2];exact Wr.qw (É hj2)
  have hx:0<=hs.getD j 0/\hs.getD j 0<=e:=by rw[Ë,É hj2];exact h _ (Ĳ hj2)
  have p0:=(Wr.Ep (λx hx=>(h x hx).1) j).1;have er:rws e hs (j+1)=rws e hs j++(iy e j (pre hs j) (pre hs (j+1))).map Ji:=by unfold rws;rw[show fb e hs (j+1)=fb e hs j++iy e j (pre hs j) (pre hs (j+1)) from rfl,î]
  have below:∀x∈rws e hs j,x.w≠(j:Int)/\ge e x<=pre hs j:=λx hxm=>by obtain⟨i,hi,hw,_,_,_,_,_,hp⟩:=S.all x hxm;exact⟨by lia,ϲ hp (Eo (λx hx=>(h x hx).1) hi)⟩
  have oldsum:SM (rws e hs j) (λr=>if r.w=(j:Int) then r.e-r.s else 0)=0:=by rw[dX (g:=λ_=>0) λx hx=>if_neg (below x hx).1,pM]
  have build:∀L2:List R4,(∀r∈L2,r.w=(j:Int)/\0<=r.s/\r.s<r.e/\r.e<=e/\0<=r.b/\pre hs j<=gs e r/\ge e r<=pre hs (j+1))->L2.Pairwise (λx y=>ge e x<=gs e y)->L2.Pairwise (λx y=>x.w=y.w->x.b≠y.b/\y.e<=x.s)->SM L2 (λr=>if r.w=(j:Int) then r.e-r.s else 0)=hs.getD j 0->Ob e hs (j+1) (rws e hs j++L2):=λL2 a o w sm=>by
   refine⟨λr hr=>?_,?_,?_,λi hi=>?_⟩
   ·rcases â.mp hr with q |q
    ·obtain⟨i,hi,z⟩:=S.all r q;exact⟨i,by lia,z⟩
    ·exact⟨j,Õ _,a r q⟩
   ·refine é.mpr ⟨S.ord,o,λx hx y hy=>?_⟩;exact ϲ (below x hx).2 (a y hy).2.2.2.2.2.1
   ·refine é.mpr ⟨S.wk,w,λx hx y hy z=>?_⟩;exact absurd (z.trans (a y hy).1) (below x hx).1
   ·rw[zI];by_cases c:i=j
    ·subst c;rw[oldsum,sm,Tf]
    ·rw[S.sum i (by lia),dX (l:=L2) (g:=λ_=>0) λx hx=>if_neg (by rw[(a x hx).1];lia),pM,Κ]
  rw[er];rcases yI (w:=(j:Int)) he p0 (show pre hs j<=pre hs (j+1) by lia) (by lia)with⟨q,es⟩ |⟨k,k0,k1,k2,k3,es⟩ |⟨k,k0,k1,k2,k3,es⟩
  ·rw[es];refine build _ (λr hr=>by cases hr) .nil .nil ?_;show (0:Int)=_
   lia
  ·rw[es];refine build [(k,(j:Int),pre hs j-k*e,pre hs (j+1)-k*e)] (λr hr=>?_) (Χ _ _) (Χ _ _) ?_
   ·rw[Ð.mp hr];refine⟨rfl,?_⟩;show 0<=pre hs j-k*e/\pre hs j-k*e<pre hs (j+1)-k*e/\pre hs (j+1)-k*e<=e/\0<=k/\pre hs j<=k*e+(pre hs j-k*e)/\k*e+(pre hs (j+1)-k*e)<=pre hs (j+1)
    lia
   ·show (if (j:Int)=(j:Int) then pre hs (j+1)-k*e-(pre hs j-k*e) else 0)+0=_;rw[if_pos rfl]
    lia
  ·rw[es];have ek:(k+1)*e=k*e+e:=by rw[Pp,Pq]
   refine build [(k,(j:Int),pre hs j-k*e,e),(k+1,(j:Int),0,pre hs (j+1)-(k*e+e))] (λr hr=>?_) ?_ ?_ ?_
   ·rcases Ú.mp hr with q |q
    ·rw[q];refine⟨rfl,?_⟩;show 0<=pre hs j-k*e/\pre hs j-k*e<e/\e<=e/\0<=k/\pre hs j<=k*e+(pre hs j-k*e)/\k*e+e<=pre hs (j+1)
     lia
    ·rw[Ð.mp q];refine⟨rfl,?_⟩;show 0<=(0:Int)/\0<pre hs (j+1)-(k*e+e)/\pre hs (j+1)-(k*e+e)<=e/\0<=k+1/\pre hs j<=(k+1)*e+0/\(k+1)*e+(pre hs (j+1)-(k*e+e))<=pre hs (j+1);rw[ek]
     lia
   ·refine SI.mpr ?_;show k*e+e<=(k+1)*e+0;rw[ek]
    lia
   ·refine SI.mpr λ_=>?_;show k≠k+1/\pre hs (j+1)-(k*e+e)<=pre hs j-k*e
    lia
   ·show (if (j:Int)=(j:Int) then e-(pre hs j-k*e) else 0)+((if (j:Int)=(j:Int) then pre hs (j+1)-(k*e+e)-0 else 0)+0)=_
    lia
def Bl(p:l.Perm m)(f:α->Int):SM l f=SM m f:=by
 induction p with
 |nil=>rfl
 |cons x _ ih=>rw[bp,bp,ih]
 |swap x y l=>rw[bp,bp,bp,bp];lia
 |trans _ _ a b=>exact a.trans b
def Hk(k:R4->Int)(x y:R4):Prop:=k x=k y->x.e<=y.s\/y.e<=x.s
theorem Hk.symm(h:Hk k x y):Hk k y x:=λe=>(h e.symm).symm
def kx(x:R4)(xs:List R4):(jw xs=[]/\jw (x::xs)=[x])\/∃y ys,jw xs=y::ys/\((Nx x y/\jw (x::xs)=kN x y.e::ys)\/(¬Nx x y/\jw (x::xs)=x::y::ys)):=by
 have e:jw (x::xs)=match jw xs with |[]=>[x] |y::ys=>if Nx x y then kN x y.e::ys else x::y::ys:=rfl
 rw[e];cases jw xs with
 |nil=>exact .inl ⟨rfl,rfl⟩
 |cons y ys =>
  refine .inr ⟨y,ys,rfl,?_⟩;by_cases c:Nx x y
  ·exact .inl ⟨c,if_pos c⟩
  ·exact .inr ⟨c,if_neg c⟩
theorem vJ{P:R4->Prop}(hP:∀x y,Nx x y->P x->P y->P (kN x y.e)):∀{S:List R4},(∀q∈S,P q)->∀z∈jw S,P z
 |[],_,z,hz=>by cases hz
 |x::xs,h,z,hz=>by
  have ih:=vJ hP λq hq=>h q (Ñ _ hq);have hx:=h x Ò;rcases kx x xs with⟨_,e⟩ |⟨y,ys,e0,⟨n,e⟩ |⟨n,e⟩⟩
  ·simp_all
  ·rw[e]at hz;rw[e0]at ih;rcases Ú.mp hz with q |q
   ·rw[q];exact hP x y n hx (ih y Ò)
   ·exact ih z (Ñ _ q)
  ·rw[e]at hz;rw[e0]at ih;rcases Ú.mp hz with q |q
   ·rw[q];exact hx
   ·exact ih z q
def HA:(∀q∈S,q.s<q.e)->∀z∈jw S,z.s<z.e:=vJ λx y n h1 h2=>by
 have:=n.2.2;show x.s<y.e
 lia
section
variable{k:R4->Int}(hk:∀r E,k (kN r E)=k r)(kn:∀{x y:R4},Nx x y->k x=k y)
include hk kn
theorem E4(hx:x.s<x.e):∀{S:List R4},(∀q∈S,Hk k x q)->∀z∈jw S,Hk k x z
 |[],_,z,hz=>by cases hz
 |q::qs,h,z,hz=>by
  have ih:=E4 hx λp hp=>h p (Ñ _ hp);have hq:=h q Ò;rcases kx q qs with⟨_,e⟩ |⟨y,ys,e0,⟨n,e⟩ |⟨n,e⟩⟩
  ·simp_all
  ·rw[e]at hz;rw[e0]at ih;rcases Ú.mp hz with w |w
   ·rw[w];intro e1;rw[hk]at e1;have a:=hq e1;have c:=ih y Ò (e1.trans (kn n));have:=n.2.2;show x.e<=q.s\/y.e<=x.s
    lia
   ·exact ih z (Ñ _ w)
  ·rw[e]at hz;rw[e0]at ih;rcases Ú.mp hz with w |w
   ·rw[w];exact hq
   ·exact ih z w
theorem E3:∀{S:List R4},(∀q∈S,q.s<q.e)->S.Pairwise (Hk k)->(jw S).Pairwise (Hk k)
 |[],_,_=>.nil
 |x::xs,h,p=>by
  obtain⟨p1,p2⟩:=ď.mp p;have ps:=HA λq hq=>h q (Ñ _ hq);have ih:=E3 (λq hq=>h q (Ñ _ hq)) p2;have hd:=E4 hk kn (h x Ò) p1;rcases kx x xs with⟨_,e⟩ |⟨y,ys,e0,⟨n,e⟩ |⟨n,e⟩⟩
  ·rw[e];exact Χ _ _
  ·rw[e];rw[e0]at ih hd ps;obtain⟨i1,i2⟩:=ď.mp ih;refine ď.mpr ⟨λz hz e1=>?_,i2⟩;rw[hk]at e1;have a:=hd z (Ñ _ hz) e1;have c:=i1 z hz ((kn n).symm.trans e1);have:=ps z (Ñ _ hz);have:=n.2.2;show y.e<=z.s\/z.e<=x.s
   lia
  ·rw[e];rw[e0]at ih hd;exact ď.mpr ⟨hd,ih⟩
end
theorem AY(hf:∀x y,Nx x y->f (kN x y.e)=f x+f y):∀S:List R4,SM (jw S) f=SM S f
 |[]=>rfl
 |x::xs=>by
  rw[bp,<-(AY hf xs)];rcases kx x xs with⟨e0,e⟩ |⟨y,ys,e0,⟨n,e⟩ |⟨n,e⟩⟩
  ·rw[e,e0,bp]
  ·rw[e,e0,bp,bp,hf x y n]
   lia
  ·rw[e,e0,bp]
def Hj(ap:Ap rs):(out rs).Perm (jw (s4 rs)):=by rw[vI ap];exact(mw rs).trans ((((cK rs).filter _).map _).symm)
def HI(h:Fi rs x E):∃q,(q=x\/q∈rs)/\q.b=x.b/\q.w=x.w/\q.e=E:=by
 induction h with
 |stop _=>exact⟨_,.inl rfl,rfl,rfl,rfl⟩
 |@step x q E hq n _ ih =>
  obtain⟨p,hp,e1,e2,e3⟩:=ih;refine⟨p,?_,e1.trans n.1,e2.trans n.2.1,e3⟩;rcases hp with z |z
  ·simp_all
  ·exact .inr z
def Kf(ap:Ap rs)(hx:x∈out rs)(hy:y∈out rs):¬Nx x y:=λn=>by
 obtain⟨p,hp,rfl⟩:=ò.mp ((mw rs).mem_iff.mp hx);obtain⟨q,hq,rfl⟩:=ò.mp ((mw rs).mem_iff.mp hy);obtain⟨hp1,_⟩:=Ě.mp hp;obtain⟨hq1,hq2⟩:=Ě.mp hq;obtain⟨l,hl,e1,e2,e3⟩:=HI (IW ap hp1)
 have hl:l∈rs:=by
  rcases hl with z |z
  ·rw[z];exact hp1
  ·exact z
 exact of_decide_eq_true hq2 l hl ⟨n.1.trans e1.symm,n.2.1.trans e2.symm,n.2.2.trans e3.symm⟩
def Lx(x y:R4):Prop:=x.s<y.s\/(x.s=y.s/\x.b<=y.b)
def Ke(L:List R4):(out L).Pairwise Lx:=by
 have h:=o9 ((Lw L).map λr=>dz (full L r));rw[EA,Ī]at h;refine h.imp λ{x y} z=>?_;unfold dz at z;simp only[L2.lexLt]at z;unfold Lx;split at z
 ·grind
 ·lia
structure Pw(W:List eh)(N:Nat)(L:List R4):Prop where
 all:∀r∈L,(∃i:Nat,i<W.length/\r.w=(i:Int)/\(wk W i).1<=r.s/\r.e<=(wk W i).2.1)/\r.s<r.e/\0<=r.b/\r.b<N
 bj:L.Pairwise (Hk R4.b)
 wj:L.Pairwise (Hk R4.w)
 sum:∀i:Nat,i<W.length->SM L (λr=>if r.w=(i:Int) then r.e-r.s else 0)=(wk W i).2.2
def Pw.ap(h:Pw W N L):Ap L:=⟨λr hr=>(h.all r hr).2.1,h.bj.imp λz q=>z q⟩
theorem Pw.out(h:Pw W N L):Pw W N (out L):=by
 have pg:=Hj h.ap;have p4:=cK L;have pw:∀{k':R4->Int},(∀r E,k' (kN r E)=k' r)->(∀{x y:R4},Nx x y->k' x=k' y)->L.Pairwise (Hk k')->(My.out L).Pairwise (Hk k'):=λ{k'} h1 h2 h3=>(pg.pairwise_iff λh=>Hk.symm h).mpr (E3 h1 h2 (λq hq=>(h.all q (p4.mem_iff.mp hq)).2.1) ((p4.pairwise_iff λh=>Hk.symm h).mpr h3));refine⟨λr hr=>?_,pw (λ_ _=>rfl) (λn=>n.1.symm) h.bj,pw (λ_ _=>rfl) (λn=>n.2.1.symm) h.wj,λi hi=>?_⟩
 ·refine vJ (λx y n hx hy=>?_) (λq hq=>h.all q (p4.mem_iff.mp hq)) r (pg.mem_iff.mp hr);obtain⟨⟨i,hi,e1,e2,_⟩,a1,a2⟩:=hx;obtain⟨⟨j,hj,f1,_,f3⟩,b1,_⟩:=hy;obtain⟨n1,n2,n3⟩:=n;have:j=i:=by lia
  subst this;exact⟨⟨j,hi,e1,e2,f3⟩,by show x.s<y.e;lia,a2⟩
 ·rw[Bl pg,AY λx y n=>?_,Bl p4,h.sum i hi];obtain⟨n1,n2,n3⟩:=n;show (if x.w=i then y.e-x.s else 0)=_;by_cases c:x.w=i
  ·rw[if_pos c,if_pos c,if_pos (by lia)]
   lia
  ·simp_all
open Wr (pre fb)
def zH(l:List α)(g:α->β)(f:β->Int):SM (l.map g) f=SM l λx=>f (g x):=by unfold SM;rw[ë];rfl
def DM(hs:List Int):hs.sum=SM (ê hs.length) λi=>hs.getD i 0:=by
 congr 1;refine Ń λi=>?_;by_cases c:i<hs.length
 ·simp_all
 ·simp_all
abbrev ln(S:List I2)(j:Nat):Int:=(sg S j).2-(sg S j).1
def jH(T:List (List Int))(j:Nat):List Int:=T.map λr=>jc r j
def NW(a:Int)(r:R4):R4:=(r.b,r.w,a+r.s,a+r.e)
def F8(S:List I2)(T:List (List Int))(j:Nat):List R4:=(rws (ln S j) (jH T j) (jH T j).length).map (NW (sg S j).1)
def Ed(S:List I2)(T:List (List Int))(k:Nat):List R4:=(ê k).flatMap (F8 S T)
def mf(S:List I2)(T:List (List Int))(k:Nat):Ed S T (k+1)=Ed S T k++F8 S T k:=by unfold Ed;rw[TN,List.flatMap_append,Ti,List.flatMap_nil,ě]
structure Ra(S:List I2)(T:List (List Int))(N n k:Nat)(L:List R4):Prop where
 all:∀r∈L,∃i j:Nat,i<n/\j<k/\r.w=(i:Int)/\0<eJ T i j/\(sg S j).1<=r.s/\r.s<r.e/\r.e<=(sg S j).2/\0<=r.b/\r.b<N
 bj:L.Pairwise (Hk R4.b)
 wj:L.Pairwise (Hk R4.w)
 sum:∀i:Nat,i<n->SM L (λr=>if r.w=(i:Int) then r.e-r.s else 0)=SM (ê k) λj=>eJ T i j
section
def iJ(h:dI T n m)(j:Nat):(jH T j).length=n:=by unfold jH;rw[Ê,h.1]
def pK(h:dI T n m)(hi:i<n)(j:Nat):(jH T j).getD i 0=eJ T i j:=by unfold jH eJ iH;rw[Ë,Ö,Ë,É (by rw[h.1];exact hi)];rfl
def Lb(hs:(sg S j).1<(sg S j).2)(i:Nat):xX W S i j<=ln S j:=by unfold xX ln;split <;> lia
def HV(h:0<xX W S i j):(wk W i).1<=(sg S j).1/\(sg S j).2<=(wk W i).2.1:=by unfold xX at h;split at h <;> lia
def Fx(F:lM W S N n m T)(hj:j<m)(hs:(sg S j).1<(sg S j).2):∀x∈jH T j,0<=x/\x<=ln S j:=λx hx=>by
 obtain⟨i,hi,e⟩:=ŷ hx;have hn:i<n:=by rw[<-iJ F.i7 j];exact hi
 have e2:=pK F.i7 hn j;rw[Ë,É hi,e]at e2;have e2:x=eJ T i j:=e2;have a:=F.lo i j hn hj;have b:=F.hi i j hn hj;have c:=Lb (W:=W) hs i
 lia
def JS(F:lM W S N n m T)(hj:j<m)(hs:(sg S j).1<(sg S j).2) :
 (∀r∈F8 S T j,∃i:Nat,i<n/\r.w=(i:Int)/\0<eJ T i j/\(sg S j).1<=r.s/\r.s<r.e/\r.e<=(sg S j).2/\0<=r.b/\r.b<N)/\(F8 S T j).Pairwise (Hk R4.b)/\(F8 S T j).Pairwise (Hk R4.w)/\∀i:Nat,i<n->SM (F8 S T j) (λr=>if r.w=(i:Int) then r.e-r.s else 0)=eJ T i j:=by
 have bd:=Fx F hj hs;have hln:ln S j=(sg S j).2-(sg S j).1:=rfl;have he:0<ln S j:=by lia
 have G:=NX he bd (jH T j).length (Õ _);have hl:=iJ F.i7 j;have hc:=F.col j hj;have hc:(jH T j).sum<=ln S j*N:=hc;refine⟨λr hr=>?_,?_,?_,λi hi=>?_⟩
 ·obtain⟨q,hq,rfl⟩:=ò.mp hr;obtain⟨i,hi,hw,a1,a2,a3,a4,a5,a6⟩:=G.all q hq;have hi2:i<n:=hl ▸ hi;have ep:pre (jH T j) (i+1)=pre (jH T j) i+eJ T i j:=by rw[<-pK F.i7 hi2 j,Ë,É hi];exact Wr.qw (É hi)
  have pl:=(Wr.Ep (λx hx=>(bd x hx).1) (i+1)).2;have a5:pre (jH T j) i<=q.b*ln S j+q.s:=a5;have a6:q.b*ln S j+q.e<=pre (jH T j) (i+1):=a6
  have hb:q.b*ln S j<N*ln S j:=by
   rw[Rf (N:Int)]
   lia
  exact⟨i,hi2,hw,by lia,by show (sg S j).1<=(sg S j).1+q.s;lia,by show (sg S j).1+q.s<(sg S j).1+q.e;lia,by show (sg S j).1+q.e<=(sg S j).2;lia,a4,Qj hb (OP he)⟩
 ·refine Ī.mpr (G.ord.imp λ{x y} z q=>.inl ?_);have z:x.b*ln S j+x.e<=y.b*ln S j+y.s:=z;have q:x.b=y.b:=q;rw[q]at z;show (sg S j).1+x.e<=(sg S j).1+y.s
  lia
 ·refine Ī.mpr (G.wk.imp λ{x y} z q=>.inr ?_);have:=(z q).2;show (sg S j).1+y.e<=(sg S j).1+x.s
  lia
 ·unfold F8;rw[zH,<-pK F.i7 hi j,<-G.sum i (hl ▸ hi)];refine dX λx _=>?_;show (if x.w=i then (sg S j).1+x.e-((sg S j).1+x.s) else 0)=_;split <;> lia
theorem Ec(F:lM W S N n m T)(hlt:∀j,j<m->(sg S j).1<(sg S j).2)(ho:∀i j,i<j->j<m->(sg S i).2<=(sg S j).1):∀k,k<=m->Ra S T N n k (Ed S T k)
 | 0,_=>⟨λr hr=>(by cases hr),.nil,.nil,λi hi=>rfl⟩
 |k+1,hk=>by
  have R:=Ec F hlt ho k (ĉ hk);obtain⟨a,b,w,s⟩:=JS F (j:=k) hk (hlt k hk);have cross:∀(f:R4->Int),∀x∈Ed S T k,∀y∈F8 S T k,Hk f x y:=λf x hx y hy _=>by obtain⟨i,j,_,hj,_,_,_,_,h1,_⟩:=R.all x hx;obtain⟨_,_,_,_,h2,_⟩:=a y hy;have:=ho j k hj hk;exact .inl (by lia)
  rw[mf];refine⟨λr hr=>?_,é.mpr ⟨R.bj,b,cross _⟩,é.mpr ⟨R.wj,w,cross _⟩,λi hi=>?_⟩
  ·rcases â.mp hr with q |q
   ·obtain⟨i,j,hi,hj,z⟩:=R.all r q;exact⟨i,j,hi,by lia,z⟩
   ·obtain⟨i,hi,z⟩:=a r q;exact⟨i,k,hi,Õ _,z⟩
  ·rw[zI,R.sum i hi,s i hi,TN,zI,bp,zG,Κ]
def yN(h:dI T n m)(hi:i<n):kI T i=SM (ê m) λj=>eJ T i j:=by unfold kI;rw[DM,h.2 i hi];rfl
def JT(hW:W.length=n)(F:lM W S N n m T)(hlt:∀j,j<m->(sg S j).1<(sg S j).2)(ho:∀i j,i<j->j<m->(sg S i).2<=(sg S j).1)(hl:∀i,i<n->ju W T i<=0):Pw W N (Ed S T m):=by
 have R:=Ec F hlt ho m (Õ _);refine⟨λr hr=>?_,R.bj,R.wj,λi hi=>?_⟩
 ·obtain⟨i,j,hi,hj,e1,e2,e3,e4,e5,e6⟩:=R.all r hr;have:=F.hi i j hi hj;obtain⟨p1,p2⟩:=HV (W:=W) (S:=S) (i:=i) (j:=j) (Int.lt_of_lt_of_le e2 this);exact⟨⟨i,hW ▸ hi,e1,ϲ p1 e3,ϲ e5 p2⟩,e4,e6⟩
 ·have hi:i<n:=hW ▸ hi;rw[R.sum i hi,<-yN F.i7 hi];have h1:=hl i hi;have h2:=F.row i hi;unfold ju at h1
  lia
theorem Ab{S:List I2}{T:List (List Int)}{n m:Nat}(h:dI T n m)(hn:n<=8):∀k,(Ed S T k).length<=16*k
 | 0=>Õ _
 |k+1=>by
  have ih:=Ab (S:=S) h hn k;have r:=Wr.qr (ln S k) (jH T k) (jH T k).length;rw[iJ h]at r;rw[mf,á];unfold F8 rws;rw[Ê,Ê,iJ h]
  lia
end
theorem yU:∀{es:List Int},es.Pairwise (· < ·)->(jL es).Pairwise λx y=>x.2<=y.1
 |[],_=>.nil
 |[_],_=>.nil
 |a::b::r,h=>by
  obtain⟨_,h2⟩:=ď.mp h;refine ď.mpr ⟨λp hp=>?_,yU h2⟩;have:=(qB h2 p hp).2.1;rcases Ú.mp this with z |z
  ·simp_all
  ·exact OP ((ď.mp h2).1 _ z)
def Aa(h:j<S.length):sg S j=S[j]:=by simp_all
def yH(h:j<S.length):sg S j∈S:=by rw[Aa h];exact Ĳ h
def D2(h:S.Pairwise λx y=>x.2<=y.1):∀i j,i<j->j<S.length->(sg S i).2<=(sg S j).1:=λi j hij hj=>by rw[Aa (ϒ hij hj),Aa hj];exact Ť.mp h i j _ hj hij
open Wr (iy pre fb)
def Mo(h:asL a O=À ds):Fv a O=À (Cz ds):=by unfold Fv;rw[h]
def Lg{bs:List Bool}:HY (.lst (bs.map D.bl))=À (.bl (bs.any id)):=by show (nq _).map _=_;rw[uE];rfl
theorem Ef:∀j,fb e hs j=(rws e hs j).map zR
 | 0=>rfl
 |j+1=>by
  have ih:=Ef (e:=e) (hs:=hs) j;have er:rws e hs (j+1)=rws e hs j++(iy e j (pre hs j) (pre hs (j+1))).map Ji:=by unfold rws;rw[show fb e hs (j+1)=fb e hs j++iy e j (pre hs j) (pre hs (j+1)) from rfl,î]
  rw[er,î];show fb e hs j++_=_;congr 1;unfold iy;split
  ·split <;> rfl
  ·rfl
def uJ(f:Wr.Gi hs N (s.2-s.1)):c7 [l8 s,.lst (hs.map D.int),.int (N:Int)]=À (.lst (((rws (s.2-s.1) hs hs.length).map (NW s.1)).map hX)):=by have ew:=Wr.wrapped f;rw[Ef,Wr.Hb]at ew;unfold Wr.Kn at ew;rw[ë]at ew;apply bS gj;refine wp_seq (ax (aA rfl rfl rfl) (wp_seq (ax (cR (aA rfl rfl rfl) rfl) ?_)));apply br (aI (bh hX (aR (aC (ae rfl (ae rfl (ae rfl rfl))) ew) rfl) (λr=>D.lst [.int r.b,.int r.w,.int (s.1+r.s),.int (s.1+r.e)]) λr _=>⟨_,rfl,aI (ae rfl (ae rfl (ae (bH rfl rfl) (ae (bH rfl rfl) rfl))))⟩));rw[ë];rfl
def AF(hW:W.length=n)(hn:n<=8)(h:dI T n m)(h0:dVar 0 O=À (au W))(h4:O.getD 4 .un=.pu (tD T))(h00:O.getD 0 .un=.pu (au W)):dy HY (dLst (dComp 1 [0,4] (jF (dy du (dVar 0))) (gN Â 0) dTrue (xS (aJ bT (dCons (dVarI 1) (dCons (dVar 2) (dCons (dVar 0) dNil)))) (dC (.int 0))))) O=À (.bl ((ê n).any λi=>decide (0<ju W T i))):=by
 have e1:dComp 1 [0,4] (jF (dy du (dVar 0))) (gN Â 0) dTrue (xS (aJ bT (dCons (dVarI 1) (dCons (dVar 2) (dCons (dVar 0) dNil)))) (dC (.int 0))) O=À (((ê n).map λi=>decide (0<ju W T i)).map D.bl):=by rw[ë];refine bh natD (qt (cf h0 (by unfold au;rw[dU,Ê,hW])) (by lia)) (λi=>D.bl (decide (0<ju W T i))) λi hi=>?_;unfold r0;rw[Ā,Ā,h4,h00];exact⟨_,rfl,fB (aC (ae rfl (ae rfl (ae rfl rfl))) (lD hW h (ö.mp hi))) rfl⟩
 rw[cf (aI e1) Lg,List.any_map];rfl
def wz(hW:W.length=n)(hn:n<=8)(h:dI T n m)(es:c8 [au W,.int (N:Int)]=À (.tup [bK S,tD T]))(hl:∃i,i<n/\0<ju W T i):cP [au W,.int (N:Int)]=À .non:=by obtain⟨i,hi,hl⟩:=hl;apply bS dY;exact wp_seq (ax (aC (ae rfl (ae rfl rfl)) es) (wp_seq (ax (aA rfl rfl rfl) (wp_seq (ax (aA rfl rfl rfl) (wp_seq (k9 (cD (AF hW hn h rfl rfl rfl) (congrArg À (Pa.mpr ⟨i,ö.mpr hi,decide_eq_true hl⟩))) (br rfl rfl))))))))
def least_le{hs:List Int}{e:Int}{N:Nat}(hN:0<N)(he:0<=e)(h1:∀h∈hs,h<=e)(h2:hs.sum<=e*N):Wr.lz hs N<=e:=by
 have ht:Wr.GC hs<=e:=by
  cases hs with
  |nil=>exact he
  |cons x r=>exact h1 _ (fQ r x).1
 have hd:Wr.xI hs.sum N<=e:=by
  have q1:=RB hs.sum N;have q2:=ŵ hs.sum (show (N:Int)≠0 by lia);unfold Wr.xI;split
  ·have:hs.sum / N*N<e*N:=by lia
   have:=Qj this (by lia)
   lia
  ·exact Int.le_of_mul_le_mul_right (show hs.sum / N*N<=e*N by lia) (by lia)
 unfold Wr.lz
 lia
def wy{W:List eh}{S:List I2}{T:List (List Int)}{n N:Nat}(hW:W.length=n)(hn:n<=8)(hN0:0<N)(hN:N<=8)(hm:S.length<=20)(F:lM W S N n S.length T)(hlt:∀j,j<S.length->(sg S j).1<(sg S j).2)(P:Pw W N (Ed S T S.length))(hl:∀i,i<n->ju W T i<=0)(es:c8 [au W,.int (N:Int)]=À (.tup [bK S,tD T])):cP [au W,.int (N:Int)]=À (.lst ((out (Ed S T S.length)).map hX)):=by
 have hline:Î=16777216:=ă;have len:=Ab (S:=S) F.i7 hn;refine bS dY ?_;rw[p6];unfold eV;refine wp_seq (ax (aC (ae rfl (ae rfl rfl)) es) ?_);walk_at "st";refine wp_seq (ax (aA rfl rfl rfl) ?_);walk_at "st";refine wp_seq (ax (aA rfl rfl rfl) ?_);walk_at "st";refine wp_seq (cw (cD (AF hW hn F.i7 rfl rfl rfl) ?_) (ba ?_))
 ·refine congrArg À (SN.mpr λi hi=>?_);have:=hl i (ö.mp hi);rw[decide_eq_true_iff]
  lia
 refine wp_seq (dD (ds:=[]) rfl (by simp only[Û,ð];lia) ?_);walk_at "st";refine wp_seq (dq (Mo (aR rfl rfl)) (λj O=>∃v6 v7:Sl,O=[.pu (au W),.pu (.int (N:Int)),.pu (.tup [bK S,tD T]),.pu (bK S),.pu (tD T),.ol ((Ed S T j).map hX),v6,v7]) ⟨_,_,rfl⟩ ?_ ?_)
 ·rintro j d O hd ⟨v6,v7,rfl⟩;obtain⟨s,hs',rfl⟩:=vQ hd;rw[Ö]at hs';obtain⟨p,hp,rfl⟩:=ė.mp hs';have hj:=(Ó.mp hp).1;have ep:p=sg S j:=by rw[Aa hj];exact((Ó.mp hp).2).symm
  subst ep;have lt:=hlt j hj;refine⟨_,rfl,?_⟩;dsimp only[gN,pe,Ă,ý];have e1:∀ O:aW,dVarI 4 O=À (tD T)->O.getD 6 .un=.pu (.int (j:Int))->dLst (dComp 1 [6] (asL (dVarI 4)) (gN Â 0) dTrue (dIx (dVarI 0) (dVar 1))) O=À (.lst ((jH T j).map D.int)):=λO q4 q6=>by unfold jH;rw[ë];refine aI (bh rM (aR q4 rfl) (λr=>D.int (jc r j)) λr hr=>?_);unfold r0;rw[Ā,PR,q6];exact⟨_,rfl,aA rfl rfl (L3 F.i7 hj hr)⟩
  have bd:=Fx F hj lt;have la:=len j;have lb:=len (j+1);rw[mf,á]at lb;refine ym rfl (aC (ae rfl (ae (e1 _ rfl rfl) (ae rfl rfl))) (uJ (⟨⟨by rw[iJ F.i7];lia,λx hx=>(bd x hx).1⟩,⟨by lia,by lia⟩,least_le hN0 (by lia) (λx hx=>(bd x hx).2) (F.col j hj),by lia⟩))) ?_ ⟨_,_,by rw[mf,î];rfl⟩;rw[Ê,Ê];show (Ed S T j).length+(F8 S T j).length<=_
  lia
 ·rintro O ⟨v6,v7,rfl⟩;rw[(by rw[Wr.Fh,Ê]:(Cz (S.map l8)).length=S.length)];have:=len S.length;exact br (aC (ae rfl rfl) (joined P.ap (by lia))) rfl
def yr(W:List eh)(k:Nat):I2:=((W.getD k (0,0,0)).1,(W.getD k (0,0,0)).2.1)
def oN(W:List eh)(S:List I2):List Int:=(W.flatMap λw=>[w.1,w.2.1])++S.flatMap λs=>[s.1,s.2]
def A3{l:List α}{x:α}(f:α->List Int)(h:l[j]?=À x):(l.take (j+1)).flatMap f=(l.take j).flatMap f++f x:=by rw[Ţ,h];simp
theorem qS(f:α->List Int)(h:∀x,(f x).length=2):∀l:List α,(l.flatMap f).length=2*l.length
 |[]=>rfl
 |x::r=>by rw[Ti,á,h,qS f h r,Û];exact S3 ..
def pieces(hW:W.length<=8)(hS:S.length<=20)(he:j6 (oN W S) es):gq [au W,bK S]=À (bK (jL es)):=by
 have hline:Î=16777216:=ă;have l1:=qS (λw:eh=>[w.1,w.2.1]) (λ_=>rfl) W;have l2:=qS (λs:I2=>[s.1,s.2]) (λ_=>rfl) S;refine bS j9 ?_;rw[wH];unfold ji;refine wp_seq (ax (d:=.lst (((W.take 0).flatMap λw=>[w.1,w.2.1]).map D.int)) rfl ?_);walk_at "st";refine wp_seq (dq (ds:=W.map λw=>D.lst (cH w)) (aR rfl rfl) (λj O=>∃v3,O=[.pu (au W),.pu (bK S),.pu (.lst (((W.take j).flatMap λw=>[w.1,w.2.1]).map D.int)),v3,.un]) ⟨_,rfl⟩ ?_ ?_)
 ·rintro j d O hd ⟨v3,rfl⟩;rw[Ö]at hd;obtain⟨w,hw,rfl⟩:=ė.mp hd;refine⟨_,rfl,?_⟩;dsimp only[gN,pe,Ă,ý];have lj:=qS (λw:eh=>[w.1,w.2.1]) (λ_=>rfl) (W.take j);have lt:=Si j W;rw[A3 _ hw];refine ax (d:=.lst ((((W.take j).flatMap λw=>[w.1,w.2.1])++[w.1,w.2.1]).map D.int)) (aI ?_) ⟨_,rfl⟩;rw[î];exact qV rfl (aI (ae (aA rfl rfl rfl) (ae (aA rfl rfl rfl) rfl))) (by have:(W.take j).length<=W.length:=Pr j W;rw[Ê,lj];simp;lia)
 ·rintro O ⟨v3,rfl⟩;rw[Ê,Ĺ];refine wp_seq (dq (ds:=S.map l8) (aR rfl rfl) (λj O=>∃v4,O=[.pu (au W),.pu (bK S),.pu (.lst (((W.flatMap λw=>[w.1,w.2.1])++(S.take j).flatMap λs=>[s.1,s.2]).map D.int)),v3,v4]) ⟨.un,by simp⟩ ?_ ?_)
  ·rintro j d O hd ⟨v4,rfl⟩;rw[Ö]at hd;obtain⟨s,hs,rfl⟩:=ė.mp hd;refine⟨_,rfl,?_⟩;dsimp only[gN,pe,Ă,ý];have lj:=qS (λs:I2=>[s.1,s.2]) (λ_=>rfl) (S.take j);rw[A3 _ hs,<- ą];refine ax (d:=.lst ((((W.flatMap λw=>[w.1,w.2.1])++(S.take j).flatMap λs=>[s.1,s.2])++[s.1,s.2]).map D.int)) (aI ?_) ⟨_,rfl⟩;rw[î (l₁:=(W.flatMap λw=>[w.1,w.2.1])++(S.take j).flatMap λs=>[s.1,s.2])];exact qV rfl rfl (by have:(S.take j).length<=S.length:=Pr j S;rw[Ê,á,l1,lj];simp;lia)
  ·rintro O ⟨v4,rfl⟩;rw[Ê,Ĺ];have hel:es.length<=(oN W S).length:=ϊ he.1 λx hx=>(he.2.1 x).mp hx;have hE:(oN W S).length<=56:=by unfold oN;rw[á,l1,l2];lia
   refine wp_seq (ax (aI (xK (ns:=oN W S) (aR rfl rfl) (by lia) he)) ?_);refine br (aI ?_) rfl;rw[tW,ë];refine bh natD ?_ (λk=>l8 (es.getD k 0,es.getD (k+1) 0)) λk hk=>⟨_,rfl,?_⟩
   ·rw[lF (cR (cf rfl (by show À (D.int ((es.map D.int).length))=_;rw[Ê])) rfl) ⟨by lia,by lia⟩];rw[show ((es.length:Int)-1).toNat=es.length-1 by lia];refine congrArg À (ę λi _=>?_);unfold natD;rw[show (0:Int)+i=i from Rb ..]
   ·have hk:=ö.mp hk;exact aI (ae (aA rfl rfl (sG (int_at (by lia)))) (ae (aA rfl (bH rfl rfl) (sF (rfl) (int_at (by lia)))) rfl))
def Fw(l:List Nat)(p:Nat->Bool):((l.filter p).length:Int)=SM l λk=>if p k=Â then 1 else 0:=by
 induction l with
 |nil=>rfl
 |cons x l ih =>
  rw[bp,<-ih];by_cases c:p x=Â
  ·rw[ϋ c,if_pos c,Û];lia
  ·simp_all
open Classical in
noncomputable def gR(W:List eh)(N:Int)(xs:List Nat)(S:List I2)(p:I2):Int:=if ∃s∈S,AU s p then N else SM (xs.map (yr W)) λw=>if AU w p then 1 else 0
def xE(ha:a O=À (.lst xs)):dT (jG Ã a (dLst dNil)) O=À (decide (xs=[])):=cb (ud ha)
def uG{l:List α}{x:α}(f:α->Int)(h:l[j]?=À x):SM (l.take (j+1)) f=SM (l.take j) f+f x:=by unfold SM;rw[Ţ,h];simp
def Kw(hW:W.length<=8)(hS:S.length<=20)(he:j6 (oN W S) es){N:Nat}(hN:N<=8)(hx:∀k∈xs,k<W.length)(hxl:xs.length<=8):iP [au W,.int (N:Int),.lst (xs.map natD),bK S]=À (.int (SM (jL es) λp=>gR W N xs S p*(p.2-p.1))):=by
 refine bS mV ?_;rw[BF];unfold m8;refine wp_seq (ax (d:=.int (SM ((jL es).take 0) λp=>gR W N xs S p*(p.2-p.1))) rfl ?_);walk_at "st";refine wp_seq (dq (ds:=(jL es).map l8) (aR (aC (ae rfl (ae rfl rfl)) (pieces hW hS he)) rfl) (λj O=>∃v5 v6 v7 v8,O=[.pu (au W),.bo (.int (N:Int)),.pu (.lst (xs.map natD)),.pu (bK S),.pu (.int (SM ((jL es).take j) λp=>gR W N xs S p*(p.2-p.1))),v5,v6,v7,v8]) ⟨_,_,_,_,rfl⟩ ?_ ?_)
 ·rintro j d O hd ⟨v5,v6,v7,v8,rfl⟩;rw[Ö]at hd;obtain⟨p,hp,rfl⟩:=ė.mp hd;refine⟨_,rfl,?_⟩;dsimp only[gN,pe,Ă,ý];rw[uG _ hp];generalize SM ((jL es).take j) (λp=>gR W N xs S p*(p.2-p.1))=bD;refine wp_seq (ax (d:=.lst ((S.filter λs=>decide (s.1<=p.1)&&decide (p.2<=s.2)).map l8)) (aI (fe l8 (aR rfl rfl) (λs=>decide (s.1<=p.1)&&decide (p.2<=s.2)) l8 λs _=>⟨_,rfl,ja (cb (uc (aA rfl rfl rfl) rfl)) λ_=>cb (uc rfl (aA rfl rfl rfl)),λ_=>rfl⟩)) ?_);walk_at "st";refine wp_seq (ax (ky rfl rfl) ?_);walk_at "st";have mem:∀s,s∈S.filter (λs=>decide (s.1<=p.1)&&decide (p.2<=s.2))↔s∈S/\AU s p:=λs=>by rw[Ě];unfold AU;simp
  have fin:∀(v7:Sl) (q:Int),0<=q->q<=8->gR W N xs S p=q->Wp (aU 4 (dAdd (dVar 4) (fg (dVar 8) (gA (dVar 6) (dVar 5))))) [.pu (au W),.bo (.int (N:Int)),.pu (.lst (xs.map natD)),.pu (bK S),.pu (.int bD),.pu (.int p.1),.pu (.int p.2),v7,.pu (.int q)] {nx:=λO=>∃v5 v6 v7 v8,O=[.pu (au W),.bo (.int (N:Int)),.pu (.lst (xs.map natD)),.pu (bK S),.pu (.int (bD+gR W N xs S p*(p.2-p.1))),v5,v6,v7,v8],rt:=λx=>x=.int (SM (jL es) λp=>gR W N xs S p*(p.2-p.1)),ct:=λO=>∃v5 v6 v7 v8,O=[.pu (au W),.bo (.int (N:Int)),.pu (.lst (xs.map natD)),.pu (bK S),.pu (.int (bD+gR W N xs S p*(p.2-p.1))),v5,v6,v7,v8],bk:=λO=>Wp (sRet (dVarI 4)) O {nx:=λ_=>D.non=.int (SM (jL es) λp=>gR W N xs S p*(p.2-p.1)),rt:=λx=>x=.int (SM (jL es) λp=>gR W N xs S p*(p.2-p.1)) } }:=λv7 q h0 h1 hq=>by rw[hq];exact ax (bH rfl (ig rfl (cR rfl rfl) (sI (.inl ⟨by lia,by lia⟩)))) ⟨_,_,_,_,rfl⟩
  cases e:S.filter (λs=>decide (s.1<=p.1)&&decide (p.2<=s.2))with
  |nil =>
   rw[e]at mem;have no:¬ ∃s∈S,AU s p:=λ⟨s,hs,z⟩=>by have:=(mem s).mpr ⟨hs,z⟩;cases this
   have ec:=Fw xs λk=>decide ((yr W k).1<=p.1)&&decide (p.2<=(yr W k).2);have lc:(xs.filter λk=>decide ((yr W k).1<=p.1)&&decide (p.2<=(yr W k).2)).length<=xs.length:=RC _ _
   have em:gR W N xs S p=((xs.filter λk=>decide ((yr W k).1<=p.1)&&decide (p.2<=(yr W k).2)).length:Int):=by
    unfold gR;rw[if_neg no,ec,zH];refine dX λk _=>?_;by_cases c:AU (yr W k) p
    ·rw[if_pos c,if_pos (by unfold AU at c;simpa using c)]
    ·rw[if_neg c,if_neg (by unfold AU at c;simpa using c)]
   refine wp_seq (k9 (xE (xs:=[]) rfl) (ax (d:=.int ((xs.filter λk=>decide ((yr W k).1<=p.1)&&decide (p.2<=(yr W k).2)).length:Int)) ?_ ?_))
   ·refine cf (aI (fe natD (aR rfl rfl) (λk=>decide ((yr W k).1<=p.1)&&decide (p.2<=(yr W k).2)) natD λk hk=>⟨_,rfl,ja (cb (uc (aA (aA rfl rfl (sG (df (hx k hk)))) rfl rfl) rfl)) λ_=>cb (uc rfl (aA (aA rfl rfl (sG (df (hx k hk)))) rfl rfl)),λ_=>rfl⟩)) ?_;show À (D.int (((xs.filter _).map natD).length:Nat))=_;rw[Ê]
   ·walk_at "st";exact fin _ _ (à _) (by lia) em
  |cons s r =>
   rw[e]at mem;have ye:∃s∈S,AU s p:=by obtain⟨h1,h2⟩:=(mem s).mp Ò;exact⟨s,h1,h2⟩
   refine wp_seq (cw (by rw[xE rfl];rfl) (ba (fin _ _ (à _) (by lia) ?_)));unfold gR;rw[if_pos ye]
 ·rintro O ⟨v5,v6,v7,v8,rfl⟩;rw[Ê,Ĺ];exact br rfl rfl
def Lh{bs:List Bool}:FJ (.lst (bs.map D.bl))=À (.bl (bs.all id)):=by show (nq _).map _=_;rw[uE];rfl
def whole(x:Int):dm [.int x]=À (.bl Â):=by apply bS kY;exact br (mG rfl λ_=>rfl) rfl
section
def yd(ha:p O=À Ã)(hb:q O=À Ã):rh p q O=À false:=xD ha λ_=>hb
def vx(ha:p O=À Â):kK p O=À false:=og ha
def Mi(ha:a O=À (.int i))(hb:b O=À (.int j))(h:j<=i):dT (xP a b) O=À false:=by rw[cb (oM ha hb),decide_eq_false (Qa.2 h)]
def N3(ha:a O=À (.int i))(hb:b O=À (.int j))(h:j<i):dT (Gd a b) O=À false:=by rw[cb (uc ha hb),decide_eq_false (ϑ.2 h)]
def MR(ha:a O=À (.int i))(hb:b O=À (.int j))(h:i<j):dT (C1 a b) O=À false:=by rw[cb (ue ha hb),decide_eq_false (ϑ.2 h)]
def Om(ha:a O=À (.int i))(hb:b O=À (.int j))(h:i<=j):dT (xS a b) O=À false:=by rw[cb (fB ha hb),decide_eq_false (Qa.2 h)]
def Nj(ha:a O=À (.int i))(hb:b O=À (.int i)):dT (jG Â a b) O=À false:=by rw[cb (zm ha hb),decide_eq_false (by lia)]
def Di(hk:k < O.length){zs:List Int}(h:O.getD k .un=.pu (.lst (zs.map D.int))):ij (dy FJ (dLst (dComp 1 [] (asL (dVarI k)) (gN Â 0) dTrue (aJ dm (dCons (dVar 0) dNil))))) O=À true:=by
 have e0:dVarI k O=À (.lst (zs.map D.int)):=by unfold dVarI;rw[h]
 have e1:dComp 1 [] (asL (dVarI k)) (gN Â 0) dTrue (aJ dm (dCons (dVar 0) dNil)) O=À ((zs.map λ_=>Â).map D.bl):=by rw[ë];exact bh D.int (aR e0 rfl) (λ_=>D.bl Â) λz _=>⟨_,rfl,aC (ae rfl rfl) (whole z)⟩
 apply cD (cf (aI e1) Lh);show À _=À _;simp
end
def Kv(W:List eh):du (au W)=À (.int (W.length:Int)):=by unfold au;rw[dU,Ê]
def Jd(h:i<W.length):wk W i∈W:=by simp_all
def vg{R:α->α->Prop}{l:List α}{y:α}(h:l.Pairwise R)(hy:l[j]?=À y):∀x∈l.take j,R x y:=λx hx=>by
 have ed:l=l.take j++y::l.drop (j+1):=by rw[<-(Ó.mp hy).2,<- ó ((Ó.mp hy).1),ē]
 rw[ed]at h;exact(é.mp h).2.2 x hx y Ò
def Dy{l:List α}{y:α}(hy:l[j]?=À y):y∈l.take (j+1)/\∀x∈l.take j,x∈l.take (j+1):=by rw[Ţ,hy];simp_all
def HQ(n:Nat)(xs ys:List Int):fJ (n+1) (.lst (xs.map D.int)) (.lst (ys.map D.int))=true:=by refine Bd λx hx y hy=>?_;obtain⟨p,_,rfl⟩:=ò.mp hx;obtain⟨q,_,rfl⟩:=ò.mp hy;cases n <;> rfl
def fw(i:Nat)(r:R4):Int:=if r.w=(i:Int) then r.e-r.s else 0
def dn(n:Nat)(L:List R4):List Int:=(ê n).map λi=>SM L (fw i)
def zp(n:Nat)(L:List R4):(dn n L).length=n:=by unfold dn;rw[Ê,Ę]
def Mr(L:List R4)(h:i<n):(dn n L).getD i 0=SM L (fw i):=by unfold dn;rw[Ë,Ö,Ox h];rfl
def HL{i:Nat}{Q:List R4}(hr:Q[j]?=À r)(hw:r.w=(i:Int))(hi:i<n):(dn n (Q.take j)).set i (SM (Q.take j) (fw i)+r.e-r.s)=dn n (Q.take (j+1)):=by
 refine Ń λk=>?_;rw[ϣ];by_cases c:i=k
 ·subst c;rw[if_pos rfl,if_pos (by rw[zp];exact hi)];unfold dn;rw[Ö,Ox hi,ϙ,uG _ hr];unfold fw;rw[if_pos hw];exact congrArg À (by lia)
 ·rw[if_neg c];unfold dn;rw[Ö,Ö];by_cases d:k<n
  ·rw[Ox d,ϙ,ϙ,uG _ hr];unfold fw;rw[if_neg (by lia),Κ]
  ·simp_all
def Hx (hn:W.length≤8) (hN:N≤8) (P:Pw W N Q) (hg:∀ w∈W,0≤w.1) (up:Q.Pairwise Lx) (no:∀ x∈Q,∀ y∈Q,¬ Nx x y):fo [au W,.int (N:Int),.lst (Q.map hX)]=some (.bl true):=by
  have hline:Î=16777216:=ă;refine bS jB ?_;rw[uO];unfold gZ;refine wp_seq (cw (vx (cD (d:=.bl Â) rfl rfl)) (ba ?_));have rep:∀ O:aW,dVar 0 O=À (au W)->mI (dCons (dC (.int 0)) dNil) (dy du (dVar 0)) O=À ((æ W.length (0:Int)).map D.int):=λO q=>by rw[oe (ds:=[.int 0]) (i:=(W.length:Int)) rfl (cf q (Kv W)) ⟨à _,by lia,by simp only[Û,ð];lia⟩,ŏ,vc]
  refine wp_seq (dD (rep _ rfl) (by simp only[Û,ð];exact Đ ..) ?_);walk_at "st";refine wp_seq (dD (ds:=(æ N ((-1,-1):I2)).map l8) ?_ (by simp only[Û,ð];exact Đ ..) ?_)
  · have:=bh (O:=[.bo (au W),.bo (.int (N:Int)),.pu (.lst (Q.map hX)),.ol ((æ W.length (0:Int)).map D.int),.un,.un,.un,.un,.un,.un,.un,.un]) (k:=1) (cs:=[]) (g:=gN Â 0) (el:=dLst (dCons (iI (dC (.int 1))) (dCons (iI (dC (.int 1))) dNil))) natD (qt (a:=dVar 1) (k:=N) rfl (by lia)) (λ_=>l8 (-1,-1)) λk _=>⟨_,rfl,aI (ae (j3 rfl) (ae (j3 rfl) rfl))⟩
    rw[this,PD,Ę,OI]
  walk_at "st";refine wp_seq (dD (rep _ rfl) (by simp only[Û,ð];exact Đ ..) ?_);walk_at "st";refine wp_seq (ax (d:=l8 (-1,-1)) (aI (ae (j3 rfl) (ae (j3 rfl) rfl))) ?_);walk_at "st";have d0:æ W.length (0:Int)=dn W.length (Q.take 0):=by unfold dn;rw[show (λi=>SM (Q.take 0) (fw i))=λ_=>(0:Int) from rfl,PD,Ę]
  refine wp_seq (dq (ds:=Q.map hX) (aR rfl rfl) (λj O=>∃(ls:List I2) (fr:List Int) (ah:I2) (v7 v8 v9 v10 v11:Sl),ls.length=N/\fr.length=W.length/\(∀b,b<N->ls.getD b (0,0)=(-1,-1)\/∃r∈Q.take j,r.b=(b:Int)/\ls.getD b (0,0)=(r.w,r.e))/\(∀i,i<W.length->fr.getD i 0=0\/∃r∈Q.take j,r.w=(i:Int)/\fr.getD i 0=r.e)/\(ah=(-1,-1)\/∃r∈Q.take j,ah=(r.s,r.b))/\O=[.bo (au W),.bo (.int (N:Int)),.pu (.lst (Q.map hX)),.ol ((dn W.length (Q.take j)).map D.int),.ol (ls.map l8),.ol (fr.map D.int),.pu (l8 ah),v7,v8,v9,v10,v11]) ⟨æ N (-1,-1),æ W.length 0,(-1,-1),_,_,_,_,_,ü,ü,λb hb=>.inl (by rw[Ë,đ,if_pos hb];rfl),λi hi=>.inl (by rw[Ë,đ,if_pos hi];rfl),.inl rfl,by rw[<-d0]⟩ ?_ ?_)
  · rintro j d O hd ⟨ls,fr,ah,v7,v8,v9,v10,v11,hll,hfl,hls,hfr,hah,rfl⟩;rw[Ö]at hd;obtain⟨r,hr,rfl⟩:=ė.mp hd;obtain⟨⟨i,hi,hw,a1,a3⟩,a2,a4,a5⟩:=P.all r (õ hr);have a0:=hg _ (Jd hi);have pu:=vg up hr;have pb:=vg P.bj hr;have pw:=vg P.wj hr;have pos:∀x∈Q.take j,x.s<x.e/\0<=x.w:=λx hx=>by obtain⟨⟨k,_,q,_⟩,q2,_⟩:=P.all x (ģ hx);exact⟨q2,by lia⟩
    obtain⟨b,hb⟩:∃b:Nat,r.b=(b:Int):=⟨r.b.toNat,by lia⟩
    have hbN:b<N:=by lia
    obtain⟨tm,tk⟩:=Dy hr;refine⟨_,rfl,?_⟩;dsimp only[gN,pe,Ă,ý];refine wp_seq (cw (yd (vx (cD (d:=.bl Â) rfl rfl)) (yd (Nj (i:=4) (cf rfl rfl) rfl) (vx (Di (k:=7) (zs:=zR r) (by simp only[Û,ð];exact Đ ..) rfl)))) (ba ?_));refine wp_seq (Ih (d:=hX r) rfl rfl ?_);dsimp only[gN,pe,Ă,ý];refine wp_seq (cw (yd (Mi rfl rfl a4) (yd (MR rfl rfl a5) (yd (Mi rfl rfl (by show 0<=r.w;lia)) (MR rfl (cf rfl (Kv W)) (by show r.w < _;lia))))) (ba ?_));have exL:∀ O:aW,dVar 4 O=À (.lst (ls.map l8))->dVar 8 O=À (.int r.b)->dIx (dVar 4) (dVar 8) O=À (l8 (ls.getD b (0,0))):=λO q1 q2=>aA q1 q2 (sF (a:=b) hb (tL (hll ▸ hbN)))
    have hlb:(ls.getD b (0,0)).2<=r.s/\ls.getD b (0,0)≠(r.w,r.s):=by
      rcases hls b hbN with z |⟨x,hx,z1,z2⟩
      · rw[z];refine⟨by show -1<=r.s;lia,λw=>?_⟩;have:(-1:Int)=r.w:=(TH w).1
        lia
      · rw[z2];have q1:=pu x hx;have q2:=pb x hx (show x.b=r.b by lia);have q3:=pos x hx;unfold Lx at q1;refine⟨by show x.e<=r.s;lia,λw=>?_⟩;have w1:x.w=r.w:=(TH w).1;have w2:x.e=r.s:=(TH w).2;exact no x (ģ hx) r (õ hr) ⟨by lia,w1.symm,w2.symm⟩
    have hfw:fr.getD i 0<=r.s:=by
      rcases hfr i hi with z |⟨x,hx,z1,z2⟩
      · lia
      · rw[z2];have q1:=pu x hx;have q2:=pw x hx (show x.w=r.w by lia);have q3:=pos x hx;unfold Lx at q1
        lia
    have hlx:lexLe [r.s,r.b] [ah.1,ah.2]=false:=by
      unfold lexLe;rcases hah with z |⟨x,hx,z⟩
      · rw[z];show (if r.s=-1 then _ else decide (r.s<=-1))=Ã;rw[if_neg (by lia)];exact decide_eq_false (by lia)
      · rw[z];have q1:=pu x hx;have q2:=pb x hx;have q3:=pos x hx;unfold Lx at q1;show (if r.s=x.s then lexLe [r.b] [x.b] else decide (r.s<=x.s))=Ã;by_cases c:r.s=x.s
        · rw[if_pos c];show (if r.b=x.b then _ else decide (r.b<=x.b))=Ã
          have:r.b≠x.b:=λw=>by
            have:=q2 w.symm
            lia
          rw[if_neg this];exact decide_eq_false (by lia)
        · rw[if_neg c];exact decide_eq_false (by lia)
    refine wp_seq (cw (yd ?_ (yd (MR rfl rfl a2) (Mi rfl (kA (aA (exL _ rfl rfl) rfl rfl) (aA rfl rfl (sF (a:=i) hw (int_at (hfl ▸ hi))))) (by lia)))) (ba ?_))
    · rw[cb (K0 (ns:=[r.s,r.b]) (ms:=[ah.1,ah.2]) rfl rfl rfl),hlx]
    refine wp_seq (cw (yd ?_ (yd (Mi rfl (aA (aA rfl rfl (by rw[hw];exact sG (df hi))) rfl rfl) a1) (Om rfl (aA (aA rfl rfl (by rw[hw];exact sG (df hi))) rfl rfl) a3))) (ba ?_))
    · have ne:l8 (ls.getD b (0,0))≠D.lst [.int r.w,.int r.s]:=λw=>by unfold l8 at w;injection w with w;injection w with w1 w;injection w with w2 _;injection w1 with w1;injection w2 with w2;exact hlb.2 (Prod.ext w1 w2)
      rw[cb (xF (neg:=Ã) (exL _ rfl rfl) (aI (ae rfl (ae rfl rfl))) rfl)];simp only[ϓ,if_false,ne,decide_false]
    refine wp_seq (ax (d:=l8 (r.s,r.b)) (aI (ae rfl (ae rfl rfl))) ?_);walk_at "st";refine wp_seq (k8 (n:=r.b) (j:=b) (d:=l8 (r.w,r.e)) rfl (aI (ae rfl (ae rfl rfl))) rfl (by rw[Ê,hb,hll];exact lC hbN) ?_);walk_at "st";refine wp_seq (k8 (n:=r.w) (j:=i) (d:=.int r.e) rfl rfl rfl (by rw[Ê,hw,hfl];exact lC hi) ?_);walk_at "st";refine k8 (n:=r.w) (j:=i) (d:=.int (SM (Q.take j) (fw i)+r.e-r.s)) rfl (cR (bH (aA rfl rfl (sF (a:=i) hw (by rw[int_at (by rw[zp];exact hi),Mr _ hi]))) rfl) rfl) rfl (by rw[Ê,hw,zp];exact lC hi) ?_;walk_at "st";refine⟨ls.set b (r.w,r.e),fr.set i r.e,(r.s,r.b),_,_,_,_,_,by rw[Ħ];exact hll,by rw[Ħ];exact hfl,λc hc=>?_,λc hc=>?_,.inr ⟨r,tm,rfl⟩,by rw[jR,jR,HL hr hw hi,show (ls.map l8).set b (l8 (r.w,r.e))=(ls.set b (r.w,r.e)).map l8 from ϴ.symm]⟩
    · rw[Ë,ϣ];by_cases q:b=c
      · subst q;rw[if_pos rfl,if_pos (hll ▸ hc)];exact .inr ⟨r,tm,hb,rfl⟩
      · rw[if_neg q,<- Ë];rcases hls c hc with z |⟨x,hx,z⟩
        · exact .inl z
        · exact .inr ⟨x,tk x hx,z⟩
    · rw[Cu (hfl ▸ hi)];by_cases q:c=i
      · subst q;rw[if_pos rfl];exact .inr ⟨r,tm,hw,rfl⟩
      · rw[if_neg q];rcases hfr c hc with z |⟨x,hx,z⟩
        · exact .inl z
        · exact .inr ⟨x,tk x hx,z⟩
  · rintro O ⟨ls,fr,ah,v7,v8,v9,v10,v11,hll,hfl,hls,hfr,hah,rfl⟩;rw[Ê,Ĺ]
    have ed:dn W.length Q=W.map λw=>w.2.2:=by
      refine Ń λk=>?_;unfold dn;rw[Ö,Ö];by_cases c:k<W.length
      · rw[Ox c,É c,ϙ,ϙ];have:=P.sum k c;rw[show wk W k=W[k] by show W.getD k (0,0,0)=_;rw[Ë,É c];rfl]at this;exact congrArg À this
      · rw[Ĕ (by rw[Ę];exact ņ.1 c),Ĕ (ņ.1 c)];rfl
    rw[ed];refine br (Cy rfl (aI ?_) (HQ 19 _ _)) rfl;rw[ë];exact bh (λw:eh=>D.lst (cH w)) (xs:=W) rfl (λw=>D.int w.2.2) λw _=>⟨_,rfl,ky (aA rfl rfl rfl) rfl⟩
theorem ux(p:α->Bool)(f:α->Int):∀l:List α,SM (l.filter p) f=SM l λx=>if p x=Â then f x else 0
 |[]=>rfl
 |x::l=>by
  rw[bp,<-ux p f l];by_cases c:p x=Â
  ·rw[ϋ c,if_pos c,bp]
  ·simp_all
def FQ(h:∀x∈l,f x<=g x):SM l f<=SM l g:=by
 have:=FP (f:=λx=>g x-f x) λx hx=>by have:=h x hx;lia
 rw[FO]at this
 lia
def Mv{l:List Nat}(nd:l.Nodup)(h:∀x∈l,f x<=g x)(hk:k∈l)(hlt:f k<g k):SM l f<SM l g:=by
 have h1:SM l (λi=>f i+if k=i then g k-f k else 0)<=SM l g:=FQ λx hx=>by
  by_cases c:k=x
  ·subst c;lia
  ·simp_all
 rw[FR,zF nd hk]at h1
 lia
def EM(R:C2 W S T n m kvs)(R2:C2 W S T n m kvs2)(cl:∀p∈keys kvs2,∀v,A7 W S T n m p v->v∈keys kvs2):∀p∈keys kvs,p∈keys kvs2:=by
 have key:∀(t p q:Nat),kvs[t]?=À (p,q)->p∈keys kvs2:=by
  intro t;induction t using Pz with
  |_ t ih =>
   intro p q e;rcases R.bf.src t p q e with⟨_,hr⟩ |⟨u,r,hu,eu,ed⟩
   ·exact R2.roots p hr.1 hr.2
   ·exact cl q (ih u hu q r eu) p ed
 intro p hp;obtain⟨t,q,e⟩:=mE hp;exact key t p q e
def Ax(hW:W.length=n)(es:c8 [au W,.int (N:Int)]=À (.tup [bK S,tD T]))(er:eM [au W,bK S,tD T]=À (.dct (kvs.map zz)))(hk:kvs.length<64)(hp:(xs++ys).Perm (keys kvs))(hs:(xs++ys).Pairwise (·<=·))(hx:∀k∈xs,k<n)(hy:∀k∈ys,n<=k/\k<n+S.length):c9 [au W,.int (N:Int)]=À (if xs++ys=[] then .non else .tup [.lst (xs.map natD),bK (ys.map λk=>sg S (k-n))]):=by
 have eW:du (au W)=À (.int (n:Int)):=by unfold au;rw[dU,Ê,hW]
 have e1:yB ((kvs.map zz).map λp=>p.1)=(xs++ys).map λk:Nat=>(k:Int):=by
  refine(tF ?_ ?_).symm
  ·rw[ë];have:=hp.map λk:Nat=>(k:Int)
   unfold keys at this;rw[ë]at this;exact this
  ·rw[Ī];exact hs.imp λh=>Tg.2 h
 have fx:(xs++ys).filter (λk:Nat=>decide ((k:Int)<(n:Int)))=xs:=by rw[SJ,Ϲ.mpr λk hk=>decide_eq_true (by have:=hx k hk;exact ϗ.2 this),Rg.mpr λk hk=>by have:=hy k hk;rw[decide_eq_true_iff];lia,ě]
 have fy:(xs++ys).filter (λk:Nat=>decide ((n:Int)<=(k:Int)))=ys:=by rw[SJ,Rg.mpr λk hk=>by have:=hx k hk;rw[decide_eq_true_iff];lia,Ϲ.mpr λk hk=>decide_eq_true (by have:=hy k hk;exact Tg.2 this.1),Py]
 refine bS jz ?_;rw[uN];unfold gY;refine wp_seq (ax (aC (ae rfl (ae rfl rfl)) es) ?_);walk_at "st";refine wp_seq (ax (aA rfl rfl rfl) ?_);walk_at "st";refine wp_seq (ax (d:=.lst ((xs++ys).map natD)) (aI ?_) ?_)
 ·rw[Fo (aC (ae rfl (ae rfl (ae (aA rfl rfl rfl) rfl))) er) (by rw[Ê];lia),e1,xh]
 walk_at "st";by_cases c:xs++ys=[]
 ·rw[if_pos c];refine wp_seq (k9 (og (x:=Ã) (cD rfl ?_)) (br rfl rfl));rw[c];rfl
 ·rw[if_neg c];refine wp_seq (cw (og (x:=Â) (cD rfl ?_)) (ba ?_))
  ·show À (!((xs++ys).map natD).isEmpty)=_;rw[List.isEmpty_map];cases h:xs++ys with
   |nil=>exact absurd h c
   |cons=>rfl
  refine wp_seq (ax (cf rfl eW) ?_);walk_at "st";refine wp_seq (ax (d:=.lst (xs.map natD)) (aI ?_) ?_)
  ·have:=fe (O:=[.pu (au W),.pu (.int (N:Int)),.pu (.tup [bK S,tD T]),.pu (bK S),.pu (.lst ((xs++ys).map natD)),.pu (.int (n:Int)),.un]) (k:=1) (cs:=[5]) (it:=asL (dVarI 4)) (g:=gN Â 0) (t:=dT (xP (dVar 0) (dVar 1))) (el:=dVarI 0) natD rfl (λk=>decide ((k:Int)<n)) natD λk _=>⟨_,rfl,cb (oM rfl rfl),λ_=>rfl⟩
   rw[fx]at this;exact this
  refine br (vN (ae rfl (ae (aI (ds:=ys.map λk=>l8 (sg S (k-n))) ?_) rfl))) (by unfold bK;rw[ë];rfl)
  have:=fe (O:=[.pu (au W),.pu (.int N),.pu (.tup [bK S,tD T]),.pu (bK S),.pu (.lst ((xs++ys).map natD)),.pu (.int n),.pu (.lst (xs.map natD))]) (k:=1) (cs:=[5,3]) (it:=asL (dVarI 4)) (g:=gN Â 0) (t:=dT (C1 (dVar 0) (dVar 1))) (el:=dIx (dVarI 2) (gA (dVar 0) (dVar 1))) natD rfl (λk=>decide ((n:Int)<=k)) (λk=>l8 (sg S (k-n))) λk hk=>⟨_,rfl,cb (ue rfl rfl),λc=>by
   have hk:k<n+S.length:=by
    rcases â.mp hk with q |q
    ·have:=hx k q
     lia
    ·exact(hy k q).2
   exact aA rfl (cR rfl rfl) (sF (by lia) (tL (by lia)))⟩
  rw[fy]at this;exact this
def Hr(S:List I2)(f:I2->Int):SM S f=SM (ê S.length) λj=>f (sg S j):=by
 unfold SM;congr 1;refine Ń λi=>?_;by_cases c:i<S.length
 ·simp_all
 ·simp_all
section
def K9(h:dI T n m)(j:Nat):mK T j=SM (ê n) λi=>eJ T i j:=by show (jH T j).sum=_;rw[DM,iJ h];exact dX λi hi=>pK h (ö.mp hi) j
def cut(F:lM W S N n m T)(hlt:∀j,j<m->(sg S j).1<(sg S j).2){K:List Nat}(cl:∀p∈K,∀v,A7 W S T n m p v->v∈K)(fl:∀j,n+j∈K->rL N S T j<=0)(hi0:i0<n)(hk0:i0∈K)(hl0:0<ju W T i0)(exs:xs=(ê n).filter λk=>decide (k∈K)) :
 SM (ê m) (λj=>(if n+j∈K then (N:Int) else SM xs λi=>if AU (yr W i) (sg S j) then 1 else 0)*ln S j)<SM xs λi=>(wk W i).2.2:=by
 have hx:∀k,k∈xs↔k<n/\k∈K:=λk=>by rw[exs,Ě,ö,decide_eq_true_iff]
 have nd:xs.Nodup:=by rw[exs];exact QR.sublist Ρ
 have A:∀j,j<m->(if n+j∈K then (N:Int) else SM xs λi=>if AU (yr W i) (sg S j) then 1 else 0)*ln S j<=SM xs λi=>eJ T i j:=λj hj=>by
  have lt:=hlt j hj;by_cases c:n+j∈K
  ·rw[if_pos c,exs,ux];have f:=fl j c;unfold rL at f;rw[K9 F.i7]at f
   have e:SM (ê n) (λi=>if decide (i∈K)=Â then eJ T i j else 0)=SM (ê n) λi=>eJ T i j:=dX λi hi=>by
    have hi:=ö.mp hi;by_cases d:i∈K
    ·rw[if_pos (decide_eq_true d)]
    ·rw[if_neg (by rw[decide_eq_true_iff];exact d)];have:=F.lo i j hi hj;have:¬ 0<eJ T i j:=λw=>d (cl _ c i (.inr ⟨ľ ..,hi,by rw[QS];exact w⟩))
     lia
   rw[e,Rf]
   lia
  ·rw[if_neg c,Rf,<-Lk];refine FQ λi hi=>?_;obtain⟨h1,h2⟩:=(hx i).mp hi;have ed:¬ 0<rK W S T i j:=λw=>c (cl i h2 _ (.inl ⟨h1,ľ ..,by lia,by simp_all⟩));unfold rK at ed;by_cases q:AU (yr W i) (sg S j)
   ·rw[if_pos q,RE];have q:(wk W i).1<=(sg S j).1/\(sg S j).2<=(wk W i).2.1:=q;rw[if_neg (by lia)]at ed
    lia
   ·rw[if_neg q,Ι];exact(F.lo i j h1 hj)
 have B:=FQ λj hj=>A j (ö.mp hj);rw[Ia]at B;refine Qi B (Mv nd (λi hi=>?_) ((hx i0).mpr ⟨hi0,hk0⟩) ?_)
 ·rw[<-yN F.i7 ((hx i).mp hi).1];exact F.row i ((hx i).mp hi).1
 ·rw[<-yN F.i7 hi0];unfold ju at hl0
  lia
def B8(hW:W.length=n)(hn:n<=8)(hm:S.length<=20)(hr:dI T n S.length)(hl:∀i,i<n->ju W T i<=0)(es:c8 [au W,.int (N:Int)]=À (.tup [bK S,tD T])):c9 [au W,.int (N:Int)]=À .non:=by
 obtain⟨kvs,er,R,_⟩:=vd hW rfl hn hm hr
 have h0:kvs=[]:=by
  cases kvs with
  |nil=>rfl
  |cons p q =>
   rcases R.bf.src 0 p.1 p.2 rfl with⟨_,z⟩ |⟨u,_,hu,_⟩
   ·have:=hl _ z.1
    lia
   ·lia
 subst h0;exact Ax hW es er (by decide) (xs:=[]) (.refl _) .nil (λk h=>by cases h) λk h=>by cases h
structure Sh(W:List eh)(N:Nat)(xs:List Nat)(U:List I2):Prop where
 up:xs.Pairwise (· < ·)
 lt:∀k∈xs,k<W.length
 ord:U.Pairwise λx y=>x.2<=y.1
 pos:∀s∈U,0<=s.1/\s.1<s.2
 len:U.length<=20
 room:∃R,iP [au W,.int (N:Int),.lst (xs.map natD),bK U]=À (.int R)/\R<SM xs λi=>(wk W i).2.2
def EC(hW:W.length=n)(hn:n<=8)(hN:N<=8)(hg:∀w∈W,Gf w)(he:j6 (jx W) es)(F:lM W (jL es) N n (jL es).length T)(G:Full W (jL es) N n (jL es).length T)(hm:(jL es).length<=20)(hi0:i0<n)(hl0:0<ju W T i0)(eT:c8 [au W,.int (N:Int)]=À (.tup [bK (jL es),tD T])):∃(xs:List Nat) (U:List I2),c9 [au W,.int (N:Int)]=À (.tup [.lst (xs.map natD),bK U])/\Sh W N xs U:=by
  have hes:=uR he;have hpl:=qB hes;have hpu:=yU hes;generalize eS:jL es=S at F G hm eT hpl hpu;have hlt:∀j,j<S.length->(sg S j).1<(sg S j).2:=λj hj=>(hpl _ (yH hj)).1;have ho:=D2 hpu;obtain⟨kvs,er,R,cl⟩:=vd (S:=S) hW rfl hn hm F.i7;obtain⟨kv2,R2,cl2,fl⟩:=G;have sub:=EM R R2 cl2;have hk0:=R.roots i0 hi0 hl0;obtain⟨xs,exs⟩:∃xs,xs=(ê n).filter λk=>decide (k∈keys kvs):=⟨_,rfl⟩
  obtain⟨yk,eyk⟩:∃yk,yk=(ê S.length).filter λj=>decide (n+j∈keys kvs):=⟨_,rfl⟩
  have hx:∀k,k∈xs↔k<n/\k∈keys kvs:=λk=>by rw[exs,Ě,ö,decide_eq_true_iff]
  have hy:∀j,j∈yk↔j<S.length/\n+j∈keys kvs:=λj=>by rw[eyk,Ě,ö,decide_eq_true_iff]
  have up:xs.Pairwise (· < ·):=by rw[exs];exact ϕ.sublist Ρ
  have uy:yk.Pairwise (· < ·):=by rw[eyk];exact ϕ.sublist Ρ
  have hi1:i0∈xs:=(hx i0).mpr ⟨hi0,hk0⟩
  have all:(xs++yk.map (n+·)).Pairwise (· < ·):=é.mpr ⟨up,Ī.mpr (uy.imp λh=>by lia),λa ha c hc=>by
    obtain⟨j,_,rfl⟩:=ò.mp hc;have:=((hx a).mp ha).1
    lia⟩
  have e1:=Ax hW eT er (by have:=R.len;lia) (xs:=xs) (ys:=yk.map (n+·)) ((Qg (all.imp λh=>Ü h) R.bf.nd).mpr λa=>by
    rw[â,hx,ò];constructor
    · rintro(h |⟨j,hj,rfl⟩)
      · exact h.2
      · exact((hy j).mp hj).2
    · intro h;have:=R.lt a h;by_cases c:a<n
      · exact .inl ⟨c,h⟩
      · exact .inr ⟨a-n,(hy _).mpr ⟨by lia,by rw[show n+(a-n)=a by lia];exact h⟩,by lia⟩) (all.imp λh=>ĉ h) (λk hk=>((hx k).mp hk).1) (λk hk=>by
    obtain⟨j,hj,rfl⟩:=ò.mp hk;have:=((hy j).mp hj).1
    lia)
  rw[if_neg (λz=>by rw[(List.append_eq_nil_iff.mp z).1]at hi1;cases hi1),ë,ę (g:=sg S) λj _=>by show sg S (n+j-n)=sg S j;rw[QS]]at e1;have hU:∀s,s∈yk.map (sg S)↔∃j,j<S.length/\n+j∈keys kvs/\sg S j=s:=λs=>by rw[ò];exact⟨λ⟨j,h,z⟩=>⟨j,((hy j).mp h).1,((hy j).mp h).2,z⟩,λ⟨j,h1,h2,z⟩=>⟨j,(hy j).mpr ⟨h1,h2⟩,z⟩⟩
  have mem:∀s∈yk.map (sg S),s.1∈es/\s.2∈es/\s.1<s.2:=λs hs=>by obtain⟨j,hj,_,rfl⟩:=(hU s).mp hs;have:=hpl _ (yH hj);exact⟨this.2.1,this.2.2,this.1⟩
  have ul:(yk.map (sg S)).length<=20:=by rw[Ê,eyk];have:=RC (λj=>decide (n+j∈keys kvs)) (ê S.length);rw[Ę]at this;exact ø this hm
  have nn:∀x∈es,0<=x:=λx hx=>by
    have:=(he.2.1 x).mp hx;unfold jx at this;rcases â.mp this with z |z
    · obtain⟨w,hw,rfl⟩:=ò.mp z;exact(hg w hw).1
    · obtain⟨w,hw,rfl⟩:=ò.mp z;have:=hg w hw;exact ϲ this.1 this.2.1
  have he2:j6 (oN W (yk.map (sg S))) es:=⟨he.1,λx=>by
    rw[he.2.1];unfold jx oN;rw[â,â,ò,ò,TB,TB];constructor
    · rintro(⟨w,hw,rfl⟩ |⟨w,hw,rfl⟩)
      · exact .inl ⟨w,hw,by simp⟩
      · exact .inl ⟨w,hw,by simp⟩
    · rintro(⟨w,hw,z⟩ |⟨s,hs,z⟩)
      · rcases Ú.mp z with z |z
        · exact .inl ⟨w,hw,z.symm⟩
        · exact .inr ⟨w,hw,(Ð.mp z).symm⟩
      · have m:=mem s hs
        have:x∈es:=by
          rcases Ú.mp z with z |z
          · rw[z];exact m.1
          · rw[Ð.mp z];exact m.2.1
        have:=(he.2.1 x).mp this;unfold jx at this;rw[â,ò,ò]at this;exact this,he.2.2⟩
  refine⟨xs,yk.map (sg S),e1,up,λk hk=>by have:=((hx k).mp hk).1;exact hW ▸ this,Ī.mpr (uy.imp_of_mem λ{a c} ha hc h=>ho a c h ((hy c).mp hc).1),λs hs=>⟨nn _ (mem s hs).1,(mem s hs).2.2⟩,ul,_,Kw (hW ▸ hn) ul he2 hN (λk hk=>by have:=((hx k).mp hk).1;exact hW ▸ this) (ø (qL (up.imp λh=>Ü h) λk hk=>((hx k).mp hk).1) hn),?_⟩;have c:=cut F hlt cl (λj h=>fl j (sub _ h)) hi0 hk0 hl0 exs;rw[eS,Hr];refine Qi (Int.le_of_eq (dX λj hj=>?_)) c;have hj:=ö.mp hj;have lt:=hlt j hj;show _*ln S j=_;congr 1;unfold gR;by_cases d:n+j∈keys kvs
  · rw[if_pos d,if_pos ⟨sg S j,(hU _).mpr ⟨j,hj,d,rfl⟩,ř _,ř _⟩]
  · rw[if_neg d,if_neg,zH];rintro⟨s,hs,z1,z2⟩;obtain⟨k,hk,h2,rfl⟩:=(hU s).mp hs;rcases Nat.lt_trichotomy k j with q |q |q
    · have:=ho k j q hj
      lia
    · simp_all
    · have:=ho j k q hk
      lia
end
def is_none(h:Sh W N xs U):fq [au W,.int (N:Int),.tup [.lst (xs.map natD),bK U]]=À (.bl Â):=by
 obtain⟨R,er,hR⟩:=h.room;refine bS jC ?_;rw[uP];unfold g6;refine wp_seq (cw (yd (vx (cD (d:=.bl Â) rfl rfl)) (Nj (i:=2) (cf rfl rfl) rfl)) (ba ?_));refine wp_seq (cw (yd (vx (cD (d:=.bl Â) rfl rfl)) (vx (cD (d:=.bl Â) rfl rfl))) (ba ?_));refine wp_seq (ax (j3 rfl) ?_);walk_at "st";refine wp_seq (dq (ds:=xs.map natD) (aR (aA rfl rfl rfl) rfl) (λj O=>∃(a:Int) (v4:Sl),(∀k∈xs.drop j,a<(k:Int))/\O=[.pu (au W),.bo (.int (N:Int)),.pu (.tup [.lst (xs.map natD),bK U]),.pu (.int a),v4,.un]) ⟨_,_,λk _=>à _,rfl⟩ ?_ ?_)
 ·rintro j d O hd ⟨a,v4,ha,rfl⟩;rw[Ö]at hd;obtain⟨k,hk,rfl⟩:=ė.mp hd;have hjl:=(Ó.mp hk).1;have ed:xs.drop j=k::xs.drop (j+1):=by rw[ó hjl,(Ó.mp hk).2]
  rw[ed]at ha;have pd:(k::xs.drop (j+1)).Pairwise (· < ·):=by rw[<-ed];exact h.up.sublist (Qs _ _)
  have h1:=ha k Ò;have h2:=h.lt k (õ hk);refine⟨_,rfl,?_⟩;dsimp only[gN,pe,Ă,ý];refine wp_seq (cw (yd (vx (cD (aC (ae rfl rfl) (whole _)) rfl)) (yd (N3 rfl rfl h1) (MR rfl (cf rfl (Kv W)) (ϗ.2 h2)))) (ba ?_));refine ax rfl ⟨_,_,λq hq=>?_,rfl⟩;have:=(ď.mp pd).1 q hq;exact ϗ.2 this
 ·rintro O ⟨a,v4,_,rfl⟩;refine wp_seq (ax rfl ?_);walk_at "st";refine wp_seq (dq (ds:=U.map l8) (aR (aA rfl rfl rfl) rfl) (λj O=>∃(a:Int) (v5:Sl),(∀s∈U.drop j,a<=s.1)/\O=[.pu (au W),.bo (.int (N:Int)),.pu (.tup [.lst (xs.map natD),bK U]),.pu (.int a),v4,v5]) ⟨_,_,λs hs=>(h.pos s (Ģ hs)).1,rfl⟩ ?_ ?_)
  ·rintro j d O hd ⟨a,v5,ha,rfl⟩;rw[Ö]at hd;obtain⟨s,hs,rfl⟩:=ė.mp hd;have hjl:=(Ó.mp hs).1;have ed:U.drop j=s::U.drop (j+1):=by rw[ó hjl,(Ó.mp hs).2]
   rw[ed]at ha;refine⟨_,rfl,?_⟩;exact wp_seq (cw (yd (vx (cD rfl rfl)) (yd (Nj (cf rfl rfl) rfl) (vx (Di (zs:=[s.1,s.2]) (by simp) rfl)))) (ba (wp_seq (cw (yd (Mi (aA rfl rfl rfl) rfl (ha s Ò)) (N3 (aA rfl rfl rfl) (aA rfl rfl rfl) ((h.pos s (õ hs)).2))) (ba (ax (aA rfl rfl rfl) ⟨_,_,(ď.mp (by rw[<-ed];exact h.ord.sublist (Qs _ _))).1,rfl⟩))))))
  ·rintro O ⟨a,v5,_,rfl⟩
   have es:∀ O,dVarI 2 O=À (.tup [.lst (xs.map natD),bK U])->O.getD 0 .un=.pu (au W)->dy oU (dLst (dComp 1 [0] (asL (dIx (dVarI 2) (dC (.int 0)))) (gN Â 0) dTrue (dIx (dIx (dVarI 1) (dVar 0)) (dC (.int 2))))) O=À (.int (SM xs λk=>(wk W k).2.2)):=λO q2 q0=>by
    have e1:dComp 1 [0] (asL (dIx (dVarI 2) (dC (.int 0)))) (gN Â 0) dTrue (dIx (dIx (dVarI 1) (dVar 0)) (dC (.int 2))) O=À ((xs.map λk=>(wk W k).2.2).map D.int):=by rw[ë];refine bh natD (aR (aA q2 rfl rfl) rfl) (λk=>D.int (wk W k).2.2) λk hk=>?_;unfold r0;rw[Ā,q0];exact⟨_,rfl,aA (aA rfl rfl (sG (df (h.lt k hk)))) rfl rfl⟩
    exact cf (aI e1) (iX _)
   exact br (fB (es _ rfl rfl) (aC (ae rfl (ae rfl (ae (aA rfl rfl rfl) (ae (aA rfl rfl rfl) rfl)))) er)) (congrArg D.bl (decide_eq_true hR))
def um(n:Nat)(W V:List eh):fJ (n+2) (au W) (au V)=true:=by refine Bd λx hx y hy=>?_;obtain⟨p,_,rfl⟩:=ò.mp hx;obtain⟨q,_,rfl⟩:=ò.mp hy;cases n <;> rfl
def t9(ha:a O=À d)(hb:b O=À d)(h:fJ 20 d d=Â):jG Â a b O=À (.bl Ã):=by rw[xF ha hb h];simp
def EJ(ns:List Int)(hl:ns.length<=63)(hb:∀m∈ns,ō m<=1048576):Bo [.scr ns]=À (.bl Â):=by
 obtain⟨W,N,eW,hW,⟨hN0,hN⟩,hg⟩:=Ht ns hl;obtain⟨es,he⟩:=GS (jx W);have hel:=zZ he;obtain⟨T,eT,F,G⟩:=JN rfl hW hN hg he;have hm:(jL es).length<=20:=by rw[vn];lia
 have hlt:∀j,j<(jL es).length->(sg (jL es) j).1<(sg (jL es) j).2:=λj hj=>(qB (uR he) _ (yH hj)).1;refine bS uz ?_;rw[Jq];unfold Bq;refine wp_seq (Ih (aC (ae rfl rfl) eW) rfl ?_);dsimp only[gN,pe,Ă,ý];refine wp_seq (ax (d:=au W) (aI ?_) ?_)
 ·exact bh (λw:eh=>D.lst (cH w)) (aR rfl rfl) (λw=>D.lst (cH w)) λr _=>⟨_,rfl,rfl⟩
 walk_at "st";by_cases c:∃i,i<W.length/\0<ju W T i
 ·obtain⟨i0,hi0,hl0⟩:=c;obtain⟨xs,U,en,sh⟩:=EC rfl hW hN hg he F G hm hi0 hl0 eT;refine wp_seq (ax (aC (ae rfl (ae rfl rfl)) (wz rfl hW F.i7 eT ⟨i0,hi0,hl0⟩)) ?_);walk_at "st";refine wp_seq (ax (aC (ae rfl (ae rfl rfl)) en) ?_);walk_at "st";refine wp_seq (cw (cb (t9 rfl rfl (um 18 W W))) (ba ?_));refine wp_seq (cw rfl (ba ?_));exact br (aC (ae rfl (ae rfl (ae rfl rfl))) (is_none sh)) rfl
 ·have hl:∀i,i<W.length->ju W T i<=0:=λi hi=>Qa.mp λz=>c ⟨i,hi,z⟩;have P:=JT rfl F hlt (D2 (yU (uR he))) hl;refine wp_seq (ax (aC (ae rfl (ae rfl rfl)) (wy rfl hW (by lia) hN hm F hlt P hl eT)) ?_);walk_at "st";refine wp_seq (ax (aC (ae rfl (ae rfl rfl)) (B8 rfl hW hm F.i7 hl eT)) ?_);walk_at "st";refine wp_seq (cw (cb (t9 rfl rfl (um 18 W W))) (ba ?_));refine wp_seq (k9 rfl (br (mG (x:=Â) (y:=Â) rfl λ_=>aC (ae rfl (ae rfl (ae rfl rfl))) (Hx hW hN P.out (λw hw=>(hg w hw).1) (Ke _) λx hx y hy=>Kf P.ap hx hy)) rfl))
instance (priority:=high) tabsI:aV:=⟨[((125:Ý),("joined.<locals>.<lambda>" : ĺ))]⟩
set_option autoImplicit true in
set_option relaxedAutoImplicit true in
open PySem.W in
theorem all_mk{K:Frag}{h:Ő}{mg:ĺ->Option Ù}{fa:Ý}(X:K.In h)(G:h.Ns ĭ mg)(hfa:mg "law" = À (.ref fa))(H:FAll K mg top tab)(HG:AllL (GK K) KQ)
 (h_joined:codeHdIn K 129 125=Â)
 (tb_joined:((125:Ý),("joined.<locals>.<lambda>" : ĺ))∈aV.ts) :
 ∃a:MX,Txt K mg a/\a.f 29=fa/\∀(s:ç) (v:Ù),SR s (a.d 29) ⟨[v],[]⟩ [("_law_script", v)]:=by
 obtain⟨f,d,F⟩:=H.ex;have e:=hfa.symm.trans (F 29 rfl).m;cases e;have hG:NL (NN mg) KQ ("", .no):=(HG.imp (GK.ok X G)).NY;exact⟨⟨f,d⟩,⟨F,hG,(F 14 rfl).c _ rfl,h_joined,tb_joined⟩,rfl,λs v=>.of_eq ((F 29 rfl).b0 [v] rfl)⟩
theorem nV{p:Ý}{q:ĺ}:∀{l:List (Ý×ĺ)},l.lookup p=À q->(p,q)∈l
 |[],h=>by cases h
 |(a,b)::l,h=>by
  rw[Pb]at h;cases e:p==a with
  |true=>rw[e]at h;cases h;rw[beq_iff_eq.mp e];exact Ò
  |false=>rw[e]at h;exact Ñ _ (nV h)
def walk{l:TK}{q:Δ}{loose:List ĺ}{XP:(ĺ->Option Ù)->Ő->Prop}{YP:Ŷ->Ő->Prop}{d:DefRec}{K:Params->Í}(hn:l.most=À 63)(hdf:d.params.defaults=[])
 (hY:∀(w:Ŷ) (h:Ő),YP w h->(K w.params).In h) (hT0:∀(w:Ŷ) (h:Ő),YP w h->h.get? 125=À (RT #[])) (hN0:∀w:Ŷ,(K w.params).lookup 125=Á) (hC0:∀w:Ŷ,Pc (K w.params) 129 125=Â)
 (F:∀(w:Ŷ) (mg:ĺ->Option Ù) (fa:Ý) (h:Ő),(K w.params).In h->h.Ns ĭ mg->mg d.name=À (.ref fa)->∃a:MX,Txt (K w.params) mg a/\(a.f 29)=fa/\∀(s:ç) (v:Ù),SR s (a.d 29) ⟨[v],[]⟩ [("_law_script", v)]) :
 Uq q loose XP YP l.row.toRowW d [] (λf vs=>PySem.call f vs) :=
 L2.Dp (n:=63) (k:=7) (x := "_law_script") (CX:=λ_=>gE) (sp:=λw=>DW (K w.params)) [((125:Ý),("joined.<locals>.<lambda>" : ĺ))] hn (by decide) hdf ⟨rfl,by decide,by decide⟩ hY
  (λw h Y p q e=>by
   have m:=nV e;simp only[Ú,Uw,Ĥ,or_false]at m;rcases m with⟨rfl,_⟩
   ·exact hT0 w h Y)
  (λw p q e=>by
   have m:=nV e;simp only[Ú,Uw,Ĥ,or_false]at m;rcases m with⟨rfl,_⟩
   ·exact⟨hN0 w,129,hC0 w⟩)
  (λw mg fa h KX G e=>by obtain⟨a,T,rfl,hb⟩:=F w mg fa h KX G e;exact⟨(a.d 29),hb,λbase kb nb bm=>(Ki T bm).imp λvs H Q E h=>BI EJ h⟩)
  (λ_ H a ns hl hbits ht hS=>⟨a,ns,rfl,hS,hl,hbits,(λp hp=>by
   have m:p∈([((125:Ý),("joined.<locals>.<lambda>" : ĺ))]:List (Ý×ĺ)):=hp;simp only[Ú,Ĥ,or_false]at m;rcases m with rfl
   ·exact⟨0,ht _ _ (by first |rfl |simp)⟩),λ_=>rfl⟩) λ_ _ _ _ _ z=>z
end
end My
namespace PySem.W.Fast
def tw16271426124079463017:True:=⟨⟩
def tw16973695101476428784:True:=⟨⟩
def tw6299053803347855649:True:=⟨⟩
def tw418740393547277921:True:=⟨⟩
def tw6446706301963587682:True:=⟨⟩
def tw15876452038719158658:True:=⟨⟩
def tw173336640057580098:True:=⟨⟩
def tw6521409032535973474:True:=⟨⟩
def tw4753167209982643587:True:=⟨⟩
def tw6957285901794195780:True:=⟨⟩
def tw3211756106157902565:True:=⟨⟩
def tw9165006210415197414:True:=⟨⟩
def tw8767191375579482374:True:=⟨⟩
def tw16555502562438325798:True:=⟨⟩
def tw7930886170188489286:True:=⟨⟩
def tw2929931976694114950:True:=⟨⟩
def tw5235521312114737479:True:=⟨⟩
def tw13728266227935658505:True:=⟨⟩
def tw3637975581051799465:True:=⟨⟩
def tw16360764406390365962:True:=⟨⟩
def tw3868142610087170954:True:=⟨⟩
def tw11330271948816822154:True:=⟨⟩
def tw14969061961027047467:True:=⟨⟩
def tw10227070656753454379:True:=⟨⟩
def tw17554225004304509355:True:=⟨⟩
def tw2542997427844201740:True:=⟨⟩
def tw8564048094639557484:True:=⟨⟩
def tw8061346868248922189:True:=⟨⟩
def tw3851132660375546189:True:=⟨⟩
def tw11794470631037822765:True:=⟨⟩
def tw16776984029013431982:True:=⟨⟩
def tw4197588255948280782:True:=⟨⟩
def tw17626832197486534223:True:=⟨⟩
def tw2550295569370982640:True:=⟨⟩
def tw11650162442480263728:True:=⟨⟩
def tw3727775606741902224:True:=⟨⟩
def tw7978253088816568817:True:=⟨⟩
def tw3090296996041914289:True:=⟨⟩
def tw18173369358333522866:True:=⟨⟩
def tw8624952232412073779:True:=⟨⟩
def tw17619168003939426740:True:=⟨⟩
def tw16934366328659983156:True:=⟨⟩
def tw14820300960811795380:True:=⟨⟩
def tw9704050609093175990:True:=⟨⟩
def tw12584647325112698615:True:=⟨⟩
def tw1558506472964904887:True:=⟨⟩
def tw5466622127973600344:True:=⟨⟩
def tw12253696458144775992:True:=⟨⟩
def tw7564558390640047000:True:=⟨⟩
def tw17179099657829934170:True:=⟨⟩
def tw18290131518560893082:True:=⟨⟩
def tw152536235205207195:True:=⟨⟩
def tw7068135257407563292:True:=⟨⟩
def tw12791926840504423004:True:=⟨⟩
def tw10010993220960644221:True:=⟨⟩
def tw11725658035819688797:True:=⟨⟩
def tw8575122549429844350:True:=⟨⟩
def tw10319840383356081886:True:=⟨⟩
def tw11376526418324990359:True:=⟨⟩
def tw12526079924392673674:True:=⟨⟩
def tw7682406448271532989:True:=⟨⟩
def tw8537883602641371279:True:=⟨⟩
def tw8992776359088356461:True:=⟨⟩
def tw8438656760711097333:True:=⟨⟩
def tw1527742733244420711:True:=⟨⟩
def tw13678763359066736274:True:=⟨⟩
def tw17340176963170812760:True:=⟨⟩
def tw12511832419137831166:True:=⟨⟩
def tw18283420253922178266:True:=⟨⟩
def tw12525722661956653995:True:=⟨⟩
def tw10544324382662571991:True:=⟨⟩
def tw11046521081024027538:True:=⟨⟩
def tw6568905076479617990:True:=⟨⟩
def tw13745797155162805272:True:=⟨⟩
def tw15179501760113156823:True:=⟨⟩
def tw5974191241762268218:True:=⟨⟩
def tw3158107218660166797:True:=⟨⟩
def tw11790541700693105899:True:=⟨⟩
def tw4663393430471552482:True:=⟨⟩
def tw8468416306194673319:True:=⟨⟩
def tw10555417449424295628:True:=⟨⟩
def tw11640001308543815443:True:=⟨⟩
def tw12978880287079397933:True:=⟨⟩
def tw17767572500675402663:True:=⟨⟩
def tw17907648437153470648:True:=⟨⟩
def tw635168692993616584:True:=⟨⟩
def tw16528505287996004096:True:=⟨⟩
def tw4852770340238752739:True:=⟨⟩
def tw7323594541569313531:True:=⟨⟩
def tw17216690223026498877:True:=⟨⟩
def tw17743689006389120360:True:=⟨⟩
def tw16270053252850043569:True:=⟨⟩
def tw15119874929129873494:True:=⟨⟩
def tw3251150141352002131:True:=⟨⟩
def tw1292744732284932357:True:=⟨⟩
def tw4921770068492651501:True:=⟨⟩
def tw9698517557058640044:True:=⟨⟩
def tw14131426138923916852:True:=⟨⟩
def tw11872046679238891109:True:=⟨⟩
def tw14683368226964687914:True:=⟨⟩
def tw16721423056561929350:True:=⟨⟩
def tw16892682264249368616:True:=⟨⟩
def tw3189192320857041264:True:=⟨⟩
def tw1502825098768869001:True:=⟨⟩
def tw11638652487475382427:True:=⟨⟩
def tw5957647793884085849:True:=⟨⟩
def tw2379400793944328954:True:=⟨⟩
def tw9382266654910600165:True:=⟨⟩
def tw6219622090986231423:True:=⟨⟩
def tw4275006632946064457:True:=⟨⟩
def tw5469540857442847456:True:=⟨⟩
def tw1688640092346196214:True:=⟨⟩
def tw15676124923940901994:True:=⟨⟩
def tw10086778354714661245:True:=⟨⟩
def tw8488713728675413780:True:=⟨⟩
def tw6720074344488648312:True:=⟨⟩
def tw4314262382073788023:True:=⟨⟩
def tw2540220323336017993:True:=⟨⟩
def tw18393184313764228435:True:=⟨⟩
def tw16372538703683369154:True:=⟨⟩
def tw14721513112658974788:True:=⟨⟩
def tw14587067657223065678:True:=⟨⟩
def tw5438031186971227939:True:=⟨⟩
def tw5039451887801924843:True:=⟨⟩
def tw14447919805730726196:True:=⟨⟩
def tw13747427841589218045:True:=⟨⟩
def tw13229926028289332870:True:=⟨⟩
def tw11107853803071993577:True:=⟨⟩
def tw5176677352375739921:True:=⟨⟩
def tw16718187764386579864:True:=⟨⟩
def tw455743178304032191:True:=⟨⟩
def tw4961832910467351312:True:=⟨⟩
def tw14352273125294630070:True:=⟨⟩
end PySem.W.Fast
open PySem PySem.W PyProof.Rows
set_option maxRecDepth 100000 in
set_option maxHeartbeats 0 in
theorem PySem.Challenge.cw_leastfloor_k43_whole_windows_kept_or_non_holds : PySem.Challenge.rw_leastfloor_k43_whole_windows_kept_or_non.Holds := by
  w_on; o_law; k_head; (case hw => w_witness2)
  k_fill
  refine My.walk (l := PySem.Challenge.rw_leastfloor_k43_whole_windows_kept_or_non) rfl rfl (fun w h Y => by first | exact PySem.W.kIn_of Y | exact PySem.W.km_in_of Y) (fun w h Y => PySem.W.km_tabs_of Y _ (by k_mem)) (fun w => by kernel_rfl) (fun w => by kernel_rfl) ?F
  case F =>
    intro w mg fa h KX G hmg
    refine' My.all_mk KX G hmg ?H ?HG ?h_joined ?tb_joined
    case H =>
      repeat refine' L2.FAll.cons ?_ (L2.FT.ex KX G ?_ ?_ ?_ ?_ ?_ ?_)
      · exact L2.FAll.nil
      any_goals first | k_is | exact L2.bind1 fun _ => rfl | exact L2.bind2 fun _ _ => rfl | exact L2.bind3 fun _ _ _ => rfl | exact L2.bind4 fun _ _ _ _ => rfl | exact L2.bind0 rfl | exact L2.bind5 fun _ _ _ _ _ => rfl | exact L2.hk0 | exact L2.hk1
    case HG =>
      repeat refine' L2.AllL.cons ?_ ?_
      · exact L2.AllL.nil
      any_goals first | exact L2.gk_no (by k_is) | exact L2.gk_ref (by k_is) | exact L2.gk_str (by k_is) | exact L2.gk_int (by k_is)
    case h_joined =>
      kernel_rfl
    case tb_joined =>
      exact List.mem_cons_self
#print axioms PySem.Challenge.cw_leastfloor_k43_whole_windows_kept_or_non_holds
