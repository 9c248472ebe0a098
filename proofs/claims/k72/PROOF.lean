import PyProof.Rows.All
import Wide.All
import OpenK.AllK
import Wide.FinOn
import Lean
import PyProof.EqAt
import PyProof.EqKinds
import PyProof.TupleCall
import PyProof.NeKinds
import PyProof.SliceStr2
import PyProof.ConsumeWalk
import KE.KDictSum
import PyProof.DictWalks
import PyProof.AttrMissSeq
import KE.KDictOf
import PyProof.WalksS
import PyProof.Walks
import PyProof.DictList
import PyProof.MeetsDict
import PyProof.FactsAll.dict_3
import PyProof.MinMaxWalk
import PyProof.WalkInts
import PyProof.Rows.CallKwBuiltin
import PyProof.MaxThree
import PyProof.Rows.SortRunsK
import KE.KSortAsk
import PyProof.Rows.SortShellK
import KE.KSortTup
import PyProof.DictRoadsH
import PyProof.DictIter
import KE.KDictList
import PyProof.ZipIter
import PyProof.TupleIter
import PyProof.WalksMore
import PyProof.SumWalkG
import PyProof.DictValues
import PyProof.FactsAll.dict_4
import PySem.SetOps
import PyProof.Rows.Walk
import OpenK.KMore
import PyProof.ListRange
import PyProof.DictItems
import PyProof.CallStr
import KE.KIntText
import PyProof.StrCalls2
import PyProof.Rows.StrItems
import PyProof.FactsAll.NoneType
import KE.KTryOn
import PyProof.Draws
import PyProof.EnumMake
import PyProof.Rows.Range3
import KE.KRevIter
import PyProof.ListStr
import PyProof.NsDelKeeps
import PyProof.RulesAs
import KE.KIsAll
import PyProof.ExcArgsOwn
import KE.KFind
import PyProof.ExcInit
import KE.KTryMore
import PySem.Challenge.RW_wirechannel_k72_piles_traced
set_option hygiene false
set_option compiler.extract_closed false
noncomputable section
def qn(s:String):=(s.splitOn " ").toArray.map λx=>Lean.mkIdent x.toName
local macro_rules|`(tactic|omega)=>`(tactic|first|decide|lia)
local macro_rules|`(tactic|ext)=>`(tactic|omega)
local macro_rules|`(tactic|show $t)=>`(tactic|refine $t)
set_option Elab.async false
set_option linter.all false
set_option maxRecDepth 100000
local macro_rules | `(tactic| walk_at"sb")=>`(tactic| solve_by_elim (maxDepth:=4) [iN,pH,bU,cP,c7,kT,bx,cG,Nat.lt_succ_of_le,tH,Ig,Nat.not_lt_of_le,Nat.not_le_of_lt,Nat.le_of_lt_succ,Int.lt_of_lt_of_le,Int.lt_of_le_of_lt,HD,pA,Int.ne_of_lt])
open PySem renaming wpAny_bind->ag,Value->aa,Shared->ai,Spec->ab5,wpAny_pure->az,Addr->ab,Program->aG,Str->ae,World->aF,Expr->av,Around->br,Heap->ay,wpAny_holding->fQ,wpAny_loadPart'->jK,wpAny_newObj_type->kR,wpAny_truthy_bool->lR,wpAny_mono->g7,wpAny_call_entry->m9,wpAny_callSpecial?_slot->vv,wpAny_field->jL,boot_len->gi,wpAny_seqItems->m7,mem_of_lookup->tJ,plainId_quiet->mZ,codeAny_builtin->pB,wpAny_pyIter_list->tG,wpAny_nextOf_list_item->xg,wpAny_updateSeq->qU,wpAny_Call_Name_kw->vm,tupleKind_room_in1->vh,wpAny_typeNameOfWhole_keyiter->DM,wpAny_typeNameOfWhole_valiter->DL,Pos->aI,wpAny_dictEntries->vg,call_meets->lO,Obj->aT,wpAny_passesOwn->vd,wpAny_specialOf->u9,FuncData->j8,wpAny_letGo->qR,wpAny_dictEpoch->wU,wpAny_attempt->u7,wpAny_notOrdered_dict->DF,Stmt->cQ,wpAny_rule->tj,wpAny_pyIter_enum->Ds,wpAny_tryCatch->zq,wpAny_isOneOf_valiter->Iu,Scope->iO,wpAny_eqBool_int->Dm,wpAny_eqBool_str->Dl,typeIs_str->u4,wpAny_isInstance->Dh,wpAny_callSpecialIfBound?_slot->Rl,wpAny_execs_nil->C8,wpAny_typeOf->zj,wpAny_fieldsOf->C3,wpAny_setField->C2,wpAny_pyIter_slot->HZ,wpAny_standAt->CY,wpAny_comprehension_free->Q9,wpAny_onRaise->CU,wpAny_Call_method0_late->Q0,wpAny_pyIter_zip->HY,wpAny_getItem_str_slice->QZ,wpAny_pyNext_list_item->QT,wpAny_pyNext_range_end->QS,wpAny_pyIter_rangeiter->QR,richCompare_meets_room->QO,pushCells_keeps->HR,wpAny_isTrue_Compare1->QH,wpAny_pyNext_list_end->QG,wpAny_isOneOf_keyiter->QC,wpAny_nextOf_list_end->Qx,wpAny_newTuple->HI,isSubtype_stop->HH,callType_codes->HG,evalArgs_none->Qq,wpAny_pyIter_range->Qe,wpAny_pyIter_tuple->Qb,slot_dict_contains->Qa,wpAny_assign_Name->P5,codeAny_mono->HC,seqIndex_neg->HB,wpAny_Call_method->P1,call_meetsIn->Hw,Env->eI,wpAny_execs_cons->PQ,wpAny_forIn_list->PN,seqIndex_of->Hu,wpAny_of_eq->Hr,wpAny_Name->Hm,typeIs_int->Hj,numAt_eq->CH,KeyKind->Pj,intBits_le_64->Ph,evalPart_none->Pg,wpAny_newList->Pc,wpAny_handled->Pb,code_list_new->O8,call->OQ
open PySem.W renaming Frag->aj,mg_none_of->jo,fnOf->pz,kia_one->wV,keepIn->wR,codeIn->C4,methodObj->Ie,cellsFrom_some->QP,nsIn->CT,findIn->Pr,mg_of->Pe
open List renaming getElem?_eq_getElem->aX,length_map->ax,getD_eq_getElem?_getD->bK,mem_map->aB,getElem?_eq_some_iff->cD,length_append->bL,getElem?_map->bE,map_map->bp,mem_cons_of_mem->cK,mem_of_getElem?->cJ,range->aN,map_append->bY,map_cons->bD,mem_cons->bG,length_cons->cC,mem_append->cj,mem_cons_self->cT,size_toArray->cS,mem_singleton->du,mem_append_right->eK,length_take->eP,getElem?_of_mem->gL,all_eq_true->e7,getElem_mem->eZ,replicate->et,mem_filter->eY,mem_append_left->iy,append_assoc->gh,take_add_one->gf,nodup_iff_pairwise_ne->j7,take_length->gw,mem_range->fR,nodup_cons->gu,append_nil->gI,mem_zipIdx_iff_getElem?->pf,pairwise_singleton->mU,pairwise_map->jI,flatMap_append->lL,getElem_of_mem->mR,not_mem_nil->kY,cons_append->kX,mem_flatMap->kW,length_singleton->pJ,take_append_drop->pI,drop_eq_getElem_cons->tN,find?_cons->kU,take_of_length_le->rg,flatMap_cons->nc,length_zipIdx->ot,eq_nil_of_length_eq_zero->xj,getElem?_zip_eq_some->vw,length_drop->oo,mem_map_of_mem->qY,getElem?_eq_none->tL,nodup_append->pG,ext_getElem?->pF,getElem?_cons_zero->vt,mem_of_mem_take->tK,length_nil->om,sum_cons->lQ,range_succ->oj,pairwise_iff_getElem->xi,map_congr_left->tI,flatten_cons->qX,of_mem_zip->pE,length_set->pD,getElem?_set_ne->vq,pairwise_append->vp,drop_length_add_append->zR,length_range->tF,perm_append_comm->xf,length_filter_le->xc,mem_of_mem_drop->w8,drop_append_of_le_length->DN,getElem?_cons_succ->zP,getElem?_range->wY,getElem?_set_self->zO,map_inj_right->wX,getElem?_append_left->DI,foldl_cons->vc,cons->lN,getElem?_mapIdx->zI,getElem?_inj->wW,getElem?_zipIdx->zH,range_eq_range'->zF,length->qS,map_id->qQ,map_nil->tu,getElem?_take->zD,getElem?_set->zB,getElem?_append_right->IP,perm_ext_iff_of_nodup->IM,map_set->u6,flatMap_nil->zz,getElem_append_right->IK,mem_of_find?_eq_some->II,filterMap_cons->Dz,replicate_succ->Dy,getD_cons_succ->Dx,nil_append->zu,getElem?_drop->Dv,find?_eq_none->Du,filter_cons_of_neg->IC,filter_cons_of_pos->IB,getElem_take->Dr,reverse_cons->Dn,flatMap_singleton->Iz,getElem?_toArray->Ir,ext_getElem->Dk,mem_reverse->Di,countP_cons->Dg,any_eq_true->Dd,map_flatMap->Dc,range'_succ->C9,take_append_of_le_length->Rj,filter_sublist->Im,zip_cons_cons->Ik,pairwise_cons->Ii,take_sublist->Ic,drop_sublist->Ib,getElem_drop->Ia,range'->zh,any_cons->CW,length_filterMap_le->Q6,getElem_append_left->Q3,length_eq_zero_iff->QY,map_fst_zip->HW,map_snd_zip->HV,filter_cons->HU,pairwise_mergeSort->QW,mem_flatten->HS,getElem?_replicate->QV,extract->CS,drop_eq_nil_of_le->QL,length_zip->HQ,mem_zipIdx->HP,all_append->HN,filterMap_append->QE,dropLast_eq_take->QD,set_append_right->Qy,pairwise_flatten->Qw,drop_zero->HL,map->wM,length_reverse->Qo,mergeSort_perm->Qi,length_pos_iff->Qh,perm_nil->HE,mem_filterMap->Qd,filter_append->P8,map_replicate->P7,toArray->Hz,any_map->Hv,find?_append->PZ,all_eq_false->PR,lookup_cons->PL,drop_length->PK,flatMap_map->Pz,find?_some->Pt,foldl->Hi,nodup_nil->Po,drop_take->Pn,take_left->Pl,all_cons->Pf,not_lt->OT
open PySem.Heap renaming get?_push_of_some->bZ,get?_push_size->c8,lt_size->bX,get?_update_other->lM,get?_update_self->mT,size_push->jm,SameBut->oh,size_update->ve,get?_push_ne->Dq,ExtBut->Ht,IsList->Ho
open Nat renaming le_refl->bx,le_trans->bU,le_of_lt->cP,zero_le->cG,ne_of_lt->c7,lt_of_lt_of_le->iN,zero_add->eO,lt_irrefl->iM,succ_pos->iq,lt_of_succ_lt_succ->rf,lt_of_le_of_lt->pH,ne_of_gt->kT,min_eq_left->pC,le_add_right->qV,lt_succ_of_lt->tH,le_succ->lP,not_lt_zero->tD,le_of_not_lt->vf,mul_le_mul_right->zG,add_sub_cancel->zE,succ_mul->tq,lt_of_succ_lt->zA,lt_succ_self->Dj,add_assoc->zm,lt_trans->zi,mul_le_mul->CZ,le_succ_of_le->Ig,add_sub_cancel_left->QU,add_zero->CQ,lt_of_le_of_ne->P6,le_of_eq->HA,sub_zero->Hy,sub_self->O1,add_comm->O0,not_lt->OP
open Array renaming length_toList->cU,getElem?_eq_getElem->mW,getElem_toList->j6,getElem_mem->kQ,getElem?_toList->n5,toList_append->mS,mem_toList_iff->qZ,toList_push->qW,getElem?_eq_some_iff->IQ,toList_extract->DD,toList_reverse->DC,getElem?_eq_none->IA,getD_eq_getD_getElem?->Rg,getD->zf,getElem?_push->Qj,size_push->Pu,size_map->Pk,toList->O7
open PyProof.Rows renaming wpS_bind->aK,wpS_pure->bo,callWith_type1->n6,wpS_forRange->i5,wpS_mono->iP,wpS_modify->mX,slot_tuple_getitem->Ro,wpS_get->n8,boot_all->qP,lt_int->Ip,boot_sum->uZ,subscriptTail_builtinR->QM,pairsOf_size->CP,pairsOf->Qs,getElem?_mirror_all->Qn,lt_str->Ql,listUpdate_at->HF,Subscript_->CN,callWith_builtin1->ZC,boot_list->CJ,seqEpoch_at->Hs,boot_sorted->Hq,getElem?_bubble->Pw,boot_range->Hl,slicePart_none->Pq,boot_enumerate->Pp,split_pos->Zm,tail_any->Hg
open Bool renaming false_eq_true->dW,false_ne_true->eJ,and_eq_true->jH,not_eq_true'->oq,not_not->tm,true_and->wO,false_and->zt,not_true->zo,or_eq_true->C7,and_false->HM,not_false->HK,eq_iff_iff->Px,false_or->Pd,or_false->Pa,true_or->O6
open PySem.PassesOwn renaming never->eH
open Option renaming map_eq_some_iff->i4,getD_some->gW,map_some->kd,map_eq_none_iff->zM,isSome_map->Dp,isSome_some->Ij,ne_none_iff_exists'->Ra,getD_none->PM,none->OW
open Option.some renaming injEq->gK,inj->fT
open PySem.Str renaming ofString->fI,length->CM
open PySem.Builtin.Str renaming occurrences->mV,strSliceIndices->tO,subAt->Y6
open Int renaming toNat_natCast->jJ,le_refl->iz,le_of_lt->pA,emod_lt_of_pos->Dt,emod_nonneg->C5,toNat_of_nonneg->Il,natCast_nonneg->Ih,le_trans->HD,zero_add->Hx,toNat->OM
open PySem.Value renaming ref->fi,none->j9,type->mY,int->wN,bool->zg,notImplemented->Qv,str->CL
open PySem.Obj renaming mapSeq->gZ,data_mapFields->Dw,mapFields->zk,isFreed_of_fields->QB,data_mapDictKeys->Qt,cls_mapFields->P2
open PySem.F renaming plainAttrs_str->tM,plainAttrs_list->xh,slot_dict_valueiterator_next->DO,slot_dict_keyiterator_next->DK,slot_str_split->zL,slot_str_join->zK,type_str_join->zJ,slot_list_lt->DB,slot_dict_valueiterator_iter->Rr,args_str_split_2->IG,plainAttrs_dict->IE,entry_str_split->ID,args_dict_valueiterator_next_1->Rp,entry_dict_valueiterator_next->Rn,args_dict_keyiterator_next_1->Rm,plain_min_loop->Df,entry_dict_keyiterator_next->Ri,slot_dict_setdefault->Rh,slot_zip_next->C6,plain_extend_loop->Io,slot_list_append->Q8,type_list_append->Q7,slot_list_extend->CV,type_list_extend->Q4,slot_dict_values->Q2,args_tuple_lt_2->Q1,slot_dict_values_iter->QX,entry_min_loop->HX,entry_tuple_lt->QN,args_list_lt_2->QJ,type_str_split->QI,slot_tuple_lt->QF,slot_dict_get->QA,entry_list_lt->Qz,args_list_extend_2->Qu,entry_list_extend->Qp,entry_extend_loop->Qk,args_list_init_2->P9,typeCall_list_1->PY,entry_list_init->PV,args_zip_next_1->PU,slot_dict_iter->PJ,entry_zip_next->PH,slot_int_rmul->Py,called_list->O9
open Prod.mk renaming inj->kc
open PySem.NameKind renaming free->m6,cell->wQ
open PySem.Heap.SameBut renaming update->vo
open List.Perm renaming of_eq->qT,append_left->Iy,refl->HJ,append_right->Zn,append->Y2,swap->YZ,map->YY
open PySem.Txt renaming join->iQ,split->og,startswith->C1,slice->Hh
open PySem.Calls renaming spliced_cons->vn,callWith_builtin->zN,spliced_nil->zC,evalArgs_plain->Iq,Name_function_global->Rc
open PySem.Builtin.List renaming listTooLong->zQ,listSameRef->IF,listExtendWith->Rf
open ForInStep renaming yield->tE
open Function renaming comp_apply->wZ
open PySem.Builtin.Slice renaming slicePlaces->DJ,sliceAdjust->IL,sliceApplied->Rb,slicePartIndex->Zz,sliceFields->Zu
open PySem.Paired renaming length->tw,snoc->OU
open PySem.Builtin.Tuple renaming tupleExact->DH,tupleCompareSizes->ZD,tupleItemsOf->Zv
open PySem.Builtin.Range renaming rangeSize->DG,small->Qm,rangeFitsLong->Zx
open PyProof.Rows.SortSt renaming mk'->pq
open PySem.Builtin.SmallTypes renaming nextOf->IJ
open PySem.AutoSeq1 renaming sub_tuple_tuple->IH,list_extend_list_list_0->Rq,sub_list_list->QK
open PySem.Builtin.Dict renaming showsAll->Iw,dictSlotNone->Zt,noArgs->Za
open True renaming intro->u0
open Sum renaming inl->tf,inr->wL
open PyProof renaming noPylong_small->QQ
open PySem.Data renaming fields->CO,cell->zd,seq->CI
open PySem.Expr renaming Name->zc,Call->CK
open PySem.SeqAt.EqAt renaming int_str->Qg,str_int->Qf,int_int->Qc,none_bool->Zl,bool_none->Zk,bool_bool->Zj,none_int->Zi,none_str->Zh,bool_int->Zg,bool_str->Zf,int_none->Ze,int_bool->Zd,str_none->Zc,str_bool->Zb,str_str->Y8,same->Y1
open PySem.AutoListH renaming list___mul___list_int_3->ZE
open List.Pairwise renaming nil->P4
open PySem.Builtin.Dict_items renaming newIterator->ZA,ownsTuple->Zy,dictOf->Zr
open PySem.Heap.IsList renaming push->PF
open PySem.Shared renaming heap->Hn
open PySem.Builtin.Builtins renaming bindParams->Zw
open Decidable renaming byContradiction->Zq,em->O3
open Classical renaming axiomOfChoice->Zo
open PySem.W.KatTups renaming cons->O5
open Nat.succ renaming inj->O4
open PySem.CmpOp renaming NotIn->OZ,In->OL
open PySem.Walks renaming range->OY,list->OO
open PySem.IsRange renaming new->OX
open PySem.SeqAt renaming EqAt->OS
open PySem.Heap.IsSliceOf renaming new->Y9
open PySem.W.WShape renaming has->OR
open List.Nodup renaming sublist->Y7
open PySem.IsL renaming update->Y5
open PySem.W.WData renaming int->ON
open PySem.Heap.DictOfH renaming new->Y4
open List.Sublist renaming map->Y3
open Array.Perm renaming refl->Y0
open Prod renaming ext->OK,mk->OJ
def gJ:=@decide_eq_true_eq
def kS:=@decide_eq_false_iff_not
def cM:=@if_false
def iw:=@decide_eq_false
def iu:=@decide_eq_true
def gc:=@decide_false
def cO:=@if_true
def dN:=@congrArg
def iR:=@decide_true
namespace L2
open PySem PySem.Spec PyProof.Rows
noncomputable abbrev Key:=Sum Int ae
noncomputable def Ec:Key->aa->Bool
 | .inl k,v=>Value.isInt k v
 | .inr x,v=>Value.isStrOf x v
noncomputable def Z7(w:aF):Key->Int
 | .inl k=>hashInt k
 | .inr x=>hashStr w x
theorem rR:∀{k v},Ec k v=true->(∃i t,k=tf i/\v=wN i t)\/(∃x t,k=wL x/\v=CL x t)
 | .inl i,v,h=>by
  obtain⟨t,e⟩:=Value.isInt_shape (k:=i) (v:=v) h;show .inl ⟨i,t,rfl,e⟩
 | .inr x,v,h=>by
  obtain⟨t,e⟩:=Value.isStrOf_shape (x:=x) (v:=v) h;show .inr ⟨x,t,rfl,e⟩
theorem zlX(i t):Ec (.inl i) (.int i t)=true:=by show beq_self_eq_true _
theorem zlY(x t):Ec (.inr x) (.str x t)=true:=by show beq_self_eq_true _
theorem zsw(a b):decide ((tf a:Key)=tf b)=(a==b):=by
 grind
theorem zsx(a b):decide ((wL a:Key)=wL b)=decide (a=b):=by
 simp_all
theorem zsy(a b):decide ((tf a:Key)=wL b)=false:=iw (λq=>nomatch q)
theorem zsz(a b):decide ((wL a:Key)=tf b)=false:=iw (λq=>nomatch q)
noncomputable def ja(prog w):Pj prog w Key where
 is:=Ec
 hash:=Z7 w
 inj:=λv a b g d=>by
  rcases rR g with⟨i,t,rfl,rfl⟩ | ⟨x,t,rfl,rfl⟩
  .rcases rR d with⟨j,u,rfl,e⟩ | ⟨y,u,rfl,e⟩
   .injection e with c _;rw[c]
   show nomatch e
  rcases rR d with⟨j,u,rfl,e⟩ | ⟨y,u,rfl,e⟩
  .exact nomatch e
  injection e with c _;rw[c]
 byValue:=λk v h=>by
  rcases rR h with⟨i,t,rfl,rfl⟩ | ⟨x,t,rfl,rfl⟩<;>rfl
 pyHash:=λhv h=>by
  rcases rR hv with⟨i,t,rfl,rfl⟩ | ⟨x,t,rfl,rfl⟩
  .exact wpAny_pyHash_int h
  show wpAny_pyHash_str h
 eqBool:=λf hv h=>by
  rcases rR f with⟨i,t,rfl,rfl⟩ | ⟨x,t,rfl,rfl⟩
  .rcases rR hv with⟨j,u,rfl,rfl⟩ | ⟨y,u,rfl,rfl⟩
   .rw[zsw] at h;show Dm h
   rw[zsy] at h;show Qg i t y u _ _ _ _ h
  rcases rR hv with⟨j,u,rfl,rfl⟩ | ⟨y,u,rfl,rfl⟩
  .rw[zsz] at h;show Qf x t j u _ _ _ _ h
  rw[zsx] at h;show Dl h
 «strs»:=λk x t v h=>by
  rcases rR h with⟨i,u,rfl,e⟩ | ⟨y,u,rfl,e⟩
  .exact nomatch e
  injection e with c _
  subst c;cases v<;>rfl
theorem ziK(prog w i t):(ja prog w).is (.inl i) (.int i t)=true:=zlX i t
theorem ziL(prog w x t):(ja prog w).is (.inr x) (.str x t)=true:=zlY x t
inductive V where
 | non | bl (b:Bool) | int (i:Int) | str (x:ae) | NT (b:Array UInt8) | NB (b:UInt64) | ref (a:ab) | ty (n:String)
 deriving DecidableEq
def RelV:V->aa->Prop
 | .non,u=>u=j9
 | .bl b,u=>u=zg b
 | .int i,u=>∃t,u=wN i t
 | .str x,u=>∃t,u=CL x t
 | .NT b,u=>∃t,u=Value.bytes b t
 | .NB b,u=>∃t,u=Value.float b t
 | .ref a,u=>u=fi a
 | .ty n,u=>u=mY n
abbrev Vals:List V->List aa->Prop:=Paired RelV
theorem Vals.length(r:Vals xs a):xs.length=a.length:=tw r
theorem Vals.get:∀{xs us}{i:Nat}{x},Vals xs us->xs[i]?=some x->∃u,us[i]?=some u/\RelV x u
 | _,_,_,_,.nil,e=>by trivial
 | _,_,0,_,.cons r _,e=>by simp at e;subst e;show⟨_,rfl,r⟩
 | _,_,i+1,x,.cons _ t,e=>by
  obtain⟨u,b,a⟩:=Vals.get (i:=i) (x:=x) t (by simpa using e);show⟨u,by trivial,a⟩
theorem Vals.set(r:RelV x u):∀{xs us} i,Vals xs us->Vals (xs.set i x) (us.set i u)
 | _,_,_,.nil=>.nil
 | _,_,0,.cons _ t=>.cons r t
 | _,_,i+1,.cons q t=>.cons q (Vals.set r i t)
theorem Vals.append(h:Vals xs a)(s:Vals ys ws):Vals (xs++ys) (a++ws):=by
 induction h with
 | nil=>show s
 | cons r t b=>show .cons r b
theorem Vals.take:∀{xs us} n,Vals xs us->Vals (xs.take n) (us.take n)
 | _,_,0,_=>.nil
 | _,_,_+1,.nil=>.nil
 | _,_,n+1,.cons r t=>.cons r (Vals.take n t)
theorem Vals.drop:∀{xs us} n,Vals xs us->Vals (xs.drop n) (us.drop n)
 | _,_,0,r=>r
 | _,_,_+1,.nil=>.nil
 | _,_,n+1,.cons _ t=>Vals.drop n t
def qN:Option V->Option aa->Prop
 | some v,some u=>RelV v u
 | none,none=>True
 | _,_=>False
def KV{κ:Type}:List (κ×V)->List (κ×aa)->Prop:=Paired λ(p:κ×V)(q:κ×aa)=>p.1=q.1/\RelV p.2 q.2
noncomputable def kV:Key->V
 | .inl i=>.int i
 | .inr x=>.str x
inductive HO where
 /-- a list -/
 | lst (xs:List V)
 /-- a tuple (never changes) -/
 | tup (xs:List V)
 /-- a dict aaa keys are ints and texts;one aaa keys are tuples of ints and texts (oJ empty one is both) -/
 | dK (kvs:List (Key×V)) (ep:Nat) | dT (kvs:List (List Key×V)) (bs:List ab×Nat)
 /-- a set of ints: its members,its size -/
 | set (S:Int->Bool) (n:Nat)
 /-- an instance of oJ class at C,its dict at dx,its attributes -/
 | ins (C dx:ab) (fs:List (ae×V))
 /-- oJ dict of oJ instance at x -/
 | own (x:ab)
 /-- oJ dict of an exception -/
 | xd (fs:List (ae×V))
 /-- a bound method,f of x -/
 | met (f x:ab)
 /-- a range object lo,lo+1,.. below hi -/
 | Ml (lo hi:Int)
 /-- a aae ab8 is known to oJ object (oJ WZ;a dict while a loop walks it): read,never written while it is so -/
 | ig (o:aT) (u:HO)
 /-- a code acd table -/
 | vX (ps:Array aa)
 /-- any other aae,by aab is true of its one object (a def of acb own: acm a S n:=HO.ext λh=>..) -/
 | ext (φ:ay->Prop)
noncomputable abbrev Hp:=ab->Option HO
noncomputable def upd(H:Hp)(a:ab)(o:HO):Hp:=λb=>if b=a then some o else H b
theorem dQ:upd H a o a=some o:=by unfold upd;rw[if_pos rfl]
theorem bA(h:b≠a):upd H a o b=H b:=by unfold upd;rw[if_neg h]
theorem Sh{H:Hp}(h:H a=some o)(h':H b=some u)(d:o≠u):a≠b:=by
 intro e;subst e;rw[h] at h';show d (fT h')
theorem iD{H:Hp}(h:H a=some o)(h':H b=none):a≠b:=by
 intro e;subst e;rw[h] at h';cases h'
section
variable(P:aG)(w:aF)
def fP(H:Hp)(h:ay)(a:ab):HO->Prop
 | .lst xs=>xs.length<=sizeLine/\∃(its:List aa)(n:Nat),Vals xs its/\h.get? a=some { cls:=.type "list",data:=.seq its.toArray n }
 | .tup xs=>xs.length<=sizeLine/\∃its:List aa,Vals xs its/\IsTup h a its.toArray
 | .dK kvs c=>kvs.length<=sizeLine/\(a==sysModules)=false/\∃g,KV kvs g/\h.DictAt (ja P w) a g c
 | .dT kvs bs=>kvs.length<=sizeLine/\(a==sysModules)=false/\∃xs:List (List Key×ab×aa),xs.map (λx=>x.2.1)=bs.1/\
   Paired (λ(p:List Key×V)(q:List Key×ab×aa)=>p.1=q.1/\H q.2.1=some (.tup (p.1.map kV))/\RelV p.2 q.2.2) kvs xs/\
   ∃o k c,h.get? a=some o/\o.ExactDict/\o.data=.dict k c/\k.toList=xs.map (entryOfKey (tupleKind (ja P w)))/\(xs.map (·.1)).Nodup/\c=bs.2
 | .set S n=>h.SetOf (intKind P w) a S n
 | .ins C d fs=>H d=some (.own a)/\fs.length<=1000/\d≠a/\h.get? a=some (PySem.W.instObj C d)/\
   ∃b,h.Ns1 d b/\(∀f,qN (fs.lookup f) (b f))/\PySem.Within b (fs.map (·.1))
 | .own _=>∃o,h.get? a=some o
 | .xd fs=>∃b,h.Ns1 a b/\∀f,qN (fs.lookup f) (b f)
 | .Ml lo l=>∃t u v,h.get? a=some { cls:=.type "range",data:=.fields #[.int lo t,.int l u,.int 1 v] }
 | .ig o u=>h.get? a=some o/\fP H h a u
 | .vX ps=>h.get? a=some { cls:=.none,data:=.fields ps }
 | .met f x=>h.get? a=some (Ie (.ref f) (.ref x))
 | .ext e=>e h/\(∃o,h.get? a=some o)/\∀j i:ay,e j->(∀o,j.get? a=some o->i.get? a=some o)->e i
def fH(H:Hp)(h:ay):Prop:=∀a o,H a=some o->fP P w H h a o
end
section
variable{a:ab}
theorem fP.lt(x:fP P w H h a o):a<h.objs.size:=by
 cases o with
 | lst xs=>obtain⟨_,_,_,_,e⟩:=x;show bX e
 | tup xs=>obtain⟨_,_,_,p⟩:=x;show p.lt
 | dK kvs d=>obtain⟨_,_,_,_,o,_,e,_⟩:=x;show bX e
 | dT kvs bs=>obtain⟨_,_,_,_,_,o,_,_,e,_⟩:=x;show bX e
 | set S n=>obtain⟨o,_,_,_,e,_⟩:=x;show bX e
 | ins C g fs=>obtain⟨_,_,_,e,_⟩:=x;show bX e
 | own y=>obtain⟨_,e⟩:=x;show bX e
 | xd fs=>obtain⟨_,⟨_,_,_,e,_⟩,_⟩:=x;show bX e
 | Ml lo c=>obtain⟨_,_,_,e⟩:=x;show bX e
 | ig ob u=>obtain⟨e,_⟩:=x;show bX e
 | vX ps=>show bX (show h.get? a=some _ from x)
 | met f y=>show bX (show h.get? a=some _ from x)
 | ext b=>obtain⟨_,⟨_,e⟩,_⟩:=x;show bX e
theorem Paired.Xi{l₁:List α}{l₂:List β}(h:Paired F l₁ l₂)(f:∀a b,F a b->G a b):Paired G l₁ l₂:=by
 induction h with
 | nil=>show .nil
 | cons r t c=>show .cons (f _ _ r) c
theorem fP.lq(x:fP P w H h a o)(k:∀b u,(b=a\/H b=some (.own a))->h.get? b=some u->h'.get? b=some u)
  (B:∀b,H b=some (.own a)->H' b=some (.own a)) (A:∀b xs,H b=some (.tup xs)->H' b=some (.tup xs)):fP P w H' h' a o:=by
 induction o with
 | lst xs=>obtain⟨z,its,n,r,e⟩:=x;show⟨z,its,n,r,k _ _ (.inl rfl) e⟩
 | tup xs=>obtain⟨z,its,r,ob,e,c⟩:=x;show⟨z,its,r,ob,k _ _ (.inl rfl) e,c⟩
 | dK kvs i=>obtain⟨z,y,m,r,ob,g,e,c⟩:=x;show⟨z,y,m,r,ob,g,k _ _ (.inl rfl) e,c⟩
 | dT kvs bs=>
  obtain⟨z,y,xs,E,r,ob,g,i,e,c⟩:=x;show⟨z,y,xs,E,Paired.Xi r λp q z=>⟨z.1,A _ _ z.2.1,z.2.2⟩,ob,g,i,k _ _ (.inl rfl) e,c⟩
 | set S n=>obtain⟨ob,g,i,t,e,c⟩:=x;show⟨ob,g,i,t,k _ _ (.inl rfl) e,c⟩
 | ins C I fs=>
  obtain⟨d,z,ne,e,l,⟨j,g,i,D,c⟩,r⟩:=x;show⟨B _ d,z,ne,k _ _ (.inl rfl) e,l,⟨j,g,i,k _ _ (.inr d) D,c⟩,r⟩
 | own y=>obtain⟨ob,e⟩:=x;show⟨ob,k _ _ (.inl rfl) e⟩
 | xd fs=>obtain⟨l,⟨j,g,i,e,c⟩,r⟩:=x;show⟨l,⟨j,g,i,k _ _ (.inl rfl) e,c⟩,r⟩
 | Ml lo G=>obtain⟨t,u,v,e⟩:=x;show⟨t,u,v,k _ _ (.inl rfl) e⟩
 | ig ob u s=>obtain⟨e,q⟩:=x;show⟨k _ _ (.inl rfl) e,s q⟩
 | vX ps=>
  have e:h.get? a=some { cls:=.none,data:=.fields ps }:=x;show h'.get? a=some { cls:=.none,data:=.fields ps };show k a _ (.inl rfl) e
 | met f y=>
  have e:h.get? a=some (Ie (.ref f) (.ref y)):=x;show h'.get? a=some (Ie (.ref f) (.ref y));show k a _ (.inl rfl) e
 | ext F=>obtain⟨p,⟨o,e⟩,st⟩:=x;show⟨st _ _ p λo q=>k _ _ (.inl rfl) q,⟨o,k _ _ (.inl rfl) e⟩,st⟩
theorem fH.lt(x:fH P w H h)(e:H a=some o):a<h.objs.size:=(x a o e).lt
theorem fH.fresh(x:fH P w H h)(e:h.objs.size<=a):H a=none:=by
 cases q:H a with
 | none=>rfl
 | some u=>show absurd (iN (x.lt q) e) (iM _)
theorem fH.kept(x:fH P w H h)(k:∀b u,h.get? b=some u->h'.get? b=some u):fH P w H h':=λa o e=>
 (x a o e).lq (λb u _ q=>k b u q) (λ_ q=>q) λ_ _ q=>q
theorem fH.laid(x:fH P w H h)(k:∀b u,h.get? b=some u->h'.get? b=some u)(g:h.objs.size<=a)(new:fP P w (upd H a o) h' a o):fH P w (upd H a o) h':=λb u e=>by
 have d:=x.fresh g;by_cases f:b=a
 .subst f;rw[dQ] at e;cases e;show new
 rw[bA f] at e;show(x b u e).lq (λc v _ q=>k c v q) (λc q=>by rw[bA (iD q d)];show q) λc xs q=>by rw[bA (iD q d)];show q
end
def Rd(H:Hp)(a:ab)(u:HO):Prop:=H a=some u\/∃o,H a=some (.ig o u)
theorem Rd.ok(r:Rd H a u)(x:fH P w H h):fP P w H h a u:=by
 rcases r with r | ⟨o,r⟩
 .exact x a u r
 obtain⟨_,q⟩:=x a _ r;show q
def CA:Option HO->Prop
 | some (.lst _)=>True
 | some (.dK _ _)=>True
 | some (.dT _ _)=>True
 | some (.set _ _)=>True
 | some (.ins _ _ _)=>True
 | some (.ext _)=>True
 | _=>False
theorem fH.write(ok:fH P w H h)(mu:CA (H x))(he:e=x\/H e=some (.own x))(k:∀b u,b≠e->h.get? b=some u->h'.get? b=some u)(i:∃u,h'.get? e=some u)
  (new:fP P w (upd H x o') h' x o'):fH P w (upd H x o') h':=λb u q=>by
 have a:∀c y,H c=some (.own y)->c≠x:=λc y r z=>by subst z;rw[r] at mu;show mu
 have d:∀c xs,H c=some (.tup xs)->c≠x:=λc xs r z=>by subst z;rw[r] at mu;show mu
 by_cases g:b=x
 .subst g;rw[dQ] at q;cases q;show new
 rw[bA g] at q;by_cases j:b=e
 .have f:H b=some (.own x):=by
   grind
  rw[q] at f;cases f;obtain⟨v,hv⟩:=i;show⟨v,by rw[j];show hv⟩
 show(ok b u q).lq (λc v l r=>k c v ?_ r) (λc r=>by rw[bA (a c b r)];show r) λc xs r=>by rw[bA (d c xs r)];show r
 grind
structure Un(fs ex:List ab)(H H':Hp)(h h':ay):Prop where
 keep:∀b o,h.get? b=some o->H b=none->b∉fs->b∉ex->h'.get? b=some o
 slot:∀b o,h.get? b=some o->H b=none->b∈fs->b∉ex->∃sl,h'.get? b=some { o with slots:=sl }
 free:∀b o,h.get? b=some o->H b=none->b∉ex->H' b=none
 there:∀b o,h.get? b=some o->b∉ex->∃o',h'.get? b=some o'
 rW:∀b xs,H b=some (.tup xs)->H' b=some (.tup xs)
 qH:∀b o u,H b=some (.ig o u)->H' b=some (.ig o u)
 ud:∀b ps,H b=some (.vX ps)->∃more,H' b=some (.vX (ps++more))
section
variable{h h1 h2 h':ay}{a x e:ab}
theorem Un.any(u:Un fs ex H H1 h h1)(q:h.get? b=some ob)(n:H b=none)(a:b∉ex):∃sl,h1.get? b=some { ob with slots:=sl }:=by
 by_cases c:b∈fs
 .exact u.slot b ob q n c a
 show⟨ob.slots,u.keep b ob q n c a⟩
theorem Un.kept(k:∀b u,h.get? b=some u->h'.get? b=some u):Un fs ex H H h h':=
 ⟨λb ob q _ _ _=>k b ob q,λb ob q _ _ _=>⟨ob.slots,k b ob q⟩,λ_ _ _ n _=>n,λb ob q _=>⟨ob,k b ob q⟩,λ_ _ q=>q,λ_ _ _ q=>q,λ_ ps q=>⟨#[],by rw[q];rfl⟩⟩
theorem Un.refl:Un fs ex H H h h:=Un.kept λ_ _ q=>q
theorem Un.laid(k:∀b u,h.get? b=some u->h'.get? b=some u)(d:h.objs.size<=a)(c:H a=none):Un fs ex H (upd H a o) h h' where
 keep:=λb u q _ _ _=>k b u q
 slot:=λb u q _ _ _=>⟨u.slots,k b u q⟩
 free:=λb u q n _=>by rw[bA (c7 (iN (bX q) d))];show n
 there:=λb u q _=>⟨u,k b u q⟩
 rW:=λb xs q=>by rw[bA (iD q c)];show q
 qH:=λb u xs q=>by rw[bA (iD q c)];show q
 ud:=λb ps q=>⟨#[],by rw[bA (iD q c),q];rfl⟩
theorem Un.write(mu:CA (H x))(he:e=x\/H e=some (.own x))(k:∀b u,b≠e->h.get? b=some u->h'.get? b=some u)(d:∃u,h'.get? e=some u):Un fs ex H (upd H x o) h h':=by
 have f:∀b,H b=none->b≠x:=λb n z=>by subst z;rw[n] at mu;show mu
 have a:∀b,H b=none->b≠e:=λb n z=>by
  simp_all
 have hm:∀b u,H b=some u->¬CA (some u)->b≠x:=λb u q nm z=>by subst z;rw[q] at mu;show nm mu
 show⟨λb u q n _ _=>k b u (a b n) q,λb u q n _ _=>⟨u.slots,k b u (a b n) q⟩,λb u q n _=>by rw[bA (f b n)];show n,λb u q _=>?_,
  λb xs q=>by rw[bA (hm b _ q λz=>z)];show q,λb u xs q=>by rw[bA (hm b _ q λz=>z)];show q,λb ps q=>⟨#[],by rw[bA (hm b _ q λz=>z),q];rfl⟩⟩
 by_cases c:b=e
 .subst c;show d
 show⟨u,k b u c q⟩
end
noncomputable def FD(h:ay)(H:Hp):List ab:=(aN h.objs.size).filter λa=>(H a).isSome
noncomputable def rB(h:ay)(H:Hp):ay:=PySem.W.hideAll h (FD h H)
theorem zlZ(h H):(rB h H).objs.size=h.objs.size:=PySem.W.hideAll_size _ _
theorem zoD(e:h.get? b=some o)(n:H b=none):(rB h H).get? b=some o:=
 PySem.W.hideAll_get _ e λhm=>by
  have q:(H b).isSome=true:=(eY.mp hm).2;rw[n] at q;simp at q
theorem zq3(e:(rB h H).get? b=some o):h.get? b=some o/\H b=none:=by
 have a:h.get? b=some o:=PySem.W.of_hideAll (FD h H) e;show⟨a,?_⟩;cases q:H b with
 | none=>rfl
 | some x=>
  have hm:b∈FD h H:=eY.mpr ⟨fR.mpr (bX a),by simp[q]⟩;have z:(rB h H).get? b=none:=PySem.W.hideAll_none (FD h H) hm;rw[z] at e;cases e
noncomputable def zq4(g h:ay)(L:ab):List (ab×aT):=(aN h.objs.size).filterMap λa=>if a=L\/(g.get? a).isSome=true then none else(h.get? a).map λo=>(a,o)
noncomputable def ez(g h:ay)(L d:ab):List (ab×aT):=(zq4 g h L).filter λp=>decide (p.1≠d)
structure Mod(K:aj)(mg:ae->Option aa)(base:ay):Prop where
 ME:K.In base
 glob:base.Ns mainGlobals mg
 blt:∃mb,base.Ns builtinsNs mb/\∀x:ae,x≠"__name__"->mb x=bootBuiltins x
 nolimit:base.NoLimit
structure Cx where
 prog:aG
 w:aF
 K:aj
 mg:ae->Option aa
 base:ay
 A:br
 N:List ae
 gq:ai
 CD:Hp
 env:eI
 outer:List eI
 stack:List eI
 ex:List ab
 fn:ae->Bool
 calm:Bool
 pn:List (ab×aT)
 xe:aa->ai->Prop
noncomputable def oX(l:List eI):List ab:=l.filterMap (·.frame)
noncomputable abbrev Cx.fs(X:Cx):List ab:=oX X.outer
def yI(sc:iO)(x:ae):Prop:=sc.names.lookup x=some .local\/sc.names.lookup x=some .cell\/sc.names.lookup x=some .free
def Loc(sc:iO)(x:ae):Prop:=sc.names.lookup x=some .local\/sc.names.lookup x=some .cell
def Look(env:eI)(h:ay)(m:ae->Option aa)(x:ae)(u:aa):Prop:=
 (env.kindOf x=some .local/\m x=some u)\/((env.kindOf x=some .cell\/env.kindOf x=some .free)/\∃c,env.cells.lookup x=some c/\h.IsCell c (some u))
structure Cx.Ok(X:Cx):Prop where
 mod:Mod X.K X.mg X.base
 kind:X.env.scope.kind=.function
 glob:X.env.globals=mainGlobals
 blt:X.env.builtins=builtinsNs
 above:X.gq.heap.objs.size<=X.env.locals
 inj:∀x y c,X.env.cells.lookup x=some c->X.env.cells.lookup y=some c->x=y
 has:∀x,(X.env.kindOf x=some .cell\/X.env.kindOf x=some .free)->∃c,X.env.cells.lookup x=some c
 cab:∀x c,X.fn x=true->X.env.cells.lookup x=some c->X.gq.heap.objs.size<=c
 hd:X.calm=true->X.A.handled=none
 frames:X.A.frames=some X.stack
 bB:X.stack=X.outer\/(X.stack=X.env::X.outer/\X.env.frame=some X.env.locals)
 exf:∀b∈X.ex,b≠X.env.locals/\∀x c,X.env.cells.lookup x=some c->c≠b
 bs:∀b o,X.base.get? b=some o->X.gq.heap.get? b=some o/\X.CD b=none
 wA:X.base.objs.size<=X.gq.heap.objs.size
 BI:∀b o,X.base.get? b=some o->b∉X.ex
 Cg:∀b∈X.ex,b∉X.fs
 oW:X.gq.heap.FunFrames X.base X.outer
 yx:∀b∈X.fs,X.CD b=none
structure Inv(X:Cx)(J':List (ab×aT))(σ:List (Option V))(H:Hp)(s:ai):Prop where
 ok:X.Ok
 os:s.os=X.gq.os
 bare:AllBare s.gens
 base:Un X.fs X.ex X.CD H X.gq.heap s.heap
 loc:∃m,s.heap.Ns X.env.locals m/\∀(i:Nat)(x:ae)(v:V),X.N[i]?=some x->σ[i]?=some (some v)->yI X.env.scope x->∃u,RelV v u/\Look X.env s.heap m x u
 cell:∀x c,X.env.cells.lookup x=some c->∃v,s.heap.IsCell c v
 free:H X.env.locals=none
 oY:∀x c,X.env.cells.lookup x=some c->H c=none
 pin:∀p∈X.pn++J',s.heap.get? p.1=some p.2/\H p.1=none/\p.1≠X.env.locals/\p.1∉X.fs/\∀v,p.2.data≠.cell v
 aW:fH X.prog X.w H s.heap
 len:σ.length=X.N.length
section
variable{X:Cx}
theorem Cx.Ok.aay(ok:X.Ok)(e:X.base.get? b=some o):b∉X.fs:=λa=>by
 have:=(ok.oW.mem a).1;rw[e] at this;cases this
theorem Inv.bs(I:Inv X J' σ H s):∀b o,X.base.get? b=some o->s.heap.get? b=some o/\H b=none:=λb o e=>
 ⟨I.base.keep b o (I.ok.bs b o e).1 (I.ok.bs b o e).2 (I.ok.aay e) (I.ok.BI b o e),I.base.free b o (I.ok.bs b o e).1 (I.ok.bs b o e).2 (I.ok.BI b o e)⟩
theorem Inv.bk(I:Inv X J' σ H s):∀b o,X.base.get? b=some o->s.heap.get? b=some o:=λb o e=>(I.bs b o e).1
theorem Inv.mod(I:Inv X J' σ H s):Mod X.K X.mg X.base:=I.ok.mod
theorem Inv.mn(I:Inv X J' σ H s):X.K.In s.heap:=I.ok.mod.ME.keeps I.bk
theorem Inv.lt(I:Inv X J' σ H s):X.env.locals<s.heap.objs.size:=let⟨_,a,_⟩:=I.loc;a.lt
theorem Inv.sz(I:Inv X J' σ H s):X.gq.heap.objs.size<=s.heap.objs.size:=bU I.ok.above (cP I.lt)
theorem Inv.aaw(I:Inv X J' σ H s){a:ab}(h:s.heap.objs.size<=a):a∉X.fs:=λc=>by
 obtain⟨_,o,b,_⟩:=I.ok.oW.mem c;show absurd (iN (bX b) (bU I.sz h)) (iM _)
theorem Inv.wy(I:Inv X J' σ H s):∀x c,X.env.cells.lookup x=some c->c≠X.env.locals:=λx c e z=>by
 obtain⟨v,o,b,hd⟩:=I.cell x c e;obtain⟨m,⟨o',f,g,d,a,_⟩,_⟩:=I.loc;rw[z,d] at b;cases b;rw[a] at hd;cases hd
theorem Inv.oW(I:Inv X J' σ H s):s.heap.FunFrames X.base X.outer:=by
 have all:∀(l:List eI),(∀b∈oX l,b∈X.fs)->X.gq.heap.FunFrames X.base l->s.heap.FunFrames X.base l:=by
  intro l;induction l with
  | nil=>intro _ _;trivial
  | cons env r f=>
   intro d j;obtain⟨k,⟨L,o,hf,i,h,hd⟩,g⟩:=j;have c:L∈X.fs:=d L (by unfold oX;rw[Dz,hf];show cT);obtain⟨sl,e⟩:=I.base.slot L o h (I.ok.yx L c) c λz=>I.ok.Cg L z c
   show⟨k,⟨L,_,hf,i,e,hd⟩,f (λb a=>d b (by unfold oX;rw[Dz,hf];show cK _ a)) g⟩
 show all X.outer (λ_ a=>a) I.ok.oW
theorem Inv.stack(I:Inv X J' σ H s):s.heap.FunFrames X.base X.stack:=by
 rcases I.ok.bB with e | ⟨e,hf⟩
 .rw[e];show I.oW
 rw[e];obtain⟨m,a,_⟩:=I.loc;show .cons (by rw[I.ok.kind];decide) hf a ?_ I.oW;show Heap.get?_none_of_le (bU I.ok.wA I.ok.above)
theorem Inv.L7(I:Inv X J' σ H s):∀b∈oX X.stack,b∈X.env.locals::X.fs:=λb a=>by
 rcases I.ok.bB with e | ⟨e,hf⟩
 .rw[e] at a;show cK _ a
 rw[e] at a;unfold oX at a;rw[Dz,hf] at a;show a
theorem Inv.WU(I:Inv X J' σ H s):∀b∈oX X.stack,H b=none:=λb a=>by
 rcases bG.mp (I.L7 b a) with e | a
 .rw[e];show I.free
 obtain⟨_,o,c,_⟩:=I.ok.oW.mem a;show I.base.free b o c (I.ok.yx b a) λz=>I.ok.Cg b z a
theorem Inv.step{ch:List ab}(I:Inv X J' σ H s)
  (j:∀b∈ch,(b∈X.ex\/X.gq.heap.objs.size<=b)/\b≠X.env.locals/\(∀x c,X.env.cells.lookup x=some c->c≠b)/\∀p∈X.pn++J',p.1≠b)
  (keep:∀b o,b≠X.env.locals->b∉X.fs->b∉ch->s.heap.get? b=some o->H b=none->h'.get? b=some o)
  (slot:∀b o,b≠X.env.locals->b∈X.fs->b∉ch->s.heap.get? b=some o->H b=none->∃sl,h'.get? b=some { o with slots:=sl }) (free:∀b o,b∉ch->s.heap.get? b=some o->H b=none->H' b=none)
  (there:∀b o,b∉ch->s.heap.get? b=some o->∃o',h'.get? b=some o')
  (rW:∀b xs,H b=some (.tup xs)->H' b=some (.tup xs)) (qH:∀b o u,H b=some (.ig o u)->H' b=some (.ig o u)) (ud:∀b ps,H b=some (.vX ps)->∃more,H' b=some (.vX (ps++more)))
  (E:∀m,s.heap.Ns X.env.locals m->h'.Ns X.env.locals m) (aW:fH X.prog X.w H' h') (K:AllBare g') :
  Inv X J' σ H' { s with heap:=h',gens:=g',drawn:=d',toks:=t' }:=by
 have D:∀b o,X.gq.heap.get? b=some o->b≠X.env.locals:=λb o e=>c7 (iN (bX e) I.ok.above)
 have t:∀b o,X.gq.heap.get? b=some o->b∉X.ex->b∉ch:=λb o e a g=>by
  rcases(j b g).1 with z | z
  .exact a z
  show absurd (iN (bX e) z) (iM _)
 have cellK:∀x c,X.env.cells.lookup x=some c->∀v,s.heap.IsCell c v->h'.IsCell c v:=λx c e v ⟨o,h,hd⟩=>by
  have C:c∉ch:=λz=>(j c z).2.2.1 x c e rfl
  by_cases B:c∈X.fs
  .obtain⟨sl,q⟩:=slot c o (I.wy x c e) B C h (I.oY x c e);show⟨_,q,hd⟩
  show⟨o,keep c o (I.wy x c e) B C h (I.oY x c e),hd⟩
 show⟨I.ok,I.os,K,⟨λb o e n g a=>?_,λb o e n g a=>?_,λb o e n a=>?_,λb o e a=>?_,λb xs e=>rW b xs (I.base.rW b xs e),λb o xs e=>qH b o xs (I.base.qH b o xs e),λb ps e=>?_⟩,?_,λx c e=>?_,?_,λx c e=>?_,λp F=>?_,aW,I.len⟩
 .exact keep b o (D b o e) g (t b o e a) (I.base.keep b o e n g a) (I.base.free b o e n a)
 .obtain⟨sl,f⟩:=I.base.slot b o e n g a;obtain⟨y,A⟩:=slot b _ (D b o e) g (t b o e a) f (I.base.free b o e n a);show⟨y,A⟩
 .obtain⟨o',f⟩:=I.base.there b o e a;show free b o' (t b o e a) f (I.base.free b o e n a)
 .obtain⟨o',f⟩:=I.base.there b o e a;show there b o' (t b o e a) f
 .obtain⟨M,f⟩:=I.base.ud b ps e;grind
 .obtain⟨m,G,J⟩:=I.loc;show⟨m,E m G,λi x v f A e3=>?_⟩;obtain⟨u,r,l⟩:=J i x v f A e3;show⟨u,r,?_⟩;rcases l with l | ⟨k,c,e,z⟩
  .exact .inl l
  show .inr ⟨k,c,e,cellK x c e _ z⟩
 .obtain⟨v,z⟩:=I.cell x c e;show⟨v,cellK x c e v z⟩
 .obtain⟨m,⟨o,_,_,h,_⟩,_⟩:=I.loc;show free _ o (λz=>(j _ z).2.1 rfl) h I.free
 .obtain⟨v,o,h,hd⟩:=I.cell x c e;show free c o (λz=>(j c z).2.2.1 x c e rfl) h (I.oY x c e)
 obtain⟨e,n,ne,L,d⟩:=I.pin p F;grind
theorem Inv.un(I:Inv X J' σ H s)(u:Un X.fs [] H H' s.heap h')(aW:fH X.prog X.w H' h'):Inv X J' σ H' { s with heap:=h',toks:=t' }:=by
 obtain⟨m,⟨o,k,l,d,r⟩,_⟩:=id I.loc;obtain⟨sl,h⟩:=u.any d I.free (by simp)
 show I.step (g':=s.gens) (d':=s.drawn) (ch:=[]) (λ_ z=>nomatch z) (λb o _ a _ e n=>u.keep b o e n a (by trivial)) (λb o _ a _ e n=>u.slot b o e n a (by trivial)) (λb o _ e n=>u.free b o e n (by trivial)) (λb o _ e=>u.there b o e (by trivial)) u.rW u.qH u.ud (λj hm=>by
  obtain⟨o',f,i,c,g⟩:=hm;rw[d] at c;cases c;show⟨_,f,i,h,g⟩) aW I.bare
theorem Inv.call(I:Inv X J' σ H s)(u:Un (oX X.stack) ch H H' s.heap h')(aW:fH X.prog X.w H' h')(k:AllBare g')
  (g:∀b∈ch,(b∈X.ex\/X.gq.heap.objs.size<=b)/\b≠X.env.locals/\(∀x c,X.env.cells.lookup x=some c->c≠b)/\∀p∈X.pn++J',p.1≠b) :
  Inv X J' σ H' { s with heap:=h',gens:=g',drawn:=d',toks:=t' }:=by
 obtain⟨m,⟨o,v,y,h,r⟩,_⟩:=id I.loc;obtain⟨sl,d⟩:=u.any h I.free λz=>(g _ z).2.1 rfl
 show I.step (ch:=ch) g (λb o d l a e n=>u.keep b o e n (λz=>(bG.mp (I.L7 b z)).elim d l) a) (λb o _ _ a e n=>u.any e n a) (λb o a e n=>u.free b o e n a) (λb o a e=>u.there b o e a) u.rW u.qH u.ud (λt hm=>by
  obtain⟨o',i,q,f,j⟩:=hm;rw[h] at f;cases f;show⟨_,i,q,d,j⟩) aW k
theorem Inv.turned(I:Inv X J' σ H s)(k:∀b o,b≠a->s.heap.get? b=some o->h'.get? b=some o)(i:H a=none)(g:a≠X.env.locals)
  (t:a∈X.ex\/X.gq.heap.objs.size<=a) (l:∀x c,X.env.cells.lookup x=some c->c≠a) (h3:∀p∈X.pn++J',p.1≠a):Inv X J' σ H { s with heap:=h',toks:=t' }:=by
 have f:∀b u,H b=some u->b≠a:=λb u e z=>by rw[z,i] at e;cases e
 show I.step (g':=s.gens) (d':=s.drawn) (ch:=[a]) (λb j=>?_) (λb o _ _ d e _=>k b o (λz=>d (by show z▸.head _)) e) (λb o _ _ d e _=>⟨o.slots,k b o (λz=>d (by show z▸.head _)) e⟩) (λ_ _ _ _ n=>n)
  (λb o d e=>⟨o,k b o (λz=>d (by show z▸.head _)) e⟩) (λ_ _ e=>e) (λ_ _ _ e=>e) (λb ps e=>⟨#[],by rw[e];rfl⟩) (λm hm=>?_) (λb u e=>?_) I.bare
 .have e:b=a:=by simpa using j
  subst e;show⟨t,g,l,h3⟩
 .obtain⟨o,w,y,h,r⟩:=hm;show⟨o,w,y,k _ o (Ne.symm g) h,r⟩
 show(I.aW b u e).lq (λc v d q=>k c v ?_ q) (λ_ q=>q) λ_ _ q=>q
 rcases d with z | z
 .rw[z];show f b u e
 show f c _ z
theorem Inv.tok(I:Inv X J' σ H s)(t):Inv X J' σ H { s with toks:=t }:=I.un (h':=s.heap) (t':=t) Un.refl I.aW
theorem Inv.kept(I:Inv X J' σ H s)(k:∀b u,s.heap.get? b=some u->h'.get? b=some u):Inv X J' σ H { s with heap:=h',toks:=t' }:=I.un (Un.kept k) (I.aW.kept k)
theorem Inv.laid{a:ab}(I:Inv X J' σ H s)(k:∀b u,s.heap.get? b=some u->h'.get? b=some u)(c:s.heap.objs.size<=a)(new:fP X.prog X.w (upd H a o) h' a o) :
  Inv X J' σ (upd H a o) { s with heap:=h',toks:=t' }:=I.un (Un.laid k c (I.aW.fresh c)) (I.aW.laid k c new)
theorem Inv.write(I:Inv X J' σ H s)(mu:CA (H x))(he:e=x\/H e=some (.own x))(k:∀b u,b≠e->s.heap.get? b=some u->h'.get? b=some u)(a:∃u,h'.get? e=some u)
  (new:fP X.prog X.w (upd H x o) h' x o):Inv X J' σ (upd H x o) { s with heap:=h',toks:=t' }:=I.un (Un.write mu he k a) (I.aW.write mu he k a new)
theorem Inv.W6(I:Inv X J' σ H s)(h:∀p∈a,s.heap.get? p.1=some p.2/\H p.1=none/\p.1≠X.env.locals/\p.1∉X.fs/\∀v,p.2.data≠.cell v):Inv X a σ H s:=
 ⟨I.ok,I.os,I.bare,I.base,I.loc,I.cell,I.free,I.oY,λp b=>(cj.mp b).elim (λz=>I.pin p (iy _ z)) (h p),I.aW,I.len⟩
theorem Vg{N:List ae}(c:N.Nodup){i j:Nat}(a:N[i]?=some x)(b:N[j]?=some x):i=j:=by
 obtain⟨g,e⟩:=cD.mp a;obtain⟨f,d⟩:=cD.mp b;show(List.getElem_inj c).mp (e.trans d.symm)
theorem V7(I:Inv X J' σ H s)(hN:X.N.Nodup)(G:X.N[i]?=some x)(l:Loc X.env.scope x)(r:RelV v u)
  (h:∀P,Inv X J' (σ.set i (some v)) H P->(∃a,oh a s.heap P.heap/\(a=X.env.locals\/X.env.cells.lookup x=some a))->Q () P) (hf:X.fn x=true\/X.env.scope.names.lookup x=some .local:=by first | show .inl rfl | show .inr rfl | assumption):wpAny M A (storeName X.env x u) Q E s:=by
 obtain⟨m,U,hl⟩:=id I.loc;have W:(X.env.scope.kind==.class||(X.env.scope.kind==.module&&X.env.locals != X.env.globals))=false:=by rw[I.ok.kind];rfl
 have X5:i<σ.length:=by rw[I.len];show(cD.mp G).1
 have wy:=I.wy;have tracked:∀{a:ab}{h':ay},(∃o,s.heap.get? a=some o/\H a=none)->oh a s.heap h'->fH X.prog X.w H h':=λ{a h'} ha f b ob e=>by
  obtain⟨_,_,je⟩:=ha;show(I.aW b ob e).lq (λc K t q=>(f.2 c ?_).trans q) (λ_ q=>q) λ_ _ q=>q
  grind
 rcases l with C | C
 .refine wpAny_storeName_local C U (λh' M3 f=>?_) W;obtain⟨oL,_,_,yi,_⟩:=id U;show h _ ⟨I.ok,I.os,I.bare,⟨λb o e n F l=>?_,λb o e n F l=>?_,I.base.free,λb o e l=>?_,I.base.rW,I.base.qH,I.base.ud⟩,⟨_,M3,λj y L g B e3=>?_⟩,λy c e=>?_,I.free,I.oY,λp T=>?_,tracked ⟨oL,yi,I.free⟩ f,by simpa using I.len⟩ ⟨_,f,.inl rfl⟩
  .exact(f.2 b (c7 (iN (bX e) I.ok.above))).trans (I.base.keep b o e n F l)
  .obtain⟨sl,g⟩:=I.base.slot b o e n F l;show⟨sl,(f.2 b (c7 (iN (bX e) I.ok.above))).trans g⟩
  .obtain⟨o',g⟩:=I.base.there b o e l;show⟨o',(f.2 b (c7 (iN (bX e) I.ok.above))).trans g⟩
  .by_cases D:j=i
   .subst D;rw[G] at g;cases g;rw[zO X5] at B;cases B;show⟨u,r,.inl ⟨C,by simp⟩⟩
   rw[vq (Ne.symm D)] at B;obtain⟨O,R,q⟩:=hl j y L g B e3;show⟨O,R,?_⟩;rcases q with⟨k,e⟩ | ⟨k,c,e,z⟩
   .refine .inl ⟨k,?_⟩;have:y≠x:=λe=>D (Vg hN g (e▸G))
    simp[this,e]
   show .inr ⟨k,c,e,z.sameBut f (wy y c e)⟩
  .obtain⟨K,z⟩:=I.cell y c e;show⟨K,z.sameBut f (wy y c e)⟩
  obtain⟨e,n,ne,S,d⟩:=I.pin p T;show⟨(f.2 p.1 ne).trans e,n,ne,S,d⟩
 have Y:X.fn x=true:=by
  rcases hf with z | z
  .exact z
  rw[z] at C;cases C
 obtain⟨c,t⟩:=I.ok.has x (.inl C);obtain⟨K,z⟩:=I.cell x c t;show wpAny_storeName_cell I.ok.kind C t z (λh' Z f=>?_);obtain⟨oc,uF,aci⟩:=id z;show h { s with heap:=h' } ⟨I.ok,I.os,I.bare,⟨λb o e n F l=>?_,λb o e n F l=>?_,I.base.free,λb o e l=>?_,I.base.rW,I.base.qH,I.base.ud⟩,⟨m,U.sameBut f (Ne.symm (wy x c t)),λj y L g B e3=>?_⟩,λy J e=>?_,I.free,I.oY,λp T=>?_,tracked ⟨oc,uF,I.oY x c t⟩ f,by simpa using I.len⟩ ⟨c,f,.inr t⟩
 .exact(f.2 b (c7 (iN (bX e) (I.ok.cab x c Y t)))).trans (I.base.keep b o e n F l)
 .obtain⟨sl,g⟩:=I.base.slot b o e n F l;show⟨sl,(f.2 b (c7 (iN (bX e) (I.ok.cab x c Y t)))).trans g⟩
 .obtain⟨o',g⟩:=I.base.there b o e l;show⟨o',(f.2 b (c7 (iN (bX e) (I.ok.cab x c Y t)))).trans g⟩
 .by_cases D:j=i
  .subst D;rw[G] at g;cases g;rw[zO X5] at B;cases B;show⟨u,r,.inr ⟨.inl C,c,t,Z⟩⟩
  rw[vq (Ne.symm D)] at B;obtain⟨O,R,q⟩:=hl j y L g B e3;show⟨O,R,?_⟩;rcases q with q | ⟨k,J,e,z'⟩
  .exact .inl q
  show .inr ⟨k,J,e,z'.sameBut f ?_⟩;rintro rfl;show D (Vg hN g (I.ok.inj _ _ _ e t▸G))
 .by_cases B9:J=c
  .subst B9;show⟨_,Z⟩
  obtain⟨w2,z2⟩:=I.cell y J e;show⟨w2,z2.sameBut f B9⟩
 obtain⟨e,n,ne,S,d⟩:=I.pin p T;show⟨(f.2 p.1 ?_).trans e,n,ne,S,d⟩;grind
theorem Vf(I:Inv X J' σ H s)(e:X.N.Nodup)(c:X.N[i]?=some x)(b:Loc X.env.scope x)(r:RelV v u)
  (h:∀a,Inv X J' (σ.set i (some v)) H a->Q () a) (d:X.fn x=true\/X.env.scope.names.lookup x=some .local:=by first | show .inl rfl | show .inr rfl | assumption):wpAny M A (storeName X.env x u) Q E s:=
 V7 I e c b r (λa f _=>h a f) d
theorem Inv.abr(I:Inv X J' σ H s)(f:a.os=s.os)(u:Un (oX X.stack) ch H H' s.heap a.heap)(aW:fH X.prog X.w H' a.heap)(g:AllBare a.gens)
  (d:∀b∈ch,(b∈X.ex\/X.gq.heap.objs.size<=b)/\b≠X.env.locals/\(∀x c,X.env.cells.lookup x=some c->c≠b)/\∀p∈X.pn++J',p.1≠b):Inv X J' σ H' a:=by
 obtain⟨h',g',d',t',o'⟩:=a;have e:o'=s.os:=f;subst e;show I.call (g':=g') (t':=t') (d':=d') u aW g d
end
noncomputable abbrev XK:=aa->Option ab->Hp->Prop
noncomputable abbrev St:=List (Option V)
noncomputable abbrev VK:=V->Hp->Prop
noncomputable abbrev TE:=St->Hp->VK->Prop
noncomputable abbrev TT:=St->Hp->(Bool->Hp->Prop)->Prop
noncomputable abbrev TA:=St->Hp->(List V->Hp->Prop)->Prop
structure Ends where
 nx:St->Hp->Prop
 rt:VK
 bk:St->Hp->Prop:=λ_ _=>False
 ct:St->Hp->Prop:=λ_ _=>False
noncomputable abbrev TS:=Ends->St->Hp->Prop
def EP(X:Cx)(c:List (ab×aT))(a:St)(Q:VK)(u:aa)(b:ai):Prop:=∃v H',Inv X c a H' b/\RelV v u/\Q v H'
def TP(X:Cx)(d:List (ab×aT))(a:St)(Q:Bool->Hp->Prop)(b:Bool)(c:ai):Prop:=∃H',Inv X d a H' c/\Q b H'
def AP(X:Cx)(e:List (ab×aT))(b:St)(Q:List V->Hp->Prop)(c:List aa)(d:ai):Prop:=∃a H',Inv X e b H' d/\Vals a c/\Q a H'
def SP(X:Cx)(c:List (ab×aT))(D:Ends)(f:Flow)(b:ai):Prop:=
 match f with
 | .next=>∃a H',Inv X c a H' b/\D.nx a H'
 | .brk=>∃a H',Inv X c a H' b/\D.bk a H'
 | .cont=>∃a H',Inv X c a H' b/\D.ct a H'
 | .ret u=>∃v a H',Inv X c a H' b/\RelV v u/\D.rt v H'
def PE(X:Cx)(e:av)(t:TE):Prop:=
 ∀a s (σ:St) H Q,Inv X a σ H s->t σ H Q->wpAny (model X.prog X.w) X.A (eval e X.env) (EP X a σ Q) X.xe s
def PT(X:Cx)(e:av)(t:TT):Prop:=
 ∀a s (σ:St) H Q,Inv X a σ H s->t σ H Q->wpAny (model X.prog X.w) X.A (isTrue e X.env (eval e X.env)) (TP X a σ Q) X.xe s
def PW(X:Cx)(e:av)(t:TT):Prop:=
 ∀whole a s (σ:St) H Q,Inv X a σ H s->t σ H Q->wpAny (model X.prog X.w) X.A (isTrue e X.env whole) (TP X a σ Q) X.xe s
theorem PW.pt(h:PW X e t):PT X e t:=h _
def PA(X:Cx)(b:List av)(t:TA):Prop:=
 ∀pos a s (σ:St) H Q,Inv X a σ H s->t σ H Q->wpAny (model X.prog X.w) X.A (spliced (backTo pos (starEach b X.env))) (AP X a σ Q) X.xe s
def PS(X:Cx)(st:cQ)(t:TS):Prop:=
 ∀a s (σ:St) H D,Inv X a σ H s->t D σ H->wpAny (model X.prog X.w) X.A (exec st X.env) (SP X a D) X.xe s
def j5(X:Cx)(st:List cQ)(t:TS):Prop:=
 ∀a s (σ:St) H D,Inv X a σ H s->t D σ H->wpAny (model X.prog X.w) X.A (execs st X.env) (SP X a D) X.xe s
theorem aR{Q b:α->ai->Prop}(h:wpAny M A t Q E s)(c:∀a s,Q a s->b a s):wpAny M A t b E s:=g7 h c λ_ _ x=>x
section
variable{X:Cx}
theorem bin(r:PE X a j)(q:PE X b i){c:St}{R:V->V->Hp->Prop}(I:Inv X e c H s)(h:j c H λx H1=>i c H1 λy d=>R x y d)
    {f:aa->aa->Sem α}
  (p:∀v u s2 x y d,Inv X e c d s2->RelV x v->RelV y u->R x y d->wpAny (model X.prog X.w) X.A (f v u) Q X.xe s2) :
  wpAny (model X.prog X.w) X.A (eval a X.env) (λv t=>wpAny (model X.prog X.w) X.A (eval b X.env) (λu o=>wpAny (model X.prog X.w) X.A (f v u) Q X.xe o) X.xe t) X.xe s:=by
 show aR (r e s c H _ I h) λv s1 g=>?_
 obtain⟨x,H1,B,l,n⟩:=g;show aR (q e s1 c H1 _ B n) λu s2 g=>?_
 obtain⟨y,d,z,k,m⟩:=g;show p v u s2 x y d z l k m
def Je(i:Nat):TE:=λσ H Q=>∃v,σ[i]?=some (some v)/\Q v H
def tC(v:V):TE:=λ_ H Q=>Q v H
theorem J4(k:X.N[i]?=some x)(hv:yI X.env.scope x)(hd:(x==("__debug__":ae))=false:=by decide)(f:(x==("__classdict__":ae))=false:=by decide):PE X (.Name x pos) (Je i):=by
 intro n s σ H Q I h;obtain⟨v,e,h⟩:=h;obtain⟨m,g,j⟩:=I.loc;obtain⟨u,r,l⟩:=j i x v k e hv;have fin:EP X n σ Q u s:=⟨v,H,I,r,h⟩
 rcases l with⟨a,hm⟩ | ⟨a,c,b,d⟩
 .exact Hm (wpAny_loadName_local I.ok.kind a g hm fin) hd
 rcases a with a | a
 .exact Hm (wpAny_loadName_cell I.ok.kind a b d fin) hd
 show Hm (wpAny_loadName_free I.ok.kind a b d fin f) hd
theorem SD:PE X (.Constant (.int i) j pos) (tC (.int i)):=λ_ _ _ H _ I h=>wpAny_Constant_int ⟨.int i,H,I.tok _,⟨_,rfl⟩,h⟩
theorem Sg:PE X (.Constant (.bool b) j pos) (tC (.bl b)):=λ_ _ _ H _ I h=>Constant_bool ⟨.bl b,H,I,rfl,h⟩
theorem zsC:PE X (.Constant .none j pos) (tC .non):=λ_ _ _ H _ I h=>Constant_none ⟨.non,H,I,rfl,h⟩
theorem zsD:PE X (.Constant (.str x) j pos) (tC (.str x)):=λ_ _ _ H _ I h=>Calls.Constant_str ⟨.str x,H,I.tok _,⟨_,rfl⟩,h⟩
def Gl(X:Cx)(x:ae):Prop:=X.env.kindOf x=some .globalImplicit
theorem UD{a:St}(I:Inv X d a H s)(c:Gl X x)(b:X.mg x=some u)(h:Q u s)
  (hd:(x==("__debug__":ae))=false:=by decide):wpAny (model X.prog X.w) X.A (eval (.Name x pos) X.env) Q E s:=
 Rc I.ok.kind c (Calls.loadGlobal_global (by rw[I.ok.glob];show I.mod.glob.keeps I.bk) b h) hd
theorem l7{a:St}(I:Inv X g a H s)(d:Gl X x)(c:X.mg x=none)(hv:bootBuiltins x=some u)(h:Q u s)
  (b:x≠"__name__":=by decide) (hd:(x==("__debug__":ae))=false:=by decide):wpAny (model X.prog X.w) X.A (eval (.Name x pos) X.env) Q E s:=by
 obtain⟨i,f,e⟩:=I.mod.blt;show Rc I.ok.kind d (Calls.loadGlobal_builtin (by rw[I.ok.glob];show I.mod.glob.keeps I.bk) c (by rw[I.ok.blt];show f.keeps I.bk) ((e x b).trans hv) h) hd
theorem zq5(b:Gl X x)(a:X.mg x=some u)(r:RelV v u)(hd:(x==("__debug__":ae))=false:=by decide):PE X (.Name x pos) (tC v):=
 λ_ _ _ H _ I h=>UD I b a ⟨v,H,I,r,h⟩ hd
theorem zq6(c:Gl X x)(b:X.mg x=none)(hv:bootBuiltins x=some u)(r:RelV v u)(a:x≠"__name__":=by decide)(hd:(x==("__debug__":ae))=false:=by decide):PE X (.Name x pos) (tC v):=
 λ_ _ _ H _ I h=>l7 I c b hv ⟨v,H,I,r,h⟩ a hd
variable{a b:av}{ta tb:TE}
def PC(X:Cx)(op:CmpOp)(a b:av)(t:TE):Prop:=
 ∀c s (σ:St) H Q,Inv X c σ H s->t σ H Q->
  wpAny (model X.prog X.w) X.A (eval a X.env) (λv e=>wpAny (model X.prog X.w) X.A (eval b X.env) (λu d=>wpAny (model X.prog X.w) X.A (compareOp op v u) (EP X c σ Q) X.xe d) X.xe e) X.xe s
theorem zoE(b)(h:op≠.In)(a:op≠.NotIn):behindInMarks op b=false:=by
 have d:(op==OL)=false:=by cases op<;>first | rfl | show absurd rfl h
 have c:(op==OZ)=false:=by cases op<;>first | rfl | show absurd rfl a
 cases b<;>simp[behindInMarks,d,c]
def tB(t:TE):TT:=λσ H Q=>t σ H λx H1=>∃c,x=.bl c/\Q c H1
theorem zvy(h:PC X op a b t)(e:behindInMarks op b=false:=by first | show zoE _ (by decide) (by decide) | rfl):PT X (.Compare a [op] [b] pos) (tB t):=by
 intro k s σ H Q I hw;show QH (aR (h k s σ H _ I hw) λv s1 e=>aR e λu s2 i=>aR i λc s3 j=>?_) e;obtain⟨x,H1,l,f,g⟩:=j;obtain⟨d,rfl,q⟩:=g;cases f;show lR ⟨H1,l,q⟩
theorem zsE(h:PE X e t)(he:∀whole,isTrue e X.env whole=(do let v <-whole;standAt e.pos;holding [v] (truthy v)):=by intro _;rfl):PT X e (tB t):=by
 intro f s σ H Q I hw;show isTrue_plain (aR (h f s σ H _ I hw) λv s1 c=>?_) (he _);obtain⟨x,H1,g,a,b⟩:=c;obtain⟨d,rfl,q⟩:=b;cases a;show lR ⟨H1,g,q⟩
variable{ez:List av}
def Z6(t u:TT):TT:=λσ H Q=>t σ H λc H1=>if c=true then u σ H1 Q else Q false H1
def tOr(t u:TT):TT:=λσ H Q=>t σ H λc H1=>if c=true then Q true H1 else u σ H1 Q
def Z5(t:TT):TT:=λσ H Q=>t σ H λc H1=>Q (!c) H1
theorem zq7(b:PT X a tA):PW X (.BoolOp .And [a] pos) tA:=by
 intro f d s σ H Q I h;show isTrue_and (aR (b d s σ H Q I h) λc s1 e=>?_);cases c with
 | true=>show isTrue_and_nil e
 | false=>show e
theorem zsF(b:PT X a tA):PW X (.BoolOp .Or [a] pos) tA:=by
 intro f d s σ H Q I h;show isTrue_or (aR (b d s σ H Q I h) λc s1 e=>?_);cases c with
 | false=>show isTrue_or_nil e
 | true=>show e
theorem zsG(j:PT X a tA)(i:PW X (.BoolOp .And (b::ez) pos) FG):PW X (.BoolOp .And (a::b::ez) pos) (Z6 tA FG):=by
 intro g e s σ H Q I h;show isTrue_and (aR (j e s σ H _ I h) λc s1 k=>?_);obtain⟨H1,f,d⟩:=k;cases c with
 | true=>show i g e s1 σ H1 Q f d
 | false=>show⟨H1,f,d⟩
theorem zuw(j:PT X a tA)(i:PW X (.BoolOp .Or (b::ez) pos) FG):PW X (.BoolOp .Or (a::b::ez) pos) (tOr tA FG):=by
 intro g e s σ H Q I h;show isTrue_or (aR (j e s σ H _ I h) λc s1 k=>?_);obtain⟨H1,f,d⟩:=k;cases c with
 | true=>show⟨H1,f,d⟩
 | false=>show i g e s1 σ H1 Q f d
theorem zsH(b:PT X a tA):PT X (.UnaryOp .Not a pos) (Z5 tA):=by
 intro d s σ H Q I h;show isTrue_not (b d s σ H (λc H1=>Q (!c) H1) I h)
def zux(ta tb:TE):TE:=λσ H Q=>ta σ H λx H1=>∃c,x=.bl c/\if c=true then tb σ H1 Q else Q (.bl false) H1
def zuy(ta:TE):TE:=λσ H Q=>ta σ H λx H1=>∃c,x=.bl c/\Q (.bl (!c)) H1
theorem zsI(h:PE X a t):PE X (.BoolOp op [a] pos) t:=λb s σ H Q I hw=>BoolOp_one (h b s σ H Q I hw)
theorem zsJ(j:PE X a ta)(i:PE X (.BoolOp .And (b::ez) pos) tb):PE X (.BoolOp .And (a::b::ez) pos) (zux ta tb):=by
 intro e s σ H Q I h;show BoolOp_and (aR (j e s σ H _ I h) λv s1 k=>?_);obtain⟨x,H1,f,g,d⟩:=k;obtain⟨c,rfl,d⟩:=d;cases g;show lR ?_;cases c with
 | true=>show i e s1 σ H1 Q f d
 | false=>show⟨.bl false,H1,f,rfl,d⟩
theorem zsK(e:PE X a ta):PE X (.UnaryOp .Not a pos) (zuy ta):=by
 intro g s σ H Q I h;show UnaryOp_ (aR (e g s σ H _ I h) λv s1 f=>?_);obtain⟨x,H1,i,d,b⟩:=f;obtain⟨c,rfl,b⟩:=b;cases d;show not_of (lR ⟨.bl (!c),H1,i,rfl,b⟩)
def tIf(t:TT)(ta tb:TE):TE:=λσ H Q=>t σ H λc H1=>if c=true then ta σ H1 Q else tb σ H1 Q
theorem zoF(i:PT X c tA)(k:PE X a ta)(j:PE X b tb):PE X (.IfExp c a b pos) (tIf tA ta tb):=by
 intro e s σ H Q I h;show wpAny_IfExp (aR (i e s σ H _ I h) λd s1 l=>?_);obtain⟨H1,g,f⟩:=l;cases d with
 | true=>show k e s1 σ H1 Q g f
 | false=>show j e s1 σ H1 Q g f
end
def bP(K:aj)(H:Hp)(a:ab)(xs:List V):Prop:=
 Rd H a (.lst xs)\/
  ∃o its n,K.lookup a=some o/\o.cls=.type "list"/\o.dict=none/\o.data=.seq its n/\its.size<=sizeLine/\Vals xs its.toList
def cz(K:aj)(H:Hp)(a:ab)(xs:List V):Prop:=
 Rd H a (.tup xs)\/
  ∃o its n,K.lookup a=some o/\o.cls=.type "tuple"/\o.data=.seq its n/\its.size<=sizeLine/\Vals xs its.toList
noncomputable def Z4:aa->Option V
 | .none=>some .non
 | .bool b=>some (.bl b)
 | .int i _=>some (.int i)
 | .str x _=>some (.str x)
 | .bytes b _=>some (.NT b)
 | .float b _=>some (.NB b)
 | .ref a=>some (.ref a)
 | .type n=>some (.ty n)
 | _=>none
theorem RelV.abs(r:RelV x u):Z4 u=some x:=by
 cases x with
 | non=>cases r;rfl
 | bl _=>cases r;rfl
 | int _=>obtain⟨t,rfl⟩:=r;rfl
 | str _=>obtain⟨t,rfl⟩:=r;rfl
 | NT _=>obtain⟨t,rfl⟩:=r;rfl
 | NB _=>obtain⟨t,rfl⟩:=r;rfl
 | ref _=>cases r;rfl
 | ty _=>cases r;rfl
theorem RelV.inj(r:RelV x u)(q:RelV y u):x=y:=fT (r.abs.symm.trans q.abs)
theorem Vals.inj(h:Vals xs a)(k:Vals ys a):xs=ys:=by
 induction h generalizing ys with
 | nil=>cases k;rfl
 | cons r t c=>
  cases k with
  | cons b t'=>rw[r.inj b,c t']
section
variable{σ:St}
theorem bP.of{K:aj}(h:H a=some (.lst xs)):bP K H a xs:=.inl (.inl h)
theorem cz.of{K:aj}(h:H a=some (.tup xs)):cz K H a xs:=.inl (.inl h)
theorem Inv.list(I:Inv X J' σ H s)(h:bP X.K H a xs):∃its:List aa,Vals xs its/\PlainL s.heap a its.toArray/\xs.length<=sizeLine:=by
 rcases h with h | ⟨o,its,n,c,d,hd,b,hz,r⟩
 .obtain⟨z,its,n,r,e⟩:=h.ok I.aW;show⟨its,r,⟨_,n,e,rfl,rfl,rfl⟩,z⟩
 show⟨its.toList,r,⟨o,n,I.mn a o c,d,hd,by simpa using b⟩,?_⟩;have e:=r.length;simp only[cU] at e;simp_all
theorem Inv.tuple(I:Inv X J' σ H s)(h:cz X.K H a xs):∃its:List aa,Vals xs its/\IsTup s.heap a its.toArray/\xs.length<=sizeLine:=by
 rcases h with h | ⟨o,its,n,c,d,b,hz,r⟩
 .obtain⟨z,its,r,p⟩:=h.ok I.aW;show⟨its,r,p,z⟩
 show⟨its.toList,r,⟨o,I.mn a o c,d,n,by simpa using b⟩,?_⟩;have e:=r.length;simp only[cU] at e;simp_all
theorem Inv.BO(I:Inv X J' σ H s)(h:bP X.K H a xs)(h':bP X.K H a ys):xs=ys:=by
 obtain⟨its,r,⟨o,n,e,_,_,d⟩,_⟩:=I.list h;obtain⟨its',c,⟨o',g,b,_,_,d'⟩,_⟩:=I.list h';rw[e] at b;cases b;rw[d] at d';injection d' with f _
 have:its=its':=by simpa using dN O7 f
 subst this;show r.inj c
theorem Inv.WN(I:Inv X J' σ H s)(h:cz X.K H a xs)(h':cz X.K H a ys):xs=ys:=by
 obtain⟨its,r,⟨o,e,_,n,d⟩,_⟩:=I.tuple h;obtain⟨its',c,⟨o',b,_,g,d'⟩,_⟩:=I.tuple h';rw[e] at b;cases b;rw[d] at d';injection d' with f _
 have:its=its':=by simpa using dN O7 f
 subst this;show r.inj c
end
noncomputable abbrev Cx.qg(X:Cx)(E:aa->ai->Prop):Cx:={ X with xe:=E }
noncomputable abbrev Cx.qo(X:Cx):Cx:=X.qg λ_ _=>False
theorem Cx.Ok.qg{X:Cx}(ok:X.Ok)(E):(X.qg E).Ok:=
 ⟨ok.mod,ok.kind,ok.glob,ok.blt,ok.above,ok.inj,ok.has,ok.cab,ok.hd,ok.frames,ok.bB,ok.exf,ok.bs,ok.wA,ok.BI,ok.Cg,ok.oW,ok.yx⟩
theorem Cx.Ok.uc{X:Cx}(ok:(X.qg E).Ok):X.Ok:=
 ⟨ok.mod,ok.kind,ok.glob,ok.blt,ok.above,ok.inj,ok.has,ok.cab,ok.hd,ok.frames,ok.bB,ok.exf,ok.bs,ok.wA,ok.BI,ok.Cg,ok.oW,ok.yx⟩
section
variable{σ:St}
theorem Inv.qg(I:Inv X J' σ H s)(E):Inv (X.qg E) J' σ H s:=⟨I.ok.qg E,I.os,I.bare,I.base,I.loc,I.cell,I.free,I.oY,I.pin,I.aW,I.len⟩
theorem Inv.uc(I:Inv (X.qg E) J' σ H s):Inv X J' σ H s:=⟨I.ok.uc,I.os,I.bare,I.base,I.loc,I.cell,I.free,I.oY,I.pin,I.aW,I.len⟩
theorem SP.uc{D:Ends}(h:SP (X.qg E) J' D f b):SP X J' D f b:=by
 cases f with
 | next=>obtain⟨a,H',I,q⟩:=h;show⟨a,H',I.uc,q⟩
 | brk=>obtain⟨a,H',I,q⟩:=h;show⟨a,H',I.uc,q⟩
 | cont=>obtain⟨a,H',I,q⟩:=h;show⟨a,H',I.uc,q⟩
 | ret u=>obtain⟨v,a,H',I,r,q⟩:=h;show⟨v,a,H',I.uc,r,q⟩
theorem j5.qo{st:List cQ}(h:j5 X.qo st t):j5 X st t:=λJ' s σ H D I hw=>
 g7 (h J' s σ H D (I.qg _) hw) (λ_ _ q=>q.uc) λ_ _ z=>False.elim z
end
section
variable{st:cQ}{ez:List cQ}{t u:TS}{e:av}{te:TE}
def zuz:TS:=λD σ H=>D.nx σ H
def zv0(t u:TS):TS:=λD σ H=>t { D with nx:=u D } σ H
theorem UC:j5 X [] zuz:=λ_ _ σ H _ I h=>C8 ⟨σ,H,I,h⟩
theorem Ve(c:PS X st t)(b:j5 X ez u):j5 X (st::ez) (zv0 t u):=by
 intro a s σ H D I h;show PQ (aR (c a s σ H { D with nx:=u D } I h) λf s1 q=>?_);cases f with
 | next=>
  obtain⟨d,H',e,q⟩:=q;show b a s1 d H' D e q
 | ret v=>show q
 | brk=>show q
 | cont=>show q
theorem Kq(a:PS X st t):j5 X [st] t:=by
 intro b s σ H D I h;show PQ (aR (a b s σ H D I h) λf s1 q=>?_);cases f with
 | next=>show C8 q
 | ret v=>show q
 | brk=>show q
 | cont=>show q
theorem Inv.quiet{a:St}(I:Inv X b a H s):interactive X.env=false:=by simp[interactive,I.ok.kind]
def zuA(te:TE):TS:=λD σ H=>te σ H λ_ H1=>D.nx σ H1
theorem AG(he:PE X e te)(b:swapsWith e none pos.line X.env=pure false:=by rfl):PS X (.Expr e pos) (zuA te):=by
 intro d s σ H D I h;show wpAny_Expr_any (aR (he d s σ H _ I h) λv s1 c=>by obtain⟨x,H1,f,g,a⟩:=c;show⟨σ,H1,f,a⟩) I.quiet b
def zv1(te:TE):TS:=λD σ H=>te σ H D.rt
theorem Ey(he:PE X e te):PS X (.Return (some e) pos) (zv1 te):=by
 intro d s σ H D I h;show wpAny_Return_some (aR (he d s σ H _ I h) λv s1 c=>by obtain⟨x,H1,f,a,b⟩:=c;show⟨x,σ,H1,f,a,b⟩)
def zv2(c:TT)(t u:TS):TS:=λD σ H=>c σ H λb H1=>if b=true then t D σ H1 else u D σ H1
theorem Sf(i:PT X c tc)(k:j5 X a t)(j:j5 X b u):PS X (.If c a b pos) (zv2 tc t u):=by
 intro e s σ H D I h;show wpAny_If (aR (i e s σ H _ I h) λd s1 l=>?_);obtain⟨H1,g,f⟩:=l;cases d with
 | true=>show k e s1 σ H1 D g f
 | false=>show j e s1 σ H1 D g f
def zsM:TS:=λ_ _ _=>False
theorem zoG:PS X st zsM:=λ_ _ _ _ _ _ h=>h.elim
end
noncomputable abbrev TG:=V->St->Hp->(St->Hp->Prop)->Prop
noncomputable abbrev sT:=List V->St->Hp->(St->Hp->Prop)->Prop
def PG(X:Cx)(a:av)(t:TG):Prop:=
 ∀c s (σ:St) H v u Q,Inv X c σ H s->RelV v u->t v σ H Q->
  wpAny (model X.prog X.w) X.A (assign a X.env u) (λ_ d=>∃b H',Inv X c b H' d/\Q b H') X.xe s
def yM(X:Cx)(d:List av)(t:sT):Prop:=
 ∀c s (σ:St) H a us Q,Inv X c σ H s->Vals a us->t a σ H Q->
  wpAny (model X.prog X.w) X.A (assignInOrder ((assignEach d X.env).map (·.2)) us) (λ_ e=>∃b H',Inv X c b H' e/\Q b H') X.xe s
noncomputable abbrev Jn:=V->V->V->Hp->(Hp->Prop)->Prop
def Rt(X:Cx)(t:Jn):Prop:=
 ∀a s (σ:St) H o i v ov iv u Q,Inv X a σ H s->RelV o ov->RelV i iv->RelV v u->t o i v H Q->
  wpAny (model X.prog X.w) X.A (setItem ov iv u) (λ_ b=>∃H',Inv X a σ H' b/\Q H') X.xe s
def Eb(i:Nat):TG:=λv σ H Q=>Q (σ.set i (some v)) H
theorem UB(d:X.N.Nodup)(b:X.N[i]?=some x)(a:Loc X.env.scope x)(c:X.fn x=true\/X.env.scope.names.lookup x=some .local:=by first | show .inl rfl | show .inr rfl | assumption):PG X (.Name x pos) (Eb i):=by
 intro g s σ H v u Q I r h;show P5 (Vf I d b a r (λf e=>⟨_,H,e,h⟩) c)
noncomputable def zv3:sT:=λa σ H Q=>a=[]/\Q σ H
noncomputable def zuC(t:TG)(u:sT):sT:=λa σ H Q=>∃v r,a=v::r/\t v σ H λb H'=>u r b H' Q
theorem zq8:yM X [] zv3:=by
 intro b s σ H a us Q I r h;obtain⟨e,h⟩:=h;subst e;cases r;show assignInOrder_nil ⟨σ,H,I,h⟩
theorem zoI(j:PG X e t)(i:yM X a u)
  (g:(assignEach (e::a) X.env).map (·.2)=assign e X.env::(assignEach a X.env).map (·.2):=by rfl):yM X (e::a) (zuC t u):=by
 intro b s σ H n us Q I r h;obtain⟨v,o,k,h⟩:=h;subst k;cases r with
 | cons r d=>
  rw[g];show assignInOrder_cons (aR (j b s σ H _ _ _ I r h) λ_ s1 l=>?_);obtain⟨c,H1,m,f⟩:=l;show i b s1 c H1 _ _ Q m d f
def zv4(K:aj)(n:Nat)(t:sT):TG:=λv σ H Q=>∃a xs,v=.ref a/\cz K H a xs/\xs.length=n/\t xs σ H Q
theorem zsN(p:X.calm=true)(h:yM X c t)
  (l:(assignEach c X.env).length=n:=by rfl) (w:(assignEach c X.env).findIdx? (·.1)=none:=by rfl):PG X (.Tuple c k pos) (zv4 X.K n t):=by
 intro f s σ H v u Q I r hw;obtain⟨a,xs,q,j,m,hw⟩:=hw;subst q;cases r;obtain⟨its,d,i,hz⟩:=I.tuple j;show assign_Tuple_tuple (I.ok.hd p) i (by simp[l,<-m,d.length]) w λh' g=>?_
 have x:Inv X f σ H { s with heap:=h' }:=I.kept (t':=s.toks) λb o e=>g b o (c7 (bX e)) e
 show h f _ σ H xs _ Q x (by simpa using d) hw
def zv5(to ti:TE)(t:Jn):TG:=λv σ H Q=>to σ H λo H1=>ti σ H1 λi b=>t o i v b λa=>Q σ a
theorem zsO(k:PE X o to)(l:PE X i ti)(j:Rt X t)
  (m:∀v,assign (.Subscript o i pos) X.env v=(do
   let ov <-holding [v] (eval o X.env)
   let iv <-holding [v,ov] (eval i X.env)
   standAt pos
   holding [v,ov,iv] (setItem ov iv v)
   release [v,ov,iv] []):=by intro _;rfl):PG X (.Subscript o i pos) (zv5 to ti t):=by
 intro b s σ H v u Q I r h;rw[m];show ag (fQ (aR (k b s σ H _ I h) λov s1 a=>?_));obtain⟨x,H1,q,d,g⟩:=a;show ag (fQ (aR (l b s1 σ H1 _ q g) λiv s2 a=>?_));obtain⟨y,z,p,c,f⟩:=a;show ag (CY (ag (fQ (aR (j b s2 σ z x y v ov iv u _ p d c r f) λ_ s3 a=>?_))));obtain⟨w,n,e⟩:=a;show wpAny_release ⟨σ,w,n,e⟩
def DW(te:TE)(g:TG):TS:=λD σ H=>te σ H λx H1=>g x σ H1 D.nx
theorem SA(he:PE X e te)(i:PG X a g)(f:swapsWithSole [a] e pos.line X.env=pure false:=by rfl)(hw:swappedStores [a] e X.env=pure none:=by rfl)
  (j:(assignEach [a] X.env).map (·.2)=[assign a X.env]:=by rfl):PS X (.Assign [a] e pos) (DW te g):=by
 intro b s σ H D I h;show wpAny_Assign_stores (aR (he b s σ H _ I h) λv s1 k=>?_) f hw;obtain⟨x,H1,l,c,d⟩:=k;rw[j];show aR (i b s1 σ H1 x v _ l c d) λ_ s2 q=>q
theorem J3(k:X.N.Nodup)(g:X.N[i]?=some x)(d:Loc X.env.scope x)(he:PE X e te)(f:swapsWith e (some (.Name x a)) pos.line X.env=pure false:=by rfl)(j:X.fn x=true\/X.env.scope.names.lookup x=some .local:=by first | show .inl rfl | show .inr rfl | assumption) :
  PS X (.Assign [.Name x a] e pos) (DW te (Eb i)):=by
 intro m s σ H D I h;show wpAny_Assign_Name (aR (he m s σ H _ I h) λv s1 l=>?_) f;obtain⟨y,H1,o,b,c⟩:=l;show Vf o k g d b (λs2 n=>⟨_,H1,n,c⟩) j
def zsP(c:TT)(e:TS):TS:=λD σ H=>∃W:Nat->St->Hp->Prop,(∃m,W m σ H)/\∀m σ H,W m σ H->
 c σ H λb H1=>if b=true then ∃N:St->Hp->Prop,(∀d H',N d H'->∃a,a<m/\W a d H')/\e { D with nx:=N,ct:=N,bk:=D.nx } σ H1 else D.nx σ H1
theorem zoJ(j:PassesOwn (model X.prog X.w) X.A X.env X.xe)(u:PT X c tc)(x:j5 X body i):PS X (.While c body [] pos) (zsP tc i):=by
 intro g s σ H D I h;obtain⟨W,⟨m0,p⟩,turn⟩:=h;show wpAny_While (codeAny_whileLoop (λn q=>∃k H',Inv X g k H' q/\W n k H') ?_ m0 ⟨σ,H,I,p⟩);rintro n s1 ⟨a,H1,B,o⟩;show vd j (aR (u g s1 a H1 _ B (turn n a H1 o)) λb s2 y=>?_);obtain⟨m,l,e⟩:=y;cases b with
 | true=>
  obtain⟨N,E,e⟩:=e;rw[if_pos rfl];show vd j (aR (x g s2 a m _ l e) λf s3 d=>?_);cases f with
  | next=>
   obtain⟨t,C,z,r⟩:=d;grind
  | cont=>
   obtain⟨t,C,z,r⟩:=d;grind
  | brk=>show d
  | ret v=>show d
 | false=>
  rw[if_neg eJ];show C8 ⟨a,m,l,e⟩
structure It where
 go:Nat->Hp->Prop
 Fz:Nat->Hp->V->Hp->Prop
 stop:Nat->Hp->Prop
def mM(X:Cx)(a:List (ab×aT))(H:Hp)(b:ab):Prop:=
 H b=none/\b≠X.env.locals/\b∉X.fs/\(b∈X.ex\/X.gq.heap.objs.size<=b)/\(∀x c,X.env.cells.lookup x=some c->c≠b)/\∀p∈X.pn++a,p.1≠b
theorem Inv.nJ{f:St}{b:ab}(I:Inv X d f H s)(a:s.heap.objs.size<=b)(h:H' b=none):mM X d H' b:=by
 show⟨h,kT (iN I.lt a),I.aaw a,.inr (bU I.sz a),λx c e z=>?_,λp g z=>?_⟩
 .obtain⟨v,q⟩:=I.cell x c e;show absurd (iN q.lt (by rw[z];show a)) (iM _)
 show absurd (iN (bX (I.pin p g).1) (by rw[z];show a)) (iM _)
structure Turn(P:aG)(w:aF)(K:aj)(tg:av)(J:It)(fp:List ab)(it:ab)(tn:Nat->ay->Prop):Prop where
 mem:it∈fp
 obj:∀i h,tn i h->∀b∈fp,∃o,h.get? b=some o/\∀v,o.data≠.cell v
 keep:∀i h h',tn i h->(∀b∈fp,∀o,h.get? b=some o->h'.get? b=some o)->tn i h'
 item:∀(X:Cx),X.prog=P->X.w=w->X.K=K->X.calm=true->∀(i:Nat)(J':List (ab×aT))(s:ai)(σ:St)(H:Hp)(E:aa->ai->Prop),Inv X J' σ H s->(∀b∈fp,mM X J' H b)->tn i s.heap->J.go i H->
  wpAny (model P w) X.A (pyNext (.ref it)) (λr s1=>∃u,r=some u/\
   wpAny (model P w) X.A (letOwnedTupleGo tg (.ref it) u) (λ_ s2=>∃x H',Inv X J' σ H' s2/\RelV x u/\J.Fz i H x H'/\tn (i+1) s2.heap/\∀b∈fp,H' b=none) E s1) E s
 done:∀(X:Cx),X.prog=P->X.w=w->X.K=K->X.calm=true->∀(i:Nat)(J':List (ab×aT))(s:ai)(σ:St)(H:Hp)(E:aa->ai->Prop),Inv X J' σ H s->(∀b∈fp,mM X J' H b)->tn i s.heap->J.stop i H->
  wpAny (model P w) X.A (pyNext (.ref it)) (λr s1=>r=none/\Inv X J' σ H s1) E s
 self:∀(A:br)(i:Nat)(s:ai)(Q:aa->ai->Prop)(E:aa->ai->Prop),tn i s.heap->Q (.ref it) s->wpAny (model P w) A (pyIter (.ref it)) Q E s
noncomputable abbrev TI:=St->Hp->(It->Hp->Prop)->Prop
def Cz(X:Cx)(d:List (ab×aT))(e:St)(f:av)(R:It->Hp->Prop)(g:aa)(c:ai):Prop:=
 ∃it fp a J H',g=.ref it/\Inv X d e H' c/\Turn X.prog X.w X.K f J fp it a/\a 0 c.heap/\(∀b∈fp,mM X d H' b)/\R J H'
def PI(X:Cx)(d a:av)(c:TI):Prop:=
 ∀b s (σ:St) H R,Inv X b σ H s->c σ H R->
  wpAny (model X.prog X.w) X.A (eval a X.env) (λv s1=>wpAny (model X.prog X.w) X.A (pyIter v) (Cz X b σ d R) X.xe s1) X.xe s
theorem vH(e:s.heap.get? d=some o)(g:o.cls=.type n)(hd:o.data=.fields b)
  (f:["enumerate","zip","dict_itemiterator","dict_reverseitemiterator","odict_iterator","itertools.zip_longest","itertools.pairwise"].contains n=false) (a:Q () s):wpAny M A (letOwnedTupleGo c (.ref d) u) Q E s:=by
 unfold letOwnedTupleGo;cases c<;>first
  | show az a
  | (cases u<;>first
    | show az a
    | (show ag (wpAny_load e ?_)
       rw[g,hd];show wpAny M A (if (["enumerate","zip","dict_itemiterator","dict_reverseitemiterator","odict_iterator","itertools.zip_longest","itertools.pairwise"].contains n&&b[0]?==some (rawInt _))=true then _ else _) Q E s;rw[if_neg (by intro h;rw[f,zt] at h;cases h)];show az a))
noncomputable def GV(K:aj)(a:ab):It:=
 ⟨λi H=>∃xs x,bP K H a xs/\xs[i]?=some x,λi H x H'=>H'=H/\∀xs,bP K H a xs->xs[i]?=some x,λi H=>∃xs,bP K H a xs/\xs.length<=i⟩
noncomputable def OD(K:aj)(a:ab):It:=
 ⟨λi H=>∃xs x,cz K H a xs/\xs[i]?=some x,λi H x H'=>H'=H/\∀xs,cz K H a xs->xs[i]?=some x,λi H=>∃xs,cz K H a xs/\xs.length<=i⟩
noncomputable def CC(lo:Int)(n:Nat):It:=⟨λi _=>i<n,λi H x H'=>H'=H/\x=.int (lo+i),λi _=>n<=i⟩
theorem V6{K:aj}(a f):Turn P w K F (GV K a) [f] f (λi h=>h.IsListIter f a i) where
 mem:=by walk_at"sb"
 obj:=λi h st b g=>by
  have e:b=f:=by simpa using g
  subst e;obtain⟨o,e,c,d⟩:=st;show⟨o,e,λv z=>by rw[d] at z;cases z⟩
 keep:=λi h h' st k=>st.at λo e=>k f (by walk_at"sb") o e
 item:=by
  intro X r hw t B i D s σ H E I hf st q;subst r hw t;obtain⟨xs,x,j,n⟩:=q;obtain⟨its,m,p,hz⟩:=I.list j;obtain⟨u,N,L⟩:=m.get n;obtain⟨f0,f1,f2,A,f4,y⟩:=hf f (by walk_at"sb");show QT st p.isList (x:=u) (by simpa using N) λh' C J=>?_
  have Q:Inv X D σ H { s with heap:=h' }:=I.turned (t':=s.toks) (λb o g e=>(J.2 b g).trans e) f0 f1 A f4 y;obtain⟨o,e,c,d⟩:=id C;show⟨u,rfl,vH (s:={ s with heap:=h' }) e c d (by rfl) ⟨x,H,Q,L,⟨rfl,λys M=>by rw[I.BO M j];show n⟩,C,λb g=>(hf b g).1⟩⟩
 done:=by
  intro X r hw t B i D s σ H E I hf st q;subst r hw t;obtain⟨xs,j,n⟩:=q;obtain⟨its,m,p,hz⟩:=I.list j;obtain⟨f0,f1,f2,A,f4,y⟩:=hf f (by walk_at"sb");have hl:=m.length;show QG (I.ok.hd B) st p.isList (by simp;simp_all) λh' O=>⟨rfl,I.turned (t':=s.toks) (λb o g e=>O b o g e) f0 f1 A f4 y⟩
 self:=λ_ _ _ _ _ st h=>wpAny_pyIter_listiter st h
theorem zkW{K:aj}(a f):Turn P w K F (OD K a) [f] f (λi h=>h.IsTupleIter f a i) where
 mem:=by walk_at"sb"
 obj:=λi h st b g=>by
  have e:b=f:=by simpa using g
  subst e;obtain⟨o,e,c,d⟩:=st;show⟨o,e,λv z=>by rw[d] at z;cases z⟩
 keep:=λi h h' st k=>st.at λo e=>k f (by walk_at"sb") o e
 item:=by
  intro X r hw t B i D s σ H E I hf st q;subst r hw t;obtain⟨xs,x,j,n⟩:=q;obtain⟨its,m,p,hz⟩:=I.tuple j;obtain⟨u,N,L⟩:=m.get n;obtain⟨f0,f1,f2,A,f4,y⟩:=hf f (by walk_at"sb");show wpAny_pyNext_tuple_item st (show s.heap.IsTuple a its.toArray from p) (x:=u) (by simpa using N) λh' C J=>?_
  have Q:Inv X D σ H { s with heap:=h' }:=I.turned (t':=s.toks) (λb o g e=>(J.2 b g).trans e) f0 f1 A f4 y;obtain⟨o,e,c,d⟩:=id C;show⟨u,rfl,vH (s:={ s with heap:=h' }) e c d (by rfl) ⟨x,H,Q,L,⟨rfl,λys M=>by rw[I.WN M j];show n⟩,C,λb g=>(hf b g).1⟩⟩
 done:=by
  intro X r hw t B i D s σ H E I hf st q;subst r hw t;obtain⟨xs,j,n⟩:=q;obtain⟨its,m,p,hz⟩:=I.tuple j;obtain⟨f0,f1,f2,A,f4,y⟩:=hf f (by walk_at"sb");have hl:=m.length;show wpAny_pyNext_tuple_end (I.ok.hd B) st (show s.heap.IsTuple a its.toArray from p) (by simp;simp_all) λh' O=>⟨rfl,I.turned (t':=s.toks) (λb o g e=>O b o g e) f0 f1 A f4 y⟩
 self:=λ_ _ _ _ _ st h=>wpAny_pyIter_tupleiter st h
theorem zkX{K:aj}(d lo n):Turn P w K y (CC lo n) [d] d (λi h=>IsRangeIter h d (lo+(i:Nat)*1) ((n:Int)-(i:Nat)) 1) where
 mem:=by walk_at"sb"
 obj:=λi h st b f=>by
  simp_all
 keep:=λi h h' st k=>k d (by walk_at"sb") _ st
 item:=by
  intro X m hw p j i x s σ H E I hf st g;subst m hw p;obtain⟨f0,f1,f2,r,f4,q⟩:=hf d (by walk_at"sb");have W:=OY (prog:=X.prog) (w:=X.w) (I.ok.hd j) d lo 1 n;show W.item i s _ _ g st λv h' tk hv u kk=>?_
  obtain⟨t,rfl⟩:=hv;have A:Inv X x σ H { s with heap:=h',toks:=tk }:=I.turned (λb o f e=>kk b o (by simpa using f) e) f0 f1 r f4 q;show⟨_,rfl,vH (s:={ s with heap:=h',toks:=tk }) (n:="range_iterator") u rfl rfl (by rfl) ⟨.int (lo+i),H,A,⟨t,?_⟩,⟨rfl,rfl⟩,u,λb f=>(hf b f).1⟩⟩;rw[Int.mul_one]
 done:=by
  intro X m hw p j i x s σ H E I hf st g;subst m hw p;obtain⟨f0,f1,f2,r,f4,q⟩:=hf d (by walk_at"sb");show QS (I.ok.hd j) st (by have:n<=i:=g;lia) λh' z=>⟨rfl,I.turned (t':=s.toks) (λb o f e=>z b o f e) f0 f1 r f4 q⟩
 self:=λ_ _ _ _ _ st h=>QR st h
def zuD(K:aj)(tl:TE):TI:=λσ H R=>tl σ H λx H1=>∃a,x=.ref a/\(∃xs,bP K H1 a xs)/\R (GV K a) H1
theorem zq9(i:PE X l tl):PI X tg l (zuD X.K tl):=by
 intro m s σ H R I h;show aR (i m s σ H _ I h) λv s1 k=>?_
 obtain⟨x,H1,c,d,f⟩:=k;obtain⟨a,e,⟨xs,g⟩,q⟩:=f;subst e;cases d;obtain⟨its,n,p,hz⟩:=c.list g;show tG p.isList ?_;show⟨s1.heap.objs.size,[s1.heap.objs.size],_,_,H1,rfl,c.kept (t':=s1.toks) λb o e=>bZ _ e,V6 a _,⟨_,c8 _ rfl,rfl,rfl⟩,λb j=>?_,q⟩;have e:b=s1.heap.objs.size:=by simpa using j
 subst e;show c.nJ (bx _) (c.aW.fresh (bx _))
theorem Vd{c:St}{R:It->Hp->Prop}{lo a:Int}(I:Inv X d c H s)(i:-(2 ^ 62)<=lo)(h:lo<2 ^ 62)(h3:-(2 ^ 62)<=a)(g:a<2 ^ 62)
  (q:R (CC lo (a-lo).toNat) H):wpAny (model X.prog X.w) X.A (pyIter (.ref s.heap.objs.size)) (Cz X d c tg R) E { s with heap:=s.heap.push { cls:=.type "range",data:=.fields #[.int lo t,.int a u,.int 1 v] },toks:=tk }:=by
 show Qe (OX ..) (small_one i h h3 g) ?_;have f:Inv X d c H { s with heap:=s.heap.push { cls:=.type "range",data:=.fields #[.int lo t,.int a u,.int 1 v] },toks:=tk }:=I.kept λb o e=>bZ _ e
 show⟨(s.heap.push { cls:=.type "range",data:=.fields #[.int lo t,.int a u,.int 1 v] }).objs.size,[(s.heap.push { cls:=.type "range",data:=.fields #[.int lo t,.int a u,.int 1 v] }).objs.size],_,_,H,rfl,
  f.kept (t':=tk) λb o e=>bZ _ e,zkX _ lo (a-lo).toNat,?_,λb l=>?_,q⟩
 .have k:lo+((0:Nat):Int)*1=lo:=by simp
  have j:(((a-lo).toNat:Nat):Int)-((0:Nat):Int)=DG lo a 1:=by rw[rangeSize_one];split<;>grind
  show IsRangeIter _ _ (lo+((0:Nat):Int)*1) ((((a-lo).toNat:Nat):Int)-((0:Nat):Int)) 1;rw[k,j];show c8 _ rfl
 have e:b=(s.heap.push { cls:=.type "range",data:=.fields #[.int lo t,.int a u,.int 1 v] }).objs.size:=by show du.1 ‹_›
 subst e;show f.nJ (bx _) (f.aW.fresh (bx _))
def zuE(b:TA):TI:=λσ H R=>b σ H λa H1=>∃j:Int,a=[.int j]/\-(2 ^ 62)<=j/\j<2 ^ 62/\R (CC 0 j.toNat) H1
def zuF(b:TA):TI:=λσ H R=>b σ H λa H1=>∃i j:Int,a=[.int i,.int j]/\(-(2 ^ 62)<=i/\i<2 ^ 62/\-(2 ^ 62)<=j/\j<2 ^ 62)/\R (CC i (j-i).toNat) H1
theorem zl5(l:Gl X "range")(k:X.mg "range"=none)(m:PA X [a] c)(i:starEach [a] X.env=[(false,eval a X.env)]:=by rfl):PI X tg (.Call (.Name "range" p) [a] [] pos) (zuE c):=by
 intro o s σ H R I h;show Call_ (l7 I l k Hl (n6 (aR (m pos o s σ H _ I h) λus s1 n=>?_) i rfl));obtain⟨v,H1,u,f,b⟩:=n;obtain⟨j,e,b,g,q⟩:=b;subst e;cases f with
 | cons r d=>
  cases d;obtain⟨t,rfl⟩:=r;show call_range_1 (Vd u (by simp_all) (by simp_all) b g (by simpa using q))
theorem zl6(w:Gl X "range")(v:X.mg "range"=none)(x:PA X [a,b] f)(u:starEach [a,b] X.env=[(false,eval a X.env),(false,eval b X.env)]:=by rfl)(g:starEach [b] X.env=[(false,eval b X.env)]:=by rfl) :
  PI X tg (.Call (.Name "range" p) [a,b] [] pos) (zuF f):=by
 intro y s σ H R I h;show Call_ (l7 I w v Hl (n6 (aR (x pos y s σ H _ I h) λus s1 ⟨A,H1,z,k,d⟩=>?_) (by rw[u,g]) (by rw[g];rfl)));obtain⟨i,j,e,⟨d,o,n,m⟩,q⟩:=d;subst e;cases k with
 | cons r c=>
  cases c with
  | cons l c=>
   cases c;obtain⟨t,rfl⟩:=r;obtain⟨t',rfl⟩:=l;show call_range_2 (Vd z d o n m q)
def zv6(c:TI)(g:TG)(d:TS):TS:=λD σ H=>c σ H λJ H1=>∃W:Nat->Nat->St->Hp->Prop,(∃m,W 0 m σ H1)/\∀i m σ H,W i m σ H->
 (J.stop i H/\D.nx σ H)\/(J.go i H/\∃N:St->Hp->Prop,(∀b H',N b H'->∃a,a<m/\W (i+1) a b H')/\∀x H',J.Fz i H x H'->g x σ H' λe f=>d { D with nx:=N,ct:=N,bk:=D.nx } e f)
noncomputable def Ao(fp:List ab)(h:ay):List (ab×aT):=fp.filterMap λb=>(h.get? b).map λo=>(b,o)
theorem Fo(a:b∈fp)(e:h.get? b=some o):(b,o)∈Ao fp h:=Qd.mpr ⟨b,a,by rw[e];rfl⟩
theorem zl7(a:p∈Ao fp h):p.1∈fp/\h.get? p.1=some p.2:=by
 obtain⟨b,c,e⟩:=Qd.mp a;cases q:h.get? b with
 | none=>rw[q] at e;cases e
 | some o=>
  grind
theorem Inv.pinned{c:St}(I:Inv X a c H s)(f:∀b∈fp,mM X a H b)(h:∀b∈fp,∃o,s.heap.get? b=some o/\∀v,o.data≠.cell v):Inv X (a++Ao fp s.heap) c H s:=
 I.W6 λp d=>(cj.mp d).elim (λz=>I.pin p (eK _ z)) λz=>by
  obtain⟨g,e⟩:=zl7 z;obtain⟨f0,f1,f2,_⟩:=f p.1 g;grind
theorem Inv.FA{a:St}(I:Inv X (b++pl) a H s):Inv X b a H s:=I.W6 λp c=>I.pin p (eK _ (iy _ c))
theorem Sz{R:TS}(B:PassesOwn (model X.prog X.w) X.A X.env X.xe)(U:X.calm=true)(hi:PI X tg c P)(hg:PG X tg g)(j:j5 X body R)
  (hs:∀x,foldedSetIterable c X.env x=pure x:=by intro _;rfl):PS X (.For tg c body [] pos) (zv6 P g R):=by
 intro t s σ H D I h;show wpAny_For (aR (hi t s σ H _ I h) λv s1 h1=>aR h1 λMJ s2 h2=>?_) hs;obtain⟨it,fp,Q,J,H2,e,I2,T,bj,f2,W,⟨m0,w0⟩,turn⟩:=h2;subst e
 -- aab stays true of oJ acf objects through oJ loop
 have M:∀{H':Hp},(∀b∈fp,H' b=none)->∀b∈fp,mM X t H' b:=λhn b j=>⟨hn b j,(f2 b j).2⟩
 show codeAny_forLoop_any (λn S=>∃i C H',Inv X t C H' S/\Q i S.heap/\(∀b∈fp,H' b=none)/\W i n C H') ?_ m0 ⟨0,σ,H2,I2,bj,λb j=>(f2 b j).1,w0⟩;rintro n s3 ⟨i,z,E,Y,FK,V,w3⟩;rcases turn i n z E w3 with⟨stop,qn⟩ | ⟨go,N,hN,step⟩
 .refine vd B (aR (T.done X rfl rfl rfl U i t s3 z E X.xe Y (M V) FK stop) λr s4 q=>?_);obtain⟨G,I4⟩:=q;subst G;show C8 ⟨z,E,I4,qn⟩
 show vd B (aR (T.item X rfl rfl rfl U i t s3 z E X.xe Y (M V) FK go) λr s4 q=>?_);obtain⟨u,G,h4⟩:=q;subst G;show vd B (aR h4 λ_ s5 q=>?_);obtain⟨x,Z,I5,r5,y5,L,K⟩:=q;have O:=I5.pinned (M K) (T.obj _ _ L);show vd B (aR (hg _ s5 z Z x u _ O r5 (step x Z y5)) λ_ s6 q=>?_);obtain⟨YX,H6,I6,q6⟩:=q;show vd B (aR (j _ s6 YX H6 _ I6 q6) λf F p=>?_);have again:∀{a:St}{l:Hp},Inv X (t++Ao fp s5.heap) a l F->N a l->∃m,m<n/\∃i C H',Inv X t C H' F/\Q i F.heap/\(∀b∈fp,H' b=none)/\W i m C H':=λ{a l} k y=>by
  obtain⟨m',hm,w7⟩:=hN a l y;show⟨m',hm,i+1,a,l,k.FA,T.keep _ _ _ L λb j o e=>(k.pin (b,o) (eK _ (eK _ (Fo j e)))).1,λb j=>?_,w7⟩;obtain⟨o,e,d⟩:=T.obj _ _ L b j;show(k.pin (b,o) (eK _ (eK _ (Fo j e)))).2.1
 cases f with
 | next=>obtain⟨a,l,k,y⟩:=p;show again k y
 | cont=>obtain⟨a,l,k,y⟩:=p;show again k y
 | brk=>obtain⟨a,l,k,p⟩:=p;show⟨a,l,k.FA,p⟩
 | ret v=>obtain⟨x7,a,l,k,r7,p⟩:=p;show⟨x7,a,l,k.FA,r7,p⟩
noncomputable abbrev R2:=V->V->Hp->VK->Prop
def dE(X:Cx)(f:aa->aa->Sem aa)(r:R2):Prop:=
 ∀a s (σ:St) H x y v u Q,Inv X a σ H s->RelV x v->RelV y u->r x y H Q->
  wpAny (model X.prog X.w) X.A (f v u) (EP X a σ Q) X.xe s
def NY(X:Cx)(f:aa->Sem aa)(r:V->Hp->VK->Prop):Prop:=
 ∀a s (σ:St) H x v Q,Inv X a σ H s->RelV x v->r x H Q->
  wpAny (model X.prog X.w) X.A (f v) (EP X a σ Q) X.xe s
def ip(X:Cx)(f:aa)(r:List V->Hp->VK->Prop):Prop:=
 ∀a s (σ:St) H xs us Q,Inv X a σ H s->Vals xs us->r xs H Q->
  wpAny (model X.prog X.w) X.A (call f us) (EP X a σ Q) X.xe s
def BB(r:R2)(b a:TE):TE:=λσ H Q=>b σ H λx H1=>a σ H1 λy c=>r x y c Q
def tUn(r:V->Hp->VK->Prop)(a:TE):TE:=λσ H Q=>a σ H λx H1=>r x H1 Q
def rI(C:Int->Int->Prop)(g:Int->Int->V):R2:=λx y H Q=>∃i j,x=.int i/\y=.int j/\C i j/\Q (g i j) H
def mf(g:Int->Int->V):R2:=λx y H Q=>∃i j,x=.int i/\y=.int j/\Q (g i j) H
def rU(g:Int->V):V->Hp->VK->Prop:=λx H Q=>∃i,x=.int i/\Q (g i) H
section
variable{a b c:av}
theorem Jm(p:PE X a ta)(o:PE X b tb){c:St}{R:V->V->Hp->Prop}(I:Inv X e c H s)
  (h:ta c H λx H1=>tb c H1 λy d=>R x y d)  {f:aa->aa->Sem aa}
  (n:∀v u s2 x y d,Inv X e c d s2->RelV x v->RelV y u->R x y d->wpAny (model X.prog X.w) X.A (f v u) Q X.xe s2) :
  wpAny (model X.prog X.w) X.A (eval a X.env) (λv q=>wpAny (model X.prog X.w) X.A (eval b X.env) (λu m=>wpAny (model X.prog X.w) X.A (f v u) Q X.xe m) X.xe q) X.xe s:=by
 show aR (p e s c H _ I h) λv s1 g=>?_
 obtain⟨x,H1,t,j,l⟩:=g;show aR (o e s1 c H1 _ t l) λu s2 g=>?_
 obtain⟨y,d,r,i,k⟩:=g;show n v u s2 x y d r j i k
theorem Se(e:dE X (binaryOp op) r)(g:PE X a ta)(f:PE X b tb):PE X (.BinOp a op b pos) (BB r ta tb):=by
 intro i s σ H Q I h;show wpAny_BinOp (Jm g f I h λv u s2 x y k j d c q=>e i s2 σ k x y v u Q j d c q)
theorem zuH(e:NY X (unaryOp op) r)(f:PE X a ta):PE X (.UnaryOp op a pos) (tUn r ta):=by
 intro b s σ H Q I h;show UnaryOp_ (aR (f b s σ H _ I h) λv s1 g=>by obtain⟨x,H1,i,c,d⟩:=g;show e b s1 σ H1 x v Q i c d)
theorem FW{g:Int->Int->Int}
  (a:∀i j t u s Q E,C i j->Q (.int (g i j) s.toks) { s with toks:=s.toks+1 }->wpAny (model X.prog X.w) X.A (f (.int i t) (.int j u)) Q E s) :
  dE X f (rI C λi j=>.int (g i j)):=by
 intro e s σ H x y v u Q I c b h;obtain⟨i,j,rfl,rfl,d,q⟩:=h;obtain⟨t,rfl⟩:=c;obtain⟨t',rfl⟩:=b;show a i j t t' s _ _ d ⟨.int (g i j),H,I.tok _,⟨_,rfl⟩,q⟩
theorem RP{g:Int->Int->Int}
  (a:∀i j t u s Q E,Q (.int (g i j) s.toks) { s with toks:=s.toks+1 }->wpAny (model X.prog X.w) X.A (f (.int i t) (.int j u)) Q E s) :
  dE X f (mf λi j=>.int (g i j)):=by
 intro d s σ H x y v u Q I c b h;obtain⟨i,j,rfl,rfl,q⟩:=h;obtain⟨t,rfl⟩:=c;obtain⟨t',rfl⟩:=b;show a i j t t' s _ _ ⟨.int (g i j),H,I.tok _,⟨_,rfl⟩,q⟩
theorem DV{g:Int->Int->Bool}
  (a:∀i j t u s Q E,Q (.bool (g i j)) s->wpAny (model X.prog X.w) X.A (f (.int i t) (.int j u)) Q E s) :
  dE X f (mf λi j=>.bl (g i j)):=by
 intro d s σ H x y v u Q I c b h;obtain⟨i,j,rfl,rfl,q⟩:=h;obtain⟨t,rfl⟩:=c;obtain⟨t',rfl⟩:=b;show a i j t t' s _ _ ⟨.bl (g i j),H,I,rfl,q⟩
def vF(i j:Int):Prop:=0<j/\j<1073741824
def xw(i j:Int):Prop:=0<=j/\j<=1000000/\i.natAbs<2 ^ 64
def CG(i j:Int):Prop:=(-(2 ^ 64)<i/\i<2 ^ 64)\/(-(2 ^ 64)<j/\j<2 ^ 64)
theorem CG.ok(h:CG i j):IntMulOk i j:=by
 rcases h with⟨b,a⟩ | ⟨b,a⟩
 .exact .of_left (Ph b a)
 show .of_right (Ph b a)
theorem aat:dE X (binaryOp .Add) (mf λi j=>.int (i+j)):=RP λ_ _ _ _ _ _ _ q=>add_int q
theorem zsR:dE X (binaryOp .Sub) (mf λi j=>.int (i-j)):=RP λ_ _ _ _ _ _ _ q=>sub_int q
theorem zsS:dE X (binaryOp .Mult) (rI CG λi j=>.int (i*j)):=FW λ_ _ _ _ _ _ _ a q=>mul_int q a.ok
theorem zrb:dE X (binaryOp .FloorDiv) (rI vF λi j=>.int (i/j)):=FW λi j _ _ _ _ _ b q=>by
 have e:(0:Int)<j:=b.1;have d:j<1073741824:=b.2;show floordiv_int (by lia) (by rw[Int.fdiv_eq_ediv_of_nonneg i (by walk_at"sb")];show q) (.inl (QQ (by grind)))
theorem zsT:dE X (binaryOp .Mod) (rI (λ_ j=>0<j) λi j=>.int (i%j)):=FW λi j _ _ _ _ _ b q=>by
 have d:(0:Int)<j:=b;show mod_int' (by lia) (by rw[Int.fmod_eq_emod_of_nonneg i (by walk_at"sb")];show q)
theorem zsU:dE X (binaryOp .Pow) (rI xw λi j=>.int (i ^ j.toNat)):=FW λ_ _ _ _ _ _ _ a q=>pow_int_small a.1 a.2.1 a.2.2 q
theorem unI{g:Int->Int}
  (a:∀i t s Q E,Q (.int (g i) s.toks) { s with toks:=s.toks+1 }->wpAny (model X.prog X.w) X.A (f (.int i t)) Q E s) :
  NY X f (rU λi=>.int (g i)):=by
 intro c s σ H x v Q I b h;obtain⟨i,rfl,q⟩:=h;obtain⟨t,rfl⟩:=b;show a i t s _ _ ⟨.int (g i),H,I.tok _,⟨_,rfl⟩,q⟩
theorem zsV:NY X (unaryOp .USub) (rU λi=>.int (-i)):=unI λ_ _ _ _ _ q=>neg_int q
end
section
variable{a b c:av}{ta tb tc:TE}
theorem Sy{c:List (ab×aT)}{a:St}{k b:Bool}(I:Inv X c a H s)(q:Q (.bl k) H)(e:k=b):EP X c a Q (.bool b) s:=by
 subst e;show⟨.bl k,H,I,rfl,q⟩
theorem Jv:dE X (compareOp .Lt) (mf λi j=>.bl (decide (i<j))):=DV λ_ _ _ _ _ _ _ q=>lt_int q
theorem Sb:dE X (compareOp .LtE) (mf λi j=>.bl (decide (i<=j))):=DV λ_ _ _ _ _ _ _ q=>le_int q
theorem zuI:dE X (compareOp .Gt) (mf λi j=>.bl (decide (j<i))):=DV λ_ _ _ _ _ _ _ q=>gt_int q
theorem zuJ:dE X (compareOp .GtE) (mf λi j=>.bl (decide (j<=i))):=DV λ_ _ _ _ _ _ _ q=>ge_int q
theorem aar:dE X (compareOp .In) (λx y H Q=>∃i j,x=.str i/\y=.str j/\Q (.bl (!(mV j i 0 j.length 1).isEmpty)) H):=by
 intro c s σ H x y v u Q I b a h;obtain⟨i,j,rfl,rfl,q⟩:=h;obtain⟨t,rfl⟩:=b;obtain⟨t',rfl⟩:=a;show in_str (Sy I q rfl)
theorem zsX:dE X (compareOp .Is) (λx y H Q=>y=.non/\Q (.bl (decide (x=.non))) H):=by
 intro c s σ H x y v u Q I a b h;obtain⟨rfl,q⟩:=h;cases b;show is_none_gen (Sy I q ?_);cases x<;>first
  | (cases a;rfl)
  | (obtain⟨t,rfl⟩:=a;rfl)
theorem dE.or{r c:R2}(h:dE X f r)(h':dE X f c):dE X f (λx y H Q=>r x y H Q\/c x y H Q):=by
 intro d s σ H x y v u Q I b a q;rcases q with q | q
 .exact h d s σ H x y v u Q I b a q
 show h' d s σ H x y v u Q I b a q
theorem Sx(b)(h:op≠.In:=by decide)(a:op≠.NotIn:=by decide):behindInMarks op b=false:=by
 have d:(op==OL)=false:=by cases op<;>first | rfl | show absurd rfl h
 have c:(op==OZ)=false:=by cases op<;>first | rfl | show absurd rfl a
 cases b<;>simp[behindInMarks,d,c]
theorem zrd(e:dE X (compareOp op) r)(i:PE X a ta)(g:PE X b tb)(f:behindInMarks op b=false):PE X (.Compare a [op] [b] pos) (BB r ta tb):=by
 intro j s σ H Q I h;show wpAny_Compare1 (Jm i g I h λv u s2 x y l k d c q=>e j s2 σ l x y v u Q k d c q) f
def Ju(t:TE):TT:=λσ H Q=>t σ H λx H'=>∃k,x=.bl k/\Q k H'
theorem zrf(o:dE X (compareOp op) r)(t:PE X a ta)(q:PE X b tb)(p:behindInMarks op b=false):PT X (.Compare a [op] [b] pos) (Ju (BB r ta tb)):=by
 intro f s σ H Q I h;show QH (aR (t f s σ H _ I h) λv s1 d=>?_) p;obtain⟨x,H1,B,j,n⟩:=d;show aR (q f s1 σ H1 _ B n) λu s2 d=>?_
 obtain⟨y,D,A,i,m⟩:=d;show aR (o f s2 σ D x y v u _ A j i m) λc s3 d=>?_
 obtain⟨z,C,w,g,k,e,l⟩:=d;subst e;cases g;show lR ⟨C,w,l⟩
def Sw(r c:R2)(ta tb tc:TE):TE:=λσ H Q=>ta σ H λx H1=>tb σ H1 λy e=>r x y e λz a=>∃k,z=.bl k/\
 (if k=true then tc σ a λb d=>c y b d Q else Q (.bl false) a)
theorem zoK(K:dE X (compareOp op) r)(J:dE X (compareOp i) l)(O:PE X a ta)(N:PE X b tb)(M:PE X c tc)
  (L:lastMarks [op,i] [b,c]=false:=by with_unfolding_all rfl):PT X (.Compare a [op,i] [b,c] pos) (Ju (Sw r l ta tb tc)):=by
 intro g s σ H Q I h;show isTrue_chain (aR (O g s σ H _ I h) λv s1 f=>?_) L;obtain⟨x,H1,V,B,F⟩:=f;show test_link (aR (N g s1 σ H1 _ V F) λu s2 f=>?_);obtain⟨y,Z,U,j,E⟩:=f;show aR (K g s2 σ Z x y v u _ U B j E) λd s3 f=>?_
 obtain⟨z,o,n,A,k,e,m⟩:=f;subst e;cases A;show lR ?_;cases k with
 | false=>
  obtain⟨k',R,G⟩:=m;cases R;show ite_ff ⟨o,n,G⟩
 | true=>
  show ite_tt (test_last (aR (M g s3 σ o _ n m) λq s4 f=>?_));obtain⟨p,Y,T,w,D⟩:=f;show aR (J g s4 σ Y y p u q _ T j w D) λd' s5 f=>?_
  obtain⟨z2,W,S,t,k2,P,C⟩:=f;subst P;cases t;show lR ⟨W,S,C⟩
theorem xC:(sizeLine:Nat)<2 ^ 63:=by rw[sizeLine_eq];simp_all
theorem aas:dE X (binaryOp .Add) (λx y H Q=>∃i j,x=.str i/\y=.str j/\i.length+j.length<=sizeLine/\Q (.str (i++j)) H):=by
 intro c s σ H x y v u Q I b a h;obtain⟨i,j,rfl,rfl,hz,q⟩:=h;obtain⟨t,rfl⟩:=b;obtain⟨t',rfl⟩:=a;show add_str (λt' tk=>⟨.str (i++j),H,I.tok _,⟨_,rfl⟩,q⟩) hz
theorem i8{a:List aa}(r:Vals [x] a):∃u,a=[u]/\RelV x u:=by
 cases r with
 | cons c b=>cases b;show⟨_,rfl,c⟩
theorem Ah{b:List aa}(r:Vals [x,y] b):∃u a,b=[u,a]/\RelV x u/\RelV y a:=by
 cases r with
 | cons f e=>
  cases e with
  | cons d c=>cases c;show⟨_,_,rfl,f,d⟩
theorem zl9(b:X.calm=true):ip X (.builtin "max") (λxs H Q=>∃i j,xs=[.int i,.int j]/\Q (.int (if j>i then j else i)) H):=by
 intro d s σ H xs us Q I r h;obtain⟨i,j,rfl,q⟩:=h;obtain⟨u,c,rfl,⟨t,rfl⟩,⟨t',rfl⟩⟩:=Ah r;show max_two_ints (I.ok.hd b) λh' tk k=>⟨_,H,I.kept k,?_,q⟩
 by_cases a:j>i
 .rw[if_pos a,if_pos a];show⟨_,rfl⟩
 rw[if_neg a,if_neg a];show⟨_,rfl⟩
theorem zma:ip X (.type "int") (λxs H Q=>(∃i,xs=[.int i]/\Q (.int i) H)\/∃k,xs=[.bl k]/\Q (.int (if k then 1 else 0)) H):=by
 intro b s σ H xs us Q I r h;rcases h with⟨i,rfl,q⟩ | ⟨k,rfl,q⟩
 .obtain⟨u,rfl,t,rfl⟩:=i8 r;show call_int_int ⟨.int i,H,I,⟨_,rfl⟩,q⟩
 obtain⟨u,rfl,a⟩:=i8 r;cases a;show call_int_bool ⟨.int (if k then 1 else 0),H,I.tok _,⟨_,rfl⟩,q⟩
end
theorem qN.some_of(r:qN (some v) o):∃u,o=some u/\RelV v u:=by
 cases o with
 | none=>show(show False from r).elim
 | some u=>show⟨u,rfl,r⟩
structure Cls(K:aj)(C:ab):Prop where
 pg:PySem.W.plainGet K C Str.empty=true
 hd:PySem.W.hasDictIn K C=true
 po:PySem.W.plainOver K C=true
 sa:Pr K (.ref C) "__setattr__"=some (some (.builtin "object.__setattr__"))
def Sv(K:aj)(C:ab)(f:ae):Prop:=Pr K (.ref C) f=some none
structure f9(k:Nat)(A:br):Prop where
 hd:A.handled=none
 dp:A.depth+3*k+5<recursionLimit
 un:A.units+16*k+200<cLine
theorem f9.mono(r:f9 k A)(h:j<=k):f9 j A:=⟨r.hd,by have:=r.dp;lia,by have:=r.un;lia⟩
theorem f9.deeper(r:f9 (k+1) A)(env):f9 k (A.deeper env):=
 ⟨r.hd,by have:=r.dp;show A.depth+1+3*k+5<_;lia,by have:=r.un;show A.units+3+16*k+200<_;lia⟩
theorem f9.depth(r:f9 k A):A.depth<recursionLimit:=by have:=r.dp;lia
theorem f9.units(r:f9 k A):A.units+64<cLine:=by have:=r.un;lia
noncomputable def RO:TA:=λ_ H Q=>Q [] H
noncomputable def Sa(a:TE)(tr:TA):TA:=λσ H Q=>a σ H λx H1=>tr σ H1 λxs b=>Q (x::xs) b
section
variable{e:av}{t:TA}
theorem oC:PA X [] RO:=λ_ _ _ _ H Q I h=>zC ⟨[],H,I,.nil,h⟩
theorem oG(k:PE X e te)(j:PA X es t)(i:starEach (e::es) X.env=(false,eval e X.env)::starEach es X.env:=by rfl):PA X (e::es) (Sa te t):=by
 intro pos b s σ H Q I h;rw[i];show wpAny _ _ (spliced ((false,eval e X.env)::backTo pos (starEach es X.env))) _ _ s;show vn (aR (k b s σ H _ I h) λu s1 a=>?_);obtain⟨x,H1,m,d,g⟩:=a;show aR (j pos b s1 σ H1 _ m g) λus s2 a=>by obtain⟨xs,n,l,c,f⟩:=a;show⟨x::xs,n,l,.cons d c,f⟩
def zv7(t:TA):TE:=λσ H Q=>t σ H λxs H1=>xs.length<=sizeLine/\∀p,H1 p=none->Q (.ref p) (upd H1 p (.tup xs))
def Z9(t:TA):TE:=λσ H Q=>t σ H λxs H1=>xs.length<=sizeLine/\∀p,H1 p=none->Q (.ref p) (upd H1 p (.lst xs))
theorem zsZ(h:PA X es t):PE X (.Tuple es c pos) (zv7 t):=by
 intro f s σ H Q I d;show wpAny_Tuple_spliced (aR (h pos f s σ H _ I d) λus s1 ⟨xs,H1,a,r,z,q⟩=>⟨by rw[<-r.length];show z,?_⟩);have hf:H1 s1.heap.objs.size=none:=a.aW.fresh (bx _);show⟨.ref s1.heap.objs.size,upd H1 s1.heap.objs.size (.tup xs),a.laid (t':=s1.toks) (λb u e=>bZ _ e) (bx _) ?_,rfl,q _ hf⟩;show⟨z,us,r,⟨_,c8 _ rfl,rfl,_,rfl⟩⟩
theorem Su(h:PA X es t):PE X (.List es pos) (Z9 t):=by
 intro d s σ H Q I c;show wpAny_List_spliced (aR (h pos d s σ H _ I c) λus s1 ⟨xs,H1,a,r,z,q⟩=>⟨by rw[<-r.length];show z,?_⟩);have hf:H1 s1.heap.objs.size=none:=a.aW.fresh (bx _);show⟨.ref s1.heap.objs.size,upd H1 s1.heap.objs.size (.lst xs),a.laid (t':=s1.toks) (λb u e=>bZ _ e) (bx _) ?_,rfl,q _ hf⟩;show⟨z,us,0,r,c8 _ rfl⟩
end
noncomputable abbrev Sp:=List V->Hp->VK->XK->Prop
noncomputable abbrev sW:=List eI->Hp->ai->XK->aa->ai->Prop
structure GZ(P:aG)(w:aF)(K:aj)(mg:ae->Option aa)(base:ay)(A:br)(outer:List eI)(s:ai)(H:Hp):Prop where
 frames:A.frames=some outer
 mod:Mod K mg base
 bs:∀b o,base.get? b=some o->s.heap.get? b=some o/\H b=none
 wA:base.objs.size<=s.heap.objs.size
 oW:s.heap.FunFrames base outer
 yx:∀b∈oX outer,H b=none
 aW:fH P w H s.heap
 bare:AllBare s.gens
def CE(outer:List eI)(P:aG)(w:aF)(H:Hp)(s:ai)(Q:VK)(u:aa)(a:ai):Prop:=
 ∃v H',a.os=s.os/\AllBare a.gens/\Un (oX outer) [] H H' s.heap a.heap/\fH P w H' a.heap/\RelV v u/\Q v H'
def CR(b:sW)(outer:List eI)(P:aG)(w:aF)(H:Hp)(s:ai)(Q:VK)(E:XK)(r:Result)(a:ai):Prop:=
 match r with
 | .ok (.ret u)=>CE outer P w H s Q u a
 | .ok _=>False
 | .error e=>b outer H s E e a
structure o8(P:aG)(w:aF)(K:aj)(mg:ae->Option aa)(base:ay)(CX:sW)(k:Nat)(f:ab)(fd:j8)(ps:List ae)(sp:Sp):Prop where
 len:∀vs H Q E,sp vs H Q E->vs.length=ps.length
 run:∀(A:br)(outer:List eI)(s:ai)(H:Hp)(args:Args)(us:List aa)(vs:List V)(Q:VK)(E:XK),f9 k A->GZ P w K mg base A outer s H->BindsTo s fd args (ps.zip us)->Vals vs us->sp vs H Q E->
  codeAny (model P w) A (.call (.ref f) args) (CR CX outer P w H s Q E) s
section
variable{σ:St}
theorem Inv.abp(I:Inv X J' σ H s):GZ X.prog X.w X.K X.mg X.base X.A X.stack s H:=
 ⟨I.ok.frames,I.ok.mod,I.bs,bU I.ok.wA I.sz,I.stack,I.WU,I.aW,I.bare⟩
theorem Inv.after(I:Inv X J' σ H s)(h:CE X.stack X.prog X.w H s Q u s'):EP X J' σ Q u s':=by
 obtain⟨v,H',os,bare,un,aW,r,q⟩:=h;obtain⟨a,g,d,t,c⟩:=s';obtain rfl:c=s.os:=os;show⟨v,H',I.call (h':=a) (g':=g) (d':=d) (t':=t) (ch:=[]) un aW bare (λb z=>absurd z (by nofun)),r,q⟩
end
def zuK(c:Sp)(b:List V)(E:XK)(t:TA):TE:=λσ H Q=>t σ H λa H1=>c (a++b) H1 Q E
def Binds(K:aj)(a:j8)(ps:List ae)(ds:List aa):Prop:=
 ∀s us,K.In s.heap->(us++ds).length=ps.length->BindsTo s a ⟨us,[]⟩ (ps.zip (us++ds))
theorem Binds.all{K:aj}(h:∀us:List aa,us.length=ps.length->bindArgs b ⟨us,[]⟩=pure (ps.zip us)):Binds K b ps []:=λs us _ a=>by
 rw[gI] at a ⊢;show .of_eq (h us a)
def JZ(c:sW)(X:Cx)(E:XK):Prop:=∀b (σ:St) H s e a,Inv X b σ H s->c X.stack H s E e a->X.xe e a
theorem zs0{d:St}(F:o8 X.prog X.w X.K X.mg X.base CX k f fd ps sp)(m:f9 k X.A)(o:Binds X.K fd ps ds)(hd:Vals uL ds)(l:JZ CX X E)
  (I:Inv X g d H s) (r:Vals c a) (h:sp (c++uL) H Q E):wpAny (model X.prog X.w) X.A (call (.ref f) a) (EP X g d Q) X.xe s:=by
 have i:Vals (c++uL) (a++ds):=r.append hd;have n:(a++ds).length=ps.length:=by rw[<-i.length];show F.len _ _ _ _ h
 show wpAny_call (HC (F.run X.A X.stack s H ⟨a,[]⟩ (a++ds) (c++uL) Q E m I.abp (o s a I.mn n) i h) λr j b=>?_);cases r with
 | error e=>show l g d H s e j I b
 | ok p=>
  cases p with
  | ret u=>show I.after b
  | next=>show False.elim b
  | brk=>show False.elim b
  | cont=>show False.elim b
theorem zrg(F:o8 X.prog X.w X.K X.mg X.base CX k f fd ps sp)(d:f9 k X.A)(j:Gl X x)(g:X.mg x=some (.ref f))(i:wR X.K (.ref f)=true)(l:Binds X.K fd ps ds)(hd:Vals uL ds)(c:JZ CX X E)
  (m:PA X (e::es) t) (b:(x==("__debug__":ae))=false:=by decide) (he:starEach (e::es) X.env=(false,eval e X.env)::starEach es X.env:=by rfl) (n:(backTo pos (starEach es X.env)).any (·.1)=false:=by rfl) :
  PE X (.Call (.Name x p) (e::es) [] pos) (zuK sp uL E t):=by
 intro u s σ H Q I h;show vm (UD I j g ?_ b);show PySem.W.callWith_K (h₀:=X.base) I.ok.mod.ME i (aR (m pos u s σ H _ I h) λus s1 o=>?_) he n;obtain⟨v,H1,a,r,q⟩:=o;show⟨a.mn,?_⟩;show zs0 F d l hd c a r q
structure uW(N P:List ae)(sc:iO):Prop where
 kind:sc.kind=.function
 co:sc.isCoroutine=false
 gen:sc.isGenerator=false
 nd:N.Nodup
 pre:N.take P.length=P
 par:∀x∈P,sc.names.lookup x=some .local\/sc.names.lookup x=some .cell
 aax:∀y∈sc.names,y.2≠.free
theorem V5:∀{binds m},(∀v,(x,v)∉binds)->bindL a binds m x=m x
 | [],_,_=>rfl
 | (n,v)::r,m,h=>by
  unfold bindL;rw[V5 λw hw=>h w (cK _ hw)];split
  all_goals grind
theorem V4:∀{binds m},(∀v,(x,v)∉binds)->bindC a binds m x=m x
 | [],_,_=>rfl
 | (n,v)::r,m,h=>by
  unfold bindC;rw[V4 λw hw=>h w (cK _ hw)];split
  all_goals grind
theorem V3:∀{P:List ae}{b}{i:Nat}{m},P.Nodup->P[i]?=some x->b[i]?=some v->a x=some .local->
  bindL a (P.zip b) m x=some v
 | [],_,_,_,_,h,_,_=>by trivial
 | _::_,[],_,_,_,_,h,_=>by trivial
 | p::P,w::b,0,m,nd,d,c,e=>by
  simp at d c;subst d;subst c;show bindL a ((p,w)::P.zip b) m p=_;unfold bindL;rw[V5 λv hv=>(gu.mp nd).1 (pE hv).1,if_pos e];simp
 | p::P,w::b,i+1,m,nd,d,c,e=>by
  show bindL a ((p,w)::P.zip b) m x=_;unfold bindL;show V3 (i:=i) (gu.mp nd).2 (by simpa using d) (by simpa using c) e
theorem V2:∀{P:List ae}{b}{i:Nat}{m},P.Nodup->P[i]?=some x->b[i]?=some v->a x≠some .local->
  bindC a (P.zip b) m x=some v
 | [],_,_,_,_,h,_,_=>by trivial
 | _::_,[],_,_,_,_,h,_=>by trivial
 | p::P,w::b,0,m,nd,d,c,e=>by
  simp at d c;subst d;subst c;show bindC a ((p,w)::P.zip b) m p=_;unfold bindC;rw[V4 λv hv=>(gu.mp nd).1 (pE hv).1,if_neg e];simp
 | p::P,w::b,i+1,m,nd,d,c,e=>by
  show bindC a ((p,w)::P.zip b) m x=_;unfold bindC;show V2 (i:=i) (gu.mp nd).2 (by simpa using d) (by simpa using c) e
noncomputable def start(N:List ae)(a:List V):St:=a.map some++et (N.length-a.length) none
noncomputable def nk(d:sW)(P:aG)(w:aF)(K:aj)(mg:ae->Option aa)(base:ay)(N:List ae)(a:ae)(scope:iO)(f:ab)(b:aa)(A:br)(outer:List eI)(s:ai)(H:Hp)(E:XK):Cx where
 prog:=P
 w:=w
 K:=K
 mg:=mg
 base:=base
 A:=A.deeper (envOfC a scope s.heap.objs.size f b)
 N:=N
 gq:=s
 CD:=H
 env:=envOfC a scope s.heap.objs.size f b
 outer:=outer
 stack:=envOfC a scope s.heap.objs.size f b::outer
 ex:=[]
 calm:=true
 fn:=λ_=>true
 pn:=[]
 xe:=λe g=>wpAny (model P w) (A.deeper (envOfC a scope s.heap.objs.size f b)) (leaving (envOfC a scope s.heap.objs.size f b) e) (λ_ c=>d outer H s E e c) (λh c=>d outer H s E h c) g
theorem Vc{sc:iO}(h:sc.names.lookup x=some .cell):∃c,(cellsFrom n sc.names []).lookup x=some c:=by
 have q:=QP sc.names n [] (.inl h);show Option.isSome_iff_exists.mp q
theorem zmc{K:aj}{s D:ai}
  (S:uW N ps scope) (hd:A.handled=none) (d:GZ P w K mg base A outer s H) (O:j.length=ps.length) (r:Vals j B)
  (x:InCallC s s.heap.objs.size (bindL (envOfC a scope s.heap.objs.size f t).kindOf (ps.zip B) λ_=>none) (cellsFrom (s.heap.objs.size+1) scope.names []) (bindC (envOfC a scope s.heap.objs.size f t).kindOf (ps.zip B) λ_=>none) D) :
  Inv (nk J P w K mg base N a scope f t A outer s H E) [] (start N j) H D:=by
 have R:ps.length<=N.length:=by have:=dN qS S.pre;rw[eP] at this;lia
 obtain⟨o,tk,rfl,G⟩:=x.done;have C:∀b:ab,b∉(nk J P w K mg base N a scope f t A outer s H E).ex:=λb z=>absurd (show b∈([]:List ab) from z) (by nofun)
 show⟨⟨d.mod,S.kind,rfl,rfl,bx _,λy z c o m=>?_,λy g=>?_,λy c _ h=>?_,λ_=>hd,Around.frames_deeper d.frames,.inr ⟨rfl,rfl⟩,λb z=>absurd z (C b),d.bs,d.wA,λb _ _=>C b,λb z=>absurd z (C b),d.oW,d.yx⟩,
  rfl,d.bare,Un.kept G,⟨_,x.toInCall.ns,λi y v o m h3=>?_⟩,λy c h=>⟨_,x.cell y c h⟩,d.aW.fresh (bx _),λy c h=>?_,λp l=>absurd (show p∈([]:List (ab×aT)) from l) (by simp),d.aW.kept G,?_⟩
 .exact name_of_addr x.apart (tJ o) (tJ m)
 .have g:scope.names.lookup y=some .cell\/scope.names.lookup y=some .free:=g;rcases g with g | g
  .exact Vc g
  show absurd rfl (S.aax _ (tJ g))
 .exact cP (x.above y c (tJ h))
 .have Q:i<j.length:=by
   unfold start at m;grind
  have M:j[i]?=some v:=by
   unfold start at m;grind
  obtain⟨u,F,L⟩:=r.get M;have l:ps[i]?=some y:=by
   rw[<-S.pre,List.getElem?_take_of_lt (by simp_all)];show o
  have I:ps.Nodup:=by rw[<-S.pre];show S.nd.sublist (Ic _ _)
  show⟨u,L,?_⟩;rcases S.par y (cJ l) with k | k
  .exact .inl ⟨k,V3 I l F k⟩
  obtain⟨c,e⟩:=Vc (n:=s.heap.objs.size+1) k;show .inr ⟨.inl k,c,e,?_⟩;have q:=x.cell y c e;rw[V2 I l F (by show scope.names.lookup y≠_;rw[k];decide)] at q;show q
 .exact d.aW.fresh (cP (x.above y c (tJ h)))
 unfold start;show _=N.length;rw[bL,ax,List.length_replicate];simp_all
theorem zuL{K:aj}{F kV j pm g ct M:aa}
     (lk:K.lookup f=some ⟨M,L,.func (pz name a c body scope F kV j pm G g ct),O⟩) (R:C4 K g a=true) (S:uW N ps scope)
  (len:∀d H Q E,p d H Q E->d.length=ps.length)
  (Nj:∀A outer s H d Q E,f9 k (A.deeper (envOfC a scope s.heap.objs.size f g))->p d H Q E->
   ∃t,j5 (nk m P w K mg base N a scope f g A outer s H E) body t/\t { nx:=λ_ H'=>Q .non H',rt:=Q } (start N d) H) :
  o8 P w K mg base m (k+1) f (pz name a c body scope F kV j pm G g ct) ps p:=by
 show⟨len,λA outer s H args us d Q E C i Z r D=>?_⟩;have Y:=len _ _ _ _ D;have KX:K.In s.heap:=i.mod.ME.keeps λb o e=>(i.bs b o e).1
 have lim:s.heap.NoLimit:=i.mod.nolimit.keeps λb o e=>(i.bs b o e).1
 have Gw:∀y∈ps.zip us,scope.names.lookup y.1=some .local\/(scope.names.lookup y.1=some .cell/\((cellsFrom (s.heap.objs.size+1) scope.names []).lookup y.1).isSome=true):=λ⟨n,v⟩ T=>by
  rcases S.par n (pE T).1 with q | q
  .exact .inl q
  show .inr ⟨q,QP _ _ _ (.inl q)⟩
 show codeAny_call_function C.depth (KX _ _ lk) rfl S.co S.gen rfl (PySem.W.codeRec_of KX R) (Z _ _ _ _ ?_);show wpAny_newFunctionEnv_cells S.kind Gw λenv he s1 x=>?_
 subst he;show⟨lim.keeps x.toInCall.keep,codeAny_func ?_⟩;obtain⟨t,U,X⟩:=Nj A outer s H d Q E (C.deeper _) D;have I:Inv (nk m P w K mg base N a scope f g A outer s H E) [] (start N d) H s1:=zmc S C.hd i Y r x;show g7 (U [] s1 (start N d) H _ I X) (λfl z h=>?_) λe z h=>h
 have fin:∀{l:St}{H':Hp}{v:V}{u:aa},Inv (nk m P w K mg base N a scope f g A outer s H E) [] l H' z->RelV v u->Q v H'->CE outer P w H s Q u z:=
  λ{l H' v u} J B q=>⟨v,H',J.os,J.bare,J.base,J.aW,B,q⟩
 cases fl with
 | ret u=>
  obtain⟨v,l,H',J,B,q⟩:=h;show fin J B q
 | next=>
  obtain⟨l,H',J,q⟩:=h;show fin (v:=V.non) (u:=j9) J rfl q
 | brk=>
  obtain⟨_,_,_,q⟩:=h;show False.elim q
 | cont=>
  obtain⟨_,_,_,q⟩:=h;show False.elim q
section
variable{p pos:aI}{e:av}{t:TA}{id T:String}{r:List V->Hp->VK->Prop}
def FF(r:List V->Hp->VK->Prop)(t:TA):TE:=λσ H Q=>t σ H λa H1=>r a H1 Q
theorem AR(k:ip X (.builtin id) r)(j:Gl X x)(i:X.mg x=none)(hv:bootBuiltins x=some (.builtin id))(l:PA X (e::es) t)(g:x≠"__name__":=by decide)(f:(x==("__debug__":ae))=false:=by decide)
  (he:starEach (e::es) X.env=(false,eval e X.env)::starEach es X.env:=by rfl) (m:(backTo pos (starEach es X.env)).any (·.1)=false:=by rfl):PE X (.Call (.Name x p) (e::es) [] pos) (FF r t):=by
 intro a s σ H Q I h;show vm (l7 I j i hv ?_ g f);show ZC (aR (l pos a s σ H _ I h) λus s1 n=>by obtain⟨b,H1,o,c,d⟩:=n;show k a s1 σ H1 b us Q o c d) he m
theorem V1(k:ip X (.type T) r)(j:Gl X x)(i:X.mg x=none)(hv:bootBuiltins x=some (.type T))(l:PA X (e::es) t)(g:x≠"__name__":=by decide)(f:(x==("__debug__":ae))=false:=by decide)
  (he:starEach (e::es) X.env=(false,eval e X.env)::starEach es X.env:=by rfl) (m:(backTo pos (starEach es X.env)).any (·.1)=false:=by rfl):PE X (.Call (.Name x p) (e::es) [] pos) (FF r t):=by
 intro a s σ H Q I h;show vm (l7 I j i hv ?_ g f);show n6 (aR (l pos a s σ H _ I h) λus s1 n=>by obtain⟨b,H1,o,c,d⟩:=n;show k a s1 σ H1 b us Q o c d) he m
end
end L2
namespace HT
open PySem PyProof.Rows
noncomputable def lexLt:List Int->List Int->Bool
 | [],[]=>false
 | [],_::_=>true
 | _::_,[]=>false
 | x::xs,y::ys=>if x=y then lexLt xs ys else decide (x<y)
theorem zkY(x y xs ys):lexLt (x::xs) (y::ys)=if x=y then lexLt xs ys else decide (x<y):=rfl
theorem zgT:lexLt [] []=false:=rfl
theorem zgc(y ys):lexLt [] (y::ys)=true:=rfl
theorem zgd(x xs):lexLt (x::xs) []=false:=rfl
theorem zoL(A s a t c u):∃e,OS A s (.int a t) (.int c u) e/\(e=true↔a=c):=
 ⟨(a==c),Qc a t c u,by simp⟩
theorem KN(A s a t c u prog w E Q)(h:Q (.bool (decide (a<c))) s) :
  wpAny (model prog w) A (richCompare .Lt (.int a t) (.int c u)) Q E s:=
 (Ip h:wpAny (model prog w) A (compareOp .Lt (.int a t) (.int c u)) Q E s)
section
open PySem.SeqAt
open PySem.AutoSeq1 (wpAny_loadPart')
open PySem.MeetsSeq PySem.MeetsSeq2 PySem.MeetsSeq3
theorem zgV(l b items items2 n H Q I sl J r v)(O:IntsAre items.toList r)(N:IntsAre items2.toList v) :
  Meets (Builtin.«tuple.__lt__» ⟨[.ref l,.ref b],[]⟩)
   (λ_ R s=>s.heap.get? l=some { cls:=.type "tuple",dict:=Q,data:=.seq items n,slots:=sl }/\s.heap.get? b=some { cls:=.type "tuple",dict:=I,data:=.seq items2 H,slots:=J }/\
    R (.ok (.ret (.bool (lexLt r v)))) s):=
 .of_wp λprog w A R s h=>by
  obtain⟨m,g,d,tk,os⟩:=s;obtain⟨M,P,h⟩:=h;have f2:=IH;have U:items.size=r.length:=by rw[<-O.length];simp
  have T:items2.size=v.length:=by rw[<-N.length];simp
  wp_walk using jK M,jK P,PN _ (λez b p=>b.1=none/\p=⟨m,g,d,tk,os⟩/\∃(k ws:List aa)(j i:List Int),ez=k.zip ws/\
   IntsAre k j/\IntsAre ws i/\j.length+items2.size=i.length+items.size/\R (.ok (.ret (.bool (lexLt j i)))) ⟨m,g,d,tk,os⟩) _
  case turn=>
   rintro⟨y,x⟩ ez b p ⟨B,rfl,k,ws,j,i,hz,E,o,hlen,f⟩;cases E with
   | nil=>rw[List.zip_nil_left] at hz;cases hz
   | cons a t C=>
    cases o with
    | nil=>rw[List.zip_nil_right] at hz;cases hz
    | cons c u D=>
     rw[Ik] at hz;injection hz with z S
     injection z with K L
     subst K L;rw[zkY] at f;simp only[cC] at hlen;obtain⟨e,he,F⟩:=zoL A.in1 ⟨m,g,d,tk,os⟩ a t c u;show ag (he prog w _ _ ?_);cases e with
     | true=>
      rw[if_pos (F.mp rfl)] at f;wp_walk
      show⟨rfl,rfl,_,_,_,_,S,C,D,by lia,f⟩
     | false=>
      rw[if_neg (λq=>absurd (F.mpr q) eJ)] at f;have G:=KN A.in1 ⟨m,g,d,tk,os⟩ a t c u prog w;wp_walk using G
      show⟨_,rfl,by simpa using f⟩
  case fin=>
   rintro⟨W,V⟩ p ⟨B,rfl,k,ws,j,i,hz,E,o,hlen,f⟩;simp only at B;subst B;have hv:lexLt j i=decide (items.size<items2.size):=by
    cases E with
    | nil=>
     cases o with
     | nil=>
      simp only[om] at hlen;rw[zgT];show(iw (by simp_all)).symm
     | cons c u hw=>
      simp only[om,cC] at hlen;rw[zgc];show(iu (by simp_all)).symm
    | cons a t hv=>
     cases o with
     | nil=>
      simp only[om,cC] at hlen;rw[zgd];show(iw (by lia)).symm
     | cons c u hw=>
      rw[Ik] at hz;cases hz
   rw[hv] at f;wp_walk
   show⟨_,rfl,by trivial⟩
  grind
end
section
variable{s:ai}
theorem aaz(o:IsTup s.heap l items)(r:IsTup s.heap b items2)(q:IntsAre items.toList a)(p:IntsAre items2.toList c)
  (m:A.units<cLine) (h:Q (.bool (lexLt a c)) s):wpAny (model prog w) A (compareOp .Lt (.ref l) (.ref b)) Q E s:=by
 obtain⟨⟨cls,t,data,sl⟩,d,e,n,hd⟩:=id o;obtain⟨⟨u,j,data2,k⟩,g,f,i,hd2⟩:=id r;simp only at e hd f hd2;subst e hd f hd2;show QO (op:=.Lt) ⟨_,d,rfl⟩ ⟨_,g,rfl⟩ QF QN (Q1 _ _) (zgV l b items items2 n i t j sl k a c q p)
  ⟨d,g,show zg (lexLt a c)≠Qv/\Q (.bool (lexLt a c)) s from⟨(λx=>nomatch x),h⟩⟩ m
noncomputable def bN(n d:Nat):Option Int->Nat
 | none=>d
 | some v=>if v<0 then(v+(n:Int)).toNat else min v.toNat n
theorem Mf(n d)(hd:d<=n)(o):bN n d o<=n:=by
 cases o with
 | none=>show hd
 | some v=>
  show(if v<0 then(v+(n:Int)).toNat else min v.toNat n)<=n;grind
theorem NS(v)(n d:Nat):(if v<0 then max (v+(n:Int)) 0 else min v (n:Int))=((bN n d (some v):Nat):Int):=by
 show(if v<0 then max (v+(n:Int)) 0 else min v (n:Int))=(((if v<0 then(v+(n:Int)).toNat else min v.toNat n):Nat):Int)
 grind
theorem zkZ(lo a)(n:Nat):IL lo a 1 (n:Int)=(((bN n 0 lo:Nat):Int),((bN n n a:Nat):Int)):=by
 have b:¬((1:Int)<0):=by trivial
 unfold IL;simp only[b,cM];show OK ?_ ?_
 .cases lo with
  | none=>rfl
  | some v=>show NS v n 0
 cases a with
 | none=>rfl
 | some v=>show NS v n n
theorem zk0(i j:Nat):DJ (i:Int) (j:Int) 1=j-i:=by
 unfold DJ;grind
theorem We(p:IsPart v o)(h:Q o s):wpAny (model prog w) A (Zz v) Q E s:=by
 cases p with
 | none=>show Pq h
 | int i t=>show slicePart_int h
theorem zeH{lo a:Option Int}{Q:Int×Int×Nat->ai->Prop}(g:s.heap.IsSliceOf sl c b .none)(pl:IsPart c lo)(f:IsPart b a)
  (h:Q (((bN n 0 lo:Nat):Int),1,bN n n a-bN n 0 lo) s):wpAny (model prog w) A (Rb (.ref sl) (pure (n:Int))) Q E s:=by
 obtain⟨os,e,i,d⟩:=id g;unfold Rb Zu;show ag (ag (jL e d (x:=c) rfl (ag (jL e d (x:=b) rfl (ag (jL e d (x:=.none) rfl (az ?_)))))));show ag (Pq ?_);show wpAny _ _ (if ((1:Int)==0)=true then _ else _) _ _ s;rw[if_neg (by show eJ)];show ag (We pl (ag (We f (ag (az ?_)))));show wpAny _ _ (match IL lo a 1 (n:Int) with | (lo,a)=>pure (lo,(1:Int),DJ lo a 1)) _ _ s;rw[zkZ lo a n];show wpAny _ _ (pure (((bN n 0 lo:Nat):Int),(1:Int),DJ ((bN n 0 lo:Nat):Int) ((bN n n a:Nat):Int) 1)) _ _ s;rw[zk0];show az h
theorem zoM(xs:Array aa)(i k:Nat):((aN k).filterMap λ(m:Nat)=>xs[((i:Int)+(m:Int)*1).toNat]?).toArray=((xs.toList.drop i).take k).toArray:=by
 have e:(λ(m:Nat)=>xs[((i:Int)+(m:Int)*1).toNat]?)=λm=>xs[i+m]?:=by
  grind
 rw[e];have:=pick_run xs i k;rw[List.filterMap_map] at this;have a:((λx=>xs[x]?)∘λx=>i+x)=λm=>xs[i+m]?:=rfl
 rw[a] at this;rw[this]
theorem abn{lo a:Option Int}(b:IsTup s.heap t items)(f:s.heap.IsSliceOf sl e d .none)(pl:IsPart e lo)(i:IsPart d a)
  (hw:¬(bN items.size 0 lo=0/\bN items.size items.size a=items.size))
  (h:Q (.ref s.heap.objs.size) { s with heap:=s.heap.push { cls:=.type "tuple",data:=.seq ((items.toList.drop (bN items.size 0 lo)).take (bN items.size items.size a-bN items.size 0 lo)).toArray } })
  (hsz:items.size<=sizeLine):wpAny (model prog w) A (getItem (.ref t) (.ref sl)) Q E s:=by
 have c:sizeOk (.seq ((items.toList.drop (bN items.size 0 lo)).take (bN items.size items.size a-bN items.size 0 lo)).toArray):=by
  show((items.toList.drop (bN items.size 0 lo)).take (bN items.size items.size a-bN items.size 0 lo)).toArray.size<=sizeLine;grind
 have o:bN items.size items.size a<=items.size:=Mf _ _ (bx _) a;obtain⟨os,l,j,n⟩:=id f;have k:s.TypeIs (.ref sl) "slice":=⟨os,l,j⟩
 unfold getItem;try with_reducible show fQ ?_
 first | show ag (az ?_) | skip
 show ag (wpAny_sequenceKey b.typeIs (by rfl) ?_);show ag (vv (name:=fI "__getitem__") b.typeIs Ro
  (m9 Ro b.typeIs entry_tuple_getitem ?_ (args_tuple_getitem _ _)))
 show wpAny _ _ (Zv (.ref t) >>= _) _ _ s;show ag (tupleItemsOf_ b ?_);show ag (zj k ?_);rw[if_pos (by rfl)];show ag (zeH f pl i ?_);have g:¬((((bN items.size 0 lo:Nat):Int)==0&&(1:Int)==1&&(bN items.size items.size a-bN items.size 0 lo)==items.size)=true):=by
  simp_all
 show wpAny _ _ (if (((bN items.size 0 lo:Nat):Int)==0&&(1:Int)==1&&(bN items.size items.size a-bN items.size 0 lo)==items.size)=true then _ else _) _ _ s;rw[if_neg g,zoM];first
  | show ag (m:=DH _) (kR (az ⟨_,rfl,az h⟩) c)
  | show ag (m:=DH _) (kR (ag (az (az ⟨_,rfl,az h⟩))) c)
  | show ag (ag (m:=DH _) (kR (az (az ⟨_,rfl,az h⟩)) c))
  | show ag (ag (m:=DH _) (kR (az ⟨_,rfl,az h⟩) c))
end
end HT
namespace L2
open PySem PySem.Spec PyProof.Rows
noncomputable abbrev TO:=St->Hp->(Option Int->Hp->Prop)->Prop
def PO(X:Cx)(e:Option av)(t:TO):Prop:=
 ∀a s (σ:St) H Q,Inv X a σ H s->t σ H Q->
  wpAny (model X.prog X.w) X.A (evalPart e X.env) (λu b=>∃o H',Inv X a σ H' b/\IsPart u o/\Q o H') X.xe s
noncomputable def zrh:TO:=λ_ H Q=>Q none H
noncomputable def Sj(t:TE):TO:=λσ H Q=>t σ H λx H1=>∃i,x=.int i/\Q (some i) H1
theorem xY:∀{us},Vals (a.map V.int) us->IntsAre us a:=by
 induction a with
 | nil=>intro us r;rw[tu] at r;cases r;show .nil
 | cons n a d=>
  intro us r;rw[bD] at r;cases r with
  | cons c b=>
   obtain⟨t,e⟩:=c;subst e;show .cons n t (d b)
section
variable{X:Cx}{e:av}{te:TE}{lo hi:Option av}{tl th:TO}
theorem zri:PO X none zrh:=by
 intro a s σ H Q I h;rw[Pg];show az ⟨none,H,I,.none,h⟩
theorem Ue(h:PE X e te):PO X (some e) (Sj te):=by
 intro d s σ H Q I hw;rw[evalPart_some];show aR (h d s σ H _ I hw) λu s1 c=>?_
 obtain⟨x,H1,f,a,b⟩:=c;obtain⟨i,rfl,q⟩:=b;obtain⟨t,rfl⟩:=a;show⟨some i,H1,f,.int i t,q⟩
def uQ(X:Cx)(r:V->Option Int->Option Int->Hp->VK->Prop):Prop:=
 ∀c s (σ:St) H x v b a lo hi sl Q,Inv X c σ H s->RelV x v->s.heap.IsSliceOf sl b a .none->IsPart b lo->IsPart a hi->r x lo hi H Q->
  ∃T id,typeLookup (.type T) "__getitem__"=pure (some (.builtin id))/\s.TypeIs v T/\wpAny (model X.prog X.w) X.A (getItem v (.ref sl)) (EP X c σ Q) X.xe s
theorem uQ.or(h:uQ X r)(h':uQ X d):uQ X (λx lo hi H Q=>r x lo hi H Q\/d x lo hi H Q):=by
 intro f s σ H x v b a lo hi sl Q I c e pl pu q;rcases q with q | q
 .exact h f s σ H x v b a lo hi sl Q I c e pl pu q
 show h' f s σ H x v b a lo hi sl Q I c e pl pu q
def tSl(r:V->Option Int->Option Int->Hp->VK->Prop)(te:TE)(tl th:TO):TE:=λσ H Q=>te σ H λx H1=>tl σ H1 λl b=>th σ b λu a=>r x l u a Q
theorem zoN(p:uQ X r)(he:PE X e te)(t:PO X lo tl)(n:PO X hi th):PE X (.Subscript e (.Slice lo hi none p2) pos) (tSl r te tl th):=by
 intro a s σ H Q I h;show CN (aR (he a s σ H _ I h) λv s1 c=>?_);obtain⟨x,H1,E,i,m⟩:=c;show wpAny_Slice (aR (t a s1 σ H1 _ E m) λf s2 c=>?_);obtain⟨l,F,D,pl,k⟩:=c;show aR (n a s2 σ F _ D k) λd s3 c=>?_
 obtain⟨u,g,C,pu,j⟩:=c;rw[Pg];show az ?_;have B:Inv X a σ g { s3 with heap:=s3.heap.push { cls:=.type "slice",data:=.fields #[f,d,.none] } }:=C.kept (t':=s3.toks) λb ob q=>bZ _ q
 obtain⟨T,id,z,o,y⟩:=p a { s3 with heap:=s3.heap.push { cls:=.type "slice",data:=.fields #[f,d,.none] } } σ g x v f d l u s3.heap.objs.size Q B i (Y9 ..) pl pu j;show wpAny (model X.prog X.w) X.A (subscriptTail e (.Slice lo hi none p2) v (.ref s3.heap.objs.size)) (EP X a σ Q) X.xe { s3 with heap:=s3.heap.push { cls:=.type "slice",data:=.fields #[f,d,.none] } };show Hg (ops:=[.ref s3.heap.objs.size,v]) o z y (by with_unfolding_all rfl)
noncomputable def pQ(xs:List V)(lo hi:Option Int):List V:=(xs.drop (HT.bN xs.length 0 lo)).take (HT.bN xs.length xs.length hi-HT.bN xs.length 0 lo)
theorem Wz(xs lo hi):(pQ xs lo hi).length<=xs.length:=by
 unfold pQ;rw[eP,oo];lia
def Z8(K:aj):V->Option Int->Option Int->Hp->VK->Prop:=λx lo hi H Q=>∃a xs,x=.ref a/\cz K H a xs/\
 ¬(HT.bN xs.length 0 lo=0/\HT.bN xs.length xs.length hi=xs.length)/\∀p,H p=none->Q (.ref p) (upd H p (.tup (pQ xs lo hi)))
theorem zs2:uQ X (Z8 X.K):=by
 intro j s σ H x v i g lo hi sl Q I d f pl pu h;obtain⟨a,xs,rfl,e,hw,q⟩:=h;cases d;obtain⟨its,r,c,hz⟩:=I.tuple e;have hlen:its.toArray.size=xs.length:=by rw[cS];show r.length.symm
 show⟨"tuple",_,PyProof.Rows.slot_tuple_getitem.lookup,c.typeIs,?_⟩;show HT.abn c f pl pu (by rw[hlen];show hw) ?_ (by rw[hlen];show hz);rw[hlen];show⟨.ref s.heap.objs.size,_,I.laid (t':=s.toks) (o:=.tup (pQ xs lo hi)) (λb ob q=>bZ _ q) (bx _) ?_,rfl,q _ (I.aW.fresh (bx _))⟩;show⟨bU (Wz xs lo hi) hz,_,(r.drop (HT.bN xs.length 0 lo)).take (HT.bN xs.length xs.length hi-HT.bN xs.length 0 lo),IsTup.new _ _⟩
end
noncomputable def jy(n:Nat)(i:Int):Option Nat:=if 0<=i then(if i<n then some i.toNat else none) else if -(n:Int)<=i then some (i+n).toNat else none
noncomputable def bF{α:Type}(xs:List α)(i:Int):Option α:=(jy xs.length i).bind λj=>xs[j]?
theorem Ud(h:jy n i=some j):seqIndex? i n=some j/\j<n/\-(n:Int)<=i/\i<n:=by
 unfold jy at h;by_cases h0:0<=i
 .rw[if_pos h0] at h;by_cases a:i<n
  .rw[if_pos a] at h;have e:i.toNat=j:=fT h;show⟨by rw[Hu h0 a,e],by lia,by lia,a⟩
  rw[if_neg a] at h;cases h
 rw[if_neg h0] at h;by_cases a:-(n:Int)<=i
 .rw[if_pos a] at h;have e:(i+n).toNat=j:=fT h;show⟨by rw[HB (by simp_all) a,e],by lia,a,by lia⟩
 rw[if_neg a] at h;cases h
theorem AF{v:α}(h:bF xs i=some v):∃j,seqIndex? i xs.length=some j/\xs[j]?=some v/\j<xs.length/\-(xs.length:Int)<=i/\i<xs.length:=by
 unfold bF at h;cases e:jy xs.length i with
 | none=>rw[e] at h;cases h
 | some j=>
  rw[e] at h;obtain⟨c,b,h3,a⟩:=Ud e;show⟨j,c,h,b,h3,a⟩
def Kp(b:av):Prop:=∀o i,subscripted b false o i=operate [o,i] (getItem o i)
def sU(X:Cx)(r:R2):Prop:=
 ∀value slice a s (σ:St) H x y v u Q,Inv X a σ H s->RelV x v->RelV y u->r x y H Q->
  subscripted slice false v u=operate [v,u] (getItem v u)->wpAny (model X.prog X.w) X.A (subscriptTail value slice v u) (EP X a σ Q) X.xe s
def OA(X:Cx)(b:String)(r:V->List V->Hp->VK->Prop):Prop:=
 ∀a s (σ:St) H x xs v us Q,Inv X a σ H s->RelV x v->Vals xs us->r x xs H Q->
  wpAny (model X.prog X.w) X.A (call (.builtin b) (v::us)) (EP X a σ Q) X.xe s
section
variable{a b:av}{ta tb:TE}
theorem sU.or(h:sU X r)(h':sU X c):sU X (λx y H Q=>r x y H Q\/c x y H Q):=by
 intro value slice e s σ H x y v u Q I b a q d;rcases q with q | q
 .exact h value slice e s σ H x y v u Q I b a q d
 show h' value slice e s σ H x y v u Q I b a q d
theorem Si(f:sU X r)(i:PE X a ta)(g:PE X b tb)(e:Kp b):PE X (.Subscript a b pos) (BB r ta tb):=by
 intro j s σ H Q I h;show CN (Jm i g I h λv u s2 x y l k d c q=>f a b j s2 σ l x y v u Q k d c q (e _ _))
def RN(K:aj):R2:=λx y H Q=>∃p xs i v,x=.ref p/\y=.int i/\bP K H p xs/\bF xs i=some v/\Q v H
def RM(K:aj):R2:=λx y H Q=>∃p xs i v,x=.ref p/\y=.int i/\cz K H p xs/\bF xs i=some v/\Q v H
def RL:R2:=λx y H Q=>∃z i c,x=.str z/\y=.int i/\z.length<=sizeLine/\bF z.cps.toList i=some c/\Q (.str ⟨#[c]⟩) H
theorem Xr:sU X (RN X.K):=by
 intro value slice e s σ H x y v u Q I k g h c;obtain⟨p,xs,i,z,rfl,rfl,l,he,q⟩:=h;cases k;obtain⟨t,rfl⟩:=g;obtain⟨its,r,pl,hz⟩:=I.list l;obtain⟨j,a,A,h3,o,n⟩:=AF he;obtain⟨w,d,B⟩:=r.get A;have m:=r.length;have C:=xC;have fin:EP X e σ Q w s:=⟨z,H,I,B,q⟩
 by_cases h0:0<=i
 .have b:i.toNat=j:=by
   rw[Hu h0 n] at a;show fT a
  show item_listR pl.isList h0 (by lia) (by rw[b];simpa using d) fin c
 have b:(i+(its.toArray.size:Int)).toNat=j:=by
  rw[HB (by simp_all) o] at a;rw[cS,<-m];show fT a
 show QM (x:=w) pl.isList.typeIs slot_list_getitem.lookup
  (wpAny_getItem_list_neg (Q:=λr f=>r=w/\EP X e σ Q r f) pl.isList (by simp_all) (by rw[cS]<;>simp_all) (by lia) (by rw[b];simpa using d) ⟨rfl,fin⟩) c
theorem aaH:sU X (RM X.K):=by
 intro value slice a s σ H x y v u Q I d c h e;obtain⟨p,xs,i,z,rfl,rfl,f,he,q⟩:=h;cases d;obtain⟨t,rfl⟩:=c;obtain⟨its,r,pl,hz⟩:=I.tuple f;obtain⟨j,l,k,h3,B,A⟩:=AF he;obtain⟨w,n,m⟩:=r.get k;have g:=r.length;have o:=xC;have fin:EP X a σ Q w s:=⟨z,H,I,m,q⟩
 show QM (x:=w) pl.typeIs slot_tuple_getitem.lookup
  (getItem_tuple (j:=j) (Q:=λr b=>r=w/\EP X a σ Q r b) pl (by lia) (by lia) (by rw[cS,<-g];show l) (by simpa using n) ⟨rfl,fin⟩) e
theorem zs4:sU X RL:=by
 intro value slice n s σ H x y v u Q I d b h e;obtain⟨z,i,c,rfl,rfl,hz,he,q⟩:=h;obtain⟨t,rfl⟩:=d;obtain⟨t',rfl⟩:=b;obtain⟨j,a,l,h3,k,g⟩:=AF he;have f:z.cps.toList.length=z.length:=by simp[CM]
 rw[f] at a k g;have m:=xC
 show Hg (u4 s z t) slot_str_getitem.lookup (getItem_str (c:=c) (by
  grind) (by rw[a];simpa using l) ⟨.str ⟨#[c]⟩,H,I.tok _,⟨_,rfl⟩,q⟩) e
def W4(K:aj):R2:=λx y H Q=>RN K x y H Q\/RM K x y H Q\/RL x y H Q
theorem zs5:sU X (W4 X.K):=Xr.or (aaH.or zs4)
theorem zk1(its:List aa)(n j u):gZ (·.setIfInBounds j u) { cls:=.type "list",data:=.seq its.toArray n }={ cls:=.type "list",data:=.seq (its.set j u).toArray n }:=by
 simp[gZ]
theorem Inv.lst{b:List (ab×aT)}{a:St}(I:Inv X b a H s)(h:H p=some (.lst xs)) :
  ∃(its:List aa)(n:Nat),Vals xs its/\s.heap.get? p=some { cls:=.type "list",data:=.seq its.toArray n }/\xs.length<=sizeLine:=by
 obtain⟨z,its,n,r,e⟩:=I.aW p _ h;show⟨its,n,r,e,z⟩
theorem Inv.aaA{c:St}{its its':List aa}{n a:Nat}(I:Inv X g c H s)(h:H p=some (.lst xs))
  (i:s.heap.get? p=some { cls:=.type "list",data:=.seq its.toArray n }) (d:f { cls:=.type "list",data:=.seq its.toArray n }={ cls:=.type "list",data:=.seq its'.toArray a }) (r:Vals ys its') (hz:ys.length<=sizeLine) (t) :
  Inv X g c (upd H p (.lst ys)) { s with heap:=s.heap.update p f,toks:=t }:=by
 have e:(s.heap.update p f).get? p=some { cls:=.type "list",data:=.seq its'.toArray a }:=by
  rw[mT f i (by rw[d]<;>rfl),d]
 show I.write (x:=p) (e:=p) (by rw[h];trivial) (.inl rfl) (λb u j q=>(lM _ _ (Ne.symm j)).trans q) ⟨_,e⟩ ?_;show⟨hz,its',a,r,e⟩
def zuM:V->V->V->Hp->(Hp->Prop)->Prop:=λo i v H Q=>∃p xs k j,o=.ref p/\i=.int k/\H p=some (.lst xs)/\jy xs.length k=some j/\Q (upd H p (.lst (xs.set j v)))
theorem zoO:Rt X zuM:=by
 intro y s σ H o i v ov iv u Q I m w l h;obtain⟨p,xs,k,j,rfl,rfl,e,x,q⟩:=h;cases m;obtain⟨t,rfl⟩:=w;obtain⟨its,n,r,b,hz⟩:=I.lst e;obtain⟨a,A,h3,f⟩:=Ud x;have c:=r.length;have z:=xC;have g:Inv X y σ (upd H p (.lst (xs.set j v))) { s with heap:=s.heap.update p (gZ (·.setIfInBounds j u)) }:=
  I.aaA e b (zk1 its n j u) (r.set l j) (by rw[pD];show hz) s.toks
 by_cases h0:0<=k
 .have d:k.toNat=j:=by
   rw[Hu h0 f] at a;show fT a
  show PySem.W.ki_setAt b h0 (by lia) (by rw[cS,<-c];show f) (by rw[d];show⟨_,g,q⟩)
 have d:(k+(its.toArray.size:Int)).toNat=j:=by
  rw[HB (by simp_all) h3] at a;rw[cS,<-c];show fT a
 show PySem.W.ki_setBack b (by simp_all) (by rw[cS,<-c];show h3) (by lia) (by rw[d];show⟨_,g,q⟩)
theorem zhX(lo b n):(sliceBounds lo b none n).1=((HT.bN n 0 lo:Nat):Int)/\(sliceBounds lo b none n).2.1=((HT.bN n n b:Nat):Int)/\(sliceBounds lo b none n).2.2=1:=by
 show⟨?_,?_,rfl⟩
 .cases lo with
  | none=>rfl
  | some i=>
   simp only[sliceBounds,HT.bN,PM,show(1:Int)>0 by walk_at"sb",cO];grind
 cases b with
 | none=>rfl
 | some i=>
  simp only[sliceBounds,HT.bN,PM,show(1:Int)>0 by walk_at"sb",cO];grind
theorem zgW(its:List aa)(lo a):slicePick its.toArray lo a none=((its.drop (HT.bN its.length 0 lo)).take (HT.bN its.length its.length a-HT.bN its.length 0 lo)).toArray:=by
 obtain⟨c,b,h3⟩:=zhX lo a its.toArray.size;unfold slicePick;rw[c,b,h3];simp only[sliceRange_one,pick_run,cS]<;>rfl
def ZR(K:aj):V->Option Int->Option Int->Hp->VK->Prop:=λx lo b H Q=>∃a xs,x=.ref a/\bP K H a xs/\∀p,H p=none->Q (.ref p) (upd H p (.lst (pQ xs lo b)))
theorem aak:uQ X (ZR X.K):=by
 intro k s σ H x v j i lo c sl Q I e g pl pu h;obtain⟨a,xs,rfl,f,q⟩:=h;cases e;obtain⟨its,r,d,hz⟩:=I.list f;have hlen:=r.length;show⟨"list",_,slot_list_getitem.lookup,d.isList.typeIs,?_⟩;show wpAny_getItem_list_slice d.isList g pl pu .none (by trivial) ?_ (by rw[cS]<;>simp_all);rw[zgW,<-hlen];show⟨.ref s.heap.objs.size,_,I.laid (t':=s.toks) (o:=.lst (pQ xs lo c)) (λb ob q=>bZ _ q) (bx _) ?_,rfl,q _ (I.aW.fresh (bx _))⟩;show⟨bU (Wz xs lo c) hz,_,0,(r.drop (HT.bN xs.length 0 lo)).take (HT.bN xs.length xs.length c-HT.bN xs.length 0 lo),c8 _ rfl⟩
noncomputable def Ea:V->Bool
 | .non=>true
 | .bl _=>true
 | .int _=>true
 | .str _=>true
 | _=>false
noncomputable def NF:V->V->Bool
 | .non,.non=>true
 | .bl a,.bl b=>a==b
 | .bl a,.int b=>(if a then 1 else 0)==b
 | .int a,.bl b=>a==(if b then 1 else 0)
 | .int a,.int b=>a==b
 | .str a,.str b=>a==b
 | _,_=>false
theorem Ss(d:RelV y u)(c:RelV x v)(f:Ea y=true)(e:Ea x=true):OS A s u v (NF y x):=by
 cases y with
 | non=>
  cases d;cases x with
  | non=>cases c;show Y1 _
  | bl b=>cases c;show Zl b
  | int b=>obtain⟨t,rfl⟩:=c;show Zi b t
  | str b=>obtain⟨t,rfl⟩:=c;show Zh b t
  | _=>show absurd (show false=true from e) eJ
 | bl a=>
  cases d;cases x with
  | non=>cases c;show Zk a
  | bl b=>cases c;show Zj a b
  | int b=>obtain⟨t,rfl⟩:=c;show Zg a b t
  | str b=>obtain⟨t,rfl⟩:=c;show Zf a b t
  | _=>show absurd (show false=true from e) eJ
 | int a=>
  obtain⟨t',rfl⟩:=d;cases x with
  | non=>cases c;show Ze a t'
  | bl b=>cases c;show Zd a t' b
  | int b=>obtain⟨t,rfl⟩:=c;show Qc a t' b t
  | str b=>obtain⟨t,rfl⟩:=c;show Qg a t' b t
  | _=>show absurd (show false=true from e) eJ
 | str a=>
  obtain⟨t',rfl⟩:=d;cases x with
  | non=>cases c;show Zc a t'
  | bl b=>cases c;show Zb a t' b
  | int b=>obtain⟨t,rfl⟩:=c;show Qf a t' b t
  | str b=>obtain⟨t,rfl⟩:=c;show Y8 a t' b t
  | _=>show absurd (show false=true from e) eJ
 | _=>show absurd (show false=true from f) eJ
theorem aaq:dE X (compareOp .NotIn) (λx y H Q=>∃i j,x=.str i/\y=.str j/\Q (.bl (!(!(mV j i 0 j.length 1).isEmpty))) H):=by
 intro c s σ H x y v u Q I b a h;obtain⟨i,j,rfl,rfl,q⟩:=h;obtain⟨t,rfl⟩:=b;obtain⟨t',rfl⟩:=a;show notIn_str ⟨.bl _,H,I,rfl,q⟩
theorem YO:ip X (.builtin "len") (λxs H Q=>∃p ys,xs=[.ref p]/\(bP X.K H p ys\/cz X.K H p ys)/\Q (.int ys.length) H):=by
 intro e s σ H xs us Q I r h;obtain⟨p,ys,rfl,a,q⟩:=h;obtain⟨u,rfl,c⟩:=i8 r;cases c;have d:=xC;rcases a with a | a
 .obtain⟨its,b,pl,hz⟩:=I.list a;have hlen:=b.length;show Calls.call_len_list pl.isList (by simp only[cS]<;>lia) ⟨.int ys.length,H,I.tok _,⟨s.toks+1,by rw[cS,hlen]⟩,q⟩
 obtain⟨its,b,pl,hz⟩:=I.tuple a;have hlen:=b.length;show len_tuple pl (by simp only[cS]<;>lia) ⟨.int ys.length,H,I.tok _,⟨s.toks+1,by rw[cS,hlen]⟩,q⟩
theorem zhY:ip X (.builtin "len") (λxs H Q=>∃z,xs=[.str z]/\z.length<=sizeLine/\Q (.int z.length) H):=by
 intro b s σ H xs us Q I r h;obtain⟨z,rfl,hz,q⟩:=h;obtain⟨u,rfl,t,rfl⟩:=i8 r;have a:=xC;show len_str (by lia) ⟨.int z.length,H,I.tok _,⟨_,rfl⟩,q⟩
theorem ip.or{r a:List V->Hp->VK->Prop}(h:ip X f r)(h':ip X f a):ip X f (λxs H Q=>r xs H Q\/a xs H Q):=by
 intro b s σ H xs us Q I rs q;rcases q with q | q
 .exact h b s σ H xs us Q I rs q
 show h' b s σ H xs us Q I rs q
def Bx(K:aj)(T:String)(x:V)(H:Hp):Prop:=match x with
 | .str _=>T="str"
 | .int _=>T="int"
 | .ref p=>(T="list"/\∃xs,bP K H p xs)\/(T="tuple"/\∃o,K.lookup p=some o/\o.cls=.type "tuple"/\o.dict=none)\/
   (T="dict"/\((∃kvs a,H p=some (.dK kvs a))\/∃kvs bs,H p=some (.dT kvs bs)))\/(T="set"/\∃S n,H p=some (.set S n))
 | _=>False
theorem Sr{f:St}(I:Inv X j f H s)(r:RelV x v)(ty:Bx X.K T x H) :
  s.TypeIs v T/\∀a,v=.ref a->∃ob,s.heap.get? a=some ob/\ob.dict=none:=by
 cases x with
 | str z=>
  obtain⟨t,rfl⟩:=r;cases (show T="str" from ty);show⟨u4 s z t,λ_ e=>nomatch e⟩
 | int i=>
  obtain⟨t,rfl⟩:=r;cases (show T="int" from ty);show⟨Hj s i t,λ_ e=>nomatch e⟩
 | ref p=>
  cases r;rcases ty with⟨rfl,xs,g⟩ | ⟨rfl,o,b,h,hd⟩ | ⟨rfl,b⟩ | ⟨rfl,S,n,b⟩
  .obtain⟨its,_,pl,_⟩:=I.list g;show⟨pl.isList.typeIs,λa e=>?_⟩;cases e;obtain⟨o,n,e,c,hd,_⟩:=pl;show⟨o,e,hd⟩
  .refine⟨⟨o,I.mn p o b,h⟩,λa e=>?_⟩;cases e;show⟨o,I.mn _ o b,hd⟩
  .have z:∃o,s.heap.get? p=some o/\o.ExactDict:=by
    rcases b with⟨kvs,k,b⟩ | ⟨kvs,bs,b⟩
    .obtain⟨_,_,_,_,o,_,e,ex,_⟩:=I.aW p _ b;show⟨o,e,ex⟩
    obtain⟨_,_,_,_,_,o,_,_,e,ex,_⟩:=I.aW p _ b;show⟨o,e,ex⟩
   obtain⟨o,e,ex⟩:=z;show⟨⟨o,e,ex.1⟩,λa d=>?_⟩;cases d;show⟨o,e,ex.2.1⟩
  obtain⟨o,_,_,_,e,ex,_⟩:=I.aW p _ b;show⟨⟨o,e,ex.1⟩,λa d=>?_⟩;cases d;show⟨o,e,ex.2.1⟩
 | _=>show False.elim ty
def Jl(K:aj)(T:String)(r:V->List V->Hp->VK->Prop)(to:TE):TE:=λσ H Q=>to σ H λx H1=>Bx K T x H1/\r x [] H1 Q
def BC(K:aj)(T:String)(r:V->List V->Hp->VK->Prop)(to:TE)(t:TA):TE:=λσ H Q=>to σ H λx H1=>Bx K T x H1/\t σ H1 λxs a=>r x xs a Q
variable{T id:String}
theorem Sq(g:PlainAttrs T)(slot:Slot T name id)(n:typeOf (.builtin id)=pure (.type "method_descriptor"))(j:OA X id r)(i:PE X o to)
  (d:attributeBase o name X.env (eval o X.env)=eval o X.env:=by rfl) (e:(apos.endLine==f7.line)=true:=by rfl):PE X (.Call (.Attribute o name apos) [] [] f7) (Jl X.K T r to):=by
 intro b s σ H Q I h;show Q0 d e (aR (i b s σ H _ I h) λv s1 m=>?_);obtain⟨x,H1,c,a,ty,f⟩:=m;obtain⟨l,k⟩:=Sr c a ty;show⟨T,id,g,slot,n,l,k,zN rfl (Qq (j b s1 σ H1 x [] v [] Q c a .nil f))⟩
theorem Ae(w:PlainAttrs T)(slot:Slot T name id)(L:typeOf (.builtin id)=pure (.type "method_descriptor"))(A:OA X id r)(z:PE X o to)(B:PA X (e::es) t)
  (m:attributeBase o name X.env (eval o X.env)=eval o X.env:=by rfl)
  (E:((backTo f7 (starEach (e::es) X.env)).all (λx=>!x.1)&&(backToKw f7 (keywordEach [] X.env)).all (λx=>x.1.isSome)
   && decide ((e::es).length+([]:List Keyword).length+(if ([]:List Keyword).isEmpty then 0 else 1)<30))=true:=by rfl)
  (n:(apos.endLine==f7.line)=true:=by rfl) (y:starEach (e::es) X.env=(false,eval e X.env)::starEach es X.env:=by rfl) (M:(backTo f7 (starEach es X.env)).any (·.1)=false:=by rfl) :
  PE X (.Call (.Attribute o name apos) (e::es) [] f7) (BC X.K T r to t):=by
 intro d s σ H Q I h;show wpAny_Call_method_late m E n rfl (aR (z d s σ H _ I h) λv s1 b=>?_);obtain⟨x,H1,i,f,ty,u⟩:=b;obtain⟨D,C⟩:=Sr i f ty;show⟨T,id,w,slot,L,D,C,?_⟩;have g:=B f7 d s1 σ H1 _ i u;rw[y] at g ⊢;show zN (by walk_at"sb") (Iq ?_);show aR g λus s2 b=>by obtain⟨j,J,F,p,q⟩:=b;show A d s2 σ J x j v us Q F f p q
end
def CB(X:Cx)(b:String)(r:V->List V->Hp->VK->Prop):Prop:=
 ∀a s (σ:St) H x xs v us Q,Inv X a σ H s->RelV x v->Vals xs us->r x xs H Q->
  wpAny (model X.prog X.w) X.A (call (.builtin b) (v::us)) (EP X a σ Q) X.xe s
theorem Vals.one(h:Vals [x] a):∃u,a=[u]/\RelV x u:=by
 cases h with
 | cons r t=>cases t;show⟨_,rfl,r⟩
theorem Vals.zero:∀{us},Vals [] us->us=[]
 | _,.nil=>rfl
theorem Vals.dropLast(h:Vals xs a):Vals xs.dropLast a.dropLast:=by
 induction h with
 | nil=>show .nil
 | cons r t b=>
  cases t with
  | nil=>show .nil
  | cons q t'=>show .cons r b
theorem Vals.rep(h:Vals xs a):∀k:Nat,Vals (et k xs).flatten (et k a).flatten
 | 0=>.nil
 | k+1=>by
  rw[Dy,Dy,qX,qX];show Vals.append h (Vals.rep h k)
theorem V0(its):∀k (acc:List aa),
  Hi (λb a=>b++a) acc.toArray (et k its.toArray)=(acc++(et k its).flatten).toArray
 | 0,acc=>by simp
 | k+1,acc=>by
  have e:acc.toArray++its.toArray=(acc++its).toArray:=by simp
  have c:(acc++its)++(et k its).flatten=acc++(et (k+1) its).flatten:=by
   rw[Dy,qX,gh]
  rw[<-c,<-V0 its k (acc++its),<-e,Dy,vc]
section
variable{σ:St}
theorem Inv.BM{its its':List aa}(I:Inv X J' σ H s)(d:H l=some (.lst xs))
  (e:s.heap.get? l=some { cls:=.type "list",data:=.seq its.toArray n }) (b:f its.toArray=its'.toArray) (hv:Vals ys its') (hz:ys.length<=sizeLine) :
  Inv X J' σ (upd H l (.lst ys)) { s with heap:=s.heap.update l (gZ f),toks:=t' }:=by
 have q:=Y5 e f;rw[b] at q;show I.write (x:=l) (e:=l) (by rw[d];show trivial) (.inl rfl) (λg u c a=>(lM s.heap (gZ f) (Ne.symm c)).trans a) ⟨_,q⟩ ?_;show⟨hz,its',_,hv,q⟩
theorem Inv.F8(I:Inv X J' σ H s)(hv:Vals ys its)(hz:ys.length<=sizeLine) :
  Inv X J' σ (upd H s.heap.objs.size (.lst ys)) { s with heap:=s.heap.push { cls:=.type "list",data:=.seq its.toArray },toks:=t' }:=
 I.laid (λ_ _ q=>bZ _ q) (bx _) ⟨hz,its,0,hv,c8 _ rfl⟩
theorem Inv.fresh(I:Inv X J' σ H s):H s.heap.objs.size=none:=I.aW.fresh (bx _)
theorem Inv.v8(I:Inv X J' σ H s)(a:H l=some (.lst xs)):xs.length<=sizeLine/\∃(its:List aa)(n:Nat),Vals xs its/\xs.length=its.length/\s.heap.get? l=some { cls:=.type "list",data:=.seq its.toArray n }:=by
 obtain⟨z,its,n,r,e⟩:=I.aW l _ a;show⟨z,its,n,r,r.length,e⟩
theorem KL(h:n<=sizeLine):zQ n=false:=by
 unfold zQ;show iw (by walk_at"sb")
end
def EZ:V->List V->Hp->VK->Prop:=λx a H Q=>∃l xs y,x=.ref l/\a=[y]/\H l=some (.lst xs)/\xs.length<sizeLine/\Q .non (upd H l (.lst (xs++[y])))
theorem Lr:CB X "list.append" EZ:=by
 intro j s σ H x i v us Q I d f h;obtain⟨l,xs,y,rfl,rfl,b,hz,q⟩:=h;cases d;obtain⟨u,rfl,g⟩:=f.one;obtain⟨z,its,n,r,hl,e⟩:=I.v8 b;show lO F.slot_list_append ⟨_,e,rfl⟩ F.entry_list_append (F.args_list_append_2 _ _) (PySem.list_append l its.toArray n u (by rw[cS];simp_all)) ⟨e,?_⟩;show⟨.non,_,I.BM (its':=its++[u]) b e (by simp) (r.append (.cons g .nil)) ?_,rfl,q⟩;rw[bL,pJ];walk_at"sb"
def Uc:V->List V->Hp->VK->Prop:=λx a H Q=>∃l b xs zs,x=.ref l/\a=[.ref b]/\H l=some (.lst xs)/\H b=some (.lst zs)/\xs.length+zs.length<=sizeLine/\Q .non (upd H l (.lst (xs++zs)))
theorem zmh:CB X "list.extend" Uc:=by
 intro C s σ H x A v us Q I g i h;obtain⟨l,b,xs,zs,rfl,rfl,f,p,hz,q⟩:=h;cases g;obtain⟨u,rfl,j⟩:=i.one;cases j;obtain⟨z,its,n,r,hl,e⟩:=I.v8 f;obtain⟨y,d,o,m,B,t⟩:=I.v8 p;have hsz:its.toArray.size+d.toArray.size<=sizeLine:=by rw[cS,cS];simp_all
 have w:¬(!its.toArray.isEmpty&&zQ (its.toArray.size+d.toArray.size))=true:=by
  rw[KL hsz,HM];show eJ
 show lO CV ⟨_,e,rfl⟩ Qp (Qu _ _)
  (Rq l its.toArray n b d.toArray o w (by rw[cS];simp_all) (by walk_at"sb")) ⟨e,t,?_⟩
 show⟨.non,_,I.BM (its':=its++d) f e (by simp) (r.append m) ?_,rfl,q⟩;rw[bL];walk_at"sb"
def RK:V->List V->Hp->VK->Prop:=λx a H Q=>∃l xs y,x=.ref l/\a=[]/\H l=some (.lst xs)/\xs[xs.length-1]?=some y/\Q y (upd H l (.lst xs.dropLast))
theorem zs6:CB X "list.pop" RK:=by
 intro o s σ H x j v us Q I c d h;obtain⟨l,xs,y,rfl,rfl,b,g,q⟩:=h;cases c;have i:=d.zero;subst i;obtain⟨z,its,n,r,m,e⟩:=I.v8 b;obtain⟨u,k,f⟩:=r.get g;have a:its.toArray[its.toArray.size-1]?=some u:=by
  simp_all
 show lO F.slot_list_pop ⟨_,e,rfl⟩ F.entry_list_pop (F.args_list_pop_1 _) (MeetsSeq.list_pop_last l its.toArray n u a (by rw[cS];simp_all)) ⟨e,?_⟩;show⟨y,_,I.BM (its':=its.dropLast) b e ?_ r.dropLast ?_,f,q⟩;all_goals grind
def So:V->List V->Hp->VK->Prop:=λx a H Q=>∃l xs,x=.ref l/\a=[]/\H l=some (.lst xs)/\Q .non (upd H l (.lst []))
theorem zoQ:CB X "list.clear" So:=by
 intro i s σ H x f v us Q I b c h;obtain⟨l,xs,rfl,rfl,a,q⟩:=h;cases b;have d:=c.zero;subst d;obtain⟨z,its,n,r,g,e⟩:=I.v8 a;show lO F.slot_list_clear ⟨_,e,rfl⟩ F.entry_list_clear (F.args_list_clear_1 _) (AutoSeq1.list_clear_list_0 l its.toArray n (by rw[cS];simp_all)) ⟨e,?_⟩;show⟨.non,_,I.BM (its':=[]) (ys:=[]) a e rfl .nil (cG _),rfl,q⟩
def ZQ:R2:=λx y H Q=>∃l k xs,x=.ref l/\y=.int k/\H l=some (.lst xs)/\-(2 ^ 63)<=k/\k<2 ^ 63/\xs.length*k.toNat<=sizeLine/\
 ∀p,H p=none->Q (.ref p) (upd H p (.lst (et k.toNat xs).flatten))
theorem zrj{α:Type}(xs:List α)(k):(et k xs).flatten.length=k*xs.length:=by
 simp_all
theorem zs7:dE X (binaryOp .Mult) ZQ:=by
 intro E s σ H x y v u Q I j i h;obtain⟨l,k,xs,rfl,rfl,p,A,w,hz,q⟩:=h;cases j;obtain⟨t,rfl⟩:=i;obtain⟨z,its,n,r,o,e⟩:=I.v8 p;have hlen:its.toArray.size*k.toNat<=sizeLine:=by rw[cS,<-o];show hz
 have d:¬its.toArray.size*k.toNat>(2 ^ 63-1)/8:=by
  have:(sizeLine:Nat)<=(2 ^ 63-1)/8:=by decide
  lia
 have f:¬(!Builtin.List.listFitsIndex k)=true:=by
  rw[fitsIndex_both A w];show eJ
 have C:¬zQ (its.toArray.size*k.toNat)=true:=by
  rw[KL hlen];show eJ
 have B:Hi (λc b=>c++b) #[] (et (if its.toArray.isEmpty=true then 0 else k.toNat) its.toArray)=(et k.toNat its).flatten.toArray:=by
  have f0:∀m:Nat,Hi (λc b=>c++b) #[] (et m its.toArray)=(et m its).flatten.toArray:=λm=>by
   have:=V0 its m [];rw[zu] at this;show this
  rw[f0];cases its with
  | nil=>simp
  | cons a D=>rw[if_neg (by show eJ)]
 show wpAny_binaryOp_repeat_ref (T:="list") (U:="int") (by rfl) ⟨_,e,rfl⟩ (λg=>Hj g k t) noFill_list_mul F.fills_int_mul Py repeat_list F.slot_int_index.lookup
  (lO Py (Hj s k t) F.entry_int_rmul (F.args_int_rmul_2 _ _) (int___rmul___int_list k t l its.toArray n)
   ⟨e,rfl,⟨_,e,rfl⟩,lO F.slot_list_mul ⟨_,e,rfl⟩ F.entry_list_mul (F.args_list_mul_2 _ _) (ZE l its.toArray n k t f d C) ⟨e,?_⟩⟩)
 rw[B];show⟨.ref _,_,I.F8 (t':=s.toks) (r.rep k.toNat) (by rw[zrj,Nat.mul_comm];show hz),rfl,q _ I.fresh⟩
end L2
namespace YW
open PySem PySem.W PySem.Calls PyProof.Rows
theorem zfa:∀ns c,WellAll P h c (ns.map ON)->IntsAre c ns:=by
 intro ns;induction ns with
 | nil=>
  intro c w;rw[tu] at w;cases w;show .nil
 | cons n ns d=>
  intro c w;rw[bD] at w;cases w with
  | cons a b=>
   cases a;show .cons _ _ (d _ b)
theorem zmi{l:OpenLaw}(o:l.most=some n)
  (g:l.row.toRowW.claim.pre args=true) (t:WellAll P h b args) :
  ∃a e ns,b=[fi a]/\args=[WData.list (ns.map ON)]/\h.get? a=some { cls:=.type "list",data:=.seq e.toArray }/\IntsAre e ns/\ns.length<=n:=by
 have k:WShape.hasAll [] args [.list .int]=true:=(pre_splitW g).1;have f:l.pre.holds [] { args:=args }=true:=(pre_splitW g).2;obtain⟨d,r,rfl,q,p⟩:=hasAllW_cons k;obtain rfl:=hasAllW_nil p;obtain⟨xs,rfl,h3⟩:=hasW_list q;obtain⟨ns,rfl⟩:=items_int h3;have hlen:ns.length<=n:=by
  unfold OpenLaw.pre at f;have c:(WTm.not (.lt (.lit (.int (n:Int))) (.len (.arg 0)))).holds [] { args:=[.list (ns.map .int)] }=true:=by
   have c:=(holds_andW f).1;rw[o] at c;show c
  have u:=condW_of c (w_not (w_lt w_lit (w_len_list (w_arg rfl))));simp_all
 cases t with
 | cons j i=>
  cases i;cases j with
  | list m s=>show⟨_,_,ns,rfl,rfl,m,zfa ns _ s,hlen⟩
theorem zmj(l:OpenLaw)(args):l.row.toRowW.claim.post args (.bool true) args=true:=
 postW_of (r:=l.row.toRowW) (X:=(true==true))
  (show OR [] (.bool true) .bool=true by first | rfl | decide | simp[OR,WShape.arms,WShape.armsAll])
  (show(WTm.eq .res (.lit (.bool true))).value [] { args:=args,res:=some (.bool true),after:=args }=some (.bool (true==true)) from w_eq_bool (w_res rfl) w_lit) rfl
theorem abu{l:OpenLaw}
  (u:l.most=some n) (B:d.params.defaults=[])
  (call:∀w gq c mg h fa o pm cd doc a e ns,
   Ground q b [] k w gq mg h c.heap->j w c.heap->
   c.heap.get? fa=some o->o.data=.func (docDef d.name d.params d.body d.scope pm cd doc)->c.heap.CodeRec cd d.name->mg d.name=some (.ref fa)->
   c.heap.get? a=some { cls:=.type "list",data:=.seq e.toArray }->IntsAre e ns->ns.length<=n->c.gens=#[]->
   codeAny (model l.prog w) callerA (.call (.ref fa) ⟨[.ref a],[]⟩) (λr g=>r=.ok (.ret (.bool true))/\OldK c.heap g.heap/\g.os=c.os/\AllBare g.gens) c) :
  WalkO q b k j l.row.toRowW d [] (λf e=>OQ f e):=by
 intro w gq c mg h G Y fa o pm cd doc z kV t hd m i sD v args vals as E A p C F;obtain rfl:z=.none:=Dflts.none i B;obtain rfl:kV=.none:=Dflts.noKw i;obtain⟨a,e,ns,rfl,rfl,D,hints,hlen⟩:=zmi u E C;show enter_call (HC (call w gq c mg h fa o pm cd doc a e ns G Y t (fd_plain hd) m sD D hints hlen v) λr g s=>?_);obtain⟨rfl,y,h3,x⟩:=s;show⟨.inl ⟨.bool true,.bool true,[],rfl,λ_=>rfl,.bool true,zmj l _,λ_=>⟨P4,λ_ hm=>(nomatch hm)⟩⟩,y,h3,x⟩
end YW
namespace L2
open PySem PySem.Spec PyProof.Rows
theorem Wb:∀{a ns},IntsAre a ns->Vals (ns.map V.int) a
 | _,_,.nil=>.nil
 | _,_,.cons n t h=>.cons ⟨t,rfl⟩ (Wb h)
def RJ(H:Hp):Prop:=∀b,H b=none\/∃o xs,H b=some (.ig o (.lst xs))
theorem zoR{K:aj}
  (KX:K.In c.heap) (O:c.heap.Ns mainGlobals mg) (g:c.heap.Ns builtinsNs A) (GC:∀x:ae,x≠"__name__"->A x=bootBuiltins x) (J:c.heap.NoLimit) (hg:c.gens=#[])
  (C:c.heap.get? a=some { cls:=.type "list",data:=.seq i.toArray }) (R:IntsAre i l) (Q:l.length<=sizeLine) (hr:f9 k callerA)
  (F:∀base:ay,K.In base->base.Ns mainGlobals mg->o8 P w K mg base Y k fa T [x] L) (E:∀s u,BindsTo s T ⟨[u],[]⟩ [(x,u)])
  (sv:∀H:Hp,RJ H->bP K H a (l.map V.int)->L [.ref a] H (λv _=>v=.bl true) λ_ _ _=>False)
  (D:∀H e f,Y [] H c (λ_ _ _=>False) e f->False) :
  codeAny (model P w) callerA (.call (.ref fa) ⟨[.ref a],[]⟩) (λr f=>r=.ok (.ret (.bool true))/\OldK c.heap f.heap/\f.os=c.os/\AllBare f.gens) c:=by
 have M:=Wb R;have I:=R.length
 -- from an abstract heap in ab6 nothing but N WZ may be tracked
 have core:∀H:Hp,RJ H->bP K H a (l.map V.int)->fH P w H c.heap->(∀b,H b≠none->b=a)->(H a≠none->K.lookup a=none)->
   codeAny (model P w) callerA (.call (.ref fa) ⟨[.ref a],[]⟩) (λr f=>r=.ok (.ret (.bool true))/\OldK c.heap f.heap/\f.os=c.os/\AllBare f.gens) c:=by
  intro H S hS aW hA hK;have X:∀{b:ab}{o:aT},c.heap.get? b=some o->H b=none->(rB c.heap H).get? b=some o:=λe n=>zoD e n
  have BJ:∀{b:ab}{o:aT}{p:Array DictEntry}{t:Nat},c.heap.get? b=some o->o.data=.dict p t->H b=none:=λ{b o p t} e d=>by
   grind
  have y:∀{b:ab}{m:ae->Option aa},c.heap.Ns b m->(rB c.heap H).Ns b m:=λ{b m} ⟨o,p,t,e,d,r⟩=>⟨o,p,t,X e (BJ e d),d,r⟩
  have W:K.In (rB c.heap H):=λb o e=>X (KX b o e) (by
   grind)
  have hM:Mod K mg (rB c.heap H):=⟨W,y O,⟨A,y g,GC⟩,let⟨mc,h1,h2⟩:=J;⟨mc,y h1,h2⟩⟩
  have e0:GZ P w K mg (rB c.heap H) callerA [] c H:=⟨rfl,hM,λb o e=>zq3 e,HA (zlZ _ _),trivial,λb g=>absurd (show b∈([]:List ab) from g) (by nofun),aW,.of_eq hg⟩
  show HC ((F _ W (y O)).run callerA [] c H ⟨[.ref a],[]⟩ [.ref a] [.ref a] _ _ hr e0 (E c (.ref a)) (.cons rfl .nil) (sv H S hS)) λr f h=>?_
  cases r with
  | error e=>show(D H e f h).elim
  | ok fl=>
   cases fl with
   | next=>show False.elim h
   | brk=>show False.elim h
   | cont=>show False.elim h
   | ret u=>
    obtain⟨v,H',os,bare,un,G,r',q⟩:=h;have q':v=.bl true:=q;subst q';obtain rfl:u=zg true:=r';show⟨rfl,OldK.of_keep λb o e=>?_,os,bare⟩;cases q:H b with
    | none=>show un.keep b o e q (by intro z;show absurd (show b∈([]:List ab) from z) (by nofun)) (by nofun)
    | some u=>
     rcases S b with z | ⟨ob,xs,z⟩
     .rw[q] at z;cases z
     have Z:=un.qH b ob _ z;obtain⟨U,_⟩:=aW b _ z;obtain⟨e2,_⟩:=G b _ Z;rw[e] at U;cases U;show e2
 cases B:K.lookup a with
 | some o=>
  -- N WZ is one of N ace own objects
  have e:=KX a o B;rw[C] at e;cases e;show core (λ_=>none) (λ_=>.inl rfl) (.inr ⟨_,i.toArray,_,B,rfl,rfl,rfl,by rw[cS,I];show Q,by simpa using M⟩) (λb u z=>by have j:(none:Option HO)=some u:=z;cases j) (λb z=>absurd rfl z) λz=>absurd rfl z
 | none=>
  show core (λb=>if b=a then some (.ig { cls:=.type "list",data:=.seq i.toArray } (.lst (l.map V.int))) else none) (λb=>?_) (.inl (.inr ⟨{ cls:=.type "list",data:=.seq i.toArray },if_pos rfl⟩)) (λb u z=>?_) (λb z=>?_) λ_=>B
  .grind
  .by_cases g:b=a
   .have j:=(if_pos g).symm.trans z;cases j;subst g;show⟨C,by rw[ax];show Q,i,_,M,C⟩
   have j:=(if_neg g).symm.trans z;cases j
  by_cases g:b=a
  .exact g
  show absurd (if_neg g) z
noncomputable abbrev OB{K:aj}{h:ay}(_:K.In h):aj:=K
noncomputable def uM(s:cQ):Arguments:=match s with
 | .FunctionDef _ a _ _ _ _ _ _ _ _=>a
 | _=>{ posonlyargs:=[],args:=[],vararg:=none,kwonlyargs:=[],kw_defaults:=[],kwarg:=none,defaults:=[] }
noncomputable def kJ(s:cQ):List cQ:=match s with
 | .FunctionDef _ _ b _ _ _ _ _ _ _=>b
 | _=>[]
noncomputable def fg(s:cQ):iO:=match s with
 | .FunctionDef _ _ _ _ _ _ sc _ _ _=>sc
 | _=>{ kind:=.function,names:=[],isGenerator:=false,isCoroutine:=false }
abbrev kP:sW:=λ_ _ _ _ _ _=>False
abbrev E0:XK:=λ_ _ _=>False
theorem zuO:JZ kP X E0:=λ_ _ _ _ _ _ _ h=>h.elim
structure yO(dV:aa)(K:aj)(x qual:ae)(st:cQ)(f:ab)(fd:j8):Prop where
 ex:∃(oc:aa)(od:Option ab)(kV doc pm:aa)(an:Option ab)(bg ct:aa)(oO:Array (Option aa)),
  fd=pz x qual (uM st) (kJ st) (fg st) dV kV doc pm an bg ct/\K.lookup f=some ⟨oc,od,.func fd,oO⟩/\C4 K bg qual=true
 kp:wR K (.ref f)=true
noncomputable abbrev YU:=yO .none
section
variable{K:aj}
theorem yO.ok{st:cQ}(F:yO l K x a st f e)(S:uW N ps (fg st))(len:∀b H Q E,d b H Q E->b.length=ps.length)
  (m:∀c A outer s H b Q E,f9 k (A.deeper (envOfC a (fg st) s.heap.objs.size f c))->d b H Q E->
   ∃t,j5 (nk kP P w K mg base N a (fg st) f c A outer s H E).qo (kJ st) t/\t { nx:=λ_ H'=>Q .non H',rt:=Q } (start N b) H):o8 P w K mg base kP (k+1) f e ps d:=by
 obtain⟨o,n,kV,doc,pm,an,c,ct,p,rfl,lk,i⟩:=F.ex;show zuL lk i S len λA outer s H b Q E j g=>?_
 obtain⟨t,h,q⟩:=m c A outer s H b Q E j g;show⟨t,h.qo,q⟩
theorem yO.binds{st:cQ}(F:YU K x a st f c)
  (h:∀kV doc pm an b ct us,us.length=ps.length->bindArgs (pz x a (uM st) (kJ st) (fg st) .none kV doc pm an b ct) ⟨us,[]⟩=pure (ps.zip us)):Binds K c ps []:=by
 obtain⟨e,d,kV,doc,pm,an,b,ct,g,rfl,lk,i⟩:=F.ex;show .all (h kV doc pm an b ct)
theorem zs8{st:cQ}{e kV b pm d ct:aa}(l:K.lookup f=some ⟨i,h,.func (pz x a (uM st) (kJ st) (fg st) e kV b pm g d ct),j⟩)
  (c:C4 K d a=true) (k:wR K (.ref f)=true):yO e K x a st f (pz x a (uM st) (kJ st) (fg st) e kV b pm g d ct):=⟨⟨i,h,kV,b,pm,g,d,ct,j,rfl,l,c⟩,k⟩
end
theorem pv(i)(b:X.N[i]?=some x:=by rfl)(hv:yI X.env.scope x:=by first | show Or.inl rfl | show Or.inr (Or.inl rfl) | show Or.inr (Or.inr rfl))(hd:(x==("__debug__":ae))=false:=by decide)
  (a:(x==("__classdict__":ae))=false:=by decide):PE X (.Name x pos) (Je i):=J4 b hv hd a
def aZ(H H':Hp):Prop:=∀b o,H b=some o->H' b=some o
theorem aZ.refl(H):aZ H H:=λ_ _ h=>h
theorem aZ.trans(a:aZ H e)(b:aZ e d):aZ H d:=λc o h=>b c o (a c o h)
theorem aZ.free(e:aZ H H')(h:H' l=OW):H l=OW:=by
 cases q:H l with
 | none=>rfl
 | some o=>
  rw[e l o q] at h;cases h
end L2
set_option maxHeartbeats 0
namespace L2
open PySem PySem.Spec PyProof.Rows
def fO(K:aj)(H:Hp)(a:ab)(xs:List V):Prop:=
 Rd H a (.lst xs)\/∃its n,K.lookup a=some { cls:=.type "list",data:=.seq its n }/\its.size<=sizeLine/\Vals xs its.toList
theorem fO.of{K:aj}(h:H a=some (.lst xs)):fO K H a xs:=.inl (.inl h)
theorem fO.sq{K:aj}(h:fO K H a xs):bP K H a xs:=by
 rcases h with h | ⟨its,n,c,b,h3⟩
 .exact .inl h
 show .inr ⟨_,its,n,c,rfl,rfl,rfl,b,h3⟩
theorem aZ.cH{K:aj}(e:aZ H H')(h:fO K H a xs):fO K H' a xs:=by
 rcases h with(h | ⟨o,h⟩) | h
 .exact .inl (.inl (e _ _ h))
 .exact .inl (.inr ⟨o,e _ _ h⟩)
 show .inr h
theorem Inv.cH{b:St}(I:Inv X f b H s)(h:fO X.K H a xs):xs.length<=sizeLine/\∃(its:List aa)(n:Nat),Vals xs its/\s.heap.get? a=some { cls:=.type "list",data:=.seq its.toArray n }:=by
 rcases h with h | ⟨its,n,d,c,h3⟩
 .obtain⟨z,its,n,r,e⟩:=h.ok I.aW;show⟨z,its,n,r,e⟩
 show⟨by rw[h3.length];simpa using c,its.toList,n,h3,?_⟩;show I.mn a _ d
noncomputable def iA(cells:List (ae×ab)):List (ae×NameKind)->List (ae×ab)->List (ae×ab)
 | [],acc=>acc
 | (n,k)::r,acc=>iA cells r (if k==.free then(n,(cells.lookup n).getD 0)::acc else acc)
theorem Wd:∀names acc,(∀x∈names,x.2=.free->∃c,env.cells.lookup x.1=some c)->
  (forIn names acc λ(x:ae×NameKind)(r:List (ae×ab))=>
   (if (x.2==m6)=true then do let a <-cellOf env x.1;pure (tE ((x.1,a)::r)) else pure (tE r):Sem (ForInStep (List (ae×ab)))))=pure (iA env.cells names acc)
 | [],acc,_=>by rfl
 | (n,k)::r,acc,h=>by
  have b:=λj=>Wd (env:=env) r j λx f=>h x (cK _ f)
  rw[List.forIn_cons];by_cases g:k=.free
  .subst g;obtain⟨c,e⟩:=h (n,.free) (by show .head _) rfl;have i:cellOf env n=pure c:=by unfold cellOf;rw[e]
   simp only[beq_self_eq_true,cO,i,pure_bind];rw[b];simp[iA,e]
  have d:(k==m6)=false:=by show if_neg ‹_›
  simp only[d,dW,cM,pure_bind];rw[b];simp[iA,d]
theorem Wt(h:∀x∈scope.names,x.2=.free->∃c,env.cells.lookup x.1=some c):closureFor scope env=pure (iA env.cells scope.names []):=by
 have e:closureFor scope env=(forIn scope.names ([]:List (ae×ab)) λ(x:ae×NameKind)(r:List (ae×ab))=>
   (if (x.2==m6)=true then do let a <-cellOf env x.1;pure (tE ((x.1,a)::r)) else pure (tE r):Sem (ForInStep (List (ae×ab))))) >>= λr=>pure r:=rfl
 rw[e,Wd _ _ h];rfl
theorem Vz:∀{names acc x c},(x,c)∈iA cells names acc->(x,c)∈acc\/((x,.free)∈names/\c=(cells.lookup x).getD 0)
 | [],acc,x,c,h=>.inl h
 | (n,k)::r,acc,x,c,h=>by
  rcases Vz (names:=r) h with h | ⟨h,e⟩
  all_goals grind
theorem Vy:∀{names acc p},p∈acc->p∈iA cells names acc
 | [],acc,p,h=>h
 | (n,k)::r,acc,p,h=>Vy (names:=r) (by split<;>simp[h])
theorem KJ:∀{names acc x},(x,.free)∈names->∃c,(x,c)∈iA cells names acc
 | (n,k)::r,acc,x,h=>by
  rcases bG.mp h with h | h
  .have b:x=n:=dN Prod.fst h;have a:m6=k:=dN Prod.snd h;subst b a;show⟨(cells.lookup x).getD 0,?_⟩;show(x,(cells.lookup x).getD 0)∈iA cells r (if (m6==m6)=true then(x,(cells.lookup x).getD 0)::acc else acc);show Vy (by show .head _)
  show KJ (names:=r) h
theorem Fw{α:Type}:∀{l:List (ae×α)}{x c},(x,c)∈l->∃a,l.lookup x=some a
 | (n,k)::r,x,c,h=>by
  by_cases e:x=n
  .subst e;show⟨k,by simp[PL]⟩
  have b:(x==n)=false:=by show if_neg ‹_›
  rcases bG.mp h with h | h
  .cases h;show absurd rfl e
  obtain⟨a,q⟩:=Fw h;show⟨a,by simp[PL,b,q]⟩
theorem LN{env:eI}:∀{names:List (ae×NameKind)}{x:ae},
  (names.map λ(n,k)=>if (k==m6&&env.scope.kind==.function&&env.kindOf n==some .cell) then(n,wQ) else(n,k)).lookup x
   = (names.lookup x).map λk=>if (k==m6&&env.scope.kind==.function&&env.kindOf x==some .cell) then wQ else k
 | [],x=>rfl
 | (n,k)::r,x=>by
  have a:=@LN env r x;grind
theorem LG:∀names n acc a,cellsFrom n names (acc++a)=cellsFrom n names acc++a
 | [],_,_,_=>rfl
 | (x,k)::r,n,acc,a=>by
  unfold cellsFrom;split
  .exact LG r (n+1) ((x,n)::acc) a
  show LG r n acc a
theorem LF:∀{names n acc p},p∈cellsFrom n names acc->p∈acc\/(p.1,.cell)∈names
 | [],_,_,_,h=>.inl h
 | (x,k)::r,n,acc,p,h=>by
  unfold cellsFrom at h;split at h
  .rename_i a;rcases LF h with h | h
   all_goals grind
  show(LF h).imp id (cK _)
theorem Bc:∀{names n acc p},p∈acc->p∈cellsFrom n names acc
 | [],_,_,_,h=>h
 | (x,k)::r,n,acc,p,h=>by
  unfold cellsFrom;split
  .exact Bc (cK _ h)
  show Bc h
theorem LD:∀{names n acc x},(x,.cell)∈names->∃c,(x,c)∈cellsFrom n names acc
 | (y,k)::r,n,acc,x,h=>by
  unfold cellsFrom;rcases bG.mp h with h | h
  .cases h;show⟨n,Bc (by show .head _)⟩
  split
  .exact LD h
  show LD h
theorem zoS
  (g:∀h',h'=pushCells (s.heap.push { cls:=.type "dict",data:=.dict #[] }) scope.names->Q (newEnv scope s.heap.objs.size a (cellsFrom (s.heap.objs.size+1) scope.names b) c d e (some out) builtinsNs) { s with heap:=h' }) :
  wpAny M A (newFunctionEnv scope a b [] c d e (some out)) Q E s:=by
 simp only[newFunctionEnv,Ij,cO];show ag (wpAny_alloc ?_);show ag (wpAny_layCells _ (λname kind cells=>by cases f:kind==wQ<;>simp[f]) _ _ _ _ ?_);rw[show({ s with heap:=s.heap.push { cls:=.type "dict",data:=.dict #[] } }:ai).heap.objs.size=s.heap.objs.size+1 from jm ..];show ag (az (az (g _ rfl)))
noncomputable abbrev jF(X:Cx)(N':List ae)(scope:iO)(a:ai)(b:Hp)(ex:List ab)(XE:aa->ai->Prop):Cx:=
 { X with N:=N',gq:=a,CD:=b,env:=compEnvC scope (cellsFrom (a.heap.objs.size+1) scope.names (iA X.env.cells scope.names [])) a.heap.objs.size X.env,outer:=X.stack,stack:=X.stack,ex:=ex,fn:=λx=>scope.names.lookup x==some .cell,pn:=[],xe:=XE }
noncomputable abbrev jg(X:Cx)(N':List ae)(scope:iO)(a:ai)(b:Hp)(ex:List ab):Cx:=jF X N' scope a b ex λ_ _=>False
def OI(X:Cx)(C:ab)(x:aa)(a:ai):Prop:=
 ∃m,a.heap.Ns C m/\∀h',oh C a.heap h'->∀b:eI,b.locals=C->wpAny (model X.prog X.w) X.A (passOn "comprehension.variables-let-go" x b:Sem aa) (λ_ _=>False) X.xe { a with heap:=h' }
noncomputable def qu(m:List (Option Nat))(a:St):St:=m.map λo=>match o with
 | none=>none
 | some j=>(a[j]?).join
structure kO(X:Cx)(N':List ae)(m:List (Option Nat))(scope:iO):Prop where
 kind:scope.kind=.function
 len:m.length=N'.length
 uniq:∀y∈scope.names,scope.names.lookup y.1=some y.2
 free:∀y∈scope.names,y.2=.free->X.env.kindOf y.1=some .cell\/X.env.kindOf y.1=some .free
 cap:∀(i j:Nat)(x:ae),m[i]?=some (some j)->N'[i]?=some x->X.N[j]?=some x/\scope.names.lookup x=some .free
def uU(X:Cx)(a:List av)(t:TT):Prop:=
 ∀b s (σ:St) H Q,Inv X b σ H s->t σ H Q->
  wpAny (model X.prog X.w) X.A (forIn a true λc r=>if r=true then do let ok <-isTrue c X.env (eval c X.env);pure (tE ok) else pure (tE r)) (TP X b σ Q) X.xe s
def ZP:TT:=λ_ H Q=>Q true H
theorem zrk:uU X [] ZP:=λ_ _ σ H _ I h=>wpAny_tests_nil ⟨H,I,h⟩
theorem zrl(h:PT X c t):uU X [c] t:=λa s σ H Q I q=>wpAny_tests_one (h a s σ H Q I q)
section
variable{prog:aG}{w:aF}{A:br}{R:Result->ai->Prop}{s:ai}
theorem ziP{g a e:av}{f:List av}{scope:iO}{pos:aI}{j acc:aa}{env:eI}{b:aa->ai->Prop}(d:∀x s,b x s->notedBy (model prog w) A env (λx z=>R (.error x) z) x s)(I:Nat->ai->Prop)
  (turn:∀n s,I n s->wpAny (model prog w) A (pyNext j) (λr k=>match r with
   | none=>R (.ok .next) k
   | some v=>wpAny (model prog w) A (letOwnedTupleGo a j v) (λ_ t=>wpAny (model prog w) A (assign a env v) (λ_ p=>
     wpAny (model prog w) A (forIn f true λc r=>if r=true then do let ok <-isTrue c env (eval c env);pure (tE ok) else pure (tE r)) (λok i=>
      if ok=true then wpAny (model prog w) A (eval g env) (λx y=>
       wpAny (model prog w) A (call (.builtin "list.append") [acc,x]) (λ_ u=>∃m,m<n/\I m u) b y) b i
      else ∃m,m<n/\I m i) b p) b t) b k) b s)
  (n:Nat) (h:I n s) :
  codeAny (model prog w) A (.compLoop (.ListComp g [⟨a,e,f,0⟩] scope pos) 0 j acc env) R s:=by
 show codeAny_loop rfl I (λn s D=>?_) n h;show wpAny_noted ?_;show ag (CY (ag (g7 (turn n s D) (λr k q=>?_) d)));cases r with
 | none=>show az q
 | some v=>
  show ag (g7 q (λ_ t l=>?_) d);show ag (g7 l (λ_ p B=>ag (g7 B (λok i o=>?_) d)) d);cases ok with
  | false=>show az ⟨rfl,o⟩
  | true=>
   show ag (ag (g7 o (λx y C=>ag (g7 C (λ_ u E=>az (az ⟨rfl,E⟩)) d)) d))
end
noncomputable abbrev ji(α:Type):=ai->Hp->List ab->α
def rK(j:TI)(m:List (Option Nat))(g:ji TG)(tc:ji TT)(te:ji TE):TE:=λσ H Q=>j σ H λJ H1=>∀D,H1 D=none->∀s3 ex,
 ∃W:Nat->Nat->St->Hp->Prop,(∃k,W 0 k (qu m σ) (upd H1 D (.lst [])))/\∀i k a H',W i k a H'->
  (J.stop i H'/\Q (.ref D) H')\/(J.go i H'/\∃N:St->Hp->Prop,(∀a H',N a H'->∃d,d<k/\W (i+1) d a H')/\
   ∀x h,J.Fz i H' x h->g s3 (upd H1 D (.lst [])) ex x a h λc l=>tc s3 (upd H1 D (.lst [])) ex c l λb f=>
    if b=true then te s3 (upd H1 D (.lst [])) ex c f λv e=>∃xs,e D=some (.lst xs)/\xs.length<sizeLine/\N c (upd e D (.lst (xs++[v]))) else N c f)
section
variable{X:Cx}{m:List (Option Nat)}
theorem zoT{t:St}{fp:List ab}(cs:kO X N' m scope)(I:Inv X S t H s)(f:∀b∈fp,mM X S H b)(P:∀b∈fp,b<s.heap.objs.size)
  (E:B=pushCells (s.heap.push { cls:=.type "dict",data:=.dict #[] }) scope.names) :
  Inv (jF X N' scope s H fp XE) [] (qu m t) H { s with heap:=B,toks:=tk }:=by
 have A:∀b o,s.heap.get? b=some o->B.get? b=some o:=λb o e=>by rw[E];show HR _ _ b o (bZ _ e)
 have V:B.Ns s.heap.objs.size (λ_=>none):=by rw[E];show(Heap.Ns.new s.heap (.type "dict")).keeps (HR _ _)
 have ok:=cellsFrom_ok scope.names (s.heap.push { cls:=.type "dict",data:=.dict #[] }) (s.heap.objs.size+1) [] ⟨λ_ _ hm=>(nomatch hm),P4⟩ (by rw[jm];show bx _);rw[jm,<-E] at ok;have Y:∀y∈scope.names,y.2=.free->∃c,X.env.cells.lookup y.1=some c:=λy hy hf=>I.ok.has y.1 (cs.free y hy hf)
 have app:cellsFrom (s.heap.objs.size+1) scope.names (iA X.env.cells scope.names [])=cellsFrom (s.heap.objs.size+1) scope.names []++iA X.env.cells scope.names []:=LG _ _ [] _
 /- a cell: of its own,or one from jP -/
 have r:∀x c,(cellsFrom (s.heap.objs.size+1) scope.names (iA X.env.cells scope.names [])).lookup x=some c->((x,c)∈cellsFrom (s.heap.objs.size+1) scope.names []/\scope.names.lookup x=some .cell)\/(X.env.cells.lookup x=some c/\scope.names.lookup x=some .free):=λx c e=>by
  have hm:=tJ e;rw[app] at hm;rcases cj.mp hm with hm | hm
  .refine .inl ⟨hm,?_⟩;rcases LF hm with z | z
   .cases z
   show cs.uniq _ z
  rcases Vz hm with z | ⟨z,Q⟩
  .cases z
  obtain⟨G,q⟩:=Y _ z rfl;rw[q] at Q;show .inr ⟨by rw[q,Q];rfl,cs.uniq _ z⟩
 have old:∀x c,X.env.cells.lookup x=some c->c<s.heap.objs.size:=λx c e=>by obtain⟨v,z⟩:=I.cell x c e;show z.lt
 show⟨⟨I.ok.mod,cs.kind,I.ok.glob,I.ok.blt,bx _,λx y c e1 e2=>?inj,λx D=>?_,λx c D e=>?cab,I.ok.hd,I.ok.frames,.inl rfl,λb l=>⟨c7 (P b l),λx c e=>?exf⟩,
  λb o e=>I.bs b o e,bU I.ok.wA I.sz,λb o e l=>?_,λb l z=>?_,I.stack,I.WU⟩,
  rfl,I.bare,Un.kept A,⟨_,V,λi x v h1 d h3=>?_⟩,λx c e=>?_,I.aW.fresh (bx _),λx c e=>?frc,λp hp=>(by cases hp),I.aW.kept A,?_⟩
 case inj=>
  rcases r x c e1 with⟨g,_⟩ | ⟨o1,_⟩<;>rcases r y c e2 with⟨N,_⟩ | ⟨M,_⟩
  .exact PySem.name_of_addr ok.apart g N
  .exact absurd (old y c M) (OP.mpr (bU (lP _) (ok.empty x c g).2))
  .exact absurd (old x c o1) (OP.mpr (bU (lP _) (ok.empty y c N).2))
  show I.ok.inj x y c o1 M
 case cab=>
  rcases r x c e with⟨g,_⟩ | ⟨_,z⟩
  .exact bU (lP _) (ok.empty x c g).2
  have h:(scope.names.lookup x==some .cell)=true:=D;rw[z] at h;cases h
 case exf=>
  rcases r x c e with⟨g,_⟩ | ⟨o1,_⟩
  .exact kT (iN (tH (P b l)) (ok.empty x c g).2)
  show(f b l).2.2.2.2.1 x c o1
 case frc=>
  rcases r x c e with⟨g,_⟩ | ⟨o1,_⟩
  .exact I.aW.fresh (bU (lP _) (ok.empty x c g).2)
  show I.oY x c o1
 .have h:(relabel scope X.env).names.lookup x=some .cell\/(relabel scope X.env).names.lookup x=some .free:=D;have e:(relabel scope X.env).names.lookup x=(scope.names.lookup x).map λk=>if (k==m6&&X.env.scope.kind==.function&&X.env.kindOf x==some .cell) then wQ else k:=LN
  rw[e] at h;have hf:(x,m6)∈scope.names\/(x,wQ)∈scope.names:=by
   cases q:scope.names.lookup x with
   | none=>rw[q] at h;simp at h
   | some k=>
    rw[q] at h;have hm:=tJ q;by_cases L:k=.free
    .subst L;show .inl hm
    have Z:(k==m6)=false:=by show if_neg ‹_›
    simp only[Z,kd,zt,dW,cM,gK] at h;rcases h with z | z
    .subst z;show .inr hm
    show absurd z L
  show ∃c,(cellsFrom (s.heap.objs.size+1) scope.names (iA X.env.cells scope.names [])).lookup x=some c
  rcases hf with hf | hf
  .obtain⟨c,F⟩:=KJ (cells:=X.env.cells) (acc:=[]) hf;show Fw (Bc F)
  obtain⟨c,F⟩:=LD (n:=s.heap.objs.size+1) (acc:=iA X.env.cells scope.names []) hf;show Fw F
 .rcases(f b l).2.2.2.1 with z | z
  .exact I.ok.BI b o e z
  show absurd (iN (bX (I.ok.bs b o e).1) z) (iM _)
 .rcases bG.mp (I.L7 b z) with q | q
  .exact(f b l).2.1 q
  show(f b l).2.2.1 q
 .unfold qu at d;rw[bE] at d;cases q:m[i]? with
  | none=>rw[q] at d;cases d
  | some o=>
   rw[q] at d;cases o with
   | none=>cases d
   | some j=>
    simp only[kd,gK] at d;have Yu:t[j]?=some (some v):=by
     cases z:t[j]? with
     | none=>rw[z] at d;cases d
     | some a=>rw[z] at d;simp at d;rw[d]
    obtain⟨hN,K⟩:=cs.cap i j x q h1;have R:=tJ K;obtain⟨m0,hn0,hl⟩:=I.loc;have T:=cs.free _ R rfl;have J:yI X.env.scope x:=T.elim (λz=>.inr (.inl z)) (λz=>.inr (.inr z));obtain⟨u,U,W⟩:=hl j x v hN Yu J;show⟨u,U,.inr ⟨?_,?_⟩⟩
    .show(relabel scope X.env).names.lookup x=some .cell\/(relabel scope X.env).names.lookup x=some .free;have e:(relabel scope X.env).names.lookup x=(scope.names.lookup x).map λk=>if (k==m6&&X.env.scope.kind==.function&&X.env.kindOf x==some .cell) then wQ else k:=LN
     rw[e,K];simp only[kd];split
     .exact .inl rfl
     show .inr rfl
    rcases W with⟨k,_⟩ | ⟨_,c,e,z⟩
    .rcases T with z | z<;>· rw[k] at z;cases z
    obtain⟨G,O⟩:=Fw (Bc (names:=scope.names) (n:=s.heap.objs.size+1) (KJ (cells:=X.env.cells) (acc:=[]) R).choose_spec);have:X.env.cells.lookup x=some G:=by
     rcases r x G O with⟨_,z⟩ | ⟨z,_⟩
     .rw[K] at z;cases z
     show z
    rw[e] at this;cases this;obtain⟨w,C,hd⟩:=z;show⟨c,O,w,A c w C,hd⟩
 .rcases r x c e with⟨g,_⟩ | ⟨o1,_⟩
  .exact⟨none,(ok.empty x c g).1⟩
  obtain⟨v,w,C,hd⟩:=I.cell x c o1;show⟨v,w,A c w C,hd⟩
 show(qu m t).length=N'.length;unfold qu;rw[ax,cs.len]
def OH(X:Cx)(a:ai)(d:Hp)(ex:List ab):Prop:=∃c σ,Inv X c σ d a/\∀b∈ex,mM X c d b/\b<a.heap.objs.size
theorem Wa{t:St}
  {XE:ai->aa->ai->Prop} (Cb:∀s3 x k,XE s3 x k->notedBy (model X.prog X.w) X.A (compEnvC scope (cellsFrom (s3.heap.objs.size+1) scope.names (iA X.env.cells scope.names [])) s3.heap.objs.size X.env) (OI X s3.heap.objs.size) x k)
  (hc:X.calm=true) (cs:kO X N' m scope) (hi:PI X tg iter wi) (hg:∀s3 q ex,PG (jF X N' scope s3 q ex (XE s3)) tg (g s3 q ex)) (ht:∀s3 q ex,uU (jF X N' scope s3 q ex (XE s3)) ifs (tc s3 q ex))
  (he:∀s3 q ex,OH X s3 q ex->PE (jF X N' scope s3 q ex (XE s3)) elt (te s3 q ex)) (I:Inv X l t H s) (h:rK wi m g tc te t H Q)
  (fin:∀D C k H',Inv X l t H' k->mM X l H' C->(∃m,k.heap.Ns C m)->Q (.ref D) H'->compPost (model X.prog X.w) X.A X.xe use Q' (.ref D) C (.ok .next) k) :
  wpAny (model X.prog X.w) X.A (eval iter X.env) (λx bM=>wpAny (model X.prog X.w) X.A (pyIter x) (λit ku=>wpAny (model X.prog X.w) X.A (newList []) (λacc ue=>
   wpAny (model X.prog X.w) X.A (newFunctionEnv scope X.env.globals (iA X.env.cells scope.names []) [] X.env.qual none .none (some X.env)) (λCs FI=>
    codeAny (model X.prog X.w) X.A (.compStart (.ListComp elt [⟨tg,iter,ifs,0⟩] scope pos) 0 it acc { Cs with scope:=relabel scope X.env }) (compPost (model X.prog X.w) X.A X.xe use Q' acc Cs.locals) FI) X.xe ue) X.xe ku) X.xe bM) X.xe s:=by
 show aR (hi l s t H _ I h) λv s1 h1=>aR h1 λMJ s2 h2=>?_
 obtain⟨it,fp,R,J,j,e,I2,T,bj,f2,h⟩:=h2;subst e;show kR (zoS λY X8=>?_);have hf:j s2.heap.objs.size=none:=I2.aW.fresh (bx _);obtain⟨W,⟨k0,w0⟩,turn⟩:=h s2.heap.objs.size hf { s2 with heap:=s2.heap.push { cls:=.type "list",data:=.seq ([]:List aa).toArray } } fp;have P:Inv X l t (upd j s2.heap.objs.size (.lst [])) { s2 with heap:=s2.heap.push { cls:=.type "list",data:=.seq ([]:List aa).toArray } }:=I2.F8 (its:=[]) (t':=s2.toks) .nil (by simp);have YA:∀b∈fp,b<s2.heap.objs.size:=λb a=>by
  obtain⟨o,e,_⟩:=T.obj _ _ bj b a;show bX e
 have Z:∀b∈fp,mM X l (upd j s2.heap.objs.size (.lst [])) b:=λb a=>⟨by rw[bA (c7 (YA b a))];show(f2 b a).1,(f2 b a).2⟩
 generalize XJ:({ s2 with heap:=s2.heap.push { cls:=.type "list",data:=.seq ([]:List aa).toArray } }:ai)=s3 at *;have hC:s3.heap.objs.size=s2.heap.objs.size+1:=by rw[<-XJ];show jm ..
 have NA:∀b∈fp,b<s3.heap.objs.size:=λb a=>by rw[hC];show tH (YA b a)
 have k3:∀b o,s2.heap.get? b=some o->s3.heap.get? b=some o:=λb o e=>by rw[<-XJ];show bZ _ e
 have k1:∀b o,s3.heap.get? b=some o->Y.get? b=some o:=λb o e=>by rw[X8];show HR _ _ b o (bZ _ e)
 have J0:=zoT (XE:=XE s3) (tk:=s3.toks) cs P Z NA X8;have rX:R 0 Y:=T.keep _ _ _ bj λb _ o e=>k1 b o (k3 b o e)
 have Nz:∀{H':Hp},(∀b∈fp,H' b=none)->∀b∈fp,mM (jF X N' scope s3 (upd j s2.heap.objs.size (.lst [])) fp (XE s3)) [] H' b:=λhn b a=>
  ⟨hn b a,c7 (NA b a),J0.ok.Cg b a,.inl a,(J0.ok.exf b a).2,λp hp=>by cases hp⟩
 have B7:∀b∈fp,(upd j s2.heap.objs.size (.lst [])) b=none:=λb a=>(Z b a).1
 have loop:codeAny (model X.prog X.w) X.A (.compLoop (.ListComp elt [⟨tg,iter,ifs,0⟩] scope pos) 0 (.ref it) (.ref s2.heap.objs.size) (compEnvC scope (cellsFrom (s3.heap.objs.size+1) scope.names (iA X.env.cells scope.names [])) s3.heap.objs.size X.env))
   (compPost (model X.prog X.w) X.A X.xe use Q' (.ref s2.heap.objs.size) s3.heap.objs.size) { s3 with heap:=Y }:=by
  show ziP (Cb s3) (λn k=>∃i G H',Inv (jF X N' scope s3 (upd j s2.heap.objs.size (.lst [])) fp (XE s3)) [] G H' k/\R i k.heap/\(∀b∈fp,H' b=none)/\W i n G H') ?_ k0 ⟨0,_,_,J0,rX,B7,w0⟩;rintro n s4 ⟨i,M,L,I4,WV,sM,w4⟩;rcases turn i n M L w4 with⟨stop,qn⟩ | ⟨go,N,hN,step⟩
  .refine aR (T.done (jF X N' scope s3 (upd j s2.heap.objs.size (.lst [])) fp (XE s3)) rfl rfl rfl hc i [] s4 M L _ I4 (Nz sM) WV stop) λr s5 f=>?_
   obtain⟨U,E⟩:=f;subst U;have jB:∀b∈fp,(b∈X.ex\/X.gq.heap.objs.size<=b)/\b≠X.env.locals/\(∀x c,X.env.cells.lookup x=some c->c≠b)/\∀p∈X.pn++l,p.1≠b:=λb a=>⟨(f2 b a).2.2.2.1,(f2 b a).2.1,(f2 b a).2.2.2.2.1,(f2 b a).2.2.2.2.2⟩
   have I6:Inv X l t L s5:=P.abr (ch:=fp) E.os E.base E.aW E.bare jB;obtain⟨m5,V,_⟩:=id E.loc;show fin _ _ s5 L I6 (P.nJ (bx _) E.free) ⟨m5,V⟩ qn
  show aR (T.item (jF X N' scope s3 (upd j s2.heap.objs.size (.lst [])) fp (XE s3)) rfl rfl rfl hc i [] s4 M L _ I4 (Nz sM) WV go) λr s5 f=>?_
  obtain⟨u,U,h5⟩:=f;subst U;show aR h5 λ_ s6 f=>?_
  obtain⟨x,H6,I6,r6,y6,L9,GN⟩:=f;have I6':=I6.pinned (Nz GN) (T.obj _ _ L9);show aR (hg _ _ _ _ s6 M H6 x u _ I6' r6 (step x H6 y6)) λ_ s7 f=>?_
  obtain⟨O,H7,I7,q7⟩:=f;show aR (ht _ _ _ _ s7 O H7 _ I7 q7) λb s8 f=>?_
  obtain⟨H8,I8,q8⟩:=f;have again:∀{B:ai}{F:St}{z:Hp},Inv (jF X N' scope s3 (upd j s2.heap.objs.size (.lst [])) fp (XE s3)) ([]++Ao fp s6.heap) F z B->N F z->∃m,m<n/\∃i G H',Inv (jF X N' scope s3 (upd j s2.heap.objs.size (.lst [])) fp (XE s3)) [] G H' B/\R i B.heap/\(∀b∈fp,H' b=none)/\W i m G H':=λ{B F z} K n9=>by
   obtain⟨m',hm,w9⟩:=hN F z n9;show⟨m',hm,i+1,F,z,K.FA,T.keep _ _ _ L9 λb a o e=>(K.pin (b,o) (eK _ (eK _ (Fo a e)))).1,λb a=>?_,w9⟩;obtain⟨o,e,d⟩:=T.obj _ _ L9 b a;show(K.pin (b,o) (eK _ (eK _ (Fo a e)))).2.1
  cases b with
  | false=>show again I8 q8
  | true=>
   show aR (he _ _ _ ⟨l,t,P,λb a=>⟨Z b a,NA b a⟩⟩ _ s8 O H8 _ I8 q8) λy B f=>?_
   obtain⟨v9,z,K,r9,xs,hD,hz,q9⟩:=f;show aR (Lr _ B O z (.ref s2.heap.objs.size) [v9] (.ref s2.heap.objs.size) [y] (λ_ H'=>N O H') K rfl (.cons r9 .nil) ⟨_,xs,v9,rfl,rfl,hD,hz,q9⟩) λ_ rY f=>?_
   obtain⟨_,H10,I10,_,S⟩:=f;show again I10 S
 show codeAny_compStart_list loop (T.self _ 0 _ _ _ rX loop)
theorem zoU{XE:ai->aa->ai->Prop}(F:∀s3 x f,XE s3 x f->notedBy (model X.prog X.w) X.A (compEnvC scope (cellsFrom (s3.heap.objs.size+1) scope.names (iA X.env.cells scope.names [])) s3.heap.objs.size X.env) (OI X s3.heap.objs.size) x f)(z:X.calm=true)(cs:kO X N' m scope)(u:PI X tg iter wi)(v:∀s3 a ex,PG (jF X N' scope s3 a ex (XE s3)) tg (g s3 a ex))(n:∀s3 a ex,uU (jF X N' scope s3 a ex (XE s3)) ifs (tc s3 a ex))
  (he:∀s3 a ex,OH X s3 a ex->PE (jF X N' scope s3 a ex (XE s3)) elt (te s3 a ex)) (p:∀x,foldedSetIterable iter X.env x=pure x:=by intro _;rfl):PE X (.ListComp elt [⟨tg,iter,ifs,0⟩] scope pos) (rK wi m g tc te):=by
 intro G s σ H Q I h;have l:∀y∈scope.names,y.2=.free->∃c,X.env.cells.lookup y.1=some c:=λy i hf=>I.ok.has y.1 (cs.free y i hf)
 show Q9 (use:=none) rfl p (Wt l) cs.kind (λy i t=>by rw[cs.uniq y i,t]) (Wa F z cs u v n he I h λD C f H' E d ⟨k,r⟩ q=>?_);show⟨k,r,λh' j=>⟨.ref D,H',E.turned (t':=f.toks) (λb o B e=>(j.2 b B).trans e) d.1 d.2.1 d.2.2.2.1 d.2.2.2.2.1 d.2.2.2.2.2,rfl,q⟩⟩
theorem Ub(f:X.calm=true)(cs:kO X N' m scope)(d:PI X tg iter wi)(e:∀s3 a ex,PG (jg X N' scope s3 a ex) tg (g s3 a ex))(b:∀s3 a ex,uU (jg X N' scope s3 a ex) ifs (tc s3 a ex))
  (he:∀s3 a ex,PE (jg X N' scope s3 a ex) elt (te s3 a ex)) (c:∀x,foldedSetIterable iter X.env x=pure x:=by intro _;rfl):PE X (.ListComp elt [⟨tg,iter,ifs,0⟩] scope pos) (rK wi m g tc te):=zoU (XE:=λ_ _ _=>False) (λ_ _ _ z=>z.elim) f cs d e b (λs3 a ex _=>he s3 a ex) c
theorem zoV{XE:ai->aa->ai->Prop}(Cb:∀s3 x k,XE s3 x k->notedBy (model X.prog X.w) X.A (compEnvC scope (cellsFrom (s3.heap.objs.size+1) scope.names (iA X.env.cells scope.names [])) s3.heap.objs.size X.env) (OI X s3.heap.objs.size) x k)(W:X.N.Nodup)(F:X.N[i]?=some x)(K:Loc X.env.scope x)
  (U:X.calm=true) (cs:kO X N' m scope) (S:PI X tg iter wi) (T:∀s3 f ex,PG (jF X N' scope s3 f ex (XE s3)) tg (g s3 f ex)) (L:∀s3 f ex,uU (jF X N' scope s3 f ex (XE s3)) ifs (tc s3 f ex))
  (he:∀s3 f ex,OH X s3 f ex->PE (jF X N' scope s3 f ex (XE s3)) elt (te s3 f ex)) (M:∀x,foldedSetIterable iter X.env x=pure x:=by intro _;rfl)
  (B:swapsWith (.ListComp elt [⟨tg,iter,ifs,0⟩] scope pos) (some (.Name x d)) v.line X.env=pure true:=by rfl)
  (r:X.fn x=true\/X.env.scope.names.lookup x=some .local:=by first | show .inl rfl | show .inr rfl | assumption) :
  PS X (.Assign [.Name x d] (.ListComp elt [⟨tg,iter,ifs,0⟩] scope pos) v) (DW (rK wi m g tc te) (Eb i)):=by
 intro Y s σ H D I h;have J:∀y∈scope.names,y.2=.free->∃c,X.env.cells.lookup y.1=some c:=λy n r=>I.ok.has y.1 (cs.free y n r)
 rw[exec_Assign_Name_used _ _ _ _ B];show ag (CY (ag ?_));show ag (g7 (Q9 (use:=some (assign (.Name x d) X.env)) (Q:=λ_ k=>SP X Y D .next k) rfl M (Wt J) cs.kind (λy n R=>by rw[cs.uniq y n,R]) (Wa Cb U cs S T L he I h λA C k H' I' j ⟨G,P⟩ q=>?_)) (λ_ k O=>az (az O)) λ_ _ e=>e);show P5 (V7 I' W F K (show RelV (.ref A) (.ref A) from rfl) (λs2 Z p=>?_) r);obtain⟨a,l,t⟩:=p;have u:C≠a:=by
  rcases t with rfl | t
  .exact j.2.1
  show λz=>j.2.2.2.2.1 x a t z.symm
 show⟨G,P.sameBut l u,λh' E=>⟨_,H',Z.turned (t':=s2.toks) (λb o V e=>(E.2 b V).trans e) j.1 j.2.1 j.2.2.2.1 j.2.2.2.2.1 j.2.2.2.2.2,q⟩⟩
theorem Ua(p:X.N.Nodup)(e:X.N[i]?=some x)(f:Loc X.env.scope x)
  (o:X.calm=true) (cs:kO X N' m scope) (k:PI X tg iter wi) (l:∀s3 a ex,PG (jg X N' scope s3 a ex) tg (g s3 a ex)) (h:∀s3 a ex,uU (jg X N' scope s3 a ex) ifs (tc s3 a ex))
  (he:∀s3 a ex,PE (jg X N' scope s3 a ex) elt (te s3 a ex)) (j:∀x,foldedSetIterable iter X.env x=pure x:=by intro _;rfl)
  (d:swapsWith (.ListComp elt [⟨tg,iter,ifs,0⟩] scope pos) (some (.Name x b)) c.line X.env=pure true:=by rfl)
  (n:X.fn x=true\/X.env.scope.names.lookup x=some .local:=by first | show .inl rfl | show .inr rfl | assumption) :
  PS X (.Assign [.Name x b] (.ListComp elt [⟨tg,iter,ifs,0⟩] scope pos) c) (DW (rK wi m g tc te) (Eb i)):=zoV (XE:=λ_ _ _=>False) (λ_ _ _ z=>z.elim) p e f o cs k l h (λs3 a ex _=>he s3 a ex) j d n
end
theorem JY:2<=sizeLine:=by decide
theorem Inv.oH{h:St}{fp:List ab}(I:Inv X g h H s)(k:∀b o,b∉fp->s.heap.get? b=some o->h'.get? b=some o)(f:∀b∈fp,mM X g H b) :
  Inv X g h H { s with heap:=h',toks:=t' }:=by
 have i:∀b u,H b=some u->b∉fp:=λb u e z=>by rw[(f b z).1] at e;cases e
 show I.step (g':=s.gens) (d':=s.drawn) (ch:=fp) (λb d=>⟨(f b d).2.2.2.1,(f b d).2.1,(f b d).2.2.2.2.1,(f b d).2.2.2.2.2⟩) (λb o _ _ a e _=>k b o a e) (λb o _ _ a e _=>⟨o.slots,k b o a e⟩) (λ_ _ _ _ n=>n)
  (λb o a e=>⟨o,k b o a e⟩) (λ_ _ e=>e) (λ_ _ _ e=>e) (λb ps e=>⟨#[],by rw[e];rfl⟩) (λm hm=>?_) (λb u e=>?_) I.bare
 .obtain⟨o,l,p,j,r⟩:=hm;show⟨o,l,p,k _ o (λz=>(f _ z).2.1 rfl) j,r⟩
 show(I.aW b u e).lq (λc v a q=>k c v ?_ q) (λ_ q=>q) λ_ _ q=>q
 rcases a with z | z
 .rw[z];show i b u e
 show i c _ z
theorem Inv.L1{j:St}{fp:List ab}{a:ab}(I:Inv X i j H s)(k:∀b o,b∉fp->s.heap.get? b=some o->h'.get? b=some o)(f:∀b∈fp,mM X i H b)
  (p:s.heap.objs.size<=a) (new:fP X.prog X.w (upd H a o) h' a o):Inv X i j (upd H a o) { s with heap:=h',toks:=t' }:=by
 have h:H a=none:=I.aW.fresh p;have l:∀b u,H b=some u->b∉fp:=λb u e z=>by rw[(f b z).1] at e;cases e
 show I.step (g':=s.gens) (d':=s.drawn) (ch:=fp) (λb g=>⟨(f b g).2.2.2.1,(f b g).2.1,(f b g).2.2.2.2.1,(f b g).2.2.2.2.2⟩) (λb o _ _ d e _=>k b o d e) (λb o _ _ d e _=>⟨o.slots,k b o d e⟩)
  (λb o _ q n=>by rw[bA (c7 (iN (bX q) p))];show n)
  (λb o d e=>⟨o,k b o d e⟩) (λb zs q=>by rw[bA (iD q h)];show q) (λb ob zs q=>by rw[bA (iD q h)];show q) (λb ps q=>⟨#[],by rw[bA (iD q h),q];rfl⟩) (λm hm=>?_) (λb u q=>?_) I.bare
 .obtain⟨o,x,y,t,r⟩:=hm;show⟨o,x,y,k _ o (λz=>(f _ z).2.1 rfl) t,r⟩
 by_cases g:b=a
 .subst g;rw[dQ] at q;cases q;show new
 rw[bA g] at q;show(I.aW b u q).lq (λc v d z=>k c v ?_ z) (λc z=>by rw[bA (iD z h)];show z) λc zs z=>by rw[bA (iD z h)];show z
 rcases d with rfl | d
 .exact l _ _ q
 show l _ _ d
noncomputable def GU(x:ae):It:=⟨λi _=>i<x.cps.size,λi H v H'=>H'=H/\∃c,x.cps[i]?=some c/\v=.str ⟨#[c]⟩,λi _=>i=x.cps.size⟩
theorem zoW{K:aj}(F:["enumerate","zip","dict_itemiterator","dict_reverseitemiterator","odict_iterator","itertools.zip_longest","itertools.pairwise"].contains n=false)
  (W:∀y:br,y.handled=none->Walks P w y a [a] [a] x.cps.size (SignAt x) (λi h=>h.IsStrIter a n x t i))
  (D:∀A i s Q E,s.heap.IsStrIter a n x t i->Q (.ref a) s->wpAny (model P w) A (pyIter (.ref a)) Q E s):Turn P w K B (GU x) [a] a (λi h=>h.IsStrIter a n x t i) where
 mem:=by show .head _
 obj:=λi h st b j=>by
  have e:b=a:=by simpa using j
  subst e;obtain⟨o,e,c,d⟩:=st;show⟨o,e,λv z=>by rw[d] at z;cases z⟩
 keep:=λi h h' st k=>by
  obtain⟨o,e,r⟩:=st;show⟨o,k a (by show .head _) o e,r⟩
 item:=by
  intro X l hw m g i q s σ H E I hf st f;subst l hw m;show(W X.A (I.ok.hd g)).item i s _ _ f st λv h' tk hv p kk=>?_
  obtain⟨c,u,C,rfl⟩:=hv;have J:Inv X q σ H { s with heap:=h',toks:=tk }:=I.oH kk hf;obtain⟨o,e,G,d⟩:=id p;show⟨_,rfl,vH (s:={ s with heap:=h',toks:=tk }) e G d F ⟨.str ⟨#[c]⟩,H,J,⟨u,rfl⟩,⟨rfl,c,C,rfl⟩,p,λb j=>(hf b j).1⟩⟩
 done:=by
  intro X l hw m g i q s σ H E I hf st f;subst l hw m;have e:i=x.cps.size:=f;subst e;show(W X.A (I.ok.hd g)).done s _ _ st λh' tk kk=>⟨rfl,I.oH kk hf⟩
 self:=D
theorem zs9{c:St}{R:It->Hp->Prop}(I:Inv X g c H s)(q:R (GU x) H) :
  wpAny (model X.prog X.w) X.A (pyIter (.str x t)) (Cz X g c tg R) E s:=by
 have fin:∀(o:aT)(n:String),(k:["enumerate","zip","dict_itemiterator","dict_reverseitemiterator","odict_iterator","itertools.zip_longest","itertools.pairwise"].contains n=false)->
   (W:∀a:br,a.handled=none->Walks X.prog X.w a s.heap.objs.size [s.heap.objs.size] [s.heap.objs.size] x.cps.size (SignAt x) (λi h=>h.IsStrIter s.heap.objs.size n x t i))->
   (j:∀(A:br)(i:Nat)(d:ai)(Q:aa->ai->Prop)(E:aa->ai->Prop),d.heap.IsStrIter s.heap.objs.size n x t i->Q (.ref s.heap.objs.size) d->wpAny (model X.prog X.w) A (pyIter (.ref s.heap.objs.size)) Q E d)->
   (s.heap.push o).IsStrIter s.heap.objs.size n x t 0->Cz X g c tg R (.ref s.heap.objs.size) { s with heap:=s.heap.push o }:=λo n k W j st=>by
  show⟨s.heap.objs.size,[s.heap.objs.size],_,_,H,rfl,I.kept (t':=s.toks) λb o e=>bZ _ e,zoW k W j,st,λb m=>?_,q⟩;have e:b=s.heap.objs.size:=by simpa using m
  subst e;show I.nJ (bx _) (I.aW.fresh (bx _))
 cases l:x.cps.all (·<128)
 .exact wpAny_pyIter_wide l (fin _ _ (by rfl) (λa f=>Walks.strWide f _ x t) (λ_ _ _ _ _ st q=>wpAny_pyIter_striter_wide st q) ⟨_,c8 _ rfl,rfl,rfl⟩)
 show wpAny_pyIter_ascii l (fin _ _ (by rfl) (λa f=>Walks.strAscii f _ x t) (λ_ _ _ _ _ st q=>wpAny_pyIter_striter_ascii st q) ⟨_,c8 _ rfl,rfl,rfl⟩)
def ZO(K:aj)(tl:TE):TI:=λσ H R=>tl σ H λx H1=>(∃a,x=.ref a/\(∃xs,bP K H1 a xs)/\R (GV K a) H1)\/(∃a,x=.ref a/\(∃xs,cz K H1 a xs)/\R (OD K a) H1)\/(∃z,x=.str z/\R (GU z) H1)
theorem zta(k:PE X l tl):PI X tg l (ZO X.K tl):=by
 intro n s σ H R I h;show aR (k n s σ H _ I h) λv s1 m=>?_
 obtain⟨x,H1,c,d,j⟩:=m;rcases j with⟨a,e,⟨xs,f⟩,q⟩ | ⟨a,e,⟨xs,f⟩,q⟩ | ⟨z,e,q⟩
 .subst e;cases d;obtain⟨its,i,p,hz⟩:=c.list f;show tG p.isList ?_;show⟨s1.heap.objs.size,[s1.heap.objs.size],_,_,H1,rfl,c.kept (t':=s1.toks) λb o e=>bZ _ e,V6 a _,⟨_,c8 _ rfl,rfl,rfl⟩,λb g=>?_,q⟩;have e:b=s1.heap.objs.size:=by simpa using g
  subst e;show c.nJ (bx _) (c.aW.fresh (bx _))
 .subst e;cases d;obtain⟨its,i,p,hz⟩:=c.tuple f;show Qb (show s1.heap.IsTuple a its.toArray from p) ?_;show⟨s1.heap.objs.size,[s1.heap.objs.size],_,_,H1,rfl,c.kept (t':=s1.toks) λb o e=>bZ _ e,zkW a _,⟨_,c8 _ rfl,rfl,rfl⟩,λb g=>?_,q⟩;have e:b=s1.heap.objs.size:=by simpa using g
  subst e;show c.nJ (bx _) (c.aW.fresh (bx _))
 subst e;obtain⟨t,rfl⟩:=d;show zs9 c q
noncomputable def OE(K:aj)(a:ab):It:=
 ⟨λi H=>∃xs x,bP K H a xs/\xs[i]?=some x,λi H v H'=>∃t,v=.ref t/\H t=none/\∀xs,bP K H a xs->∃x,xs[i]?=some x/\H'=upd H t (.tup [.int i,x]),λi H=>∃xs,bP K H a xs/\xs.length<=i⟩
noncomputable def OC(K:aj)(a b:ab):It:=
 ⟨λi H=>∃xs ys x y,bP K H a xs/\bP K H b ys/\xs[i]?=some x/\ys[i]?=some y,λi H v H'=>∃t,v=.ref t/\H t=none/\∀xs ys,bP K H a xs->bP K H b ys->∃x y,xs[i]?=some x/\ys[i]?=some y/\H'=upd H t (.tup [x,y]),
  λi H=>∃xs ys,bP K H a xs/\bP K H b ys/\(xs.length<=i\/ys.length<=i)⟩
theorem JX{fp:List ab}(h:∀b∈fp,H b=none)(c:∀b∈fp,b≠t):∀b∈fp,upd H t o b=none:=λb a=>by rw[bA (c b a)];show h b a
theorem Ws(he:IsEnumOut s.heap e b i old T)
  (f:∀h',IsEnum h' e b i old->oh e s.heap h'->Q () { s with heap:=h' }) :
  wpAny (model prog w) A (letOwnedTupleGo (.Tuple a d pos) (.ref e) (.ref T)) Q E s:=by
 show ag (wpAny_load he ?_);show wpAny _ _ (if (["enumerate","zip","dict_itemiterator","dict_reverseitemiterator","odict_iterator","itertools.zip_longest","itertools.pairwise"].contains "enumerate" &&
   (#[rawInt T,.bool false,.ref b,rawInt i,.none,old]:Array aa)[0]?==some (rawInt T))=true then _ else _) Q E s
 rw[if_pos (by show beq_self_eq_true _)];show ag (tj ?_);show wpAny_setField_rec he (by show iq _) λh' c g=>f h' c g
theorem zmo{K:aj}(a e j)(F:e≠j):Turn P w K (.Tuple m G pos) (OE K a) [e,j] e (λi h=>(∃old,IsEnum h e j i old)/\h.IsListIter j a i) where
 mem:=by show .head _
 obj:=λi h st b f=>by
  obtain⟨⟨old,g⟩,o,l,c,d⟩:=st;grind
 keep:=λi h h' st k=>by
  obtain⟨⟨old,g⟩,l⟩:=st;show⟨⟨old,k e (by show .head _) _ g⟩,l.at λo q=>k j (by show .tail _ (.head _)) o q⟩
 item:=by
  intro X A hw B D i U s σ H E I hf st y;subst A hw B;obtain⟨xs,x,n,v⟩:=y;obtain⟨its,t,p,hz⟩:=I.list n;obtain⟨u,N,J⟩:=t.get v;obtain⟨⟨old,g⟩,l⟩:=st;show wpAny_pyNext_enum_item g l p.isList (x:=u) (by simpa using N) F λh' T S e3 Y kk=>?_
  show⟨_,rfl,Ws T λC R r=>?_⟩;have V:s.heap.objs.size≠e:=kT (bX g);have Z:s.heap.objs.size≠j:=by obtain⟨o,q,_⟩:=l;show kT (bX q)
  have O:C.get? s.heap.objs.size=some { cls:=.type "tuple",data:=.seq #[.int i s.toks,u] }:=r.extBut _ _ V e3;have L:H s.heap.objs.size=none:=I.aW.fresh (bx _);have new:fP X.prog X.w (upd H s.heap.objs.size (.tup [.int i,x])) C s.heap.objs.size (.tup [.int i,x]):=⟨JY,[.int i s.toks,u],.cons ⟨_,rfl⟩ (.cons J .nil),⟨_,O,rfl,_,rfl⟩⟩
  show⟨.ref s.heap.objs.size,upd H s.heap.objs.size (.tup [.int i,x]),I.L1 (fp:=[e,j]) (λb o f q=>r.extBut b o (λz=>f (by show z▸.head _)) (kk b o (λz=>f (by show z▸.head _)) (λz=>f (by show z▸.tail _ (.head _))) q)) hf (bx _) new,rfl,
   ⟨_,rfl,L,λys M=>⟨x,by rw[I.BO M n];show v,rfl⟩⟩,⟨⟨u,R⟩,S.extBut r.extBut (Ne.symm F)⟩,JX (λb f=>(hf b f).1) λb f=>?_⟩
  grind
 done:=by
  intro X A hw B D i U s σ H E I hf st y;subst A hw B;obtain⟨xs,n,v⟩:=y;obtain⟨its,t,p,hz⟩:=I.list n;obtain⟨⟨old,g⟩,l⟩:=st;have W:=t.length;show wpAny_pyNext_enum_end (I.ok.hd D) g l p.isList (by simp;simp_all) λh' Q=>⟨rfl,I.oH (fp:=[e,j]) (t':=s.toks) (λb o f q=>Q b o (λz=>f (by show z▸.tail _ (.head _))) q) hf⟩
 self:=λ_ _ _ _ _ st h=>by
  obtain⟨⟨old,g⟩,_⟩:=st;show Ds g h
def zuP(K:aj)(c:TA):TI:=λσ H R=>c σ H λb H1=>∃a xs,b=[.ref a]/\fO K H1 a xs/\R (OE K a) H1
theorem zrm(x:Gl X "enumerate")(w:X.mg "enumerate"=none)(y:PA X [a] g)(v:starEach [a] X.env=[(false,eval a X.env)]:=by rfl):PI X (.Tuple elts x1 vW) (.Call (.Name "enumerate" p) [a] [] pos) (zuP X.K g):=by
 intro D s σ H R I h;show Call_ (l7 I x w Pp (n6 (aR (y pos D s σ H _ I h) λus s1 C=>?_) v rfl));obtain⟨E,H1,d,o,t⟩:=C;obtain⟨l,xs,e,hl,q⟩:=t;subst e;obtain⟨u,rfl,m⟩:=i8 o;cases m;obtain⟨z,its,n,r,e⟩:=d.cH hl;show call_enumerate_1 e λh' j A e3 kk=>?_
 show Ds j ?_;have B:s1.heap.objs.size+1≠s1.heap.objs.size:=by walk_at"sb"
 show⟨s1.heap.objs.size+1,[s1.heap.objs.size+1,s1.heap.objs.size],_,_,H1,rfl,d.kept (t':=s1.toks) kk,zmo l _ _ B,⟨⟨_,j⟩,A⟩,λb f=>?_,q⟩;have i:s1.heap.objs.size<=b:=by
  rcases bG.mp f with rfl | f
  .exact lP _
  have e:b=s1.heap.objs.size:=by simpa using f
  show HA e.symm
 show d.nJ i (d.aW.fresh i)
theorem zoX{K:aj}(a b z TI TO i1 i2)(D1:TI≠z/\TO≠z/\i1≠z/\i2≠z/\TI≠TO/\TI≠i1/\TI≠i2/\TO≠i1/\TO≠i2/\i1≠i2):Turn P w K (.Tuple elts x1 vW) (OC K a b) [z,TI,TO,i1,i2] z
  (λi h=>IsZip h z TI TO .none/\IsPair h TI (.ref i1) (.ref i2)/\(∃a b,IsPair h TO a b)/\h.IsListIter i1 a i/\h.IsListIter i2 b i) where
 mem:=by walk_at"sb"
 obj:=λi h st c f=>by
  obtain⟨j,m,⟨u,v,h3⟩,⟨o1,g1,_,A⟩,⟨o2,g2,_,F⟩⟩:=st;simp only[bG,kY,or_false] at f;rcases f with rfl | rfl | rfl | rfl | rfl
  .exact⟨_,j,λv z=>by have J:CO _=zd v:=z;cases J⟩
  .exact⟨_,m,λv z=>by have J:CI _ _=zd v:=z;cases J⟩
  .exact⟨_,h3,λv z=>by have J:CI _ _=zd v:=z;cases J⟩
  .exact⟨_,g1,λv z=>by rw[A] at z;cases z⟩
  show⟨_,g2,λv z=>by rw[F] at z;cases z⟩
 keep:=λi h h' st k=>by
  obtain⟨j,m,⟨u,v,h3⟩,t,r⟩:=st;show⟨k z (by walk_at"sb") _ j,k TI (by walk_at"sb") _ m,⟨u,v,k TO (by walk_at"sb") _ h3⟩,t.at λo q=>k i1 (by show .tail _ (.tail _ (.tail _ (.head _)))) o q,r.at λo q=>k i2 (by simp) o q⟩
 item:=by
  intro X hP hw hK f i J' s σ H E I hf st hg;subst hP hw hK;obtain⟨xs,ys,x,y,O,Q,C,hy⟩:=hg;obtain⟨its,Y,p,hz⟩:=I.list O;obtain⟨gT,Z,L,BR⟩:=I.list Q;obtain⟨u,hu,ru⟩:=Y.get C;obtain⟨v,hv,W⟩:=Z.get hy;obtain⟨j,m,⟨c,d,h3⟩,t,r⟩:=st;obtain⟨A,F,V,U,T,S,R,d8,d9,NO⟩:=D1;have N:∀{l:ab}{its:List aa},PlainL s.heap l its.toArray->l≠z/\l≠TO/\l≠i1/\l≠i2:=λ{l its} pl=>by
   obtain⟨o,n,e,M,_,dd⟩:=pl;obtain⟨o1,g1,c4,_⟩:=t;obtain⟨o2,g2,c5,_⟩:=r;show⟨?_,?_,?_,?_⟩
   .rintro rfl;rw[j] at e;cases e;trivial
   .rintro rfl;rw[h3] at e;cases e;lia
   .rintro rfl;rw[g1] at e;cases e;rw[c4] at M;trivial
   rintro rfl;rw[g2] at e;cases e;rw[c5] at M;trivial
  obtain⟨e1,e2,e3,e4⟩:=N p;obtain⟨f1,f2,f3,f4⟩:=N L;have D:ZipApart z TI TO i1 i2 a b:=⟨A,F,V,U,T,S,R,d8,d9,NO,e1,e2,e3,e4,f1,f2,f3,f4⟩
  show wpAny_pyNext_zip_item D j m h3 t r p.isList L.isList (x:=u) (y:=v) (by simpa using hu) (by simpa using hv) λh' a1 a2 a3 a4 a5 a6 kk=>?_
  show⟨_,rfl,wpAny_letOwnedTupleGo_zip a1 λqG b1 B=>?_⟩;have hTz:s.heap.objs.size≠z:=kT (bX j);have je:H s.heap.objs.size=none:=I.aW.fresh (bx _);have hT:qG.get? s.heap.objs.size=some { cls:=.type "tuple",data:=.seq #[u,v] }:=B.extBut _ _ hTz a5;have new:fP X.prog X.w (upd H s.heap.objs.size (.tup [x,y])) qG s.heap.objs.size (.tup [x,y]):=⟨JY,[u,v],.cons ru (.cons W .nil),⟨_,hT,rfl,_,rfl⟩⟩
  have lt:∀{c o},s.heap.get? c=some o->c≠s.heap.objs.size:=λe=>c7 (bX e)
  show⟨.ref s.heap.objs.size,upd H s.heap.objs.size (.tup [x,y]),I.L1 (fp:=[z,TI,TO,i1,i2]) (t':=s.toks) (λc o f q=>B.extBut c o (λe=>f (by show e▸.head _)) (kk c o (λe=>f (by show e▸.head _)) (λe=>f (by show e▸.tail _ (.tail _ (.head _)))) (λe=>f (by show e▸.tail _ (.tail _ (.tail _ (.head _))))) (λe=>f (by show e▸.tail _ (.tail _ (.tail _ (.tail _ (.head _)))))) q)) hf (bx _) new,rfl,
   ⟨_,rfl,je,λzs ws h6 h7=>⟨x,y,by rw[I.BO h6 O];show C,by rw[I.BO h7 Q];show hy,rfl⟩⟩,
   ⟨b1,B.extBut _ _ A (kk _ _ A T S R m),⟨_,_,B.extBut _ _ F a2⟩,a3.extBut B.extBut V,a4.extBut B.extBut U⟩,JX (λb hb=>(hf b hb).1) λc f=>?_⟩
  simp only[bG,kY,or_false] at f;rcases f with rfl | rfl | rfl | rfl | rfl
  .exact lt j
  .exact lt m
  .exact lt h3
  .obtain⟨_,g,_⟩:=t;show lt g
  obtain⟨_,g,_⟩:=r;show lt g
 done:=by
  intro X hP hw hK f i J' s σ H E I hf st hg;subst hP hw hK;obtain⟨xs,ys,O,Q,C⟩:=hg;obtain⟨its,Y,p,hz⟩:=I.list O;obtain⟨gT,Z,L,BR⟩:=I.list Q;obtain⟨j,m,⟨c,d,h3⟩,t,r⟩:=st;obtain⟨A,F,V,U,T,S,R,d8,d9,NO⟩:=D1;have N:∀{l:ab}{its:List aa},PlainL s.heap l its.toArray->l≠z/\l≠TO/\l≠i1/\l≠i2:=λ{l its} pl=>by
   obtain⟨o,n,e,M,_,dd⟩:=pl;obtain⟨o1,g1,c4,_⟩:=t;obtain⟨o2,g2,c5,_⟩:=r;show⟨?_,?_,?_,?_⟩
   .rintro rfl;rw[j] at e;cases e;trivial
   .rintro rfl;rw[h3] at e;cases e;lia
   .rintro rfl;rw[g1] at e;cases e;rw[c4] at M;trivial
   rintro rfl;rw[g2] at e;cases e;rw[c5] at M;trivial
  obtain⟨e1,e2,e3,e4⟩:=N p;obtain⟨f1,f2,f3,f4⟩:=N L;have D:ZipApart z TI TO i1 i2 a b:=⟨A,F,V,U,T,S,R,d8,d9,NO,e1,e2,e3,e4,f1,f2,f3,f4⟩
  have l1:=Y.length;have l2:=Z.length;have aa8:its.toArray[i]?=none\/gT.toArray[i]?=none:=by
   rcases C with C | C
   .exact .inl (by simp;simp_all)
   show .inr (by simp;simp_all)
  show wpAny_pyNext_zip_end (I.ok.hd f) D j m h3 t r p.isList L.isList aa8 λh' kk=>⟨rfl,I.oH (fp:=[z,TI,TO,i1,i2]) (t':=s.toks) (λc o f q=>kk c o (λe=>f (by show e▸.head _)) (λe=>f (by show e▸.tail _ (.tail _ (.head _)))) (λe=>f (by show e▸.tail _ (.tail _ (.tail _ (.head _))))) (λe=>f (by show e▸.tail _ (.tail _ (.tail _ (.tail _ (.head _)))))) q) hf⟩
 self:=λ_ _ _ _ _ st h=>HY st.1 h
theorem zmp(n):(n+2:Nat)≠n+4/\(n+3:Nat)≠n+4/\n≠n+4/\(n+1:Nat)≠n+4/\(n+2:Nat)≠n+3/\(n+2:Nat)≠n/\(n+2:Nat)≠n+1/\(n+3:Nat)≠n/\(n+3:Nat)≠n+1/\n≠n+1:=by simp_all
def ZN(K:aj)(d:TA):TI:=λσ H R=>d σ H λc H1=>∃a b,c=[.ref a,.ref b]/\(∃xs,bP K H1 a xs)/\(∃ys,bP K H1 b ys)/\R (OC K a b) H1
theorem ztb(B:Gl X "zip")(z:X.mg "zip"=none)(C:PA X [a,b] f)(y:starEach [a,b] X.env=[(false,eval a X.env),(false,eval b X.env)]:=by rfl)(g:starEach [b] X.env=[(false,eval b X.env)]:=by rfl) :
  PI X (.Tuple elts x1 vW) (.Call (.Name "zip" p) [a,b] [] pos) (ZN X.K f):=by
 intro G s σ H R I h;show Call_ (l7 I B z boot_zip (n6 (aR (C pos G s σ H _ I h) λus s1 ⟨J,H1,c,o,r⟩=>?_) (by rw[y,g]) (by rw[g];rfl)));obtain⟨l,x,e,⟨xs,A⟩,⟨ys,d⟩,q⟩:=r;subst e;obtain⟨u,v,rfl,n,m⟩:=Ah o;cases n;cases m;obtain⟨its,_,w,_⟩:=c.list A;obtain⟨its',_,t,_⟩:=c.list d;show call_zip_2 w.isList t.isList λh' k F e3 E D L kk=>?_
 show HY k ?_;show⟨s1.heap.objs.size+4,[s1.heap.objs.size+4,s1.heap.objs.size+2,s1.heap.objs.size+3,s1.heap.objs.size,s1.heap.objs.size+1],_,_,H1,rfl,c.kept (t':=s1.toks) kk,zoX l x _ _ _ _ _ (zmp _),
  ⟨k,F,⟨_,_,e3⟩,E,D⟩,λb i=>?_,q⟩
 have j:s1.heap.objs.size<=b:=by
  simp only[bG,kY,or_false] at i;rcases i with rfl | rfl | rfl | rfl | rfl<;>first | show qV _ _ | show bx _
 show c.nJ j (c.aW.fresh j)
inductive D where
 | non | bl (b:Bool) | int (i:Int) | str (x:ae) | tup (ds:List D) | lst (ds:List D) | obj (cn:ae) (fs:List (ae×D)) | dic (kvs:List (Key×D)) | dit (kvs:List (List Key×D)) | exc (cn:ae) (fs:List (ae×D)) | idn (a:ab) (d:D)
structure ClsAt(K:aj)(cn:ae)(C:ab):Prop where
 at_:CT K mainGlobals cn=some (some (.ref C))
 cls:Cls K C
def eX(H:Hp):List (List Key×V)->List ab->Prop
 | [],[]=>True
 | p::ps,b::bs=>H b=some (.tup (p.1.map kV))/\eX H ps bs
 | _,_=>False
theorem eX.mono(e:aZ H H'):∀{ps bs},eX H ps bs->eX H' ps bs
 | [],[],h=>h
 | p::ps,b::bs,h=>⟨e _ _ h.1,eX.mono e h.2⟩
 | [],_::_,h=>h.elim
 | _::_,[],h=>h.elim
def GY(H:Hp):Option ab->List (ae×V)->Prop
 | none,a=>a=[]
 | some d,a=>∃b,H d=some (.ext b)/\∀h:ay,b h->∃c,h.Ns1 d c/\∀f v,a.lookup f=some v->∃u,c f=some u/\RelV v u
theorem GY.mono(e:aZ H H')(h:GY H c d):GY H' c d:=by
 cases c with
 | none=>show h
 | some g=>show let⟨f,a,b⟩:=h;⟨f,e _ _ a,b⟩
mutual
def Rep(K:aj)(H:Hp):V->D->Prop
 | v,.non=>v=.non
 | v,.bl b=>v=.bl b
 | v,.int i=>v=.int i
 | v,.str x=>v=.str x
 | v,.tup ds=>∃a xs,v=.ref a/\H a=some (.tup xs)/\ao K H xs ds
 | v,.lst ds=>∃a xs,v=.ref a/\fO K H a xs/\ao K H xs ds
 | v,.obj cn fs=>∃a C l e,v=.ref a/\H a=some (.ins C l e)/\ClsAt K cn C/\(∀p∈fs,Sv K C p.1)/\j4 K H e fs
 | v,.dic kvs=>∃a c k,v=.ref a/\H a=some (.dK c k)/\iK K H c kvs
 | v,.dit kvs=>∃a c bs,v=.ref a/\H a=some (.dT c bs)/\eX H c bs.1/\bC K H c kvs
 | v,.exc cn fs=>∃a f C g e,v=.ref a/\H a=some (.ext f)/\CT K mainGlobals cn=some (some (.ref C))/\(∀h:ay,f h->∃o,h.get? a=some o/\o.cls=.ref C/\(fs=[]\/o.dict=g/\∃j,o.data=.fields j))/\(fs=[]\/GY H g e)/\j4 K H e fs
 | v,.idn a d=>v=.ref a/\Rep K H v d
def ao(K:aj)(H:Hp):List V->List D->Prop
 | [],[]=>True
 | v::a,d::ds=>Rep K H v d/\ao K H a ds
 | _,_=>False
def j4(K:aj)(H:Hp):List (ae×V)->List (ae×D)->Prop
 | [],[]=>True
 | v::a,d::ds=>(v.1=d.1/\Rep K H v.2 d.2)/\j4 K H a ds
 | _,_=>False
def iK(K:aj)(H:Hp):List (Key×V)->List (Key×D)->Prop
 | [],[]=>True
 | v::a,d::ds=>(v.1=d.1/\Rep K H v.2 d.2)/\iK K H a ds
 | _,_=>False
def bC(K:aj)(H:Hp):List (List Key×V)->List (List Key×D)->Prop
 | [],[]=>True
 | v::a,d::ds=>(v.1=d.1/\Rep K H v.2 d.2)/\bC K H a ds
 | _,_=>False
end
theorem aZ.ui{K:aj}(e:aZ H H')(h:H a=some (.tup xs)):cz K H' a xs:=cz.of (e _ _ h)
theorem aZ.uj{K:aj}(e:aZ H H')(h:cz K H a xs):cz K H' a xs:=by
 rcases h with(h | ⟨o,h⟩) | h
 .exact .inl (.inl (e _ _ h))
 .exact .inl (.inr ⟨o,e _ _ h⟩)
 show .inr h
mutual
theorem Rep.mono{K:aj}{H H':Hp}(e:aZ H H'):∀(v:V)(d:D),Rep K H v d->Rep K H' v d
 | v,.non,h=>by simpa only[Rep] using h
 | v,.bl b,h=>by simpa only[Rep] using h
 | v,.int i,h=>by simpa only[Rep] using h
 | v,.str x,h=>by simpa only[Rep] using h
 | v,.tup ds,h=>by
  obtain⟨a,xs,f,c,h3⟩:=h;show⟨a,xs,f,e _ _ c,ao.mono e xs ds h3⟩
 | v,.lst ds,h=>by
  obtain⟨a,xs,f,c,h3⟩:=h;show⟨a,xs,f,e.cH c,ao.mono e xs ds h3⟩
 | v,.obj cn fs,h=>by
  obtain⟨a,C,p,k,f,c,h3,j,l⟩:=h;show⟨a,C,p,k,f,e _ _ c,h3,j,j4.mono e k fs l⟩
 | v,.dic kvs,h=>by
  obtain⟨a,g,o,f,c,h3⟩:=h;show⟨a,g,o,f,e _ _ c,iK.mono e g kvs h3⟩
 | v,.dit kvs,h=>by
  obtain⟨a,g,bs,f,c,h3,j⟩:=h;show⟨a,g,bs,f,e _ _ c,h3.mono e,bC.mono e g kvs j⟩
 | v,.exc cn fs,h=>by
  obtain⟨a,m,C,q,k,f,c,h3,j,l,n⟩:=h;show⟨a,m,C,q,k,f,e _ _ c,h3,j,l.imp id λz=>z.mono e,j4.mono e k fs n⟩
 | v,.idn a d,h=>by
  show⟨h.1,Rep.mono e v d h.2⟩
theorem ao.mono{K:aj}{H H':Hp}(e:aZ H H'):∀(a:List V)(ds:List D),ao K H a ds->ao K H' a ds
 | [],[],h=>by simp only[ao]
 | v::a,d::ds,h=>by
  show⟨Rep.mono e v d h.1,ao.mono e a ds h.2⟩
 | [],_::_,h=>by simp only[ao] at h
 | _::_,[],h=>by simp only[ao] at h
theorem j4.mono{K:aj}{H H':Hp}(e:aZ H H'):∀(a:List (ae×V))(ds:List (ae×D)),j4 K H a ds->j4 K H' a ds
 | [],[],h=>by simp only[j4]
 | (x,v)::a,(y,d)::ds,h=>by
  show⟨⟨h.1.1,Rep.mono e v d h.1.2⟩,j4.mono e a ds h.2⟩
 | [],_::_,h=>by simp only[j4] at h
 | _::_,[],h=>by simp only[j4] at h
theorem iK.mono{K:aj}{H H':Hp}(e:aZ H H'):∀(a:List (Key×V))(ds:List (Key×D)),iK K H a ds->iK K H' a ds
 | [],[],h=>by simp only[iK]
 | (x,v)::a,(y,d)::ds,h=>by
  show⟨⟨h.1.1,Rep.mono e v d h.1.2⟩,iK.mono e a ds h.2⟩
 | [],_::_,h=>by simp only[iK] at h
 | _::_,[],h=>by simp only[iK] at h
theorem bC.mono{K:aj}{H H':Hp}(e:aZ H H'):∀(a:List (List Key×V))(ds:List (List Key×D)),bC K H a ds->bC K H' a ds
 | [],[],h=>by simp only[bC]
 | (x,v)::a,(y,d)::ds,h=>by
  show⟨⟨h.1.1,Rep.mono e v d h.1.2⟩,bC.mono e a ds h.2⟩
 | [],_::_,h=>by simp only[bC] at h
 | _::_,[],h=>by simp only[bC] at h
end
section
variable{K:aj}
theorem ao.length:∀{a ds},ao K H a ds->a.length=ds.length
 | [],[],_=>rfl
 | v::a,d::ds,h=>by
  simp only[cC,ao.length h.2]
 | [],_::_,h=>by simp only[ao] at h
 | _::_,[],h=>by simp only[ao] at h
theorem ao.get:∀{a ds}{i:Nat}{d},ao K H a ds->ds[i]?=some d->∃v,a[i]?=some v/\Rep K H v d
 | [],[],i,d,_,e=>by trivial
 | v::a,d'::ds,0,d,h,e=>by
  simp only[ao] at h;simp_all
 | v::a,d'::ds,i+1,d,h,e=>by
  simp only[zP] at e ⊢;show ao.get h.2 e
 | [],_::_,_,_,h,_=>by simp only[ao] at h
 | _::_,[],_,_,h,_=>by simp only[ao] at h
theorem ao.Yw:∀{a ds}{i:Nat}{v},ao K H a ds->a[i]?=some v->∃d,ds[i]?=some d/\Rep K H v d
 | [],[],i,d,_,e=>by trivial
 | b::a,d::ds,0,v,h,e=>by
  simp only[ao] at h;simp_all
 | b::a,d::ds,i+1,v,h,e=>by
  simp only[zP] at e ⊢;show ao.Yw h.2 e
 | [],_::_,_,_,h,_=>by simp only[ao] at h
 | _::_,[],_,_,h,_=>by simp only[ao] at h
theorem ao.nil:ao K H [] []:=by simp only[ao]
theorem ao.cons{d:D}{ds:List D}(h:Rep K H v d)(b:ao K H a ds):ao K H (v::a) (d::ds):=by show⟨h,b⟩
theorem ao.append:∀{a ds us b},ao K H a ds->ao K H us b->ao K H (a++us) (ds++b)
 | [],[],_,_,_,h=>h
 | v::a,d::ds,_,_,h,h'=>by
  show ao.cons h.1 (ao.append h.2 h')
 | [],_::_,_,_,h,_=>by simp only[ao] at h
 | _::_,[],_,_,h,_=>by simp only[ao] at h
theorem ao.take:∀{a ds} n,ao K H a ds->ao K H (a.take n) (ds.take n)
 | _,_,0,_=>ao.nil
 | [],[],_+1,_=>ao.nil
 | v::a,d::ds,n+1,h=>by
  show ao.cons h.1 (ao.take n h.2)
 | [],_::_,_+1,h=>by assumption
 | _::_,[],_+1,h=>by assumption
theorem ao.drop:∀{a ds} n,ao K H a ds->ao K H (a.drop n) (ds.drop n)
 | _,_,0,h=>h
 | [],[],_+1,_=>ao.nil
 | v::a,d::ds,n+1,h=>by
  show ao.drop n h.2
 | [],_::_,_+1,h=>by simp only[ao] at h
 | _::_,[],_+1,h=>by simp only[ao] at h
theorem ao.set:∀{a ds v d} n,ao K H a ds->Rep K H v d->ao K H (a.set n v) (ds.set n d)
 | [],[],_,_,_,_,_=>ao.nil
 | b::a,d'::ds,v,d,0,h,q=>by
  show ao.cons q h.2
 | b::a,d'::ds,v,d,n+1,h,q=>by
  show ao.cons h.1 (ao.set n h.2 q)
 | [],_::_,_,_,_,h,_=>by simp only[ao] at h
 | _::_,[],_,_,_,h,_=>by simp only[ao] at h
end
structure Ext(G H G' H':Hp):Prop where
 g:aZ G G'
 h:aZ H H'
 s:aZ G' H'
 n:∀p,G p=none->H p≠none->G' p=none
theorem Ext.refl(s:aZ G H):Ext G H G H:=⟨aZ.refl _,aZ.refl _,s,λ_ h _=>h⟩
theorem Ext.trans(a:Ext G H i e)(b:Ext i e f d):Ext G H f d:=
 ⟨a.g.trans b.g,a.h.trans b.h,b.s,λp j c=>b.n p (a.n p j c) λz=>c (a.h.free z)⟩
theorem t9(h:H p=none):aZ H (upd H p o):=λb u e=>by rw[bA (iD e h)];show e
theorem zmq(s:aZ G H):aZ (upd G p o) (upd H p o):=λb u e=>by
 by_cases a:b=p
 .subst a;rw[dQ] at e ⊢;show e
 rw[bA a] at e ⊢;show s b u e
theorem Ext.new(s:aZ G H)(h:H p=none):Ext G H (upd G p o) (upd H p o):=
 ⟨t9 (s.free h),t9 h,zmq s,λq b a=>by rw[bA (λz=>a (by rw[z];show h))];show b⟩
theorem Ext.own(s:aZ G H)(h:H p=none):Ext G H G (upd H p o):=
 ⟨aZ.refl _,t9 h,s.trans (t9 h),λq a _=>a⟩
inductive OV where
 | ll (aC:List (List D))
 | dc (kvs:List (Key×D))
 | dl (kvs:List (Key×List D))
 | tl (d:D) (ds:List D)
 | ld (wq:List (List (Key×D)))
 | dt (kvs:List (List Key×List D))
 | tp (ds:List D)
 | ob (cn:ae) (fs:List (ae×List D))
 | dq (kvs:List (List Key×D))
 | li (a:ab) (aC:List (List D))
noncomputable def OV.val:OV->D
 | .ll a=>.lst (a.map .lst)
 | .dc kvs=>.dic kvs
 | .dl kvs=>.dic (kvs.map λp=>(p.1,.lst p.2))
 | .tl d ds=>.tup [d,.lst ds]
 | .ld b=>.lst (b.map .dic)
 | .dt kvs=>.dit (kvs.map λp=>(p.1,.lst p.2))
 | .tp ds=>.tup ds
 | .ob cn fs=>.obj cn (fs.map λp=>(p.1,.lst p.2))
 | .dq kvs=>.dit kvs
 | .li _ a=>.lst (a.map .lst)
inductive R where
 | fz (d:D)
 | ow (ds:List D)
 | ov (o:OV)
noncomputable def R.val:R->D
 | .fz d=>d
 | .ow ds=>.lst ds
 | .ov o=>o.val
inductive Sl where
 | un
 | fz (d:D)
 | ow (ds:List D)
 | ov (o:OV)
noncomputable def R.sl:R->Sl
 | .fz d=>.fz d
 | .ow ds=>.ow ds
 | .ov o=>.ov o
def bJ(K:aj)(G H:Hp):List ab->List (List D)->Prop
 | [],[]=>True
 | q::a,ds::b=>(∃xs,H q=some (.lst xs)/\ao K G xs ds)/\bJ K G H a b
 | _,_=>False
theorem bJ.mono{K:aj}(g:aZ G d):∀{a b},(∀q∈a,∀xs,H q=some (.lst xs)->H' q=some (.lst xs))->bJ K G H a b->bJ K d H' a b
 | [],[],_,_=>by simp only[bJ]
 | q::a,ds::b,c,h=>by
  obtain⟨⟨xs,f,e⟩,h3⟩:=h;show⟨⟨xs,c q (by show .head _) xs f,e.mono g⟩,bJ.mono g (λr i=>c r (by show .tail _ ‹_›)) h3⟩
 | [],_::_,_,h=>by simp only[bJ] at h
 | _::_,[],_,h=>by simp only[bJ] at h
theorem bJ.here{K:aj}:∀{a c},bJ K G H a c->∀q∈a,H q≠none
 | [],[],_,q,d=>by cases d
 | q::a,ds::c,h,r,b=>by
  obtain⟨⟨xs,e,f⟩,h3⟩:=h;rcases bG.mp b with rfl | b
  .rw[e];show nofun
  show bJ.here h3 r b
 | [],_::_,h,_,_=>by simp only[bJ] at h
 | _::_,[],h,_,_=>by simp only[bJ] at h
theorem bJ.sf{K:aj}(g:aZ G c):∀{a b},(∀q∈a,∀xs,H q=some (.lst xs)->c q=some (.lst xs))->bJ K G H a b->ao K c (a.map V.ref) (b.map D.lst)
 | [],[],_,_=>ao.nil
 | q::a,ds::b,d,h=>by
  obtain⟨⟨xs,f,e⟩,h3⟩:=h;show ao.cons ?_ (bJ.sf g (λr i=>d r (by show .tail _ ‹_›)) h3);show⟨q,xs,rfl,fO.of (d q (by show .head _) xs f),e.mono g⟩
 | [],_::_,_,h=>by assumption
 | _::_,[],_,h=>by assumption
def iY(K:aj)(G H:Hp):List ab->List (List (Key×D))->Prop
 | [],[]=>True
 | q::b,ds::d=>(∃a c,H q=some (.dK a c)/\iK K G a ds)/\iY K G H b d
 | _,_=>False
theorem iY.mono{K:aj}(g:aZ G d):∀{a b},(∀q∈a,∀u,H q=some u->H' q=some u)->iY K G H a b->iY K d H' a b
 | [],[],_,_=>by simp only[iY]
 | q::a,ds::b,c,h=>by
  obtain⟨⟨e,j,i,f⟩,h3⟩:=h;show⟨⟨e,j,c q (by show .head _) _ i,iK.mono g _ _ f⟩,iY.mono g (λr k=>c r (by show .tail _ ‹_›)) h3⟩
 | [],_::_,_,h=>by simp only[iY] at h
 | _::_,[],_,h=>by simp only[iY] at h
theorem iY.kind{K:aj}:∀{a e},iY K G H a e->∀q∈a,∃b d,H q=some (.dK b d)
 | [],[],_,q,f=>by cases f
 | q::a,ds::e,h,r,c=>by
  obtain⟨⟨b,d,g,i⟩,h3⟩:=h;rcases bG.mp c with rfl | c
  .exact⟨b,d,g⟩
  show iY.kind h3 r c
 | [],_::_,h,_,_=>by simp only[iY] at h
 | _::_,[],h,_,_=>by simp only[iY] at h
theorem iY.here{K:aj}(h:iY K G H a c):∀q∈a,H q≠none:=λq b=>by
 obtain⟨d,f,e⟩:=h.kind q b;rw[e];show nofun
theorem iY.sf{K:aj}(g:aZ G c):∀{a b},(∀q∈a,∀u,H q=some u->c q=some u)->iY K G H a b->ao K c (a.map V.ref) (b.map D.dic)
 | [],[],_,_=>ao.nil
 | q::a,ds::b,d,h=>by
  obtain⟨⟨e,j,i,f⟩,h3⟩:=h;show ao.cons ?_ (iY.sf g (λr k=>d r (by show .tail _ ‹_›)) h3);show⟨q,e,j,rfl,d q (by show .head _) _ i,iK.mono g _ _ f⟩
 | [],_::_,_,h=>by assumption
 | _::_,[],_,h=>by assumption
def mK(K:aj)(G H:Hp)(p:ab)(fp:List ab):OV->Prop
 | .ll f=>H p=some (.lst (fp.map V.ref))/\bJ K G H fp f
 | .dc kvs=>fp=[]/\∃b e,H p=some (.dK b e)/\iK K G b kvs
 | .dl kvs=>∃b e,H p=some (.dK b e)/\b.map (·.1)=kvs.map (·.1)/\b.map (·.2)=fp.map V.ref/\bJ K G H fp (kvs.map (·.2))
 | .tl d ds=>∃q v xs,fp=[q]/\H p=some (.tup [v,.ref q])/\Rep K G v d/\H q=some (.lst xs)/\ao K G xs ds
 | .ld g=>H p=some (.lst (fp.map V.ref))/\iY K G H fp g
 | .dt kvs=>∃b bs,H p=some (.dT b bs)/\eX G b bs.1/\b.map (·.1)=kvs.map (·.1)/\b.map (·.2)=fp.map V.ref/\bJ K G H fp (kvs.map (·.2))
 | .tp ds=>fp=[]/\∃xs,H p=some (.tup xs)/\ao K G xs ds
 | .ob cn fs=>∃C h c,H p=some (.ins C h c)/\ClsAt K cn C/\(∀p∈fs,Sv K C p.1)/\c.map (·.1)=fs.map (·.1)/\c.map (·.2)=fp.map V.ref/\bJ K G H fp (fs.map (·.2))
 | .dq kvs=>fp=[]/\∃b bs,H p=some (.dT b bs)/\eX G b bs.1/\bC K G b kvs
 | .li a f=>p=a/\H p=some (.lst (fp.map V.ref))/\bJ K G H fp f
theorem mK.here{K:aj}(h:mK K G H p fp o):∀q∈p::fp,H q≠none:=by
 intro q b;cases o with
 | ll i=>
  rcases bG.mp b with rfl | b
  .rw[h.1];show nofun
  show h.2.here q b
 | dc kvs=>
  obtain⟨rfl,f,g,c,_⟩:=h;simp only[du] at b;subst b;rw[c];show nofun
 | dl kvs=>
  obtain⟨f,g,c,_,_,e⟩:=h;rcases bG.mp b with rfl | b
  .rw[c];show nofun
  show e.here q b
 | tl d ds=>
  obtain⟨r,v,xs,rfl,c,_,k,_⟩:=h;grind
 | ld j=>
  rcases bG.mp b with rfl | b
  .rw[h.1];show nofun
  show h.2.here q b
 | dt kvs=>
  obtain⟨f,bs,c,_,_,_,e⟩:=h;rcases bG.mp b with rfl | b
  .rw[c];show nofun
  show e.here q b
 | tp ds=>
  obtain⟨rfl,xs,c,_⟩:=h;simp only[du] at b;subst b;rw[c];show nofun
 | ob cn fs=>
  obtain⟨C,m,l,c,_,_,_,_,e⟩:=h;rcases bG.mp b with rfl | b
  .rw[c];show nofun
  show e.here q b
 | dq kvs=>
  obtain⟨rfl,f,bs,c,_⟩:=h;simp only[du] at b;subst b;rw[c];show nofun
 | li a i=>
  rcases bG.mp b with rfl | b
  .rw[h.2.1];show nofun
  show h.2.2.here q b
theorem bJ.kind{K:aj}:∀{a c},bJ K G H a c->∀q∈a,∃xs,H q=some (.lst xs)
 | [],[],_,q,d=>by cases d
 | q::a,ds::c,h,r,b=>by
  obtain⟨⟨xs,e,f⟩,h3⟩:=h;rcases bG.mp b with rfl | b
  .exact⟨xs,e⟩
  show bJ.kind h3 r b
 | [],_::_,h,_,_=>by simp only[bJ] at h
 | _::_,[],h,_,_=>by simp only[bJ] at h
theorem mK.mono{K:aj}(g:aZ G m)(b:∀q∈p::fp,∀u,H q=some u->H' q=some u)(h:mK K G H p fp o):mK K m H' p fp o:=by
 cases o with
 | ll x=>show⟨b p (by show .head _) _ h.1,h.2.mono g λq j xs=>b q (by show .tail _ ‹_›) _⟩
 | dc kvs=>
  obtain⟨rfl,f,l,e,c⟩:=h;show⟨rfl,f,l,b p (by show .head _) _ e,iK.mono g _ _ c⟩
 | dl kvs=>
  obtain⟨f,l,e,c,h3,i⟩:=h;show⟨f,l,b p (by show .head _) _ e,c,h3,i.mono g λq j xs=>b q (by show .tail _ ‹_›) _⟩
 | tl d ds=>
  obtain⟨r,v,xs,rfl,e,c,h3,i⟩:=h;show⟨r,v,xs,rfl,b p (by show .head _) _ e,c.mono g,b r (by show .tail _ (.head _)) _ h3,i.mono g⟩
 | li a x=>show⟨h.1,b p (by show .head _) _ h.2.1,h.2.2.mono g λq j xs=>b q (by show .tail _ ‹_›) _⟩
 | ld y=>show⟨b p (by show .head _) _ h.1,h.2.mono g λq j=>b q (by show .tail _ ‹_›)⟩
 | dt kvs=>
  obtain⟨f,bs,e,k,c,h3,i⟩:=h;show⟨f,bs,b p (by show .head _) _ e,k.mono g,c,h3,i.mono g λq j xs=>b q (by show .tail _ ‹_›) _⟩
 | tp ds=>
  obtain⟨rfl,xs,e,c⟩:=h;show⟨rfl,xs,b p (by show .head _) _ e,c.mono g⟩
 | ob cn fs=>
  obtain⟨C,w,t,e,s,n,c,h3,i⟩:=h;show⟨C,w,t,b p (by show .head _) _ e,s,n,c,h3,i.mono g λq j xs=>b q (by show .tail _ ‹_›) _⟩
 | dq kvs=>
  obtain⟨rfl,f,bs,e,k,c⟩:=h;show⟨rfl,f,bs,b p (by show .head _) _ e,k.mono g,bC.mono g _ _ c⟩
theorem iK.uq{K:aj}:∀{c}{kvs:List (Key×List D)}{fp:List ab},c.map (·.1)=kvs.map (·.1)->c.map (·.2)=fp.map V.ref->ao K G (fp.map V.ref) ((kvs.map (·.2)).map D.lst)->iK K G c (kvs.map λp=>(p.1,.lst p.2))
 | [],[],_,_,_,_=>by trivial
 | a::c,b::kvs,fp,e,d,h3=>by
  simp only[bD,lN.injEq] at e;cases fp with
  | nil=>contradiction
  | cons q fp=>
   simp only[bD,lN.injEq] at d;show⟨⟨e.1,by rw[d.1];show h3.1⟩,iK.uq e.2 d.2 h3.2⟩
 | [],_::_,_,h,_,_=>by trivial
 | _::_,[],_,h,_,_=>by trivial
theorem bC.uq{K:aj}:∀{c}{kvs:List (List Key×List D)}{fp:List ab},c.map (·.1)=kvs.map (·.1)->c.map (·.2)=fp.map V.ref->ao K G (fp.map V.ref) ((kvs.map (·.2)).map D.lst)->bC K G c (kvs.map λp=>(p.1,.lst p.2))
 | [],[],_,_,_,_=>by trivial
 | a::c,b::kvs,fp,e,d,h3=>by
  simp only[bD,lN.injEq] at e;cases fp with
  | nil=>contradiction
  | cons q fp=>
   simp only[bD,lN.injEq] at d;show⟨⟨e.1,by rw[d.1];show h3.1⟩,bC.uq e.2 d.2 h3.2⟩
 | [],_::_,_,h,_,_=>by trivial
 | _::_,[],_,h,_,_=>by trivial
theorem j4.uq{K:aj}:∀{c}{kvs:List (ae×List D)}{fp:List ab},c.map (·.1)=kvs.map (·.1)->c.map (·.2)=fp.map V.ref->ao K G (fp.map V.ref) ((kvs.map (·.2)).map D.lst)->j4 K G c (kvs.map λp=>(p.1,.lst p.2))
 | [],[],_,_,_,_=>by trivial
 | a::c,b::kvs,fp,e,d,h3=>by
  simp only[bD,lN.injEq] at e;cases fp with
  | nil=>contradiction
  | cons q fp=>
   simp only[bD,lN.injEq] at d;show⟨⟨e.1,by rw[d.1];show h3.1⟩,j4.uq e.2 d.2 h3.2⟩
 | [],_::_,_,h,_,_=>by trivial
 | _::_,[],_,h,_,_=>by trivial
noncomputable def i6(G H:Hp)(l:List ab):Hp:=λa=>if a∈l then H a else G a
theorem md(h:a∈l):i6 G H l a=H a:=if_pos h
theorem lh(h:a∉l):i6 G H l a=G a:=if_neg h
theorem xU(h:∀q∈l,G q=none):aZ G (i6 G H l):=λb u e=>by
 rw[lh (λz=>by rw[h b z] at e;cases e)];show e
theorem mK.freeze{K:aj}(h:mK K G H p fp o)(l:∀q∈p::fp,G q=none):Rep K (i6 G H (p::fp)) (.ref p) o.val:=by
 have b:=xU (H:=H) l;have g:i6 G H (p::fp) p=H p:=md (by show .head _);cases o with
 | ll y=>
  show⟨p,_,rfl,fO.of (by rw[g];show h.1),h.2.sf b λq k xs e=>by rw[md (by show .tail _ ‹_›)];show e⟩
 | dc kvs=>
  obtain⟨rfl,i,n,f,c⟩:=h;show⟨p,i,n,rfl,by rw[g];show f,iK.mono b _ _ c⟩
 | dl kvs=>
  obtain⟨i,n,f,c,h3,j⟩:=h;show⟨p,i,n,rfl,by rw[g];show f,iK.uq c h3 (j.sf b λq k xs e=>by rw[md (by show .tail _ ‹_›)];show e)⟩
 | tl d ds=>
  obtain⟨r,v,xs,rfl,f,c,h3,j⟩:=h;show⟨p,_,rfl,(by rw[g];show f),ao.cons (c.mono b) (ao.cons ?_ ao.nil)⟩;show⟨r,xs,rfl,fO.of (by rw[md (by show .tail _ (.head _))];show h3),j.mono b⟩
 | dt kvs=>
  obtain⟨i,bs,f,m,c,h3,j⟩:=h;show⟨p,i,bs,rfl,by rw[g];show f,m.mono b,bC.uq c h3 (j.sf b λq k xs e=>by rw[md (by show .tail _ ‹_›)];show e)⟩
 | tp ds=>
  obtain⟨rfl,xs,f,c⟩:=h;show⟨p,xs,rfl,(by rw[g];show f),c.mono b⟩
 | ob cn fs=>
  obtain⟨C,x,w,f,t,l,c,h3,j⟩:=h;show⟨p,C,x,w,rfl,by rw[g];show f,t,λu s=>?_,j4.uq c h3 (j.sf b λq k xs e=>by rw[md (by show .tail _ ‹_›)];show e)⟩;obtain⟨v,hv,rfl⟩:=aB.mp s;show l v hv
 | li a y=>
  show⟨p,_,rfl,fO.of (by rw[g];show h.2.1),h.2.2.sf b λq k xs e=>by rw[md (by show .tail _ ‹_›)];show e⟩
 | ld z=>
  show⟨p,_,rfl,fO.of (by rw[g];show h.1),h.2.sf b λq k u e=>by rw[md (by show .tail _ ‹_›)];show e⟩
 | dq kvs=>
  obtain⟨rfl,i,bs,f,m,c⟩:=h;show⟨p,i,bs,rfl,by rw[g];show f,m.mono b,bC.mono b _ _ c⟩
noncomputable abbrev Ev:=List Sl
noncomputable def gt:Ev->Nat->Sl
 | [],_=>.un
 | a::_,0=>a
 | _::r,n+1=>gt r n
theorem lg:gt (ρ.set i s) j=if i=j/\j<ρ.length then s else gt ρ j:=by
 induction ρ generalizing i j with
 | nil=>simp_all
 | cons a r b=>
  cases i with
  | zero=>
   cases j with
   | zero=>rfl
   | succ j=>rfl
  | succ i=>
   cases j with
   | zero=>rfl
   | succ j=>simp[gt,b]
def dU(K:aj)(a H' H:Hp)(v:V):R->Prop
 | .fz d=>Rep K a v d
 | .ow ds=>∃p xs,v=.ref p/\H p=none/\a p=none/\H' p=some (.lst xs)/\ao K a xs ds
 | .ov o=>∃p fp,v=.ref p/\(p::fp).Nodup/\mK K a H' p fp o/\∀q∈p::fp,H q=none/\a q=none
structure bh(K:aj)(G0 H0:Hp)(ρ:Ev)(σ:St)(G H:Hp):Prop where
 e:Ext G0 H0 G H
 len:σ.length=ρ.length
 fz:∀i d,gt ρ i=.fz d->∃v,σ[i]?=some (some v)/\Rep K G v d
 ow:∀i ds,gt ρ i=.ow ds->∃p xs,σ[i]?=some (some (.ref p))/\H p=some (.lst xs)/\G p=none/\H0 p=none/\ao K G xs ds
 dj:∀i j ds es,i≠j->gt ρ i=.ow ds->gt ρ j=.ow es->σ[i]?≠σ[j]?
 on:∃own:ab->Option Nat,(∀i ds p,gt ρ i=.ow ds->σ[i]?=some (some (.ref p))->own p=some i)/\∀i o,gt ρ i=.ov o->∃p fp,σ[i]?=some (some (.ref p))/\(p::fp).Nodup/\mK K G H p fp o/\∀q∈p::fp,G q=none/\H0 q=none/\own q=some i
section
variable{K:aj}
theorem bh.ext(E:bh K G0 H0 ρ σ G H)(x:Ext G H G' H'):bh K G0 H0 ρ σ G' H' where
 e:=E.e.trans x
 len:=E.len
 fz:=λi d h=>let⟨v,b,a⟩:=E.fz i d h;⟨v,b,a.mono x.g⟩
 ow:=λi ds h=>let⟨p,xs,b,a,h3,l,k⟩:=E.ow i ds h;⟨p,xs,b,x.h _ _ a,x.n p h3 (by rw[a];show nofun),l,k.mono x.g⟩
 dj:=E.dj
 on:=by
  obtain⟨own,b,a⟩:=E.on;show⟨own,b,λi o h=>?_⟩;obtain⟨p,fp,r,m,j,f⟩:=a i o h;show⟨p,fp,r,m,j.mono x.g λq _ u e=>x.h q u e,λq c=>⟨x.n q (f q c).1 (j.here q c),(f q c).2⟩⟩
theorem dU.freeze(x:Ext G H G' H')(h:dU K G' H' H v r):∃G2,Ext G H G2 H'/\Rep K G2 v r.val/\aZ G' G2:=by
 cases r with
 | fz d=>show⟨G',x,h,aZ.refl _⟩
 | ow ds=>
  obtain⟨p,xs,k,j,h3,t,m⟩:=h;show⟨upd G' p (.lst xs),⟨x.g.trans (t9 h3),x.h,λb o e=>?_,λq f c=>?_⟩,?_,t9 h3⟩
  .by_cases a:b=p
   .subst a;rw[dQ] at e;rw[t];show e
   rw[bA a] at e;show x.s b o e
  .rw[bA (λz=>c (by rw[z];show j))];show x.n q f c
  show⟨p,xs,k,fO.of dQ,m.mono (t9 h3)⟩
 | ov o=>
  obtain⟨p,fp,rfl,k,j,h3⟩:=h;have i:∀q∈p::fp,G' q=none:=λq l=>(h3 q l).2
  show⟨i6 G' H' (p::fp),⟨x.g.trans (xU i),x.h,λb u e=>?_,λq f c=>?_⟩,j.freeze i,xU i⟩
  .by_cases a:b∈p::fp
   .rw[md a] at e;show e
   rw[lh a] at e;show x.s b u e
  rw[lh (λz=>c (h3 q z).1)];show x.n q f c
theorem dU.qj(s:aZ e f)(h:dU K G' H' f v r):dU K G' H' e v r:=by
 cases r with
 | fz d=>show h
 | ow ds=>
  obtain⟨p,xs,b,a,h3,i,g⟩:=h;show⟨p,xs,b,s.free a,h3,i,g⟩
 | ov o=>
  obtain⟨p,fp,rfl,b,a,h3⟩:=h;show⟨p,fp,rfl,b,a,λq c=>⟨s.free (h3 q c).1,(h3 q c).2⟩⟩
end
noncomputable abbrev TD:=Ev->(R->Prop)->Prop
noncomputable abbrev eE:=Ev->(Bool->Prop)->Prop
noncomputable abbrev fh:=Ev->(List D->Prop)->Prop
structure DE where
 nx:Ev->Prop
 rt:R->Prop
 bk:Ev->Prop:=λ_=>False
 ct:Ev->Prop:=λ_=>False
noncomputable abbrev TX:=DE->Ev->Prop
def PD(X:Cx)(e:av)(t:TD):Prop:=∃tt,PE X e tt/\∀ρ σ c b G H Q P,bh X.K c b ρ σ G H->t ρ Q->
 (∀v H' r a,Ext G H a H'->dU X.K a H' H v r->Q r->P v H')->tt σ H P
def PB(X:Cx)(e:av)(t:eE):Prop:=∃tt,PT X e tt/\∀ρ σ c a G H Q P,bh X.K c a ρ σ G H->t ρ Q->
 (∀b H' d,Ext G H d H'->Q b->P b H')->tt σ H P
def jk(X:Cx)(c:List av)(t:fh):Prop:=∃tt,PA X c tt/\∀ρ σ e d G H Q P,bh X.K e d ρ σ G H->t ρ Q->
 (∀a H' ds b,Ext G H b H'->ao X.K b a ds->Q ds->P a H')->tt σ H P
structure Goes(K:aj)(G0 H0 G:Hp)(D:DE)(E:Ends):Prop where
 nx:∀ρ σ G' H',aZ G G'->bh K G0 H0 ρ σ G' H'->D.nx ρ->E.nx σ H'
 rt:∀v H' r G',Ext G0 H0 G' H'->dU K G' H' H0 v r->D.rt r->E.rt v H'
 bk:∀ρ σ G' H',aZ G G'->bh K G0 H0 ρ σ G' H'->D.bk ρ->E.bk σ H'
 ct:∀ρ σ G' H',aZ G G'->bh K G0 H0 ρ σ G' H'->D.ct ρ->E.ct σ H'
theorem Goes.shift{K:aj}{D:DE}(g:Goes K d c G D E)(s:aZ G e):Goes K d c e D E:=
 ⟨λρ σ b a s2=>g.nx ρ σ b a (s.trans s2),g.rt,λρ σ b a s2=>g.bk ρ σ b a (s.trans s2),λρ σ b a s2=>g.ct ρ σ b a (s.trans s2)⟩
def PX(X:Cx)(st:cQ)(t:TX):Prop:=∃tt,PS X st tt/\∀ρ σ b a G H D E,bh X.K b a ρ σ G H->t D ρ->Goes X.K b a G D E->tt E σ H
def jj(X:Cx)(st:List cQ)(t:TX):Prop:=∃tt,j5 X st tt/\∀ρ σ b a G H D E,bh X.K b a ρ σ G H->t D ρ->Goes X.K b a G D E->tt E σ H
section
variable{X:Cx}{a b c:av}{ta tb tc:TD}
theorem de{K:aj}{a H' H:Hp}{v:V}{d:D}(h:Rep K a v d):dU K a H' H v (.fz d):=h
structure Nm(X:Cx)(i:Nat)(x:ae):Prop where
 N:X.N[i]?=some x
 v:yI X.env.scope x
 d:(x==("__debug__":ae))=false
 c:(x==("__classdict__":ae))=false
theorem l9(h:Nm X i x):PE X (.Name x pos) (Je i):=J4 h.N h.v h.d h.c
def aV(i:Nat):TD:=λρ Q=>match gt ρ i with
 | .fz d=>Q (.fz d)
 | _=>False
theorem af(i)(b:Nm X i x:=by walk_at"nm"):PD X (.Name x pos) (aV i):=by
 show⟨_,l9 b,λρ σ m j G H Q P E h k=>?_⟩;unfold aV at h;split at h
 .rename_i d e;obtain⟨v,g,f⟩:=E.fz i d e;show⟨v,g,k v H (.fz d) G (.refl E.e.s) f h⟩
 show h.elim
def dC(d:D):TD:=λ_ Q=>Q (.fz d)
theorem AQ(h:PE X e (tC v))(r:∀K G,Rep K G v d):PD X e (dC d):=
 ⟨_,h,λρ σ b a G H Q P E h k=>k v H (.fz d) G (.refl E.e.s) (r _ _) h⟩
theorem gD(K G i):Rep K G (.int i) (.int i):=by simp only[Rep]
theorem iE(K G i):Rep K G (.bl i) (.bl i):=by simp only[Rep]
theorem rP(K G i):Rep K G (.str i) (.str i):=by simp only[Rep]
theorem T9(K G):Rep K G .non .non:=by simp only[Rep]
theorem aw:PD X (.Constant (.int i) j pos) (dC (.int i)):=AQ SD λK G=>gD K G i
theorem l5:PD X (.Constant (.bool i) j pos) (dC (.bl i)):=AQ Sg λK G=>iE K G i
theorem df:PD X (.Constant (.str i) j pos) (dC (.str i)):=AQ zsD λK G=>rP K G i
theorem JW:PD X (.Constant .none j pos) (dC .non):=AQ zsC λK G=>T9 K G
theorem jt(a:X.mg x=some (.str i t))(b:Gl X x:=by rfl)(hd:(x==("__debug__":ae))=false:=by decide):PD X (.Name x pos) (dC (.str i)):=AQ (zq5 b a (v:=.str i) ⟨t,rfl⟩ hd) λK G=>rP K G i
noncomputable abbrev O2:=D->D->(R->Prop)->Prop
def ik(X:Cx)(f:aa->aa->Sem aa)(o:O2):Prop:=∃r:R2,dE X f r/\∀G H x y d e Q P,aZ G H->Rep X.K G x d->Rep X.K G y e->o d e Q->
 (∀v H' a b,Ext G H b H'->dU X.K b H' H v a->Q a->P v H')->r x y H P
def bR(o:O2)(ta tb:TD):TD:=λρ Q=>ta ρ λa=>tb ρ λrb=>o a.val rb.val Q
theorem ED
  (J:∀G H x y d e Q P,aZ G H->Rep X.K G x d->Rep X.K G y e->o d e Q->(∀v H' j a,Ext G H a H'->dU X.K a H' H v j->Q j->P v H')->r x y H P)
  (M:∀ρ b f c G H Q P,bh X.K f c ρ b G H->ta ρ Q->(∀v H' r a,Ext G H a H'->dU X.K a H' H v r->Q r->P v H')->m b H P)
  (L:∀ρ b f c G H Q P,bh X.K f c ρ b G H->tb ρ Q->(∀v H' r a,Ext G H a H'->dU X.K a H' H v r->Q r->P v H')->n b H P)
  (ρ b f c G H Q P) (E:bh X.K f c ρ b G H) (h:bR o ta tb ρ Q) (k:∀v H' r a,Ext G H a H'->dU X.K a H' H v r->Q r->P v H'):BB r m n b H P:=by
 show M ρ b f c G H _ _ E h λv H1 W Z w C O=>?_
 obtain⟨S,l,I,_⟩:=C.freeze w;show L ρ b f c S H1 _ _ (E.ext l) O λu T rb Y t B N=>?_
 obtain⟨U,i,F,_⟩:=B.freeze t;show J U T v u _ _ Q P i.s (I.mono i.g) F N λz H' j a q A h3=>?_
 have p:=(l.trans i).trans q;show k z H' j a p (A.qj (l.trans i).h) h3
theorem aP(h:ik X (binaryOp op) o)(j:PD X a ta)(i:PD X b tb):PD X (.BinOp a op b pos) (bR o ta tb):=by
 obtain⟨r,g,f⟩:=h;obtain⟨k,e,d⟩:=j;obtain⟨l,pb,c⟩:=i;show⟨_,Se g e pb,ED f d c⟩
theorem nu(h:ik X (compareOp op) o)(k:PD X a ta)(j:PD X b tb)(i:behindInMarks op b=false:=by first | show Sx _ | rfl):PD X (.Compare a [op] [b] pos) (bR o ta tb):=by
 obtain⟨r,g,f⟩:=h;obtain⟨l,e,d⟩:=k;obtain⟨m,pb,c⟩:=j;show⟨_,zrd g e pb i,ED f d c⟩
def gN(t:TD):eE:=λρ Q=>t ρ λr=>match r with
 | .fz (.bl k)=>Q k
 | _=>False
theorem dA(n:ik X (compareOp op) o)(s:PD X a ta)(q:PD X b tb)(p:behindInMarks op b=false:=by first | show Sx _ | rfl):PB X (.Compare a [op] [b] pos) (gN (bR o ta tb)):=by
 obtain⟨r,m,l⟩:=n;obtain⟨x,j,i⟩:=s;obtain⟨y,pb,g⟩:=q;show⟨_,zrf m j pb p,λρ σ u t G H Q P E h k=>?_⟩;show ED l i g ρ σ u t G H _ _ E h λv H' r w d f c=>?_
 split at c
 .rename_i kk;have e:v=.bl kk:=by simpa only[dU,Rep] using f
  show⟨kk,e,k kk H' w d c⟩
 show c.elim
theorem jQ(h:PD X e t)(he:∀whole,isTrue e X.env whole=(do let v <-whole;standAt e.pos;holding [v] (truthy v)):=by intro _;rfl):PB X e (gN t):=by
 obtain⟨tt,p,q⟩:=h;show⟨_,zsE p he,λρ σ f d G H Q P E h k=>?_⟩;show q ρ σ f d G H _ _ E h λv H' r g b c a=>?_
 split at a
 .rename_i kk;have e:v=.bl kk:=by simpa only[dU,Rep] using c
  show⟨kk,e,k kk H' g b a⟩
 show a.elim
def lZ:O2:=λd e Q=>match d,e with
 | .int i,.int j=>Q (.fz (.int (i+j)))
 | .str x,.str y=>x.length+y.length<=sizeLine/\Q (.fz (.str (x++y)))
 | .lst xs,.lst ys=>xs.length+ys.length<=sizeLine/\Q (.ow (xs++ys))
 | _,_=>False
def zuQ(K:aj):R2:=λx y H Q=>∃l b xs zs,x=.ref l/\y=.ref b/\fO K H l xs/\fO K H b zs/\xs.length+zs.length<=sizeLine/\∀p,H p=none->Q (.ref p) (upd H p (.lst (xs++zs)))
theorem zrn:dE X (binaryOp .Add) (zuQ X.K):=by
 intro B s σ H x y v u Q I i g h;obtain⟨l,b,xs,zs,rfl,rfl,j,m,hz,q⟩:=h;cases i;cases g;obtain⟨z,its,n,r,e⟩:=I.cH j;obtain⟨t,f,w,d,p⟩:=I.cH m;have hl:=r.length;have A:=d.length;show PySem.P.add_list e p ?_ (by simp_all);have o:its.toArray++f.toArray=(its++f).toArray:=by simp
 rw[o];show⟨.ref _,_,I.F8 (t':=s.toks) (r.append d) (by rw[bL];walk_at"sb"),rfl,q _ I.fresh⟩
theorem Ay{Q:R->Prop}{P:VK}(s:aZ G H)(r:ao X.K G xs ds)(q:Q (.ow ds))
  (k:∀v H' b c,Ext G H c H'->dU X.K c H' H v b->Q b->P v H'):∀p,H p=none->P (.ref p) (upd H p (.lst xs)):=λp a=>
 k _ _ (.ow ds) G (.own s a) ⟨p,xs,rfl,a,s.free a,dQ,r⟩ q
theorem cN:ik X (binaryOp .Add) lZ:=by
 show⟨_,aat.or (aas.or zrn),λG H x y d e Q P s f c h k=>?_⟩;unfold lZ at h;split at h
 .exact .inl ⟨_,_,f,c,k _ _ _ G (.refl s) (de (gD _ _ _)) h⟩
 .exact .inr (.inl ⟨_,_,f,c,h.1,k _ _ _ G (.refl s) (de (rP _ _ _)) h.2⟩)
 .obtain⟨a,xs,rfl,l,i⟩:=f;obtain⟨b,ys,rfl,j,g⟩:=c;show .inr (.inr ⟨_,_,_,_,rfl,rfl,s.cH l,s.cH j,by rw[i.length,g.length];show h.1,Ay s (i.append g) h.2 k⟩)
 show h.elim
def oI(C:Int->Int->Prop)(g:Int->Int->D):O2:=λd e Q=>match d,e with
 | .int i,.int j=>C i j/\Q (.fz (g i j))
 | _,_=>False
def jw(g:Int->Int->D):O2:=λd e Q=>match d,e with
 | .int i,.int j=>Q (.fz (g i j))
 | _,_=>False
theorem D9(h:dE X f (rI C g))(c:∀K G i j,Rep K G (g i j) (g' i j)):ik X f (oI C g'):=by
 show⟨_,h,λG H x y d e Q P s b a h k=>?_⟩;unfold oI at h;split at h
 .exact⟨_,_,b,a,h.1,k _ _ _ G (.refl s) (de (c _ _ _ _)) h.2⟩
 show h.elim
theorem EC(h:dE X f (mf g))(c:∀K G i j,Rep K G (g i j) (g' i j)):ik X f (jw g'):=by
 show⟨_,h,λG H x y d e Q P s b a h k=>?_⟩;unfold jw at h;split at h
 .exact⟨_,_,b,a,k _ _ _ G (.refl s) (de (c _ _ _ _)) h⟩
 show h.elim
theorem tV:ik X (binaryOp .Sub) (jw λi j=>.int (i-j)):=EC zsR λK G i j=>gD K G _
theorem nr:ik X (binaryOp .Mult) (oI CG λi j=>.int (i*j)):=D9 zsS λK G i j=>gD K G _
theorem vL:ik X (binaryOp .FloorDiv) (oI vF λi j=>.int (i/j)):=D9 zrb λK G i j=>gD K G _
theorem gz:ik X (binaryOp .Mod) (oI (λ_ j=>0<j) λi j=>.int (i%j)):=D9 zsT λK G i j=>gD K G _
theorem zuR:ik X (binaryOp .Pow) (oI xw λi j=>.int (i ^ j.toNat)):=D9 zsU λK G i j=>gD K G _
theorem Jk:ik X (compareOp .Lt) (jw λi j=>.bl (decide (i<j))):=EC Jv λK G i j=>iE K G _
theorem Jj:ik X (compareOp .Gt) (jw λi j=>.bl (decide (j<i))):=EC zuI λK G i j=>iE K G _
theorem ZM:ik X (compareOp .GtE) (jw λi j=>.bl (decide (j<=i))):=EC zuJ λK G i j=>iE K G _
end
open PySem.SeqAt
mutual
noncomputable def b9:D->D->Bool
 | .non,.non=>true
 | .bl a,.bl b=>a==b
 | .bl a,.int b=>(if a then 1 else 0)==b
 | .int a,.bl b=>a==(if b then 1 else 0)
 | .int a,.int b=>a==b
 | .str a,.str b=>a==b
 | .tup xs,.tup ys=>k5 xs ys
 | .lst xs,.lst ys=>k5 xs ys
 | _,_=>false
noncomputable def k5:List D->List D->Bool
 | [],[]=>true
 | x::xs,y::ys=>b9 x y&&k5 xs ys
 | _,_=>false
end
def cF:Nat->D->Prop
 | _,.non=>True
 | _,.bl _=>True
 | _,.int _=>True
 | _,.str _=>True
 | n+1,.tup ds=>∀d∈ds,cF n d
 | n+1,.lst ds=>∀d∈ds,cF n d
 | _,_=>False
mutual
theorem AO:∀(n:Nat)(d:D),cF n d->b9 d d=true
 | n,.non,_=>by simp only[b9]
 | n,.bl _,_=>by show beq_self_eq_true _
 | n,.int _,_=>by show beq_self_eq_true _
 | n,.str _,_=>by show beq_self_eq_true _
 | 0,.tup ds,h=>by cases h
 | 0,.lst ds,h=>by cases h
 | n+1,.tup ds,h=>by show K6 n ds h
 | n+1,.lst ds,h=>by show K6 n ds h
 | 0,.obj _ _,h=>by cases h
 | n+1,.obj _ _,h=>by cases h
 | 0,.dic _,h=>by cases h
 | 0,.dit _,h=>by cases h
 | 0,.exc _ _,h=>by cases h
 | 0,.idn _ _,h=>by cases h
 | n+1,.dic _,h=>by cases h
 | n+1,.dit _,h=>by cases h
 | n+1,.exc _ _,h=>by cases h
 | n+1,.idn _ _,h=>by cases h
theorem K6:∀(n:Nat)(ds:List D),(∀d∈ds,cF n d)->k5 ds ds=true
 | n,[],_=>by simp only[k5]
 | n,d::ds,h=>by simp only[k5,AO n d (h d (by walk_at"sb")),K6 n ds (λe he=>h e (by walk_at"sb")),Bool.and_self]
end
theorem AN:∀{xs ys},xs.length≠ys.length->k5 xs ys=false
 | [],[],h=>absurd rfl h
 | x::xs,y::ys,h=>by
  rw[k5,AN (xs:=xs) (ys:=ys) (by simpa using h),HM]
 | [],_::_,_=>by simp only[k5]
 | _::_,[],_=>by simp only[k5]
theorem AM:∀xs ys,xs.length=ys.length->k5 xs ys=(aN xs.length).all λj=>b9 (xs.getD j .non) (ys.getD j .non)
 | [],[],_=>by rfl
 | x::xs,y::ys,h=>by
  rw[k5,AM xs ys (by simpa using h),cC,List.range_succ_eq_map,Pf,List.all_map];congr 1
 | [],_::_,h=>by trivial
 | _::_,[],h=>by trivial
theorem KR(xs ys):((aN (min xs.length ys.length)).all (λj=>b9 (xs.getD j .non) (ys.getD j .non))&&xs.length==ys.length)=k5 xs ys:=by
 by_cases h:xs.length=ys.length
 .rw[AM xs ys h,h];simp
 rw[AN h];lia
section
variable{X:Cx}{J':List (ab×aT)}{σ:St}{H:Hp}{s:ai}
mutual
theorem Fb(I:Inv X J' σ H s):∀(n:Nat)(d e:D)(v:V),cF n d->cF n e->Rep X.K H v d->Rep X.K H v e->d=e
 | n,.non,e,v,h,h',r,c=>by
  cases e<;>simp only[Rep] at r c<;>subst r<;>grind
 | n,.bl b,e,v,h,h',r,c=>by
  cases e<;>simp only[Rep] at r c<;>subst r<;>grind
 | n,.int b,e,v,h,h',r,c=>by
  cases e<;>simp only[Rep] at r c<;>subst r<;>grind
 | n,.str b,e,v,h,h',r,c=>by
  cases e<;>simp only[Rep] at r c<;>subst r<;>grind
 | 0,.tup ds,e,v,h,h',r,c=>by cases h
 | 0,.lst ds,e,v,h,h',r,c=>by cases h
 | n+1,.tup ds,e,v,h,h',r,c=>by
  obtain⟨a,xs,rfl,q,rs⟩:=r;cases e<;>simp only[Rep] at c
  case tup j=>
   obtain⟨b,ys,i,f,g⟩:=c;cases i;rw[I.WN (cz.of f) (cz.of q)] at g;rw[KQ I n ds j xs h h' rs g]
  case lst j=>
   obtain⟨b,ys,i,f,g⟩:=c;cases i;obtain⟨its,_,k,_⟩:=I.tuple (cz.of q);obtain⟨its',_,l,_⟩:=I.list f.sq;show absurd rfl (ne_of_list_tuple l.isList (show s.heap.IsTuple a its.toArray from k))
  case obj=>cases h'
  case dic=>cases h'
  case dit=>cases h'
  case exc=>cases h'
  case idn=>cases h'
  all_goals cases c
 | n+1,.lst ds,e,v,h,h',r,c=>by
  obtain⟨a,xs,rfl,q,rs⟩:=r;cases e<;>simp only[Rep] at c
  case lst j=>
   obtain⟨b,ys,i,f,g⟩:=c;cases i;rw[I.BO f.sq q.sq] at g;rw[KQ I n ds j xs h h' rs g]
  case tup j=>
   obtain⟨b,ys,i,f,g⟩:=c;cases i;obtain⟨its,_,k,_⟩:=I.tuple (cz.of f);obtain⟨its',_,l,_⟩:=I.list q.sq;show absurd rfl (ne_of_list_tuple l.isList (show s.heap.IsTuple a its.toArray from k))
  case obj=>cases h'
  case dic=>cases h'
  case dit=>cases h'
  case exc=>cases h'
  case idn=>cases h'
  all_goals cases c
 | 0,.obj _ _,_,_,h,_,_,_=>by cases h
 | n+1,.obj _ _,_,_,h,_,_,_=>by cases h
 | 0,.dic _,_,_,h,_,_,_=>by cases h
 | 0,.dit _,_,_,h,_,_,_=>by cases h
 | 0,.exc _ _,_,_,h,_,_,_=>by cases h
 | 0,.idn _ _,_,_,h,_,_,_=>by cases h
 | n+1,.dic _,_,_,h,_,_,_=>by cases h
 | n+1,.dit _,_,_,h,_,_,_=>by cases h
 | n+1,.exc _ _,_,_,h,_,_,_=>by cases h
 | n+1,.idn _ _,_,_,h,_,_,_=>by cases h
theorem KQ(I:Inv X J' σ H s):∀(n:Nat)(ds b:List D)(f:List V),(∀d∈ds,cF n d)->(∀d∈b,cF n d)->ao X.K H f ds->ao X.K H f b->ds=b
 | n,[],[],_,_,_,_,_=>rfl
 | n,d::ds,e::b,v::f,h,h',r,g=>by
  rw[Fb I n d e v (h d (by walk_at"sb")) (h' e (by walk_at"sb")) r.1 g.1,KQ I n ds b f (λx i=>h x (by walk_at"sb")) (λx i=>h' x (by walk_at"sb")) r.2 g.2]
 | n,[],_::_,[],_,_,_,r=>by simp only[ao] at r
 | n,[],_::_,_::_,_,_,r,_=>by simp only[ao] at r
 | n,_::_,[],[],_,_,r,_=>by simp only[ao] at r
 | n,_::_,[],_::_,_,_,_,r=>by simp only[ao] at r
 | n,_::_,_::_,[],_,_,r,_=>by simp only[ao] at r
end
theorem l8(c:Vals b a)(g:ao X.K H b ds)(l):∃v,RelV v a.toArray[j]/\Rep X.K H v (ds.getD j .non)/\ds.getD j .non∈ds:=by
 have h:j<a.length:=by trivial
 have e:j<b.length:=by rw[c.length];show h
 obtain⟨u,k,i⟩:=c.get (aX e);obtain⟨d,hd,f⟩:=g.Yw (aX e);grind
noncomputable def xB:D->Bool
 | .non=>true
 | .bl _=>true
 | .int _=>true
 | .str _=>true
 | _=>false
theorem T8(hd:xB d=true)(he:xB e=true)(b:Rep X.K H x d)(a:Rep X.K H y e):Ea x=true/\Ea y=true/\NF x y=b9 d e:=by
 cases d<;>first | cases hd | skip
 all_goals (cases e<;>first | cases he | skip)
 all_goals
  subst b a;show⟨rfl,rfl,by simp[NF,b9]⟩
theorem Aq(I:Inv X Z σ H s):∀n A d e x y v u,cF n d->cF n e->A.units+n<cLine->Rep X.K H x d->Rep X.K H y e->RelV x v->RelV y u->EqAt A s v u (b9 d e):=by
 intro n;induction n with
 | zero=>
  intro A d e x y v u hd he Y k g l i;have fd:xB d=true:=by cases d<;>first | rfl | cases hd
  have L:xB e=true:=by cases e<;>first | rfl | cases he
  obtain⟨C,B,h3⟩:=T8 fd L k g;rw[<-h3];show Ss l i C B
 | succ n W=>
  intro A d e x y v u hd he Y k g l i;have f:A.units<cLine:=by lia
  have U:A.in1.units+n<cLine:=by show A.units+1+n<cLine;lia
  by_cases fd:xB d=true
  .by_cases L:xB e=true
   .obtain⟨C,B,h3⟩:=T8 fd L k g;rw[<-h3];show Ss l i C B
   cases e<;>first | show absurd rfl L | skip
   case tup m=>
    obtain⟨b,ys,rfl,q,rs⟩:=g;cases i;obtain⟨its,p,w,_⟩:=I.tuple (cz.of q);have c:s.heap.IsTuple b its.toArray:=w;cases d<;>first | cases fd | skip
    .subst k;cases l;simpa only[b9] using EqAt.none_tuple c f
    .subst k;cases l;simpa only[b9] using EqAt.bool_tuple _ c f
    .subst k;obtain⟨t,rfl⟩:=l;simpa only[b9] using EqAt.int_tuple _ t c f
    subst k;obtain⟨t,rfl⟩:=l;simpa only[b9] using EqAt.str_tuple _ t c f
   case lst m=>
    obtain⟨b,ys,rfl,q,rs⟩:=g;cases i;obtain⟨its,p,w,_⟩:=I.list q.sq;have c:=w.isList;cases d<;>first | cases fd | skip
    .subst k;cases l;simpa only[b9] using EqAt.none_list c f
    .subst k;cases l;simpa only[b9] using EqAt.bool_list _ c f
    .subst k;obtain⟨t,rfl⟩:=l;simpa only[b9] using EqAt.int_list _ t c f
    subst k;obtain⟨t,rfl⟩:=l;simpa only[b9] using EqAt.str_list _ t c f
   case obj=>cases he
   case dic=>cases he
   case dit=>cases he
   case exc=>cases he
   case idn=>cases he
  cases d<;>first | show absurd rfl fd | skip
  case tup ds=>
   have S:=k;obtain⟨a,xs,rfl,q,rs⟩:=k;cases l;obtain⟨its,p,w,_⟩:=I.tuple (cz.of q);have c:s.heap.IsTuple a its.toArray:=w;cases e
   case non=>subst g;cases i;simpa only[b9] using EqAt.tuple_none c f
   case bl=>subst g;cases i;simpa only[b9] using EqAt.tuple_bool _ c f
   case int=>subst g;obtain⟨t,rfl⟩:=i;simpa only[b9] using EqAt.tuple_int _ t c f
   case str=>subst g;obtain⟨t,rfl⟩:=i;simpa only[b9] using EqAt.tuple_str _ t c f
   case lst m=>
    obtain⟨b,ys,rfl,r,E⟩:=g;cases i;obtain⟨its',z,o,_⟩:=I.list r.sq;simpa only[b9] using EqAt.tuple_list c o.isList f
   case tup m=>
    have T:=g;obtain⟨b,ys,rfl,r,E⟩:=g;cases i;obtain⟨its',z,M,_⟩:=I.tuple (cz.of r);by_cases G:a=b
    .subst G;have N:=Fb I (n+1) _ _ _ hd he S T;rw[<-N,AO (n+1) _ hd];show EqAt.same _
    show EqAt.of_refs G ?_;have h:=RcAt.tuples (e:=λj=>b9 (ds.getD j .non) (m.getD j .non)) c (show s.heap.IsTuple b its'.toArray from M) f λj C B=>by
     obtain⟨v1,a1,R,P⟩:=l8 p rs C;obtain⟨v2,a2,Q,O⟩:=l8 z E B;show W A.in1 _ _ v1 v2 _ _ (hd _ P) (he _ O) U R Q a1 a2
    have F:its.toArray.size=ds.length:=by rw[cS,<-p.length,rs.length]
    have J:its'.toArray.size=m.length:=by rw[cS,<-z.length,E.length]
    rw[F,J,KR] at h;simpa only[b9] using h
   case obj=>cases he
   case dic=>cases he
   case dit=>cases he
   case exc=>cases he
   case idn=>cases he
  case lst ds=>
   have S:=k;obtain⟨a,xs,rfl,q,rs⟩:=k;cases l;obtain⟨its,p,w,_⟩:=I.list q.sq;have c:=w.isList;cases e
   case non=>subst g;cases i;simpa only[b9] using EqAt.list_none c f
   case bl=>subst g;cases i;simpa only[b9] using EqAt.list_bool _ c f
   case int=>subst g;obtain⟨t,rfl⟩:=i;simpa only[b9] using EqAt.list_int _ t c f
   case str=>subst g;obtain⟨t,rfl⟩:=i;simpa only[b9] using EqAt.list_str _ t c f
   case tup m=>
    obtain⟨b,ys,rfl,r,E⟩:=g;cases i;obtain⟨its',z,o,_⟩:=I.tuple (cz.of r);simpa only[b9] using EqAt.list_tuple c (show s.heap.IsTuple b its'.toArray from o) f
   case lst m=>
    have T:=g;obtain⟨b,ys,rfl,r,E⟩:=g;cases i;obtain⟨its',z,M,_⟩:=I.list r.sq;by_cases G:a=b
    .subst G;have N:=Fb I (n+1) _ _ _ hd he S T;rw[<-N,AO (n+1) _ hd];show EqAt.same _
    show EqAt.of_refs G ?_;have F:its.toArray.size=ds.length:=by rw[cS,<-p.length,rs.length]
    have J:its'.toArray.size=m.length:=by rw[cS,<-z.length,E.length]
    by_cases o:ds.length=m.length
    .have h:=RcAt.lists (e:=λj=>b9 (ds.getD j .non) (m.getD j .non)) c M.isList (by rw[F,J,o]) f λj C B=>by
      obtain⟨v1,a1,R,P⟩:=l8 p rs C;obtain⟨v2,a2,Q,O⟩:=l8 z E B;show W A.in1 _ _ v1 v2 _ _ (hd _ P) (he _ O) U R Q a1 a2
     rw[F,<-AM ds m o] at h;simpa only[b9] using h
    have h:=RcAt.lists_lengths (A:=A) c M.isList (by rw[F,J];simpa using o) f;simp only[b9,AN o];show h
   case obj=>cases he
   case dic=>cases he
   case dit=>cases he
   case exc=>cases he
   case idn=>cases he
  case obj=>cases hd
  case dic=>cases hd
  case dit=>cases hd
  case exc=>cases hd
  case idn=>cases hd
end
section
variable{X:Cx}{σ:St}
theorem nL(r:Rep X.K H y .non)(q:RelV y u):u=.none:=by simp only[Rep] at r;subst r;cases q;rfl
theorem nN(r:Rep X.K H y (.bl c))(q:RelV y u):u=.bool c:=by simp only[Rep] at r;subst r;cases q;rfl
theorem nM(r:Rep X.K H y (.int i))(q:RelV y u):∃t,u=.int i t:=by simp only[Rep] at r;subst r;show q
theorem nK(r:Rep X.K H y (.str x))(q:RelV y u):∃t,u=.str x t:=by simp only[Rep] at r;subst r;show q
theorem qI(I:Inv X J' σ H s)(r:Rep X.K H y (.tup c))(q:RelV y u):∃b it,u=.ref b/\s.heap.IsTuple b (Hz it):=by
 simp only[Rep] at r;obtain⟨b,ys,rfl,h,_⟩:=r;cases q;obtain⟨it,_,a,_⟩:=I.tuple (cz.of h);show⟨b,it,rfl,a⟩
theorem qJ(I:Inv X J' σ H s)(r:Rep X.K H y (.lst c))(q:RelV y u):∃b it,u=.ref b/\s.heap.IsList b (Hz it):=by
 simp only[Rep] at r;obtain⟨b,ys,rfl,h,_⟩:=r;cases q;obtain⟨it,_,a,_⟩:=I.list h.sq;show⟨b,it,rfl,a.isList⟩
theorem ztc(I:Inv X J' σ H s):∀n A d e x y v u,cF n d->cF n e->A.units+n<cLine->Rep X.K H x d->Rep X.K H y e->RelV x v->RelV y u->RcAt A s v u (b9 d e):=by
 intro n A d e x y v u hd he Q l c o f;have i:A.units<cLine:=by lia
 cases d
 case non=>
  simp only[Rep] at l;subst l;cases o;cases e
  case non=>cases nL c f;show RcAt.none_none
  case bl=>cases nN c f;show RcAt.none_bool _
  case int=>obtain⟨t,rfl⟩:=nM c f;show RcAt.none_int _ t
  case str=>obtain⟨t,rfl⟩:=nK c f;show RcAt.none_str _ t
  case tup=>obtain⟨b,it,rfl,g⟩:=qI I c f;show RcAt.none_tuple g i
  case lst=>obtain⟨b,it,rfl,g⟩:=qJ I c f;show RcAt.none_list g i
  all_goals (cases n<;>cases he)
 case bl a=>
  simp only[Rep] at l;subst l;cases o;cases e
  case non=>cases nL c f;show RcAt.bool_none _
  case bl=>cases nN c f;show RcAt.bool_bool _ _
  case int=>obtain⟨t,rfl⟩:=nM c f;show RcAt.bool_int _ _ t
  case str=>obtain⟨t,rfl⟩:=nK c f;show RcAt.bool_str _ _ t
  case tup=>obtain⟨b,it,rfl,g⟩:=qI I c f;show RcAt.bool_tuple _ g i
  case lst=>obtain⟨b,it,rfl,g⟩:=qJ I c f;show RcAt.bool_list _ g i
  all_goals (cases n<;>cases he)
 case int a=>
  simp only[Rep] at l;subst l;obtain⟨t0,rfl⟩:=o;cases e
  case non=>cases nL c f;show RcAt.int_none _ t0
  case bl=>cases nN c f;show RcAt.int_bool _ t0 _
  case int=>obtain⟨t,rfl⟩:=nM c f;show RcAt.int_int _ t0 _ t
  case str=>obtain⟨t,rfl⟩:=nK c f;show RcAt.int_str _ t0 _ t
  case tup=>obtain⟨b,it,rfl,g⟩:=qI I c f;show RcAt.int_tuple _ t0 g i
  case lst=>obtain⟨b,it,rfl,g⟩:=qJ I c f;show RcAt.int_list _ t0 g i
  all_goals (cases n<;>cases he)
 case str a=>
  simp only[Rep] at l;subst l;obtain⟨t0,rfl⟩:=o;cases e
  case non=>cases nL c f;show RcAt.str_none _ t0
  case bl=>cases nN c f;show RcAt.str_bool _ t0 _
  case int=>obtain⟨t,rfl⟩:=nM c f;show RcAt.str_int _ t0 _ t
  case str=>obtain⟨t,rfl⟩:=nK c f;show RcAt.str_str _ t0 _ t
  case tup=>obtain⟨b,it,rfl,g⟩:=qI I c f;show RcAt.str_tuple _ t0 g i
  case lst=>obtain⟨b,it,rfl,g⟩:=qJ I c f;show RcAt.str_list _ t0 g i
  all_goals (cases n<;>cases he)
 case tup ds=>
  cases n with
  | zero=>cases hd
  | succ n=>
  have G:A.in1.units+n<cLine:=by show A.units+1+n<cLine;lia
  simp only[Rep] at l;obtain⟨a,xs,rfl,q,rs⟩:=l;cases o;obtain⟨its,p,J,_⟩:=I.tuple (cz.of q);have k:s.heap.IsTuple a its.toArray:=J;cases e
  case non=>cases nL c f;show RcAt.tuple_none k i
  case bl=>cases nN c f;show RcAt.tuple_bool _ k i
  case int=>obtain⟨t,rfl⟩:=nM c f;show RcAt.tuple_int _ t k i
  case str=>obtain⟨t,rfl⟩:=nK c f;show RcAt.tuple_str _ t k i
  case lst m=>obtain⟨b,it,rfl,g⟩:=qJ I c f;show RcAt.tuple_list k g i
  case tup m=>
   simp only[Rep] at c;obtain⟨b,ys,rfl,F,z⟩:=c;cases f;obtain⟨its',w,E,_⟩:=I.tuple (cz.of F);have h:=RcAt.tuples (e:=λj=>b9 (ds.getD j .non) (m.getD j .non)) k (show s.heap.IsTuple b its'.toArray from E) i λj L g=>by
    obtain⟨v1,a1,P,N⟩:=l8 p rs L;obtain⟨v2,a2,O,M⟩:=l8 w z g;show Aq I n A.in1 _ _ v1 v2 _ _ (hd _ N) (he _ M) G P O a1 a2
   have r:its.toArray.size=ds.length:=by rw[cS,<-p.length,rs.length]
   have B:its'.toArray.size=m.length:=by rw[cS,<-w.length,z.length]
   rw[r,B,KR] at h;simpa only[b9] using h
  all_goals cases he
 case lst ds=>
  cases n with
  | zero=>cases hd
  | succ n=>
  have G:A.in1.units+n<cLine:=by show A.units+1+n<cLine;lia
  simp only[Rep] at l;obtain⟨a,xs,rfl,q,rs⟩:=l;cases o;obtain⟨its,p,J,_⟩:=I.list q.sq;have k:=J.isList;cases e
  case non=>cases nL c f;show RcAt.list_none k i
  case bl=>cases nN c f;show RcAt.list_bool _ k i
  case int=>obtain⟨t,rfl⟩:=nM c f;show RcAt.list_int _ t k i
  case str=>obtain⟨t,rfl⟩:=nK c f;show RcAt.list_str _ t k i
  case tup m=>obtain⟨b,it,rfl,g⟩:=qI I c f;show RcAt.list_tuple k g i
  case lst m=>
   simp only[Rep] at c;obtain⟨b,ys,rfl,F,z⟩:=c;cases f;obtain⟨its',w,E,_⟩:=I.list F.sq;have r:its.toArray.size=ds.length:=by rw[cS,<-p.length,rs.length]
   have B:its'.toArray.size=m.length:=by rw[cS,<-w.length,z.length]
   by_cases C:ds.length=m.length
   .have h:=RcAt.lists (e:=λj=>b9 (ds.getD j .non) (m.getD j .non)) k E.isList (by rw[r,B,C]) i λj L g=>by
     obtain⟨v1,a1,P,N⟩:=l8 p rs L;obtain⟨v2,a2,O,M⟩:=l8 w z g;show Aq I n A.in1 _ _ v1 v2 _ _ (hd _ N) (he _ M) G P O a1 a2
    rw[r,<-AM ds m C] at h;simpa only[b9] using h
   have h:=RcAt.lists_lengths (A:=A) k E.isList (by rw[r,B];simpa using C) i;simp only[b9,AN C];show h
  all_goals cases he
 all_goals (cases n<;>cases hd)
theorem zoZ(I:Inv X J' σ H s):∀n A d e x y v u,cF n d->cF n e->A.units+n<cLine->Rep X.K H x d->Rep X.K H y e->RelV x v->RelV y u->RcNeAt A s v u (!b9 d e):=by
 intro n A d e x y v u hd he Q l c o f;have i:A.units<cLine:=by lia
 cases d
 case non=>
  simp only[Rep] at l;subst l;cases o;cases e
  case non=>cases nL c f;show RcNeAt.none_none
  case bl=>cases nN c f;show RcNeAt.none_bool _
  case int=>obtain⟨t,rfl⟩:=nM c f;show RcNeAt.none_int _ t
  case str=>obtain⟨t,rfl⟩:=nK c f;show RcNeAt.none_str _ t
  case tup=>obtain⟨b,it,rfl,g⟩:=qI I c f;show RcNeAt.none_tuple g i
  case lst=>obtain⟨b,it,rfl,g⟩:=qJ I c f;show RcNeAt.none_list g i
  all_goals (cases n<;>cases he)
 case bl a=>
  simp only[Rep] at l;subst l;cases o;cases e
  case non=>cases nL c f;show RcNeAt.bool_none _
  case bl=>cases nN c f;show RcNeAt.bool_bool _ _
  case int=>obtain⟨t,rfl⟩:=nM c f;show RcNeAt.bool_int _ _ t
  case str=>obtain⟨t,rfl⟩:=nK c f;show RcNeAt.bool_str _ _ t
  case tup=>obtain⟨b,it,rfl,g⟩:=qI I c f;show RcNeAt.bool_tuple _ g i
  case lst=>obtain⟨b,it,rfl,g⟩:=qJ I c f;show RcNeAt.bool_list _ g i
  all_goals (cases n<;>cases he)
 case int a=>
  simp only[Rep] at l;subst l;obtain⟨t0,rfl⟩:=o;cases e
  case non=>cases nL c f;show RcNeAt.int_none _ t0
  case bl=>cases nN c f;show RcNeAt.int_bool _ t0 _
  case int=>obtain⟨t,rfl⟩:=nM c f;show RcNeAt.int_int _ t0 _ t
  case str=>obtain⟨t,rfl⟩:=nK c f;show RcNeAt.int_str _ t0 _ t
  case tup=>obtain⟨b,it,rfl,g⟩:=qI I c f;show RcNeAt.int_tuple _ t0 g i
  case lst=>obtain⟨b,it,rfl,g⟩:=qJ I c f;show RcNeAt.int_list _ t0 g i
  all_goals (cases n<;>cases he)
 case str a=>
  simp only[Rep] at l;subst l;obtain⟨t0,rfl⟩:=o;cases e
  case non=>cases nL c f;show RcNeAt.str_none _ t0
  case bl=>cases nN c f;show RcNeAt.str_bool _ t0 _
  case int=>obtain⟨t,rfl⟩:=nM c f;show RcNeAt.str_int _ t0 _ t
  case str=>obtain⟨t,rfl⟩:=nK c f;show RcNeAt.str_str _ t0 _ t
  case tup=>obtain⟨b,it,rfl,g⟩:=qI I c f;show RcNeAt.str_tuple _ t0 g i
  case lst=>obtain⟨b,it,rfl,g⟩:=qJ I c f;show RcNeAt.str_list _ t0 g i
  all_goals (cases n<;>cases he)
 case tup ds=>
  cases n with
  | zero=>cases hd
  | succ n=>
  have G:A.in1.units+n<cLine:=by show A.units+1+n<cLine;lia
  simp only[Rep] at l;obtain⟨a,xs,rfl,q,rs⟩:=l;cases o;obtain⟨its,p,J,_⟩:=I.tuple (cz.of q);have k:s.heap.IsTuple a its.toArray:=J;cases e
  case non=>cases nL c f;show RcNeAt.tuple_none k i
  case bl=>cases nN c f;show RcNeAt.tuple_bool _ k i
  case int=>obtain⟨t,rfl⟩:=nM c f;show RcNeAt.tuple_int _ t k i
  case str=>obtain⟨t,rfl⟩:=nK c f;show RcNeAt.tuple_str _ t k i
  case lst m=>obtain⟨b,it,rfl,g⟩:=qJ I c f;show RcNeAt.tuple_list k g i
  case tup m=>
   simp only[Rep] at c;obtain⟨b,ys,rfl,F,z⟩:=c;cases f;obtain⟨its',w,E,_⟩:=I.tuple (cz.of F);have h:=RcNeAt.tuples (e:=λj=>b9 (ds.getD j .non) (m.getD j .non)) k (show s.heap.IsTuple b its'.toArray from E) i λj L g=>by
    obtain⟨v1,a1,P,N⟩:=l8 p rs L;obtain⟨v2,a2,O,M⟩:=l8 w z g;show Aq I n A.in1 _ _ v1 v2 _ _ (hd _ N) (he _ M) G P O a1 a2
   have r:its.toArray.size=ds.length:=by rw[cS,<-p.length,rs.length]
   have B:its'.toArray.size=m.length:=by rw[cS,<-w.length,z.length]
   rw[r,B,KR] at h;simpa only[b9] using h
  all_goals cases he
 case lst ds=>
  cases n with
  | zero=>cases hd
  | succ n=>
  have G:A.in1.units+n<cLine:=by show A.units+1+n<cLine;lia
  simp only[Rep] at l;obtain⟨a,xs,rfl,q,rs⟩:=l;cases o;obtain⟨its,p,J,_⟩:=I.list q.sq;have k:=J.isList;cases e
  case non=>cases nL c f;show RcNeAt.list_none k i
  case bl=>cases nN c f;show RcNeAt.list_bool _ k i
  case int=>obtain⟨t,rfl⟩:=nM c f;show RcNeAt.list_int _ t k i
  case str=>obtain⟨t,rfl⟩:=nK c f;show RcNeAt.list_str _ t k i
  case tup m=>obtain⟨b,it,rfl,g⟩:=qI I c f;show RcNeAt.list_tuple k g i
  case lst m=>
   simp only[Rep] at c;obtain⟨b,ys,rfl,F,z⟩:=c;cases f;obtain⟨its',w,E,_⟩:=I.list F.sq;have r:its.toArray.size=ds.length:=by rw[cS,<-p.length,rs.length]
   have B:its'.toArray.size=m.length:=by rw[cS,<-w.length,z.length]
   by_cases C:ds.length=m.length
   .have h:=RcNeAt.lists (e:=λj=>b9 (ds.getD j .non) (m.getD j .non)) k E.isList (by rw[r,B,C]) i λj L g=>by
     obtain⟨v1,a1,P,N⟩:=l8 p rs L;obtain⟨v2,a2,O,M⟩:=l8 w z g;show Aq I n A.in1 _ _ v1 v2 _ _ (hd _ N) (he _ M) G P O a1 a2
    rw[r,<-AM ds m C] at h;simpa only[b9] using h
   have h:=RcNeAt.lists_lengths (A:=A) k E.isList (by rw[r,B];simpa using C) i;simp only[b9,AN C];show h
  all_goals cases he
 all_goals (cases n<;>cases hd)
end
section
variable{X:Cx}
def oEq:O2:=λd e Q=>cF 9 d/\cF 9 e/\Q (.fz (.bl (b9 d e)))
def Ms:O2:=λd e Q=>cF 9 d/\cF 9 e/\Q (.fz (.bl (!b9 d e)))
theorem fj(f:X.A.units+64<cLine):ik X (compareOp .Eq) oEq:=by
 show⟨λx y H Q=>∃d e,cF 9 d/\cF 9 e/\Rep X.K H x d/\Rep X.K H y e/\Q (.bl (b9 d e)) H,λg s σ H x y v u Q I b a h=>?_,λG H x y d e Q P s b a h k=>?_⟩
 .obtain⟨d,e,hd,he,c,re,q⟩:=h;show ztc I 9 X.A d e x y v u hd he (by lia) c re b a _ _ _ _ ⟨.bl _,H,I,rfl,q⟩
 show⟨d,e,h.1,h.2.1,b.mono s,a.mono s,k _ _ _ G (.refl s) (de (iE _ _ _)) h.2.2⟩
theorem zZ(f:X.A.units+64<cLine):ik X (compareOp .NotEq) Ms:=by
 show⟨λx y H Q=>∃d e,cF 9 d/\cF 9 e/\Rep X.K H x d/\Rep X.K H y e/\Q (.bl (!b9 d e)) H,λg s σ H x y v u Q I b a h=>?_,λG H x y d e Q P s b a h k=>?_⟩
 .obtain⟨d,e,hd,he,c,re,q⟩:=h;show zoZ I 9 X.A d e x y v u hd he (by lia) c re b a _ _ _ _ ⟨.bl _,H,I,rfl,q⟩
 show⟨d,e,h.1,h.2.1,b.mono s,a.mono s,k _ _ _ G (.refl s) (de (iE _ _ _)) h.2.2⟩
noncomputable def inD(d:D)(ds:List D):Bool:=ds.any λe=>b9 e d
def rD(a:Bool):O2:=λd e Q=>match d,e with
 | .str x,.str y=>Q (.fz (.bl (if a then !(!(mV y x 0 y.length 1).isEmpty) else !(mV y x 0 y.length 1).isEmpty)))
 | d,.lst b=>cF 8 d/\(∀e∈b,cF 8 e)/\Q (.fz (.bl (if a then !inD d b else inD d b)))
 | d,.tup b=>cF 8 d/\(∀e∈b,cF 8 e)/\Q (.fz (.bl (if a then !inD d b else inD d b)))
 | _,_=>False
noncomputable def fZ(X:Cx)(H:Hp)(d:D)(u:aa):Bool:=open Classical in if h:∃(v:V)(e:D),cF 8 e/\RelV v u/\Rep X.K H v e then b9 h.choose_spec.choose d else false
theorem Sn{g:St}(I:Inv X m g H s)(he:cF 8 e)(c:RelV v u)(f:Rep X.K H v e):fZ X H d u=b9 e d:=by
 have h:∃(v:V)(e:D),cF 8 e/\RelV v u/\Rep X.K H v e:=⟨v,e,he,c,f⟩
 unfold fZ;rw[dif_pos h];obtain⟨k,j,h3⟩:=h.choose_spec.choose_spec;have l:h.choose=v:=RelV.inj j c;have i:∀b,b=v->∀a,cF 8 a->Rep X.K H b a->a=e:=λb hv a o r=>by subst hv;show Fb I 8 _ e _ o he r f
 rw[i _ l _ k h3]
theorem Ap{f:St}(I:Inv X g f H s):∀{a c us},(∀e∈a,cF 8 e)->Vals c us->ao X.K H c a->us.any (fZ X H d)=inD d a
 | [],_,_,_,b,re=>by
  cases b
  .rfl
  simp only[ao] at re
 | e::a,_,_,h,b,re=>by
  cases b with
  | nil=>simp only[ao] at re
  | cons r t=>
   simp only[ao] at re;rw[CW,Sn I (h e (by show .head _)) r re.1,Ap I (λx i=>h x (by show .tail _ ‹_›)) t re.2];rfl
theorem Fe{i:St}(I:Inv X q i H s)(hd:cF 8 d)(o:A.units+8<cLine)(k:Rep X.K H x d)(n:RelV x v)
  (he:∀e∈f,cF 8 e) (l:Vals b c) (m:ao X.K H b f):∀u∈c.toArray,EqAt A s u v (fZ X H d u):=λu a=>by
 obtain⟨j,p,e⟩:=Array.mem_iff_getElem.mp a;obtain⟨w,a1,h,g⟩:=l8 l m p;rw[e] at a1;rw[Sn I (he _ g) a1 h];show Aq I 8 A _ _ w x _ _ (he _ g) hd o h k a1 n
theorem zte(j:X.A.units+64<cLine):dE X (compareOp .In) (λx y H Q=>∃p d c b,y=.ref p/\(bP X.K H p b\/cz X.K H p b)/\cF 8 d/\(∀e∈c,cF 8 e)/\Rep X.K H x d/\ao X.K H b c/\Q (.bl (inD d c)) H):=by
 intro k s σ H x y v u Q I f i h;obtain⟨p,d,c,b,rfl,a,hd,he,g,re,q⟩:=h;cases i;rcases a with a | a
 .obtain⟨its,r,pl,hz⟩:=I.list a;show SeqAt.in_listAt (fZ X H d) pl.isList (Fe I hd (by show X.A.units+1+8<cLine;lia) g f he r re) ⟨.bl _,H,I,rfl,?_⟩;rw[show its.toArray.any (fZ X H d)=its.any (fZ X H d) by simp,Ap I he r re];show q
 obtain⟨its,r,pl,hz⟩:=I.tuple a;show SeqAt.in_tupleAt (fZ X H d) pl (Fe I hd (by show X.A.units+1+8<cLine;lia) g f he r re) ⟨.bl _,H,I,rfl,?_⟩;rw[show its.toArray.any (fZ X H d)=its.any (fZ X H d) by simp,Ap I he r re];show q
theorem zmu(j:X.A.units+64<cLine):dE X (compareOp .NotIn) (λx y H Q=>∃p d c b,y=.ref p/\(bP X.K H p b\/cz X.K H p b)/\cF 8 d/\(∀e∈c,cF 8 e)/\Rep X.K H x d/\ao X.K H b c/\Q (.bl (!inD d c)) H):=by
 intro k s σ H x y v u Q I f i h;obtain⟨p,d,c,b,rfl,a,hd,he,g,re,q⟩:=h;cases i;rcases a with a | a
 .obtain⟨its,r,pl,hz⟩:=I.list a;show SeqAt.notIn_listAt (fZ X H d) pl.isList (Fe I hd (by show X.A.units+1+8<cLine;lia) g f he r re) ⟨.bl _,H,I,rfl,?_⟩;rw[show its.toArray.any (fZ X H d)=its.any (fZ X H d) by simp,Ap I he r re];show q
 obtain⟨its,r,pl,hz⟩:=I.tuple a;show SeqAt.notIn_tupleAt (fZ X H d) pl (Fe I hd (by show X.A.units+1+8<cLine;lia) g f he r re) ⟨.bl _,H,I,rfl,?_⟩;rw[show its.toArray.any (fZ X H d)=its.any (fZ X H d) by simp,Ap I he r re];show q
theorem xv(i:X.A.units+64<cLine):ik X (compareOp .In) (rD false):=by
 show⟨_,aar.or (zte i),λG H x y d e Q P s c b h k=>?_⟩;unfold rD at h;split at h
 .simp only[Rep] at c b;show .inl ⟨_,_,c,b,k _ _ _ G (.refl s) (de (iE _ _ _)) h⟩
 .simp only[Rep] at b;obtain⟨a,ys,rfl,f,g⟩:=b;show .inr ⟨a,_,_,ys,rfl,.inl ((s.cH f).sq),h.1,h.2.1,c.mono s,g.mono s,k _ _ _ G (.refl s) (de (iE _ _ _)) h.2.2⟩
 .simp only[Rep] at b;obtain⟨a,ys,rfl,f,g⟩:=b;show .inr ⟨a,_,_,ys,rfl,.inr (s.ui f),h.1,h.2.1,c.mono s,g.mono s,k _ _ _ G (.refl s) (de (iE _ _ _)) h.2.2⟩
 show h.elim
theorem T7(i:X.A.units+64<cLine):ik X (compareOp .NotIn) (rD true):=by
 show⟨_,aaq.or (zmu i),λG H x y d e Q P s c b h k=>?_⟩;unfold rD at h;split at h
 .simp only[Rep] at c b;show .inl ⟨_,_,c,b,k _ _ _ G (.refl s) (de (iE _ _ _)) h⟩
 .simp only[Rep] at b;obtain⟨a,ys,rfl,f,g⟩:=b;show .inr ⟨a,_,_,ys,rfl,.inl ((s.cH f).sq),h.1,h.2.1,c.mono s,g.mono s,k _ _ _ G (.refl s) (de (iE _ _ _)) h.2.2⟩
 .simp only[Rep] at b;obtain⟨a,ys,rfl,f,g⟩:=b;show .inr ⟨a,_,_,ys,rfl,.inr (s.ui f),h.1,h.2.1,c.mono s,g.mono s,k _ _ _ G (.refl s) (de (iE _ _ _)) h.2.2⟩
 show h.elim
noncomputable def Ed:D->Bool
 | .non=>true
 | _=>false
def Ji(a:Bool):O2:=λd e Q=>match e with
 | .non=>Q (.fz (.bl (if a then !Ed d else Ed d)))
 | _=>False
theorem zo2{K:aj}(r:Rep K G x d):decide (x=.non)=Ed d:=by
 cases d<;>simp only[Rep] at r
 case non=>subst r;rfl
 case bl=>subst r;rfl
 case int=>subst r;rfl
 case str=>subst r;rfl
 case tup=>obtain⟨_,_,rfl,_⟩:=r;rfl
 case lst=>obtain⟨_,_,rfl,_⟩:=r;rfl
 case obj=>obtain⟨_,_,_,_,rfl,_⟩:=r;rfl
 case dic=>obtain⟨_,_,_,rfl,_⟩:=r;rfl
 case dit=>obtain⟨_,_,_,rfl,_⟩:=r;rfl
 case exc=>obtain⟨_,_,_,_,_,rfl,_⟩:=r;rfl
 case idn=>obtain⟨rfl,_⟩:=r;rfl
theorem ZL:ik X (compareOp .Is) (Ji false):=by
 show⟨_,zsX,λG H x y d e Q P s b a h k=>?_⟩;unfold Ji at h;split at h
 .simp only[Rep] at a;show⟨a,?_⟩;rw[zo2 b];show k _ _ _ G (.refl s) (de (iE _ _ _)) h
 show h.elim
end
section
variable{X:Cx}{a b c:av}{ta tb tc:TD}{ez:List av}
def zY(t:eE):eE:=λρ Q=>t ρ λk=>Q (!k)
def xu(t u:eE):eE:=λρ Q=>t ρ λk=>if k=true then u ρ Q else Q false
def GR(t u:eE):eE:=λρ Q=>t ρ λk=>if k=true then Q true else u ρ Q
theorem rN(h:PB X a pa):PB X (.UnaryOp .Not a pos) (zY pa):=by
 obtain⟨t,p,q⟩:=h;show⟨_,zsH p,λρ σ e d G H Q P E h k=>q ρ σ e d G H _ _ E h λb H' f x c=>k _ H' f x c⟩
def uT(X:Cx)(e:av)(t:eE):Prop:=∃tt,PW X e tt/\∀ρ σ c a G H Q P,bh X.K c a ρ σ G H->t ρ Q->
 (∀b H' d,Ext G H d H'->Q b->P b H')->tt σ H P
theorem uT.pb(h:uT X e t):PB X e t:=let⟨tt,p,q⟩:=h;⟨tt,p.pt,q⟩
theorem vR(h:PB X a pa):uT X (.BoolOp .And [a] pos) pa:=let⟨tt,p,q⟩:=h;⟨tt,zq7 p,q⟩
theorem Ko(h:PB X a pa):uT X (.BoolOp .Or [a] pos) pa:=let⟨tt,p,q⟩:=h;⟨tt,zsF p,q⟩
theorem ny(h:PB X a pa)(h':uT X (.BoolOp .And (b::ez) pos) FU):uT X (.BoolOp .And (a::b::ez) pos) (xu pa FU):=by
 obtain⟨t,p,q⟩:=h;obtain⟨t',j,i⟩:=h';show⟨_,zsG p j,λρ σ e d G H Q P E h k=>q ρ σ e d G H _ _ E h λb H' f x c=>?_⟩;cases b with
 | true=>show i ρ σ e d f H' Q P (E.ext x) c λm n o g l=>k m n o (x.trans g) l
 | false=>show k false H' f x c
theorem EB(h:PB X a pa)(h':uT X (.BoolOp .Or (b::ez) pos) FU):uT X (.BoolOp .Or (a::b::ez) pos) (GR pa FU):=by
 obtain⟨t,p,q⟩:=h;obtain⟨t',j,i⟩:=h';show⟨_,zuw p j,λρ σ e d G H Q P E h k=>q ρ σ e d G H _ _ E h λb H' f x c=>?_⟩;cases b with
 | true=>show k true H' f x c
 | false=>show i ρ σ e d f H' Q P (E.ext x) c λm n o g l=>k m n o (x.trans g) l
def Jh(t:TD):TD:=λρ Q=>t ρ λr=>match r with
 | .fz (.bl k)=>Q (.fz (.bl (!k)))
 | _=>False
def Jg(t u:TD):TD:=λρ Q=>t ρ λr=>match r with
 | .fz (.bl k)=>if k=true then u ρ Q else Q (.fz (.bl false))
 | _=>False
theorem ztg(h:PD X a ta):PD X (.UnaryOp .Not a pos) (Jh ta):=by
 obtain⟨t,p,q⟩:=h;show⟨_,zsK p,λρ σ f d G H Q P E h k=>q ρ σ f d G H _ _ E h λv H' r g x c b=>?_⟩;split at b
 .rename_i kk;have e:v=.bl kk:=by simpa only[dU,Rep] using c
  show⟨kk,e,k _ H' _ g x (de (iE _ _ _)) b⟩
 show b.elim
theorem vK(h:PD X a ta):PD X (.BoolOp op [a] pos) ta:=let⟨t,p,q⟩:=h;⟨t,zsI p,q⟩
theorem rM(h:PD X a ta)(h':PD X (.BoolOp .And (b::ez) pos) tb):PD X (.BoolOp .And (a::b::ez) pos) (Jg ta tb):=by
 obtain⟨t,p,q⟩:=h;obtain⟨t',n,m⟩:=h';show⟨_,zsJ p n,λρ σ f d G H Q P E h k=>q ρ σ f d G H _ _ E h λv H' r y x i c=>?_⟩;split at c
 .rename_i kk;have e:v=.bl kk:=by simpa only[dU,Rep] using i
  show⟨kk,e,?_⟩;cases kk with
  | true=>show m ρ σ f d y H' Q P (E.ext x) c λs u l w g j o=>k s u l w (x.trans g) (j.qj x.h) o
  | false=>grind
 show c.elim
def YL(t:eE)(ta tb:TD):TD:=λρ Q=>t ρ λk=>if k=true then ta ρ Q else tb ρ Q
theorem zo3(h:PB X c pa)(y:PD X a ta)(d:PD X b tb):PD X (.IfExp c a b pos) (YL pa ta tb):=by
 obtain⟨t,p,q⟩:=h;obtain⟨t1,w,u⟩:=y;obtain⟨z,v,s⟩:=d;show⟨_,zoF p w v,λρ σ n l G H Q P E h k=>q ρ σ n l G H _ _ E h λb H' r x o=>?_⟩;cases b with
 | true=>show u ρ σ n l r H' Q P (E.ext x) o λi j g m e f d=>k i j g m (x.trans e) (f.qj x.h) d
 | false=>show s ρ σ n l r H' Q P (E.ext x) o λi j g m e f d=>k i j g m (x.trans e) (f.qj x.h) d
def JV(o o':O2)(ta tb tc:TD):TD:=λρ Q=>ta ρ λa=>tb ρ λrb=>o a.val rb.val λr=>match r with
 | .fz (.bl k)=>if k=true then tc ρ λrc=>o' rb.val rc.val Q else Q (.fz (.bl false))
 | _=>False
abbrev nU(K:aj)(t:TD)(b:TE):Prop:=∀ρ σ d c G H Q P,bh K d c ρ σ G H->t ρ Q->(∀v H' r a,Ext G H a H'->dU K a H' H v r->Q r->P v H')->b σ H P
theorem zo4{K:aj}{g g':Int->Int->Bool}(C:nU K ta q)(B:nU K tb p)(A:nU K tc o) :
  nU K (JV (jw λi j=>.bl (g i j)) (jw λi j=>.bl (g' i j)) ta tb tc) (Sw (mf λi j=>.bl (g i j)) (mf λi j=>.bl (g' i j)) q p o):=by
 show λρ σ n l G H Q P E h k=>C ρ σ n l G H _ _ E h λv1 H1 U Z y N D=>?_
 obtain⟨M,b,u,_⟩:=N.freeze y;show B ρ σ n l M H1 _ _ (E.ext b) D λv2 O T Y x z a=>?_
 obtain⟨v,e,f,_⟩:=z.freeze x;unfold jw at a;split at a
 .rename_i i j L t;rw[L] at u;rw[t] at f;show⟨i,j,u,f,_,rfl,?_⟩;dsimp only at a;cases s:g i j with
  | false=>
   rw[s,if_neg eJ] at a;show k _ _ _ v (b.trans e) (de (iE _ _ _)) a
  | true=>
   rw[s,if_pos rfl] at a;show A ρ σ n l v O _ _ (E.ext (b.trans e)) a λR W S X w F c=>?_
   obtain⟨m,d,r,_⟩:=F.freeze w;rw[t] at c;split at c
   .rename_i V I e3 J;cases e3;rw[J] at r;show⟨j,I,f,r,k _ _ _ m ((b.trans e).trans d) (de (iE _ _ _)) c⟩
   show c.elim
 show a.elim
theorem zth{K:aj}(q:nU K t f)(ρ a i g G H Q P)(E:bh K i g ρ a G H)(h:gN t ρ Q)(k:∀b H' d,Ext G H d H'->Q b->P b H'):Ju f a H P:=by
 show q ρ a i g G H _ _ E h λv H' r d j l c=>?_
 split at c
 .rename_i kk;have e:v=.bl kk:=by simpa only[dU,Rep] using l
  show⟨kk,e,k kk H' d j c⟩
 show c.elim
theorem Vx{g g':Int->Int->Bool}(o:dE X (compareOp op) (mf λi j=>.bl (g i j)))(n:dE X (compareOp d) (mf λi j=>.bl (g' i j)))(r:PD X a ta)(q:PD X b tb)(h3:PD X c tc)(p:lastMarks [op,d] [b,c]=false:=by with_unfolding_all rfl) :
  PB X (.Compare a [op,d] [b,c] pos) (gN (JV (jw λi j=>.bl (g i j)) (jw λi j=>.bl (g' i j)) ta tb tc)):=by
 obtain⟨t1,m,h⟩:=r;obtain⟨s,l,f⟩:=q;obtain⟨t3,k,e⟩:=h3;show⟨_,zoK o n m l k p,zth (zo4 h f e)⟩
def gR:O2:=λd e Q=>match d,e with
 | .lst ds,.int i=>∃d,bF ds i=some d/\Q (.fz d)
 | .tup ds,.int i=>∃d,bF ds i=some d/\Q (.fz d)
 | .str z,.int i=>z.length<=sizeLine/\∃c,bF z.cps.toList i=some c/\Q (.fz (.str ⟨#[c]⟩))
 | _,_=>False
theorem T6{K:aj}(r:ao K G xs ds)(h:bF ds i=some d):∃v,bF xs i=some v/\Rep K G v d:=by
 unfold bF at h ⊢;rw[r.length];cases e:jy ds.length i with
 | none=>rw[e] at h;cases h
 | some j=>
  rw[e] at h;show r.get h
theorem bV(z:PD X a ta)(w:PD X b tb)(t:Kp b:=by intro _ _;rfl):PD X (.Subscript a b pos) (bR gR ta tb):=by
 obtain⟨t1,o,m⟩:=z;obtain⟨A,n,l⟩:=w;show⟨_,Si zs5 o n t,ED (r:=W4 X.K) (λG H x y d e Q P s g f h k=>?_) m l⟩;unfold gR at h;split at h
 .obtain⟨p,xs,rfl,j,rs⟩:=g;obtain⟨d,hd,q⟩:=h;obtain⟨v,hv,i⟩:=T6 rs hd;show .inl ⟨p,xs,_,v,rfl,f,(s.cH j).sq,hv,k _ _ _ G (.refl s) (de i) q⟩
 .obtain⟨p,xs,rfl,j,rs⟩:=g;obtain⟨d,hd,q⟩:=h;obtain⟨v,hv,i⟩:=T6 rs hd;show .inr (.inl ⟨p,xs,_,v,rfl,f,s.ui j,hv,k _ _ _ G (.refl s) (de i) q⟩)
 .obtain⟨hz,c,u,q⟩:=h;show .inr (.inr ⟨_,_,c,g,f,hz,u,k _ _ _ G (.refl s) (de (rP _ _ _)) q⟩)
 show h.elim
variable{e:av}{te:TD}{ts:fh}
def cq:fh:=λ_ Q=>Q []
def aM(te:TD)(ts:fh):fh:=λρ Q=>te ρ λr=>ts ρ λds=>Q (r.val::ds)
theorem aq:jk X [] cq:=⟨_,oC,λρ σ b a G H Q P E h k=>k [] H [] G (.refl E.e.s) ao.nil h⟩
theorem ah(h:PD X e te)(q:jk X es ts)(p:starEach (e::es) X.env=(false,eval e X.env)::starEach es X.env:=by rfl):jk X (e::es) (aM te ts):=by
 obtain⟨t1,o,m⟩:=h;obtain⟨z,n,l⟩:=q;show⟨_,oG o n p,λρ σ d c G H Q P E h k=>m ρ σ d c G H _ _ E h λv H' r A f j s=>?_⟩;obtain⟨x,b,i,_⟩:=j.freeze f;show l ρ σ d c x H' _ _ (E.ext b) s λy u ds w a rs t=>?_
 show k _ u _ w (b.trans a) (ao.cons (i.mono a.g) rs) t
def gx(ts:fh):TD:=λρ Q=>ts ρ λds=>ds.length<=sizeLine/\Q (.fz (.tup ds))
def pP(ts:fh):TD:=λρ Q=>ts ρ λds=>ds.length<=sizeLine/\Q (.ow ds)
theorem cY{e}(h:jk X es ts):PD X (.Tuple es e pos) (gx ts):=by
 obtain⟨t,p,q⟩:=h;show⟨_,zsZ p,λρ σ j i G H Q P E h k=>q ρ σ j i G H _ _ E h λa H' ds d x rs c=>⟨by rw[rs.length];show c.1,λp f=>?_⟩⟩;have b:Ext d H' (upd d p (.tup a)) (upd H' p (.tup a)):=.new x.s f;show k _ _ (.fz (.tup ds)) _ (x.trans b) ?_ c.2;show⟨p,a,rfl,dQ,rs.mono b.g⟩
theorem gE(h:jk X es ts):PD X (.List es pos) (pP ts):=by
 obtain⟨t,p,q⟩:=h;show⟨_,Su p,λρ σ e d G H Q P E h k=>q ρ σ e d G H _ _ E h λc H' ds f x rs b=>⟨by rw[rs.length];show b.1,λp a=>?_⟩⟩;show k _ _ (.ow ds) f (x.trans (.own x.s a)) ⟨p,c,rfl,x.h.free a,x.s.free a,dQ,rs⟩ b.2
def pU(X:Cx)(f:aa)(o:List D->(R->Prop)->Prop):Prop:=∃r,ip X f r/\∀G H a ds Q P,aZ G H->ao X.K G a ds->o ds Q->
 (∀v H' b c,Ext G H c H'->dU X.K c H' H v b->Q b->P v H')->r a H P
def kL(o:List D->(R->Prop)->Prop)(ts:fh):TD:=λρ Q=>ts ρ λds=>o ds Q
theorem RW
  (j:∀G H a ds Q P,aZ G H->ao X.K G a ds->o ds Q->(∀v H' c b,Ext G H b H'->dU X.K b H' H v c->Q c->P v H')->r a H P)
  (q:∀ρ σ e d G H Q P,bh X.K e d ρ σ G H->ts ρ Q->(∀a H' ds b,Ext G H b H'->ao X.K b a ds->Q ds->P a H')->t σ H P):nU X.K (kL o ts) (FF r t):=
 λρ σ e d G H Q P E h k=>q ρ σ e d G H _ _ E h λa H' ds b x rs l=>j b H' a ds Q P x.s rs l λv m c n f g i=>k v m c n (x.trans f) (g.qj x.h) i
theorem cR{a:String}(i:pU X (.builtin a) o)(g:X.mg x=none)(hv:bootBuiltins x=some (.builtin a))(j:jk X (e::es) ts)(h:Gl X x:=by rfl)(f:x≠"__name__":=by decide)(b:(x==("__debug__":ae))=false:=by decide)
  (he:starEach (e::es) X.env=(false,eval e X.env)::starEach es X.env:=by rfl) (k:(backTo pos (starEach es X.env)).any (·.1)=false:=by rfl):PD X (.Call (.Name x p) (e::es) [] pos) (kL o ts):=by
 obtain⟨r,d,c⟩:=i;obtain⟨t,pp,q⟩:=j;show⟨_,AR d h g hv pp f b he k,RW c q⟩
theorem V9(h:pU X (.type T) o)(f:X.mg x=none)(hv:bootBuiltins x=some (.type T))(i:jk X (e::es) ts)(g:Gl X x:=by rfl)(d:x≠"__name__":=by decide)(a:(x==("__debug__":ae))=false:=by decide)
  (he:starEach (e::es) X.env=(false,eval e X.env)::starEach es X.env:=by rfl) (j:(backTo pos (starEach es X.env)).any (·.1)=false:=by rfl):PD X (.Call (.Name x p) (e::es) [] pos) (kL o ts):=by
 obtain⟨r,c,b⟩:=h;obtain⟨t,pp,q⟩:=i;show⟨_,V1 c g f hv pp d a he j,RW b q⟩
end
theorem l4{a:St}:(a.set i x)[j]?=if i=j/\j<a.length then some x else a[j]?:=by
 by_cases h:i=j
 .subst h;by_cases b:i<a.length
  .simp[b]
  simp[b]
 simp[h]
section
variable{K:aj}{ρ:Ev}
theorem bh.put(E:bh K G0 H0 ρ σ G H)(x:Ext G H G' H')(M:dU K G' H' H v r):bh K G0 H0 (ρ.set i r.sl) (σ.set i (some v)) G' H':=by
 have X:=E.ext x;have hl:=E.len;have A:∀j s,gt (ρ.set i r.sl) j=s->(i=j/\j<ρ.length/\s=r.sl)\/(¬(i=j/\j<ρ.length)/\gt ρ j=s):=λj s e=>by
  rw[lg] at e;by_cases h:i=j/\j<ρ.length
  .rw[if_pos h] at e;show .inl ⟨h.1,h.2,e.symm⟩
  rw[if_neg h] at e;show .inr ⟨h,e⟩
 show⟨X.e,by simp_all,λj d h=>?_,λj ds h=>?_,λj k ds P Y b m=>?_,?_⟩
 .rcases A j _ h with⟨b,m,h3⟩ | ⟨b,m⟩
  .cases r with
   | ow=>cases h3
   | ov=>cases h3
   | fz d'=>
    cases h3;show⟨v,by rw[l4,if_pos ⟨b,by simp_all⟩],M⟩
  obtain⟨u,hu,ru⟩:=X.fz j d m;show⟨u,by rw[l4,if_neg (by rw[hl];show b)];show hu,ru⟩
 .rcases A j _ h with⟨b,m,h3⟩ | ⟨b,m⟩
  .cases r with
   | fz=>cases h3
   | ov=>cases h3
   | ow yC=>
    cases h3;obtain⟨p,xs,rfl,a1,a2,a3,W⟩:=M;show⟨p,xs,by rw[l4,if_pos ⟨b,by simp_all⟩],a3,a2,E.e.h.free a1,W⟩
  obtain⟨p,xs,w,t,J,I,Z⟩:=X.ow j ds m;show⟨p,xs,by rw[l4,if_neg (by rw[hl];show b)];show w,t,J,I,Z⟩
 .have old:∀{j:Nat}{ds:List D},gt ρ j=.ow ds->∀P,r=.ow P->σ[j]?≠some (some v):=λ{j ds} h P e z=>by
   subst e;obtain⟨p,xs,rfl,a1,a2,a3,W⟩:=M;obtain⟨S,fc,w,t,J,I,Z⟩:=E.ow j ds h;rw[w] at z;cases z;rw[a1] at t;cases t
  rcases A j _ b with⟨C,O,F⟩ | ⟨C,O⟩
  .rcases A k _ m with⟨B,N,U⟩ | ⟨B,N⟩
   .exact absurd (C.symm.trans B) Y
   rw[l4,if_pos ⟨C,by simp_all⟩,l4,if_neg (by rw[hl];show B)];cases r with
   | fz=>cases F
   | ov=>cases F
   | ow Q=>show λz=>old N Q rfl z.symm
  rcases A k _ m with⟨B,N,U⟩ | ⟨B,N⟩
  .rw[l4,if_neg (by rw[hl];show C),l4,if_pos ⟨B,by simp_all⟩];cases r with
   | fz=>cases U
   | ov=>cases U
   | ow Q=>show old O Q rfl
  rw[l4,if_neg (by rw[hl];show C),l4,if_neg (by rw[hl];show B)];show E.dj j k ds P Y O N
 obtain⟨own,o1,o2⟩:=E.on;have Xu:∀j,¬(i=j/\j<ρ.length)->(σ.set i (some v))[j]?=σ[j]?:=λj h=>by rw[l4,if_neg (by rw[hl];show h)]
 have gen:∀L:List ab,(∀q∈L,H q=none)->(∀j ds p,i=j->j<ρ.length->r.sl=.ow ds->v=.ref p->p∈L)->
   (∀j o,i=j->j<ρ.length->r.sl=.ov o->∃p fp,v=.ref p/\(p::fp).Nodup/\mK K G' H' p fp o/\∀q∈p::fp,G' q=none/\q∈L)->
   ∃own:ab->Option Nat,(∀j ds p,gt (ρ.set i r.sl) j=.ow ds->(σ.set i (some v))[j]?=some (some (.ref p))->own p=some j)/\∀j o,gt (ρ.set i r.sl) j=.ov o->∃p fp,(σ.set i (some v))[j]?=some (some (.ref p))/\(p::fp).Nodup/\mK K G' H' p fp o/\∀q∈p::fp,G' q=none/\H0 q=none/\own q=some j:=by
  intro L T hw ho;show⟨λq=>if q∈L then some i else own q,λj ds p h y=>?_,λj o h=>?_⟩
  .rcases A j _ h with⟨b,m,h3⟩ | ⟨b,m⟩
   .rw[l4,if_pos ⟨b,by simp_all⟩] at y;have hv:v=.ref p:=by injection y with y;injection y
    dsimp only;rw[if_pos (hw j ds p b m h3.symm hv),b]
   rw[Xu j b] at y;obtain⟨S,fc,w,t,_⟩:=E.ow j ds m;have bO:p∉L:=λz=>by
    rw[y] at w;cases w;rw[T p z] at t;cases t
   dsimp only;rw[if_neg bO];show o1 j ds p m y
  rcases A j _ h with⟨b,m,h3⟩ | ⟨b,m⟩
  .obtain⟨p,fp,rfl,C,O,F⟩:=ho j o b m h3.symm;show⟨p,fp,by rw[l4,if_pos ⟨b,by simp_all⟩],C,O,λq f=>⟨(F q f).1,E.e.h.free (T q (F q f).2),?_⟩⟩;dsimp only;rw[if_pos (F q f).2,b]
  obtain⟨p,fp,w,t,J,I⟩:=o2 j o m;show⟨p,fp,by rw[Xu j b];show w,t,J.mono x.g λq _ u e=>x.h q u e,λq f=>⟨x.n q (I q f).1 (J.here q f),(I q f).2.1,?_⟩⟩;dsimp only;rw[if_neg (λz=>J.here q f (T q z))];show(I q f).2.2
 cases r with
 | fz d=>show gen [] (λq f=>by cases f) (λj ds p _ _ e=>by cases e) (λj o _ _ e=>by cases e)
 | ow yC=>
  obtain⟨p,xs,rfl,a1,a2,a3,W⟩:=M;show gen [p] (λq f=>?_) (λj ds S _ _ e e2=>?_) (λj o _ _ e=>by cases e)
  .simp only[du] at f;subst f;show a1
  cases e2;walk_at"sb"
 | ov o'=>
  obtain⟨p,fp,rfl,a1,a2,a3⟩:=M;show gen (p::fp) (λq f=>(a3 q f).1) (λj ds S _ _ e=>by cases e) (λj o _ _ e=>?_);cases e;show⟨p,fp,rfl,a1,a2,λq f=>⟨(a3 q f).2,f⟩⟩
noncomputable def ig(i:Nat)(ρ:Ev):Ev:=match gt ρ i with
 | .ow ds=>ρ.set i (.fz (.lst ds))
 | .ov o=>ρ.set i (.fz o.val)
 | _=>ρ
theorem tU(h:gt ρ i=s)(b:s≠.un):i<ρ.length:=by
 induction ρ generalizing i with
 | nil=>simp[gt] at h;show absurd h.symm b
 | cons a r d=>
  cases i with
  | zero=>simp
  | succ i=>simp;walk_at"sb"
theorem bJ.MK:∀{b c},bJ K G H b c->∀q∈b,∃zs,H q=some (.lst zs)
 | [],[],_,q,a=>by cases a
 | p::b,ds::c,h,q,a=>by
  rcases bG.mp a with rfl | a
  .exact⟨_,h.1.choose_spec.1⟩
  show bJ.MK h.2 q a
 | [],_::_,h,_,_=>by simp only[bJ] at h
 | _::_,[],h,_,_=>by simp only[bJ] at h
theorem bh.abo(i)(E:bh K G0 H0 ρ σ G H):∃L:List ab,(∀q∈L,G q=none)/\bh K G0 H0 (ig i ρ) σ (i6 G H L) H/\(((∀o,gt ρ i=.ov o->(∃kvs,o=.dc kvs)\/(∃P,o=.ll P)\/∃a P,o=.li a P)->∀q∈L,H q≠none/\∀xs,¬Rd H q (.tup xs)))/\∀o p,gt ρ i=.ov o->σ[i]?=some (some (.ref p))->p∈L:=by
 unfold ig;split
 .rename_i ds y;obtain⟨p,xs,O,N,h3,R,w⟩:=E.ow i ds y;have bz:i<ρ.length:=tU y (by simp);have v:aZ G (upd G p (.lst xs)):=t9 h3;have t:∀j s,gt (ρ.set i (.fz (.lst ds))) j=s->(i=j/\s=.fz (.lst ds))\/(i≠j/\gt ρ j=s):=λj s e=>by
   rw[lg] at e;grind
  have Y:i6 G H [p]=upd G p (.lst xs):=by
   funext a
   by_cases X:a=p
   .subst X;rw[dQ,md (by walk_at"sb")];show N
   rw[bA X,lh (by simpa using X)]
  show⟨[p],λq m=>?_,?_,λ_ q m=>by
   simp only[du] at m;rw[m]
   show⟨(by rw[N];show nofun),λB e=>by rcases e with e | ⟨_,e⟩<;>(rw[N] at e;cases e)⟩,λo p z=>by rw[y] at z;cases z⟩
  .simp only[du] at m;subst m;show h3
  rw[Y];show⟨⟨E.e.g.trans v,E.e.h,λb o e=>?_,λq U J=>?_⟩,by simp[E.len],λj d h=>?_,λj x h=>?_,λj k x fs V a1 a2=>?_,?_⟩
  .by_cases M:b=p
   .subst M;rw[dQ] at e;rw[N];show e
   rw[bA M] at e;show E.e.s b o e
  .rw[bA (λz=>J (by rw[z];show R))];show E.e.n q U J
  .rcases t j _ h with⟨e,f⟩ | ⟨e,f⟩
   .subst e;cases f;show⟨_,O,by show⟨p,xs,rfl,fO.of dQ,w.mono v⟩⟩
   obtain⟨u,T,S⟩:=E.fz j d f;show⟨u,T,S.mono v⟩
  .rcases t j _ h with⟨e,f⟩ | ⟨e,f⟩
   .cases f
   obtain⟨r,B,A,F,I,D,Z⟩:=E.ow j x f;have bO:r≠p:=λz=>by
    subst z;show E.dj i j ds x e y f (by rw[O,A])
   show⟨r,B,A,F,by rw[bA bO];show I,D,Z.mono v⟩
  .rcases t j _ a1 with⟨_,f⟩ | ⟨e,f⟩
   .cases f
   rcases t k _ a2 with⟨_,C⟩ | ⟨e3,C⟩
   .cases C
   show E.dj j k x fs V f C
  obtain⟨own,o1,Q⟩:=E.on;show⟨own,λj x r h hp=>?_,λj o h=>?_⟩
  .grind
  rcases t j _ h with⟨_,f⟩ | ⟨e,f⟩
  .cases f
  obtain⟨r,fp,A,F,I,D⟩:=Q j o f;show⟨r,fp,A,F,I.mono v λq _ u e=>e,λq m=>⟨?_,(D q m).2⟩⟩;rw[bA λz=>?_];all_goals grind
 .rename_i o y;obtain⟨own,o1,Q⟩:=E.on;obtain⟨p,fp,O,N,h3,R⟩:=Q i o y;have bz:i<ρ.length:=tU y (by simp);have W:∀q∈p::fp,G q=none:=λq m=>(R q m).1
  have v:aZ G (i6 G H (p::fp)):=xU W;have t:∀j s,gt (ρ.set i (.fz o.val)) j=s->(i=j/\s=.fz o.val)\/(i≠j/\gt ρ j=s):=λj s e=>by
   rw[lg] at e;grind
  suffices aa1:bh K G0 H0 (ρ.set i (.fz o.val)) σ (i6 G H (p::fp)) H from⟨p::fp,W,aa1,λhd q m=>by
   rcases hd o y with⟨kvs,rfl⟩ | ⟨P,rfl⟩ | ⟨a,P,rfl⟩
   .obtain⟨rfl,ks,Y,w,_⟩:=h3;simp only[du] at m;rw[m];show⟨(by rw[w];show nofun),λB e=>by rcases e with e | ⟨_,e⟩<;>(rw[w] at e;cases e)⟩
   .obtain⟨zs,w⟩:∃zs,H q=some (.lst zs):=by
     rcases bG.mp m with rfl | m
     .exact⟨_,h3.1⟩
     show bJ.MK h3.2 q m
    show⟨(by rw[w];show nofun),λB e=>by rcases e with e | ⟨_,e⟩<;>(rw[w] at e;cases e)⟩
   .obtain⟨zs,w⟩:∃zs,H q=some (.lst zs):=by
     rcases bG.mp m with rfl | m
     .exact⟨_,h3.2.1⟩
     show bJ.MK h3.2.2 q m
    show⟨(by rw[w];show nofun),λB e=>by rcases e with e | ⟨_,e⟩<;>(rw[w] at e;cases e)⟩,λo' r _ e=>by rw[O] at e;cases e;walk_at"sb"⟩
  show⟨⟨E.e.g.trans v,E.e.h,λb u e=>?_,λq U J=>?_⟩,by simp[E.len],λj d h=>?_,λj x h=>?_,λj k x fs V a1 a2=>?_,own,λj x r h hp=>?_,λj o' h=>?_⟩
  .by_cases M:b∈p::fp
   .rw[md M] at e;show e
   rw[lh M] at e;show E.e.s b u e
  .rw[lh (λz=>J (R q z).2.1)];show E.e.n q U J
  .rcases t j _ h with⟨e,f⟩ | ⟨e,f⟩
   .subst e;cases f;show⟨_,O,h3.freeze W⟩
   obtain⟨u,T,S⟩:=E.fz j d f;show⟨u,T,S.mono v⟩
  .rcases t j _ h with⟨e,f⟩ | ⟨e,f⟩
   .cases f
   obtain⟨r,B,A,F,I,D,Z⟩:=E.ow j x f;show⟨r,B,A,F,?_,D,Z.mono v⟩;rw[lh λz=>?_];all_goals grind
  .rcases t j _ a1 with⟨_,f⟩ | ⟨e,f⟩
   .cases f
   rcases t k _ a2 with⟨_,C⟩ | ⟨e3,C⟩
   .cases C
   show E.dj j k x fs V f C
  .grind
  rcases t j _ h with⟨_,f⟩ | ⟨e,f⟩
  .cases f
  obtain⟨r,dG,A,F,I,D⟩:=Q j o' f;show⟨r,dG,A,F,I.mono v λq _ u e=>e,λq m=>⟨?_,(D q m).2⟩⟩;rw[lh λz=>?_];all_goals grind
 rename_i no1 no2;have Y:i6 G H []=G:=by funext a;show lh (by simp)
 grind
theorem bh.Yx(i)(E:bh K G0 H0 ρ σ G H):∃L:List ab,(∀q∈L,G q=none)/\bh K G0 H0 (ig i ρ) σ (i6 G H L) H/\((∀o,gt ρ i=.ov o->(∃kvs,o=.dc kvs)\/(∃d,o=.ll d)\/∃a d,o=.li a d)->∀q∈L,H q≠none/\∀xs,¬Rd H q (.tup xs)):=
 let⟨L,a,b,c,_⟩:=E.abo i
 ⟨L,a,b,c⟩
theorem bh.freeze(i)(E:bh K G0 H0 ρ σ G H):∃G',bh K G0 H0 (ig i ρ) σ G' H/\aZ G G':=
 let⟨L,a,b,_⟩:=E.Yx i
 ⟨_,b,xU a⟩
theorem bh.change(E:bh K G0 H0 ρ σ G H)(m:gt ρ i=.ow ds)(A:σ[i]?=some (some (.ref p)))(O:ao K G w t) :
  bh K G0 H0 (ρ.set i (.ow t)) σ G (upd H p (.lst w)):=by
 obtain⟨c,M,L,X,J,I,W⟩:=E.ow i ds m;rw[A] at L;cases L;have U:i<ρ.length:=tU m (by simp);have f:∀j s,gt (ρ.set i (.ow t)) j=s->(i=j/\s=.ow t)\/(i≠j/\gt ρ j=s):=λj s e=>by
  rw[lg] at e;grind
 have P:aZ G (upd H p (.lst w)):=λb o e=>by rw[bA (iD e J)];show E.e.s b o e
 show⟨⟨E.e.g,λb o e=>by rw[bA (iD e I)];show E.e.h b o e,P,E.e.n⟩,by simp[E.len],λj d h=>?_,λj l h=>?_,λj k l fs v a1 a2=>?_,?_⟩
 .rcases f j _ h with⟨_,a⟩ | ⟨e,a⟩
  .cases a
  show E.fz j d a
 .rcases f j _ h with⟨e,a⟩ | ⟨e,a⟩
  .subst e;cases a;show⟨p,w,A,dQ,J,I,O⟩
  obtain⟨c,y,x,F,C,B,Q⟩:=E.ow j l a;have R:c≠p:=λz=>by
   subst z;show E.dj i j ds l e m a (by rw[A,x])
  show⟨c,y,x,by rw[bA R];show F,C,B,Q⟩
 .rcases f j _ a1 with⟨e,a⟩ | ⟨e,a⟩
  .subst e;rcases f k _ a2 with⟨e3,r⟩ | ⟨e3,r⟩
   .exact absurd e3 v
   show E.dj i k ds fs v m r
  rcases f k _ a2 with⟨e3,r⟩ | ⟨e3,r⟩
  .subst e3;show E.dj j i l ds v a m
  show E.dj j k l fs v a r
 obtain⟨own,o1,N⟩:=E.on;show⟨own,λj l c h T=>?_,λj o h=>?_⟩
 .grind
 rcases f j _ h with⟨_,a⟩ | ⟨e,a⟩
 .cases a
 obtain⟨c,fp,x,F,C,B⟩:=N j o a;show⟨c,fp,x,F,C.mono (aZ.refl _) λq S u e3=>?_,B⟩;rw[bA λz=>?_];all_goals grind
theorem bh.yG(E:bh K G0 H0 ρ σ G H)(L:gt ρ i=.ov o)(M:σ[i]?=some (some (.ref p)))
  (S:∀fp,(p::fp).Nodup->mK K G H p fp o->∃l,(p::l).Nodup/\mK K G H' p l o'/\(∀q∈p::l,q∈p::fp\/H q=none)/\∀b,b∉p::fp->H b≠none->H' b=H b) :
  bh K G0 H0 (ρ.set i (.ov o')) σ G H':=by
 obtain⟨own,o1,I⟩:=E.on;obtain⟨D,fp,P,Y,X,t⟩:=I i o L;rw[M] at P;cases P;obtain⟨l,W,V,O,N⟩:=S fp Y X;have bz:i<ρ.length:=tU L (by simp);have f:∀j s,gt (ρ.set i (.ov o')) j=s->(i=j/\s=.ov o')\/(i≠j/\gt ρ j=s):=λj s e=>by
  rw[lg] at e;grind
 have J:∀(F:Hp),(∀q∈p::fp,F q=none)->aZ F H->aZ F H':=λF U s b u e=>by
  have T:b∉p::fp:=λz=>by rw[U b z] at e;cases e
  rw[N b T (by rw[s b u e];show nofun)];show s b u e
 show⟨⟨E.e.g,J H0 (λq c=>(t q c).2.1) E.e.h,J G (λq c=>(t q c).1) E.e.s,E.e.n⟩,by simp[E.len],λj d h=>?_,λj m h=>?_,λj k m fs R a1 a2=>?_,λq=>if q∈p::l then some i else own q,λj m D h Z=>?_,λj w h=>?_⟩
 .rcases f j _ h with⟨_,a⟩ | ⟨e,a⟩
  .cases a
  show E.fz j d a
 .rcases f j _ h with⟨_,a⟩ | ⟨e,a⟩
  .cases a
  obtain⟨D,xs,B,A,y,r,d5⟩:=E.ow j m a;grind
 .rcases f j _ a1 with⟨_,a⟩ | ⟨e,a⟩
  .cases a
  rcases f k _ a2 with⟨_,x⟩ | ⟨e3,x⟩
  .cases x
  show E.dj j k m fs R a x
 .rcases f j _ h with⟨_,a⟩ | ⟨e,a⟩
  .cases a
  obtain⟨v,xs,B,A,_⟩:=E.ow j m a;grind
 rcases f j _ h with⟨e,a⟩ | ⟨e,a⟩
 .subst e;cases a;show⟨p,l,M,W,V,λq c=>?_⟩;dsimp only;rw[if_pos c];rcases O q c with z | z
  .exact⟨(t q z).1,(t q z).2.1,rfl⟩
  show⟨E.e.s.free z,E.e.h.free z,rfl⟩
 obtain⟨v,Q,B,A,y,r⟩:=I j w a;have C:∀q∈v::Q,q∉p::fp:=λq c z=>by
  grind
 show⟨v,Q,B,A,y.mono (aZ.refl _) λq c u e3=>?_,λq c=>⟨(r q c).1,(r q c).2.1,?_⟩⟩
 .rw[N q (C q c) (by rw[e3];show nofun)];show e3
 dsimp only;rw[if_neg λz=>?_]
 .exact(r q c).2.2
 rcases O q z with z | z
 .exact C q c z
 show y.here q c z
theorem bh.weak(E:bh K G0 H0 ρ σ G H)(b:ρ'.length=ρ.length)(w:∀i,gt ρ' i=.un\/gt ρ' i=gt ρ i):bh K G0 H0 ρ' σ G H:=by
 have g:∀i s,gt ρ' i=s->s≠.un->gt ρ i=s:=λi s e n=>by
  grind
 show⟨E.e,by rw[b];show E.len,λi d h=>E.fz i d (g i _ h (by simp)),λi d h=>E.ow i d (g i _ h (by simp)),λi j ds k l f c=>E.dj i j ds k l (g i _ f (by simp)) (g j _ c (by simp)),let⟨own,o1,a⟩:=E.on;⟨own,λi ds p h=>o1 i ds p (g i _ h (by simp)),λi o h=>a i o (g i _ h (by simp))⟩⟩
end
section
variable{X:Cx}{e:av}{te:TD}
def gM(t u:TX):TX:=λD ρ=>t { D with nx:=u D } ρ
def nj:TX:=λD ρ=>D.nx ρ
theorem eQ:jj X [] nj:=⟨_,UC,λρ σ b a G H D E k h g=>g.nx ρ σ G H (aZ.refl _) k h⟩
theorem aJ{st:cQ}(n:PX X st t)(m:jj X a u):jj X (st::a) (gM t u):=by
 obtain⟨t1,j,f⟩:=n;obtain⟨q,i,e⟩:=m;show⟨_,Ve j i,λρ σ c b G H D E k h g=>f ρ σ c b G H _ _ k h ⟨λρ' o p H' d l h'=>e ρ' o c b p H' D E l h' (g.shift d),g.rt,g.bk,g.ct⟩⟩
theorem aU{st:cQ}(c:PX X st t):jj X [st] t:=by
 obtain⟨t1,b,a⟩:=c;show⟨_,Kq b,a⟩
theorem Ax(i)(h:jj X a t):jj X a (λD ρ=>t D (ig i ρ)):=by
 obtain⟨t1,d,c⟩:=h;show⟨_,d,λρ σ j f G H D E k h g=>?_⟩;obtain⟨l,e,b⟩:=k.freeze i;show c _ σ j f l H D E e h (g.shift b)
def DU(te:TD):TX:=λD ρ=>te ρ D.rt
theorem eB(h:PD X e te):PX X (.Return (some e) pos) (DU te):=by
 obtain⟨t,p,q⟩:=h;show⟨_,Ey p,λρ σ d c G H D E k h g=>q ρ σ d c G H _ _ k h λv H' r f x a b=>g.rt v H' r f (k.e.trans x) (a.qj k.e.h) b⟩
def Jt(i:Nat):TX:=λD ρ=>match gt ρ i with
 | .ow ds=>D.rt (.ow ds)
 | _=>False
theorem xR(i)(f:Nm X i x:=by walk_at"nm"):PX X (.Return (some (.Name x b)) pos) (Jt i):=by
 show⟨_,Ey (l9 f),λρ σ r q G H D E k h g=>?_⟩;unfold Jt at h;split at h
 .rename_i ds d;obtain⟨p,xs,o,n,h3,m,j⟩:=k.ow i ds d;show⟨_,o,g.rt _ H (.ow ds) G k.e ⟨p,xs,rfl,m,h3,n,j⟩ h⟩
 show h.elim
def nz(c:eE)(t u:TX):TX:=λD ρ=>c ρ λb=>if b=true then t D ρ else u D ρ
theorem eM(q:PB X c tc)(s:jj X a t)(r:jj X b u):PX X (.If c a b pos) (nz tc t u):=by
 obtain⟨t0,p,m⟩:=q;obtain⟨t1,o,l⟩:=s;obtain⟨v,n,j⟩:=r;show⟨_,Sf p o n,λρ σ e d G H D E k h g=>m ρ σ e d G H _ _ k h λb H' i x f=>?_⟩;cases b with
 | true=>show l ρ σ e d i H' D E (k.ext x) f (g.shift x.g)
 | false=>show j ρ σ e d i H' D E (k.ext x) f (g.shift x.g)
def rC(i:Nat)(te:TD):TX:=λD ρ=>te ρ λr=>D.nx (ρ.set i r.sl)
theorem iV(i)(he:PD X e te)(m:X.N.Nodup:=by assumption)(j:X.N[i]?=some x:=by rfl)(c:Loc X.env.scope x:=by first | show Or.inl rfl | show Or.inr rfl)(d:swapsWith e (some (.Name x a)) pos.line X.env=pure false:=by rfl)(l:X.fn x=true\/X.env.scope.names.lookup x=some .local:=by first | show .inl rfl | show .inr rfl | assumption) :
  PX X (.Assign [.Name x a] e pos) (rC i te):=by
 obtain⟨t,p,q⟩:=he;show⟨_,J3 m j c p d l,λρ σ o n G H D E k h g=>q ρ σ o n G H _ _ k h λv H' r s x b f=>g.nx _ _ s H' x.g (k.put x b) f⟩
def rJ(i:Nat)(te:TD):TX:=λD ρ=>te ρ λr=>D.nx (ρ.set i (.fz r.val))
theorem cV(i)(he:PD X e te)(o:X.N.Nodup:=by assumption)(m:X.N[i]?=some x:=by rfl)(f:Loc X.env.scope x:=by first | show Or.inl rfl | show Or.inr rfl)(j:swapsWith e (some (.Name x a)) pos.line X.env=pure false:=by rfl)(n:X.fn x=true\/X.env.scope.names.lookup x=some .local:=by first | show .inl rfl | show .inr rfl | assumption) :
  PX X (.Assign [.Name x a] e pos) (rJ i te):=by
 obtain⟨t,p,q⟩:=he;show⟨_,J3 o m f p j n,λρ σ w s G H D E k h g=>q ρ σ w s G H _ _ k h λv H' r y x d l=>?_⟩;obtain⟨u,b,c,_⟩:=d.freeze x;show g.nx _ _ u H' b.g (k.put b (r:=.fz r.val) c) l
def lY(i:Nat)(te:TD):TX:=λD ρ=>match gt ρ i with
 | .ow ds=>te ρ λr=>ds.length<sizeLine/\D.nx (ρ.set i (.ow (ds++[r.val])))
 | _=>False
theorem k9(i)(he:PD X e te)(F:Nm X i x:=by walk_at"nm")(I:starEach [e] X.env=(false,eval e X.env)::starEach [] X.env:=by rfl)
  (C:∀{m t},PE X (.Name x n) m->PA X [e] t->PE X (.Call (.Attribute (.Name x n) "append" o) [e] [] b) (BC X.K "list" EZ m t):=by intro m t j f;show Ae xh Q8 Q7 Lr j f) :
  PX X (.Expr (.Call (.Attribute (.Name x n) "append" o) [e] [] b) pos) (lY i te):=by
 obtain⟨t,p,q⟩:=he;show⟨_,AG (C (l9 F) (oG p oC I)),λρ σ M J G H D E k h g=>?_⟩;unfold lY at h;split at h
 .rename_i ds u;obtain⟨a,xs,j,f,h3,N,w⟩:=k.ow i ds u;show⟨_,j,.inl ⟨rfl,xs,bP.of f⟩,?_⟩;show q ρ σ M J G H _ _ k h λv H' r O y A s=>?_
  obtain⟨L,d,z,_⟩:=A.freeze y;have B:=k.ext d;show⟨a,xs,v,rfl,rfl,d.h _ _ f,by rw[w.length];show s.1,?_⟩;show g.nx _ _ L _ d.g (B.change u j ((w.mono d.g).append (ao.cons z ao.nil))) s.2
 show h.elim
end
section
variable{X:Cx}{tg:av}
noncomputable abbrev eh:=D->Ev->(Ev->Prop)->Prop
noncomputable abbrev lX:=List D->Ev->(Ev->Prop)->Prop
def qO(X:Cx)(tg:av)(g:eh):Prop:=∃a,PG X tg a/\∀ρ σ e c G H d v Q P,bh X.K e c ρ σ G H->Rep X.K G v d->g d ρ Q->
 (∀ρ' b f H',bh X.K e c ρ' b f H'->Ext G H f H'->Q ρ'->P b H')->a v σ H P
def zX(X:Cx)(a:List av)(g:lX):Prop:=∃c,yM X a c/\∀ρ σ f e G H ds b Q P,bh X.K f e ρ σ G H->ao X.K G b ds->g ds ρ Q->
 (∀ρ' d h H',bh X.K f e ρ' d h H'->Ext G H h H'->Q ρ'->P d H')->c b σ H P
def fm(i:Nat):eh:=λd ρ Q=>Q (ρ.set i (.fz d))
theorem aY(i)(f:X.N.Nodup:=by assumption)(b:X.N[i]?=some x:=by rfl)(a:Loc X.env.scope x:=by first | show Or.inl rfl | show Or.inr rfl)(c:X.fn x=true\/X.env.scope.names.lookup x=some .local:=by first | show .inl rfl | show .inr rfl | assumption):qO X (.Name x pos) (fm i):=
 ⟨_,UB f b a c,λρ σ j g G H d v Q P E r h k=>k _ _ G H (E.put (.refl E.e.s) (r:=.fz d) r) (.refl E.e.s) h⟩
noncomputable def kh:lX:=λds ρ Q=>match ds with
 | []=>Q ρ
 | _=>False
noncomputable def fk(t:eh)(u:lX):lX:=λds ρ Q=>match ds with
 | d::r=>t d ρ λρ'=>u r ρ' Q
 | []=>False
theorem fU:zX X [] kh:=by
 show⟨_,zq8,λρ σ c b G H ds a Q P E r h k=>?_⟩;unfold kh at h;split at h
 .cases a with
  | nil=>show⟨rfl,k _ _ G H E (.refl E.e.s) h⟩
  | cons=>simp only[ao] at r
 show h.elim
theorem cf(s:qO X e t)(q:zX X b u)(o:(assignEach (e::b) X.env).map (·.2)=assign e X.env::(assignEach b X.env).map (·.2):=by rfl):zX X (e::b) (fk t u):=by
 obtain⟨t1,m,j⟩:=s;obtain⟨I,l,i⟩:=q;show⟨_,zoI m l o,λρ σ d c G H ds a Q P E r h k=>?_⟩;unfold fk at h;split at h
 .cases a with
  | nil=>simp only[ao] at r
  | cons v a=>
   show⟨v,a,rfl,j ρ σ d c G H _ v _ _ E r.1 h λρ' z C H' F x p=>?_⟩;show i ρ' z d c C H' _ a Q P F (r.2.mono x.g) p λy n B A D f w=>k y n B A D (x.trans f) w
 show h.elim
def pN(n:Nat)(t:lX):eh:=λd ρ Q=>match d with
 | .tup ds=>ds.length=n/\t ds ρ Q
 | _=>False
theorem gC(j:X.calm=true)(h:zX X b t)(i:(assignEach b X.env).length=n:=by rfl)(l:(assignEach b X.env).findIdx? (·.1)=none:=by rfl):qO X (.Tuple b k pos) (pN n t):=by
 obtain⟨t1,f,c⟩:=h;show⟨_,zsN j f i l,λρ σ o m G H d v Q P E r h k=>?_⟩;unfold pN at h;split at h
 .obtain⟨a,xs,rfl,g,rs⟩:=r;show⟨a,xs,rfl,E.e.s.ui g,by rw[rs.length];show h.1,c ρ σ o m G H _ xs Q P E rs h.2 k⟩
 show h.elim
def DT(te:TD)(g:eh):TX:=λD ρ=>te ρ λr=>g r.val ρ D.nx
theorem Sm(he:PD X e te)(u:qO X tg g)(o:swapsWithSole [tg] e pos.line X.env=pure false:=by rfl)(hw:swappedStores [tg] e X.env=pure none:=by rfl)(w:(assignEach [tg] X.env).map (·.2)=[assign tg X.env]:=by rfl):PX X (.Assign [tg] e pos) (DT te g):=by
 obtain⟨t,p,q⟩:=he;obtain⟨B,m,l⟩:=u;show⟨_,SA p m o hw w,λρ σ c b G H D E k h g=>q ρ σ c b G H _ _ k h λv H' r d x j s=>?_⟩;obtain⟨z,a,i,_⟩:=j.freeze x;show l ρ σ c b z H' _ v _ _ (k.ext a) i s λρ' y d H' A f n=>g.nx ρ' y d H' (a.g.trans f.g) A n
def Walk(K:aj)(J:It)(G:Hp)(ds:List D):Prop:=
 (∀i d a H',ds[i]?=some d->aZ G a->aZ a H'->J.go i H'/\∀v b,J.Fz i H' v b->∃c,Ext a H' c b/\Rep K c v d)/\∀a H',aZ G a->aZ a H'->J.stop ds.length H'
noncomputable abbrev fG:=Ev->(List D->Prop)->Prop
def PId(X:Cx)(tg a:av)(c:fG):Prop:=∃ww,PI X tg a ww/\∀ρ σ e d G H Q P,bh X.K e d ρ σ G H->c ρ Q->
 (∀J H' ds b,Ext G H b H'->Walk X.K J b ds->Q ds->P J H')->ww σ H P
def EA(d:D)(Q:List D->Prop):Prop:=match d with
 | .lst ds=>Q ds
 | .tup ds=>Q ds
 | .str z=>Q (z.cps.toList.map λc=>.str ⟨#[c]⟩)
 | _=>False
def vE(te:TD):fG:=λρ Q=>te ρ λr=>EA r.val Q
theorem zmy{K:aj}(h:fO K G a xs)(r:ao K G xs ds):Walk K (GV K a) G ds:=by
 show⟨λi d c H' hd s1 s2=>?_,λc H' s1 s2=>⟨xs,(s2.cH (s1.cH h)).sq,by rw[r.length];show bx _⟩⟩;obtain⟨v,hv,f⟩:=r.get hd;have b:bP K H' a xs:=(s2.cH (s1.cH h)).sq;show⟨⟨xs,v,b,hv⟩,λu j g=>?_⟩;obtain⟨e,y⟩:=g;subst e;have:=y xs b;rw[hv] at this;cases this;show⟨c,.refl s2,f.mono s1⟩
theorem zo6{K:aj}(h:cz K G a xs)(r:ao K G xs ds):Walk K (OD K a) G ds:=by
 show⟨λi d c H' hd s1 s2=>?_,λc H' s1 s2=>⟨xs,s2.uj (s1.uj h),by rw[r.length];show bx _⟩⟩;obtain⟨v,hv,f⟩:=r.get hd;have b:cz K H' a xs:=s2.uj (s1.uj h);show⟨⟨xs,v,b,hv⟩,λu j g=>?_⟩;obtain⟨e,y⟩:=g;subst e;have:=y xs b;rw[hv] at this;cases this;show⟨c,.refl s2,f.mono s1⟩
theorem zo7{K:aj}(z):Walk K (GU z) G (z.cps.toList.map λc=>.str ⟨#[c]⟩):=by
 show⟨λi d f H' hd s1 s2=>?_,λf H' s1 s2=>?_⟩
 .rw[bE] at hd;cases e:z.cps.toList[i]? with
  | none=>rw[e] at hd;cases hd
  | some c=>
   rw[e] at hd;cases hd;have b:z.cps[i]?=some c:=by simpa using e
   show⟨(IQ.mp b).1,λv k g=>?_⟩;obtain⟨h,j,a,rfl⟩:=g;subst h;rw[b] at a;cases a;show⟨f,.refl s2,rP _ _ _⟩
 show _=_;show ax ..
theorem Wr{K:aj}(lo n):Walk K (CC lo n) G ((aN n).map λ(i:Nat)=>.int (lo+i)):=by
 show⟨λi d a H' hd s1 s2=>?_,λa H' s1 s2=>?_⟩
 .rw[bE] at hd;cases e:(aN n)[i]? with
  | none=>rw[e] at hd;cases hd
  | some c=>
   rw[e] at hd;cases hd;obtain⟨h,g⟩:=cD.mp e;have h3:i<n:=by simpa using h
   have f:c=i:=by rw[<-g];simp
   subst f;show⟨h3,λv k b=>?_⟩;obtain⟨j,rfl⟩:=b;subst j;show⟨a,.refl s2,gD _ _ _⟩
 show n<=_;simp
noncomputable def iC(ds:List D):List D:=ds.mapIdx λi d=>.tup [.int (i:Nat),d]
theorem KP{K:aj}(a:G t=some (.tup [x,y]))(c:Rep K G x d)(b:Rep K G y e):Rep K G (.ref t) (.tup [d,e]):=by
 show⟨t,[x,y],rfl,a,ao.cons c (ao.cons b ao.nil)⟩
theorem zmz{K:aj}(h:fO K G a xs)(r:ao K G xs ds):Walk K (OE K a) G (iC ds):=by
 show⟨λi d b H' hd s1 s2=>?_,λb H' s1 s2=>⟨xs,(s2.cH (s1.cH h)).sq,by rw[r.length];simp[iC]⟩⟩;unfold iC at hd;rw[zI] at hd;cases e:ds[i]? with
 | none=>rw[e] at hd;cases hd
 | some d'=>
  rw[e] at hd;cases hd;obtain⟨v,hv,k⟩:=r.get e;have j:bP K H' a xs:=(s2.cH (s1.cH h)).sq;show⟨⟨xs,v,j,hv⟩,λu n l=>?_⟩;obtain⟨t,rfl,m,y⟩:=l;obtain⟨x,f,rfl⟩:=y xs j;rw[hv] at f;cases f;have c:Ext b H' (upd b t (.tup [.int i,v])) (upd H' t (.tup [.int i,v])):=.new s2 m;show⟨_,c,KP dQ (gD _ _ _) ((k.mono s1).mono c.g)⟩
noncomputable def xt(ds a:List D):List D:=List.zipWith (λd e=>.tup [d,e]) ds a
theorem zo8{K:aj}(h:fO K G a xs)(r:ao K G xs ds)(h':fO K G b ys)(m:ao K G ys j):Walk K (OC K a b) G (xt ds j):=by
 show⟨λi d l H' hd s1 s2=>?_,λl H' s1 s2=>⟨xs,ys,(s2.cH (s1.cH h)).sq,(s2.cH (s1.cH h')).sq,?_⟩⟩
 .unfold xt at hd;rw[List.getElem?_zipWith] at hd;cases e:ds[i]? with
  | none=>rw[e] at hd;cases hd
  | some d'=>
   cases k:j[i]? with
   | none=>rw[e,k] at hd;cases hd
   | some E=>
    rw[e,k] at hd;cases hd;obtain⟨v,hv,w⟩:=r.get e;obtain⟨f,s,B⟩:=m.get k;have p:bP K H' a xs:=(s2.cH (s1.cH h)).sq;have q:bP K H' b ys:=(s2.cH (s1.cH h')).sq;show⟨⟨xs,ys,v,f,p,q,hv,s⟩,λu F z=>?_⟩;obtain⟨t,rfl,A,y⟩:=z;obtain⟨x,C,o,n,rfl⟩:=y xs ys p q;rw[hv] at o;rw[s] at n;cases o;cases n;have c:Ext l H' (upd l t (.tup [v,f])) (upd H' t (.tup [v,f])):=.new s2 A;show⟨_,c,KP dQ ((w.mono s1).mono c.g) ((B.mono s1).mono c.g)⟩
 rw[r.length,m.length];unfold xt;rw[List.length_zipWith];lia
theorem fB(h:PD X l te):PId X tg l (vE te):=by
 obtain⟨t,p,q⟩:=h;show⟨_,zta p,λρ σ n m G H Q P E h k=>q ρ σ n m G H _ _ E h λv H' r o x j c=>?_⟩;obtain⟨i,d,b,_⟩:=j.freeze x;unfold EA at c;split at c
 .rename_i ds e;rw[e] at b;obtain⟨a,xs,rfl,f,g⟩:=b;show .inl ⟨a,rfl,⟨xs,(d.s.cH f).sq⟩,k _ H' _ i d (zmy f g) c⟩
 .rename_i ds e;rw[e] at b;obtain⟨a,xs,rfl,f,g⟩:=b;show .inr (.inl ⟨a,rfl,⟨xs,d.s.ui f⟩,k _ H' _ i d (zo6 (cz.of f) g) c⟩)
 .rename_i z e;rw[e] at b;show .inr (.inr ⟨z,b,k _ H' _ i d (zo7 z) c⟩)
 show c.elim
def RV(a:fh):fG:=λρ Q=>a ρ λds=>match ds with
 | [.int j]=>-(2 ^ 62)<=j/\j<2 ^ 62/\Q ((aN j.toNat).map λ(i:Nat)=>.int (0+i))
 | _=>False
theorem i7{K:aj}(h:ao K G a [d]):∃v,a=[v]/\Rep K G v d:=by
 match a,h with
 | [],h=>simp only[ao] at h
 | [v],h=>show⟨v,rfl,h.1⟩
 | v::w::r,h=>simp only[ao] at h;show absurd h.2 (by simp)
theorem Ag{K:aj}(h:ao K G a [d,e]):∃v w,a=[v,w]/\Rep K G v d/\Rep K G w e:=by
 match a,h with
 | [],h=>simp only[ao] at h
 | v::r,h=>
  obtain⟨w,rfl,hw⟩:=i7 h.2;show⟨v,w,rfl,h.1,hw⟩
theorem qe(f:X.mg "range"=none)(i:jk X [a] c)(g:Gl X "range":=by rfl)(e:starEach [a] X.env=[(false,eval a X.env)]:=by rfl):PId X tg (.Call (.Name "range" p) [a] [] pos) (RV c):=by
 obtain⟨t,pp,q⟩:=i;show⟨_,zl5 g f pp e,λρ σ l j G H Q P E h k=>q ρ σ l j G H _ _ E h λn H' ds m x rs b=>?_⟩;split at b
 .obtain⟨v,rfl,d⟩:=i7 rs;subst d;show⟨_,rfl,b.1,b.2.1,k _ H' _ m x (Wr 0 _) b.2.2⟩
 show b.elim
def Js(a:fh):fG:=λρ Q=>a ρ λds=>match ds with
 | [.int i,.int j]=>(-(2 ^ 62)<=i/\i<2 ^ 62/\-(2 ^ 62)<=j/\j<2 ^ 62)/\Q ((aN (j-i).toNat).map λ(n:Nat)=>.int (i+n))
 | _=>False
theorem zk6(i:X.mg "range"=none)(l:jk X [a,b] d)(j:Gl X "range":=by rfl)(g:starEach [a,b] X.env=[(false,eval a X.env),(false,eval b X.env)]:=by rfl)(f:starEach [b] X.env=[(false,eval b X.env)]:=by rfl):PId X tg (.Call (.Name "range" p) [a,b] [] pos) (Js d):=by
 obtain⟨t,pp,q⟩:=l;show⟨_,zl6 j i pp g f,λρ σ o n G H Q P E h k=>q ρ σ o n G H _ _ E h λu H' ds r x rs c=>?_⟩;split at c
 .obtain⟨v,s,rfl,e,m⟩:=Ag rs;subst e m;show⟨_,_,rfl,c.1,k _ H' _ r x (Wr _ _) c.2⟩
 show c.elim
def Jr(a:fh):fG:=λρ Q=>a ρ λds=>match ds with
 | [.lst b]=>Q (iC b)
 | _=>False
theorem qd(j:X.mg "enumerate"=none)(m:jk X [a] d)(l:Gl X "enumerate":=by rfl)(i:starEach [a] X.env=[(false,eval a X.env)]:=by rfl):PId X (.Tuple b f tp) (.Call (.Name "enumerate" p) [a] [] pos) (Jr d):=by
 obtain⟨t,pp,q⟩:=m;show⟨_,zrm l j pp i,λρ σ r o G H Q P E h k=>q ρ σ r o G H _ _ E h λw H' ds u x rs c=>?_⟩;split at c
 .obtain⟨v,rfl,g⟩:=i7 rs;obtain⟨a,xs,rfl,e,n⟩:=g;show⟨a,xs,rfl,x.s.cH e,k _ H' _ u x (zmz e n) c⟩
 show c.elim
def Jf(a:fh):fG:=λρ Q=>a ρ λds=>match ds with
 | [.lst b,.lst fs]=>Q (xt b fs)
 | _=>False
theorem zrs(m:X.mg "zip"=none)(o:jk X [a,b] e)(n:Gl X "zip":=by rfl)(l:starEach [a,b] X.env=[(false,eval a X.env),(false,eval b X.env)]:=by rfl)(j:starEach [b] X.env=[(false,eval b X.env)]:=by rfl) :
  PId X (.Tuple c g tp) (.Call (.Name "zip" p) [a,b] [] pos) (Jf e):=by
 obtain⟨t,pp,q⟩:=o;show⟨_,ztb n m pp l j,λρ σ z y G H Q P E h k=>q ρ σ z y G H _ _ E h λC H' ds A x rs d=>?_⟩;split at d
 .obtain⟨v,B,rfl,i,w⟩:=Ag rs;obtain⟨a,xs,rfl,f,u⟩:=i;obtain⟨b,ys,rfl,h3,r⟩:=w;show⟨a,b,rfl,⟨xs,(x.s.cH f).sq⟩,⟨ys,(x.s.cH h3).sq⟩,k _ H' _ A x (zo8 f u h3 r) d⟩
 show d.elim
def oA(b:fG)(g:eh)(c:TX):TX:=λD ρ=>b ρ λds=>∃a:Nat->Ev->Prop,a 0 ρ/\
 (∀i d ρ',ds[i]?=some d->a i ρ'->g d ρ' λe=>c { D with nx:=a (i+1),ct:=a (i+1),bk:=D.nx } e)/\∀ρ',a ds.length ρ'->D.nx ρ'
theorem fA(hp:PassesOwn (model X.prog X.w) X.A X.env X.xe)(hc:X.calm=true)(R:PId X tg a O)(hg:qO X tg g)(hb:jj X body P)
  (hs:∀x,foldedSetIterable a X.env x=pure x:=by intro _;rfl):PX X (.For tg a body [] pos) (oA O g P):=by
 obtain⟨t1,p1,q1⟩:=R;obtain⟨t2,p2,q2⟩:=hg;obtain⟨t3,p3,q3⟩:=hb;show⟨_,Sz hp hc p1 p2 p3 hs,λρ σ p n G H D E k h F=>q1 ρ σ p n G H _ _ k h λJ H1 ds y z N hq=>?_⟩;obtain⟨S,i0,turn,fin⟩:=hq;show⟨λi m u H'=>m=ds.length-i/\i<=ds.length/\∃ρ' c,bh X.K p n ρ' u c H'/\aZ y c/\S i ρ',⟨ds.length,by simp,cG _,ρ,y,k.ext z,aZ.refl _,i0⟩,?_⟩;rintro i m u H' ⟨rfl,R,ρ',c,r,q,iv⟩;by_cases I:i<ds.length
 .obtain⟨Y,w2⟩:=N;obtain⟨go,V⟩:=Y i ds[i] c H' (aX I) q r.e.s;show .inr ⟨go,λQ l=>∃t b,bh X.K p n t Q b l/\aZ y b/\S (i+1) t,λQ l ⟨t,b,k2,s2,C⟩=>⟨ds.length-(i+1),by grind,rfl,I,t,b,k2,s2,C⟩,λv l hy=>?_⟩;obtain⟨b,M,Z⟩:=V v l hy;show q2 ρ' u p n b l ds[i] v _ _ (r.ext M) Z (turn i ds[i] ρ' (aX I) iv) λU mQ T H3 k3 W cB=>?_
  have s3:aZ y T:=(q.trans M.g).trans W.g;show q3 U mQ p n T H3 _ _ k3 cB ⟨λd B o L s4 f j=>⟨d,o,f,s3.trans s4,j⟩,F.rt,λd B o L s4 f j=>F.nx d B o L ((z.g.trans s3).trans s4) f j,λd B o L s4 f j=>⟨d,o,f,s3.trans s4,j⟩⟩
 have e:i=ds.length:=by lia
 subst e;show .inl ⟨N.2 c H' q r.e.s,F.nx ρ' u c H' (z.g.trans q) r (fin ρ' iv)⟩
def ztl(c:eE)(e:TX):TX:=λD ρ=>∃W:Nat->Ev->Prop,(∃m,W m ρ)/\∀m ρ',W m ρ'->c ρ' λb=>if b=true then e { D with nx:=λd=>∃a,a<m/\W a d,ct:=λd=>∃a,a<m/\W a d,bk:=D.nx } ρ' else D.nx ρ'
theorem Vw(P:PassesOwn (model X.prog X.w) X.A X.env X.xe)(Q:PB X c tc)(R:jj X body y):PX X (.While c body [] pos) (ztl tc y):=by
 obtain⟨t1,O,M⟩:=Q;obtain⟨t3,N,L⟩:=R;show⟨_,zoJ P O N,λρ σ q p G H D E k h u=>?_⟩;obtain⟨W,⟨m0,J⟩,turn⟩:=h;show⟨λm j H'=>∃ρ' r,bh X.K q p ρ' j r H'/\aZ G r/\W m ρ',⟨m0,ρ,G,k,aZ.refl _,J⟩,?_⟩;rintro m j H' ⟨ρ',r,t,z,I⟩;show M ρ' j q p r H' _ _ t (turn m ρ' I) λb l d o C=>?_
 cases b with
 | true=>
  show⟨λB l=>∃a,a<m/\∃F d,bh X.K q p F B d l/\aZ G d/\W a F,λB l S=>S,?_⟩;have s2:aZ G d:=z.trans o.g;show L ρ' j q p d l _ _ (t.ext o) C ⟨λe s n x s4 f v=>by obtain⟨a,hm,i⟩:=v;show⟨a,hm,e,n,f,s2.trans s4,i⟩,u.rt,λe s n x s4 f i=>u.nx e s n x (s2.trans s4) f i,λe s n x s4 f v=>by obtain⟨a,hm,i⟩:=v;show⟨a,hm,e,n,f,s2.trans s4,i⟩⟩
 | false=>
  show u.nx ρ' j d l (z.trans o.g) (t.ext o) C
end
noncomputable def zW(ρ:Ev):Option Nat->Sl
 | none=>.un
 | some j=>match gt ρ j with
  | .fz d=>.fz d
  | _=>.un
noncomputable def iB(m:List (Option Nat))(ρ:Ev):Ev:=m.map (zW ρ)
theorem ztn{m:List (Option Nat)}{ρ:Ev}{i:Nat}:gt (m.map (zW ρ)) i=match m[i]? with
  | some o=>zW ρ o
  | none=>.un:=by
 induction m generalizing i with
 | nil=>rfl
 | cons a r b=>
  cases i with
  | zero=>rfl
  | succ i=>show b
def l6(m:List (Option Nat))(g:eh):Prop:=∀d ρ Q,g d ρ Q->g d ρ λa=>Q a/\a.length=ρ.length/\∀j c,m[j]?=some (some c)->gt a j=gt ρ j
def E8(m:List (Option Nat))(g:lX):Prop:=∀ds ρ Q,g ds ρ Q->g ds ρ λa=>Q a/\a.length=ρ.length/\∀j c,m[j]?=some (some c)->gt a j=gt ρ j
theorem fb(h:m[i]?=some none:=by rfl):l6 m (fm i):=λd ρ Q q=>by
 show⟨q,by show pD ..,λj c a=>?_⟩;rw[lg,if_neg];rintro⟨e,_⟩;subst e;rw[h] at a;cases a
theorem Vv:E8 m kh:=λds ρ Q q=>by
 unfold kh at q ⊢;split at q
 .exact⟨q,rfl,λ_ _ _=>rfl⟩
 show q.elim
theorem AW(mono:∀d ρ Q a,(∀ρ',Q ρ'->a ρ')->t d ρ Q->t d ρ a)(p:∀d ρ Q a,(∀ρ',Q ρ'->a ρ')->u d ρ Q->u d ρ a)(o:l6 m t)(n:E8 m u):E8 m (fk t u):=λds ρ Q q=>by
 unfold fk at q ⊢;split at q
 .refine mono _ _ _ _ (λρ' b=>?_) (o _ _ _ q);obtain⟨g,i,l⟩:=b;show p _ _ _ _ (λr b=>by obtain⟨f,h,k⟩:=b;show⟨f,h.trans i,λj c e=>(k j c e).trans (l j c e)⟩) (n _ _ _ g)
 show q.elim
theorem Vu(a:E8 m u):l6 m (pN n u):=λd ρ Q q=>by
 unfold pN at q ⊢;split at q
 .exact⟨q.1,a _ _ _ q.2⟩
 show q.elim
theorem rQ:∀d ρ Q a,(∀ρ',Q ρ'->a ρ')->fm i d ρ Q->fm i d ρ a:=λ_ _ _ _ h q=>h _ q
theorem AL:∀d ρ Q a,(∀ρ',Q ρ'->a ρ')->kh d ρ Q->kh d ρ a:=λ_ _ _ _ h q=>by
 unfold kh at q ⊢;split at q
 .exact h _ q
 show q.elim
theorem Fu(mono:∀d ρ Q a,(∀ρ',Q ρ'->a ρ')->t d ρ Q->t d ρ a)(c:∀d ρ Q a,(∀ρ',Q ρ'->a ρ')->u d ρ Q->u d ρ a):∀d ρ Q a,(∀ρ',Q ρ'->a ρ')->fk t u d ρ Q->fk t u d ρ a:=λ_ _ _ _ h q=>by
 unfold fk at q ⊢;split at q
 .exact mono _ _ _ _ (λρ' b=>c _ _ _ _ h b) q
 show q.elim
theorem vU(h:m[i]?=some none:=by rfl)(h':m[j]?=some none:=by rfl):l6 m (pN n (fk (fm i) (fk (fm j) kh))):=
 Vu (AW rQ (Fu rQ AL) (fb h) (AW rQ AL (fb h') Vv))
theorem ziS(h:m[i]?=some none:=by rfl)(h':m[j]?=some none:=by rfl)(a:m[k]?=some none:=by rfl):l6 m (pN n (fk (fm i) (fk (fm j) (fk (fm k) kh)))):=
 Vu (AW rQ (Fu rQ (Fu rQ AL)) (fb h) (AW rQ (Fu rQ AL) (fb h') (AW rQ AL (fb a) Vv)))
def yJ(X:Cx)(a:List av)(t:eE):Prop:=∃tt,uU X a tt/\∀ρ σ d c G H Q P,bh X.K d c ρ σ G H->t ρ Q->
 (∀b H' e,Ext G H e H'->Q b->P b H')->tt σ H P
def tQ:eE:=λ_ Q=>Q true
theorem fL:yJ X [] tQ:=⟨_,zrk,λρ σ b a G H Q P E h k=>k true H G (.refl E.e.s) h⟩
theorem Aw(h:PB X c t):yJ X [c] t:=let⟨tt,p,q⟩:=h;⟨tt,zrl p,q⟩
def pT(e:fG)(m:List (Option Nat))(g:eh)(tc:eE)(te:TD):TD:=λρ Q=>e ρ λds=>∃a:Nat->List D->Prop,a 0 []/\
 (∀i d acc,ds[i]?=some d->a i acc->g d (iB m ρ) λc=>tc c λb=>if b=true then te c λr=>acc.length<sizeLine/\a (i+1) (acc++[r.val]) else a (i+1) acc)/\∀acc,a ds.length acc->Q (.ow acc)
theorem ML:gt (iB m ρ) i=.un\/∃j d,m[i]?=some (some j)/\gt ρ j=.fz d/\gt (iB m ρ) i=.fz d:=by
 unfold iB;rw[ztn];match m[i]? with
 | none=>show .inl rfl
 | some none=>show .inl rfl
 | some (some j)=>
  unfold zW;dsimp only;split
  .rename_i d h;show .inr ⟨j,d,rfl,h,rfl⟩
  show .inl rfl
def wJ(ρ:Ev):Prop:=∀i,gt ρ i=.un\/∃d,gt ρ i=.fz d
theorem Xt:wJ (iB m ρ):=λ_=>ML.imp id λ⟨_,d,_,_,h⟩=>⟨d,h⟩
theorem wJ.ow(b:wJ ρ)(h:gt ρ i=.ow a):False:=by
 rcases b i with e | ⟨d,e⟩<;>rw[e] at h<;>cases h
theorem wJ.ov(b:wJ ρ)(h:gt ρ i=.ov o):False:=by
 rcases b i with e | ⟨d,e⟩<;>rw[e] at h<;>cases h
theorem wJ.YE{K:aj}(b:wJ ρ)(e:Ext g c G H)(l:a.length=ρ.length)(f:∀i d,gt ρ i=.fz d->∃v,a[i]?=some (some v)/\Rep K G v d):bh K g c ρ a G H:=
 ⟨e,l,f,λ_ _ h=>(b.ow h).elim,λ_ _ _ _ _ h=>(b.ow h).elim,λ_=>none,λ_ _ _ h=>(b.ow h).elim,λ_ _ h=>(b.ov h).elim⟩
theorem Ext.aad(x:Ext G H a H')(h:H p=none)(g:a p=none):Ext G H a (upd H' p o):=
 ⟨x.g,λb u e=>by rw[bA (iD e h)];show x.h b u e,λb u e=>by rw[bA (iD e g)];show x.s b u e,x.n⟩
structure yP(K:aj)(α:Type) where
 B:Hp->Hp->List V->List ab->List α->Prop
 sel:R->(α->Prop)->Prop
 res:List α->R
 nil:∀G H,B G H [] [] []
 len:∀{G H xs fp acc},B G H xs fp acc->xs.length=acc.length
 here:∀{G H xs fp acc},B G H xs fp acc->∀q∈fp,H q≠none
 mono:∀{G H G' H' xs fp acc},aZ G G'->(∀q∈fp,∀u,H q=some u->H' q=some u)->B G H xs fp acc->B G' H' xs fp acc
 snoc:∀{G H G' H' v r k xs fp acc},Ext G H G' H'->dU K G' H' H v r->sel r k->B G' H' xs fp acc->∃a G2 dG,k a/\Ext G H G2 H'/\B G2 H' (xs++[v]) (fp++dG) (acc++[a])/\dG.Nodup/\∀q∈dG,H q=none/\G2 q=none
 fin:∀{G H H1 D xs fp acc},H D=some (.lst xs)->B G H xs fp acc->(D::fp).Nodup->(∀q∈D::fp,H1 q=none/\G q=none)->dU K G H H1 (.ref D) (res acc)
def zto{K:aj}(C:yP K α)(f:fG)(m:List (Option Nat))(g:eh)(tc:eE)(te:TD):TD:=λρ Q=>f ρ λds=>∃c:Nat->List α->Prop,c 0 []/\
 (∀i d acc,ds[i]?=some d->c i acc->g d (iB m ρ) λe=>tc e λb=>if b=true then te e λr=>C.sel r λa=>acc.length<sizeLine/\c (i+1) (acc++[a]) else c (i+1) acc)/\∀acc,c ds.length acc->Q (C.res acc)
structure yP.At{K:aj}{α:Type}(C:yP K α)(G1 H1:Hp)(ρ:Ev)(D:ab)(Iv:List α->Prop)(σ:St)(H:Hp)(acc:List α)(xs:List V)(fp:List ab)(G:Hp):Prop where
 e:bh K G1 H1 ρ σ G H
 d:H D=some (.lst xs)
 b:C.B G H xs fp acc
 nd:(D::fp).Nodup
 fr:∀q∈D::fp,H1 q=none/\G q=none
 iv:Iv acc
section
variable{X:Cx}{m:List (Option Nat)}{g:eh}
theorem Vt(C:yP X.K α)(hk:l6 m g)
  (q1:∀ρ o I F G H Q P,bh X.K I F ρ o G H->wi ρ Q->(∀J H' ds l,Ext G H l H'->Walk X.K J l ds->Q ds->P J H')->ww o H P)
  (q2:∀s3 L ex ρ o I F G H d v Q P,bh X.K I F ρ o G H->Rep X.K G v d->g d ρ Q->(∀ρ' t l H',bh X.K I F ρ' t l H'->Ext G H l H'->Q ρ'->P t H')->gg s3 L ex v o H P)
  (q3:∀s3 L ex ρ o I F G H Q P,bh X.K I F ρ o G H->tc ρ Q->(∀b H' l,Ext G H l H'->Q b->P b H')->oK s3 L ex o H P)
  (q4:∀s3 L ex ρ' t p H1 l H' Q' P',Ext G H p H1->bh X.K p H1 ρ' t l H'->te ρ' Q'->(∀v w r G2,Ext l H' G2 w->dU X.K G2 w H' v r->Q' r->P' v w)->S s3 L ex t H' P')
  (E:bh X.K I F ρ o G H) (h:zto C wi m g tc te ρ Q) (k:∀v H' r l,Ext G H l H'->dU X.K l H' H v r->Q r->P v H'):rK ww m gg oK S o H P:=by
 show q1 ρ o I F G H _ _ E h λJ H1 ds p M wk f D W s3 ex=>?_
 have hGD:p D=none:=M.s.free W;show⟨λi n t H'=>n=ds.length-i/\i<=ds.length/\∃acc xs fp l,C.At p H1 (iB m ρ) D (f.choose i) t H' acc xs fp l,
  ⟨ds.length,rfl,cG _,[],[],[],p,?_,dQ,C.nil _ _,mU _ _,λq f=>?_,f.choose_spec.1⟩,?_⟩
 .refine Xt.YE (.own M.s W) (by simp[qu,iB]) λi d h=>?_
  rcases ML (m:=m) (ρ:=ρ) (i:=i) with e | ⟨j,d',e1,e2,e3⟩
  .rw[e] at h;cases h
  obtain⟨v,hv,rv⟩:=(E.ext M).fz j d' e2;rw[e3] at h;cases h;show⟨v,by unfold qu;rw[bE,e1];simp[hv],rv⟩
 .rw[du.mp f];show⟨W,hGD⟩
 rintro i n t H' ⟨rfl,hi,acc,xs,fp,l,A⟩;by_cases bz:i<ds.length
 .have ht:=aX bz;obtain⟨go,yl⟩:=wk.1 i ds[i] l H' ht A.e.e.g A.e.e.s;show .inr ⟨go,λiZ w=>∃acc xs fp l,C.At p H1 (iB m ρ) D (f.choose (i+1)) iZ w acc xs fp l,λiZ w T=>⟨ds.length-(i+1),by ext,rfl,bz,T⟩,λv w hy=>?_⟩;obtain⟨G2,x2,rv⟩:=yl v w hy;show q2 _ _ _ (iB m ρ) t p H1 G2 w ds[i] v _ _ (A.e.ext x2) rv (hk _ _ _ (f.choose_spec.2.1 i ds[i] acc ht A.iv)) λzb mQ G3 L E3 x3 cB=>?_
  show q3 _ _ _ zb mQ p H1 G3 L _ _ E3 cB.1 λb H4 Z x4 XR=>?_
  have O:=(x2.trans x3).trans x4;have weak:∀j,gt (iB m ρ) j=.un\/gt (iB m ρ) j=gt zb j:=λj=>by
   rcases ML (m:=m) (ρ:=ρ) (i:=j) with e | ⟨c,d',e1,e2,e3⟩
   .exact .inl e
   show .inr (cB.2.2 j c e1).symm
  have A4:C.B Z H4 xs fp acc:=C.mono O.g (λq _ u e=>O.h _ _ e) A.b;have N:∀q∈D::fp,H1 q=none/\Z q=none/\H4 q≠none:=λq f=>by
   have U:H' q≠none:=by
    rcases bG.mp f with rfl | f
    .rw[A.d];show nofun
    show C.here A.b q f
   show⟨(A.fr q f).1,O.n q (A.fr q f).2 U,λz=>U (O.h.free z)⟩
  have E4:=(E3.ext x4).weak (ρ':=iB m ρ) cB.2.1.symm weak;cases b with
  | false=>show⟨acc,xs,fp,Z,E4,O.h _ _ A.d,A4,A.nd,λq f=>⟨(N q f).1,(N q f).2.1⟩,XR⟩
  | true=>
   show q4 _ _ _ zb mQ p H1 Z H4 _ _ M (E3.ext x4) XR λv5 H5 r5 G5 x5 BG jW=>?_
   obtain⟨a,G6,Y,ka,x6,B6,jc,Ny⟩:=C.snoc x5 BG jW (C.mono x5.g (λq _ u e=>x5.h _ _ e) A4);have U:∀q∈D::fp,q∉Y:=λq h1 T=>(N q h1).2.2 (Ny q T).1
   have GN:∀q∈D::(fp++Y),H1 q=none/\G6 q=none:=λq f=>by
    rw[<-kX] at f;rcases cj.mp f with f | f
    .exact⟨(N q f).1,x6.n q (N q f).2.1 (N q f).2.2⟩
    show⟨E4.e.h.free (Ny q f).1,(Ny q f).2⟩
   have Xe:(D::(fp++Y)).Nodup:=by
    rw[<-kX,pG];show⟨A.nd,jc,λx h1 y T e=>U x h1 (e▸T)⟩
   show⟨xs,x6.h _ _ (O.h _ _ A.d),by rw[C.len A4];show ka.1,acc++[a],xs++[v5],fp++Y,G6,?_,dQ,C.mono (aZ.refl _) (λq f u e=>?_) B6,Xe,GN,ka.2⟩
   .have E6:=E4.ext x6;show Xt.YE (E6.e.aad W (GN D (by show .head _)).2) E6.len E6.fz
   rw[bA (λz:q=D=>(gu.mp Xe).1 (z▸f))];show e
 have e:i=ds.length:=by lia
 subst e;show .inl ⟨wk.2 l H' A.e.e.g A.e.e.s,k _ H' (C.res acc) l (M.trans A.e.e) (C.fin A.d A.b A.nd λq f=>⟨M.h.free (A.fr q f).1,(A.fr q f).2⟩) (f.choose_spec.2.2 acc A.iv)⟩
noncomputable def zuY(K):yP K D where
 B:=λG _ xs fp acc=>fp=[]/\ao K G xs acc
 sel:=λr k=>k r.val
 res:=.ow
 nil:=λ_ _=>⟨rfl,ao.nil⟩
 len:=λh=>h.2.length
 here:=λh q a=>by rw[h.1] at a;cases a
 mono:=λg _ h=>⟨h.1,h.2.mono g⟩
 snoc:=λx i j h=>by
  obtain⟨l,c,e,s2⟩:=i.freeze x;show⟨_,l,[],j,c,⟨by rw[h.1];rfl,(h.2.mono s2).append (ao.cons e ao.nil)⟩,.nil,λq a=>by cases a⟩
 fin:=λd b _ f=>⟨_,_,rfl,(f _ (cT)).1,(f _ (cT)).2,d,b.2⟩
theorem zo9(cs:kO X N' m scope)(B:l6 m g)
  (A:∀ρ c f e G H Q P,bh X.K f e ρ c G H->wi ρ Q->(∀J H' ds a,Ext G H a H'->Walk X.K J a ds->Q ds->P J H')->o c H P)
  (z:∀s3 l ex ρ c f e G H d v Q P,bh X.K f e ρ c G H->Rep X.K G v d->g d ρ Q->(∀ρ' j a H',bh X.K f e ρ' j a H'->Ext G H a H'->Q ρ'->P j H')->q s3 l ex v c H P)
  (y:∀s3 l ex ρ c f e G H Q P,bh X.K f e ρ c G H->tc ρ Q->(∀b H' a,Ext G H a H'->Q b->P b H')->p s3 l ex c H P)
  (x:∀s3 l ex ρ' j w H1 a H' s t,Ext G H w H1->bh X.K w H1 ρ' j a H'->te ρ' s->(∀v n r u,Ext a H' u n->dU X.K u n H' v r->s r->t v n)->i s3 l ex j H' t)
  (E:bh X.K f e ρ c G H) (h:pT wi m g tc te ρ Q) (k:∀v H' r a,Ext G H a H'->dU X.K a H' H v r->Q r->P v H'):rK o m q p i c H P:=Vt (zuY X.K) B A z y x E h k
theorem Ut(cs:kO X N' m scope)(t:l6 m g)
  (s:∀ρ σ f e G H Q P,bh X.K f e ρ σ G H->wi ρ Q->(∀J H' ds a,Ext G H a H'->Walk X.K J a ds->Q ds->P J H')->l σ H P)
  (r:∀s3 c ex ρ σ f e G H d v Q P,bh X.K f e ρ σ G H->Rep X.K G v d->g d ρ Q->(∀ρ' j a H',bh X.K f e ρ' j a H'->Ext G H a H'->Q ρ'->P j H')->o s3 c ex v σ H P)
  (q:∀s3 c ex ρ σ f e G H Q P,bh X.K f e ρ σ G H->tc ρ Q->(∀b H' a,Ext G H a H'->Q b->P b H')->n s3 c ex σ H P)
  (p:∀s3 c ex,nU X.K te (i s3 c ex)):nU X.K (pT wi m g tc te) (rK l m o n i):=λρ σ f e G H Q P E h k=>zo9 cs t s r q (λs3 c ex ρ' j x H1 a H' u w _=>p s3 c ex ρ' j x H1 a H' u w) E h k
theorem fW(j:X.calm=true)(cs:kO X N' m scope)(h:l6 m g)(i:PId X tg iter wi)(c:∀s3 a ex,qO (jg X N' scope s3 a ex) tg g)(b:∀s3 a ex,yJ (jg X N' scope s3 a ex) ifs tc)
  (he:∀s3 a ex,PD (jg X N' scope s3 a ex) elt te) (f:∀x,foldedSetIterable iter X.env x=pure x:=by intro _;rfl):PD X (.ListComp elt [⟨tg,iter,ifs,0⟩] scope pos) (pT wi m g tc te):=by
 obtain⟨ww,e,d⟩:=i;show⟨_,Ub (g:=λs3 a ex=>(c s3 a ex).choose) (tc:=λs3 a ex=>(b s3 a ex).choose) (te:=λs3 a ex=>(he s3 a ex).choose) j cs e (λs3 a ex=>(c s3 a ex).choose_spec.1) (λs3 a ex=>(b s3 a ex).choose_spec.1) (λs3 a ex=>(he s3 a ex).choose_spec.1) f,
  Ut cs h d (λs3 a ex=>(c s3 a ex).choose_spec.2) (λs3 a ex=>(b s3 a ex).choose_spec.2) (λs3 a ex=>(he s3 a ex).choose_spec.2)⟩
theorem KO(i)(A:X.calm=true)(cs:kO X N' m scope)(w:l6 m g)(y:PId X tg iter wi)(d:∀s3 a ex,qO (jg X N' scope s3 a ex) tg g)(c:∀s3 a ex,yJ (jg X N' scope s3 a ex) ifs tc)
  (he:∀s3 a ex,PD (jg X N' scope s3 a ex) elt te) (B:X.N.Nodup:=by assumption) (q:X.N[i]?=some x:=by rfl) (s:Loc X.env.scope x:=by first | show Or.inl rfl | show Or.inr rfl) (t:∀x,foldedSetIterable iter X.env x=pure x:=by intro _;rfl)
  (j:swapsWith (.ListComp elt [⟨tg,iter,ifs,0⟩] scope pos) (some (.Name x b)) f.line X.env=pure true:=by rfl)
  (z:X.fn x=true\/X.env.scope.names.lookup x=some .local:=by first | show .inl rfl | show .inr rfl | assumption) :
  PX X (.Assign [.Name x b] (.ListComp elt [⟨tg,iter,ifs,0⟩] scope pos) f) (rJ i (pT wi m g tc te)):=by
 obtain⟨ww,p,o⟩:=y;show⟨_,Ua (g:=λs3 a ex=>(d s3 a ex).choose) (tc:=λs3 a ex=>(c s3 a ex).choose) (te:=λs3 a ex=>(he s3 a ex).choose) B q s A cs p (λs3 a ex=>(d s3 a ex).choose_spec.1) (λs3 a ex=>(c s3 a ex).choose_spec.1) (λs3 a ex=>(he s3 a ex).choose_spec.1) t j z,λρ σ J F G H D E k h C=>?_⟩;show Ut cs w o (λs3 a ex=>(d s3 a ex).choose_spec.2) (λs3 a ex=>(c s3 a ex).choose_spec.2) (λs3 a ex=>(he s3 a ex).choose_spec.2) ρ σ J F G H _ _ k h λv H' r K x n u=>?_
 obtain⟨I,e,l,_⟩:=n.freeze x;show C.nx _ _ I H' e.g (k.put e (r:=.fz r.val) l) u
end
noncomputable abbrev cg:=List D->(R->Prop)->Prop
def yK(K:aj)(n:Nat)(t:cg):Sp:=λc H Q _=>∃G ds a,aZ G H/\ao K G c ds/\ds.length=n/\t ds a/\∀v H' r b,Ext G H b H'->dU K b H' H v r->a r->Q v H'
noncomputable def tW(N:List ae)(ds:List D):Ev:=ds.map Sl.fz++et (N.length-ds.length) .un
theorem zh7{ds:List D}{l:List Sl}(h:gt (ds.map Sl.fz++l) i=s):(∃d,ds[i]?=some d/\s=.fz d)\/(ds.length<=i/\gt l (i-ds.length)=s):=by
 induction ds generalizing i with
 | nil=>show .inr ⟨cG _,by trivial⟩
 | cons d ds a=>
  cases i with
  | zero=>show .inl ⟨d,rfl,h.symm⟩
  | succ i=>
   simp only[bD,kX,gt] at h;simp_all
theorem zmD:gt (et n Sl.un) i=.un:=by
 induction n generalizing i with
 | zero=>rfl
 | succ n a=>
  cases i with
  | zero=>rfl
  | succ i=>show a
theorem zpa{K:aj}(s:aZ G H)(r:ao K G e ds):bh K G H (tW N ds) (start N e) G H:=by
 have k:=r.length;have c:∀{i:Nat}{t:Sl},gt (tW N ds) i=t->t≠.un->∃d,ds[i]?=some d/\t=.fz d:=λ{i t} h n=>by
  rcases zh7 h with h | ⟨_,h⟩
  .exact h
  rw[zmD] at h;show absurd h.symm n
 show⟨.refl s,by simp[start,tW,k],λi d h=>?_,λi f h=>?_,λi j f fs _ h=>?_,λ_=>none,λi f _ h=>?_,λi o h=>?_⟩
 .obtain⟨d',b,a⟩:=c h (by simp);cases a;obtain⟨v,hv,g⟩:=r.get b;have l:i<e.length:=(cD.mp hv).1;show⟨v,?_,g⟩;unfold start;rw[DI (by simpa using l),bE,hv];rfl
 .obtain⟨d',b,a⟩:=c h (by simp);cases a
 .obtain⟨d',b,a⟩:=c h (by simp);cases a
 .obtain⟨d',b,a⟩:=c h (by simp);cases a
 obtain⟨d',b,a⟩:=c h (by simp);cases a
section
variable{K:aj}
theorem Us{st:cQ}(F:yO o K x a st f j)(S:uW N ps (fg st))
  (body:∀d A outer s H E,f9 k (A.deeper (envOfC a (fg st) s.heap.objs.size f d))->jj (nk kP P w K mg base N a (fg st) f d A outer s H E).qo (kJ st) T)
  (c:∀ds b,ds.length=ps.length->t ds b->T { nx:=λ_=>b (.fz .non),rt:=b } (tW N ds)):o8 P w K mg base kP (k+1) f j ps (yK K ps.length t):=by
 show F.ok S (λl H Q E h=>?_) (λd A outer s H l Q E n h=>?_)
 .obtain⟨G,ds,b,_,r,g,_⟩:=h;rw[r.length,g]
 obtain⟨G,ds,b,s0,r,g,m,i⟩:=h;obtain⟨tt,p,q⟩:=body d A outer s H E n;show⟨tt,p,q _ _ G H G H _ _ (zpa s0 r) (c ds b g m) ⟨λρ σ u H' _ e h=>i _ H' _ u e.e (de (T9 _ _)) h,i,λ_ _ _ _ _ _ h=>h.elim,λ_ _ _ _ _ _ h=>h.elim⟩⟩
end
section
variable{k n:Nat}{f:ab}{t:cg}{e:av}{ts:fh}
def ki(n:Nat)(t:cg)(ts:fh):TD:=λρ Q=>ts ρ λds=>ds.length=n/\t ds Q
theorem zrt(F:o8 X.prog X.w X.K X.mg X.base kP k f fd ps (yK X.K n t))(i:f9 k X.A)(j:X.mg x=some (.ref f))(l:wR X.K (.ref f)=true)(o:Binds X.K fd ps [])(u:jk X (e::es) ts)(m:Gl X x:=by rfl)(g:(x==("__debug__":ae))=false:=by decide)
  (he:starEach (e::es) X.env=(false,eval e X.env)::starEach es X.env:=by rfl) (y:(backTo pos (starEach es X.env)).any (·.1)=false:=by rfl):PD X (.Call (.Name x p) (e::es) [] pos) (ki n t ts):=by
 obtain⟨tt,pp,q⟩:=u;show⟨_,zrg F i m j l o .nil zuO pp g he y,λρ σ D B G H Q P E h k=>q ρ σ D B G H _ _ E h λJ H' ds I x rs a=>?_⟩;rw[gI];show⟨I,ds,Q,x.s,rs,a.1,a.2,λv z r C b c d=>k v z r C (x.trans b) (c.qj x.h) d⟩
end
open PySem.StrLaws
noncomputable def fK{α:Type}(xs:List α)(lo a:Option Int):List α:=(xs.drop (HT.bN xs.length 0 lo)).take (HT.bN xs.length xs.length a-HT.bN xs.length 0 lo)
noncomputable def tP(z:ae)(lo a:Option Int):ae:=⟨(fK z.cps.toList lo a).toArray⟩
theorem tT(v)(n d:Nat):max 0 (min (if v<0 then v+(n:Int) else v) (n:Int))=((HT.bN n d (some v):Nat):Int):=by
 rw[<-HT.NS];by_cases h:v<0
 .lia
 lia
theorem zk7(z:ae)(lo c):(tO lo c 1 z.length).filterMap (z.cps[·]?)=fK z.cps.toList lo c:=by
 have g:z.cps.toList.length=z.length:=by simp[CM]
 have e:tO lo c 1 z.length=sliceRange ((HT.bN z.length 0 lo:Nat):Int) ((HT.bN z.length z.length c:Nat):Int) 1:=by
  unfold tO;cases lo with
  | none=>
   cases c with
   | none=>rfl
   | some v=>simp only[show((1:Int)>0) from by show iz _,cO,tT v z.length z.length];rfl
  | some u=>
   cases c with
   | none=>simp only[show((1:Int)>0) from by show iz _,cO,tT u z.length 0];rfl
   | some v=>simp only[show((1:Int)>0) from by show iz _,cO,tT v z.length z.length,tT u z.length 0]
 rw[e];unfold fK;rw[g];generalize j:HT.bN z.length 0 lo=a;generalize i:HT.bN z.length z.length c=b;have f:b<=z.length:=by rw[<-i];show HT.Mf _ _ (bx _) _
 by_cases d:a<=b
 .have:=sliced_plain z d f;rw[strSliceIndices_plain d f] at this;rw[<-this];unfold sliceRange;simp only[show((1:Int)>0) from by show iz _,cO];congr 1
  by_cases h:a<b
  .rw[if_pos (by simp_all)];rw[show(((b:Int)-(a:Int)+1-1)/1).toNat=b-a by simp_all];apply tI;intro k _;lia
  rw[if_neg (by simp_all),show b-a=0 by simp_all];rfl
 rw[show b-a=0 by ext,List.take_zero];unfold sliceRange;simp only[show((1:Int)>0) from by show iz _,cO];rw[if_neg (by ext)];rfl
theorem zmF(z lo a):Hh z lo a=tP z lo a:=by
 unfold Hh tP;split
 .rename_i h;have h':(tO lo a 1 z.length).length=z.length:=by show eq_of_beq ‹_›
  have c:z.cps.toList.length=z.length:=by simp[CM]
  have d:(fK z.cps.toList lo a).length=z.length:=by
   unfold fK;rw[eP,oo,c];have e:tO lo a 1 z.length=sliceRange ((HT.bN z.length 0 lo:Nat):Int) ((HT.bN z.length z.length a:Nat):Int) 1:=by
    unfold tO;cases lo with
    | none=>
     cases a with
     | none=>rfl
     | some v=>simp only[show((1:Int)>0) from by show iz _,cO,tT v z.length z.length];rfl
    | some u=>
     cases a with
     | none=>simp only[show((1:Int)>0) from by show iz _,cO,tT u z.length 0];rfl
     | some v=>simp only[show((1:Int)>0) from by show iz _,cO,tT v z.length z.length,tT u z.length 0]
   rw[e] at h';unfold sliceRange at h';simp only[show((1:Int)>0) from by show iz _,cO,ax,tF] at h';have f:=HT.Mf z.length z.length (bx _) a;by_cases h3:((HT.bN z.length 0 lo:Nat):Int)<((HT.bN z.length z.length a:Nat):Int)
   .lia
   simp at h';lia
  apply Str.ext';have h3:fK z.cps.toList lo a=z.cps.toList:=by
   unfold fK at d ⊢;rw[eP,oo,c] at d;rw[c];have b:HT.bN z.length 0 lo=0\/z.length=0:=by lia
   rcases b with b | b
   .rw[b,HL,Hy];show rg (by lia)
   have:z.cps.toList=[]:=xj (by trivial);rw[this];simp
  rw[h3]
 rw[zk7]
section
variable{X:Cx}{e:av}{te:TD}
theorem aaj:uQ X (λx lo a H Q=>∃z,x=.str z/\z.length<=sizeLine/\Q (.str (tP z lo a)) H):=by
 intro n s σ H x v w r lo a sl Q I b e pl pu h;obtain⟨z,rfl,hz,q⟩:=h;obtain⟨t,rfl⟩:=b;show⟨"str",_,F.slot_str_getitem.lookup,u4 _ _ _,?_⟩;have part:∀{u:aa}{o:Option Int},IsPart u o->∃p:Option (Int×Tok),u=partValue p/\p.map (·.1)=o:=λh=>by
  cases h with
  | none=>show⟨none,rfl,rfl⟩
  | int i t=>show⟨some (i,t),rfl,rfl⟩
 obtain⟨d,rfl,m⟩:=part pl;obtain⟨c,rfl,j⟩:=part pu;obtain⟨o,f,g,hd⟩:=e;show QZ (l:=d) (u:=c) (st:=none) ⟨o,f,g,hd⟩ rfl ?_;have fin:∀t' k,EP X n σ Q (.str (Hh z lo a) t') { s with toks:=k }:=λt' k=>⟨.str (tP z lo a),H,I.tok k,⟨t',by rw[zmF]⟩,q⟩
 have hle:=bU (Txt.slice_le z lo a) hz;subst m j;show post_val_or_str ⟨hle,fin⟩
noncomputable abbrev wB:=Ev->(Option Int->Prop)->Prop
def yL(X:Cx)(e:Option av)(t:wB):Prop:=∃tt,PO X e tt/\∀ρ σ b a G H Q P,bh X.K b a ρ σ G H->t ρ Q->(∀o H' c,Ext G H c H'->Q o->P o H')->tt σ H P
def yc:wB:=λ_ Q=>Q none
def xA(te:TD):wB:=λρ Q=>te ρ λr=>match r.val with
 | .int i=>Q (some i)
 | _=>False
theorem qc:yL X none yc:=⟨_,zri,λρ σ b a G H Q P E h k=>k none H G (.refl E.e.s) h⟩
theorem lp(h:PD X e te):yL X (some e) (xA te):=by
 obtain⟨t,p,q⟩:=h;show⟨_,Ue p,λρ σ l g G H Q P E h k=>q ρ σ l g G H _ _ E h λv H' r m x d a=>?_⟩;obtain⟨j,c,b,_⟩:=d.freeze x;split at a
 .rename_i i f;rw[f] at b;show⟨i,b,k _ H' j c a⟩
 show a.elim
def yD(te:TD)(tl b:wB):TD:=λρ Q=>te ρ λr=>tl ρ λlo=>b ρ λa=>match r.val with
 | .lst ds=>Q (.ow (fK ds lo a))
 | .str z=>z.length<=sizeLine/\Q (.fz (.str (tP z lo a)))
 | .tup ds=>¬(HT.bN ds.length 0 lo=0/\HT.bN ds.length ds.length a=ds.length)/\Q (.fz (.tup (fK ds lo a)))
 | _=>False
theorem Ur{K:aj}(r:ao K G xs ds)(lo a):ao K G (pQ xs lo a) (fK ds lo a):=by
 unfold pQ fK;rw[r.length];show(r.drop _).take _
theorem oF{lo c:Option av}(he:PD X e te)(O:yL X lo tl)(R:yL X c B):PD X (.Subscript e (.Slice lo c none q) pos) (yD te tl B):=by
 obtain⟨t1,M,K⟩:=he;obtain⟨W,q,J⟩:=O;obtain⟨t3,L,I⟩:=R;show⟨_,zoN (aak.or (aaj.or zs2)) M q L,λρ σ w u G H Q P E h k=>K ρ σ w u G H _ _ E h λv H' r Y x F N=>?_⟩;obtain⟨V,o,D,_⟩:=F.freeze x;show J ρ σ w u V H' _ _ (E.ext o) N λlo T U n S=>?_
 show I ρ σ w u U T _ _ ((E.ext o).ext n) S λc C m A d=>?_
 have b:=(o.trans n).trans A;have f:=(D.mono n.g).mono A.g;split at d
 .rename_i ds j;rw[j] at f;obtain⟨a,xs,rfl,t,l⟩:=f;show .inl ⟨a,xs,rfl,(b.s.cH t).sq,λp i=>?_⟩;show k _ _ (.ow _) m (b.trans (.own b.s i)) ⟨p,_,rfl,b.h.free i,b.s.free i,dQ,Ur l lo c⟩ d
 .rename_i z j;rw[j] at f;show .inr (.inl ⟨z,f,d.1,k _ _ _ m b (de (rP _ _ _)) d.2⟩)
 .rename_i ds j;rw[j] at f;obtain⟨a,xs,rfl,t,l⟩:=f;show .inr (.inr ⟨a,xs,rfl,b.s.ui t,by rw[l.length];show d.1,λp i=>?_⟩);have y:Ext m C (upd m p (.tup (pQ xs lo c))) (upd C p (.tup (pQ xs lo c))):=.new b.s i;show k _ _ (.fz _) _ (b.trans y) ?_ d.2;show⟨p,_,rfl,dQ,(Ur l lo c).mono y.g⟩
 show d.elim
def vz:cg:=λds Q=>match ds with
 | [.lst a]=>Q (.fz (.int a.length))
 | [.tup a]=>Q (.fz (.int a.length))
 | [.str z]=>z.length<=sizeLine/\Q (.fz (.int z.length))
 | _=>False
theorem gO:pU X (.builtin "len") vz:=by
 show⟨_,YO.or zhY,λG H e ds Q P s rs h k=>?_⟩;unfold vz at h;split at h
 .obtain⟨v,rfl,b⟩:=i7 rs;obtain⟨a,xs,rfl,d,c⟩:=b;show .inl ⟨a,xs,rfl,.inl ((s.cH d).sq),?_⟩;rw[c.length];show k _ _ _ G (.refl s) (de (gD _ _ _)) h
 .obtain⟨v,rfl,b⟩:=i7 rs;obtain⟨a,xs,rfl,d,c⟩:=b;show .inl ⟨a,xs,rfl,.inr (s.ui d),?_⟩;rw[c.length];show k _ _ _ G (.refl s) (de (gD _ _ _)) h
 .obtain⟨v,rfl,b⟩:=i7 rs;subst b;show .inr ⟨_,rfl,h.1,k _ _ _ G (.refl s) (de (gD _ _ _)) h.2⟩
 show h.elim
def D3(i:Nat):TD:=λρ Q=>match gt ρ i with
 | .ow ds=>Q (.fz (.int ds.length))
 | _=>False
theorem Uq(i)(f:X.mg "len"=none)(g:X.N[i]?=some x:=by rfl)(hv:yI X.env.scope x:=by first | show Or.inl rfl | show Or.inr (Or.inl rfl) | show Or.inr (Or.inr rfl))(c:Gl X "len":=by rfl)(hd:(x==("__debug__":ae))=false:=by decide)
  (d:(x==("__classdict__":ae))=false:=by decide) (n:starEach [zc x b] X.env=(false,eval (.Name x b) X.env)::starEach [] X.env:=by rfl):PD X (.Call (.Name "len" p) [.Name x b] [] pos) (D3 i):=by
 show⟨_,AR YO c f gi (oG (J4 g hv hd d) oC n),λρ σ r q G H Q P E h k=>?_⟩;unfold D3 at h;split at h
 .rename_i ds c;obtain⟨a,xs,m,l,h3,o,j⟩:=E.ow i ds c;show⟨_,m,a,xs,rfl,.inl (bP.of l),?_⟩;rw[j.length];show k _ _ _ G (.refl E.e.s) (de (gD _ _ _)) h
 show h.elim
noncomputable def rH:List D->Option (List Bool)
 | []=>some []
 | .bl b::r=>(rH r).map (b::·)
 | _=>none
theorem V8:∀{ds bs},rH ds=some bs->ds=bs.map D.bl
 | [],bs,h=>by simp[rH] at h;subst h;rfl
 | .bl b::r,bs,h=>by
  simp only[rH,i4] at h;obtain⟨c,a,rfl⟩:=h;rw[V8 a];rfl
 | .non::r,bs,h=>by trivial
 | .int _::r,bs,h=>by trivial
 | .str _::r,bs,h=>by trivial
 | .tup _::r,bs,h=>by trivial
 | .lst _::r,bs,h=>by trivial
 | .obj _ _::r,bs,h=>by trivial
 | .dic _::r,bs,h=>by trivial
 | .dit _::r,bs,h=>by trivial
 | .exc _ _::r,bs,h=>by trivial
 | .idn _ _::r,bs,h=>by trivial
theorem Uo{K:aj}:∀{bs:List Bool}{a},ao K G a (bs.map D.bl)->a=bs.map V.bl
 | [],[],_=>rfl
 | b::bs,v::a,h=>by
  rw[h.1,Uo h.2];rfl
 | [],_::_,h=>by trivial
 | _::_,[],h=>by trivial
theorem zpc{bs:List Bool}(h:Vals (bs.map V.bl) a){i:Nat}(hv:a[i]?=some v):∃b,bs[i]?=some b/\v=.bool b:=by
 have f:=h.length;have g:i<a.length:=(cD.mp hv).1;have d:i<bs.length:=by simp_all
 obtain⟨u,c,e⟩:=h.get (i:=i) (x:=V.bl bs[i]) (by simp[d]);rw[hv] at c;cases c;show⟨bs[i],by show aX ‹_›,e⟩
theorem zrv{s:ai}{h':ay}(a:∀b x,b∉[s.heap.objs.size]->(s.heap.push o).get? b=some x->h'.get? b=some x):∀b x,s.heap.get? b=some x->h'.get? b=some x:=
 λb x e=>a b x (λhm=>by rw[du.mp hm] at e;show iM _ (bX e)) (bZ _ e)
theorem zrw(bs:List Bool):((aN bs.length).all λi=>(bs[i]?).getD true)=bs.all id:=by
 rw[Px];simp only[e7,fR,id];constructor
 .intro h b c;obtain⟨i,a,rfl⟩:=List.mem_iff_getElem.mp c;simpa[a] using h i a
 intro h i a;simpa[a] using h _ (eZ a)
theorem zmJ(k:X.calm=true):ip X (.builtin "all") (λxs H Q=>∃(p:ab)(bs:List Bool),xs=[.ref p]/\bP X.K H p (bs.map V.bl)/\Q (.bl (bs.all id)) H):=by
 intro t s σ H xs us Q I r h;obtain⟨p,bs,rfl,f,q⟩:=h;obtain⟨u,rfl,d⟩:=i8 r;cases d;obtain⟨its,a,pl,hz⟩:=I.list f;have m:p<s.heap.objs.size:=by obtain⟨_,_,e,_⟩:=pl;show bX e
 have g:its.length=bs.length:=by rw[<-a.length,ax]
 show call_all_walk (tG pl.isList ?_);show⟨s.heap.objs.size,[s.heap.objs.size,p],[s.heap.objs.size],its.toArray.size,_,_,λi=>(bs[i]?).getD true,rfl,OO (A:=X.A.in1) (I.ok.hd k) _ p (c7 m) its.toArray,
  ⟨⟨_,c8 _ rfl,rfl,rfl⟩,pl.isList.push _⟩,λi v n o w l c=>?_,λh' tk j=>?_⟩
 .obtain⟨b,e,rfl⟩:=zpc a (i:=i) (v:=v) (by simpa using l);simp only[e,gW] at c;show lR c
 rw[cS,g,zrw];show⟨.bl _,H,I.kept (zrv j),rfl,q⟩
def vy:cg:=λds Q=>match ds with
 | [.lst a]=>match rH a with
  | some bs=>Q (.fz (.bl (bs.all id)))
  | none=>False
 | _=>False
theorem rG(e:X.calm=true):pU X (.builtin "all") vy:=by
 show⟨_,zmJ e,λG H g ds Q P s rs h k=>?_⟩;unfold vy at h;split at h
 .split at h
  .rename_i i bs f;obtain⟨v,rfl,d⟩:=i7 rs;obtain⟨a,xs,rfl,c,b⟩:=d;rw[V8 f] at b;rw[Uo b] at c;show⟨a,bs,rfl,(s.cH c).sq,k _ _ _ G (.refl s) (de (iE _ _ _)) h⟩
  show h.elim
 show h.elim
end
section
variable{e:av}{te:TD}
noncomputable def ju:D->String
 | .non=>"NoneType"
 | .bl _=>"bool"
 | .int _=>"int"
 | .str _=>"str"
 | .tup _=>"tuple"
 | .lst _=>"list"
 | .obj _ _=>"object"
 | .dic _=>"dict"
 | .dit _=>"dict"
 | .exc _ _=>"object"
 | .idn _ _=>"object"
noncomputable def rq(t T:String):Bool:=(t==T)||(t=="bool"&&T=="int")
theorem xG{K:aj}(a:t∈["NoneType","bool","int","str","tuple","list"])(b:T∈["bool","int","str","tuple","list"]):PySem.W.kitOne K (.type t) (.type T)=some (rq t T):=by
 simp only[bG,kY,or_false] at a b;rcases a with rfl | rfl | rfl | rfl | rfl | rfl<;>rcases b with rfl | rfl | rfl | rfl | rfl<;>(first | rfl | decide | (decide +kernel))
noncomputable def RU:D->Bool
 | .obj _ _=>false
 | .dic _=>false
 | .dit _=>false
 | .exc _ _=>false
 | .idn _ _=>false
 | _=>true
theorem zpe(f:T∈["bool","int","str","tuple","list"]):ip X (.builtin "isinstance") (λxs H Q=>∃x d,xs=[x,.ty T]/\Rep X.K H x d/\RU d=true/\Q (.bl (rq (ju d) T)) H):=by
 intro v s σ H xs us Q I r h;obtain⟨x,d,rfl,e,g,q⟩:=h;obtain⟨u,c,rfl,b,rc⟩:=Ah r;cases (show c=mY T from rc);have fin:∀tk,EP X v σ Q (.bool (rq (ju d) T)) { s with toks:=tk }:=λtk=>⟨.bl _,H,I.tok tk,rfl,q⟩
 cases d with
 | non=>subst e;cases (show u=j9 from b);show wV PySem.W.kitx_none I.mn u0 (xG (by show .head _) f) (λz=>nomatch z) fin
 | bl y=>subst e;cases (show u=zg y from b);show wV PySem.W.kitx_bool I.mn u0 (xG (by trivial) f) (λz=>nomatch z) fin
 | int i=>subst e;obtain⟨t,j⟩:=(show ∃t,u=wN i t from b);cases j;show wV PySem.W.kitx_int I.mn u0 (xG (by trivial) f) (λz=>nomatch z) fin
 | str y=>subst e;obtain⟨t,j⟩:=(show ∃t,u=CL y t from b);cases j;show wV PySem.W.kitx_str I.mn u0 (xG (by trivial) f) (λz=>nomatch z) fin
 | tup ds=>
  obtain⟨a,xs,rfl,l,_⟩:=e;cases (show u=fi a from b);obtain⟨its,_,k,_⟩:=I.tuple (cz.of l);obtain⟨o,p,m,_⟩:=k;show wV PySem.W.kitx_tuple I.mn ⟨o,p,m⟩ (xG (by trivial) f) (λz=>nomatch z) fin
 | lst ds=>
  obtain⟨a,xs,rfl,l,_⟩:=e;cases (show u=fi a from b);obtain⟨its,_,k,_⟩:=I.list l.sq;obtain⟨o,n,p,m,_⟩:=k;show wV PySem.W.kitx_list I.mn ⟨o,p,m⟩ (xG (by trivial) f) (λz=>nomatch z) fin
 | obj=>cases g
 | dic=>cases g
 | dit=>cases g
 | exc=>cases g
 | idn=>cases g
def xr(T:String)(te:TD):TD:=λρ Q=>te ρ λr=>RU r.val=true/\Q (.fz (.bl (rq (ju r.val) T)))
theorem Ez(he:PD X e te)(o:X.mg "isinstance"=none)(l:X.mg a=none)(hv:bootBuiltins a=some (.type T))(w:T∈["bool","int","str","tuple","list"]:=by decide)(u:Gl X "isinstance":=by rfl)(m:Gl X a:=by rfl)(n:a≠"__name__":=by decide)
  (hd:(a==("__debug__":ae))=false:=by decide) (f:starEach [e,zc a b] X.env=(false,eval e X.env)::starEach [zc a b] X.env:=by rfl) (g:starEach [zc a b] X.env=(false,eval (.Name a b) X.env)::starEach [] X.env:=by rfl)
  (y:(backTo pos (starEach [zc a b] X.env)).any (·.1)=false:=by rfl):PD X (.Call (.Name "isinstance" p) [e,.Name a b] [] pos) (xr T te):=by
 obtain⟨t,pp,q⟩:=he;show⟨_,AR (zpe w) u o boot_isinstance (oG pp (oG (zq6 (v:=.ty T) m l hv rfl n hd) oC g) f) (by decide) (by assumption) f y,λρ σ B z G H Q P E h k=>q ρ σ B z G H _ _ E h λv H' r C x j d=>?_⟩;obtain⟨A,c,i,_⟩:=j.freeze x;show⟨v,r.val,rfl,i.mono c.s,d.1,k _ _ _ A c (de (iE _ _ _)) d.2⟩
end
section
variable{P:aG}{w:aF}{K:aj}{mg:ae->Option aa}{base:ay}
structure Known(P:aG)(w:aF)(K:aj)(mg:ae->Option aa)(base:ay)(k:Nat)(x:ae)(n:Nat)(t:cg):Prop where
 ex:∃(f:ab)(fd:j8)(ps:List ae),o8 P w K mg base kP k f fd ps (yK K n t)/\mg x=some (.ref f)/\wR K (.ref f)=true/\Binds K fd ps []
structure At(K:aj)(mg:ae->Option aa)(x:ae)(st:cQ):Prop where
 ex:∃(f:ab)(fd:j8),YU K x x st f fd/\mg x=some (.ref f)
theorem abv{st:cQ}{kV b pm d ct:aa}(X:K.In h)(G:h.Ns mainGlobals mg)(a:CT K mainGlobals x=some (some (.ref f)))
  (l:K.lookup f=some ⟨g,e,.func (pz x x (uM st) (kJ st) (fg st) .none kV b pm j d ct),i⟩) (c:C4 K d x=true) (k:wR K (.ref f)=true):At K mg x st:=
 ⟨f,_,zs8 l c k,Pe X G a⟩
theorem Cp(X:K.In h)(G:h.Ns mainGlobals mg)(c:CT K mainGlobals x=some (some u))(e:u=.str z t):∃t,mg x=some (.str z t):=⟨t,by rw[Pe X G c,e]⟩
end
theorem cE(C:Known X.prog X.w X.K X.mg X.base k x n t)(b:f9 k' X.A)(h:jk X (e::es) ts)(c:k<=k':=by decide)(d:Gl X x:=by rfl)(a:(x==("__debug__":ae))=false:=by decide)
  (he:starEach (e::es) X.env=(false,eval e X.env)::starEach es X.env:=by rfl) (i:(backTo pos (starEach es X.env)).any (·.1)=false:=by rfl):PD X (.Call (.Name x p) (e::es) [] pos) (ki n t ts):=by
 obtain⟨f,fd,ps,F,hm,kp,g⟩:=C.ex;show zrt F (b.mono c) hm kp g h d a he i
noncomputable def Um(a:ae->Option NameKind)(N N':List ae)(m:List (Option Nat))(scope:iO):Bool:=
 (scope.kind==.function)&&(m.length==N'.length)&&(scope.names.all λy=>scope.names.lookup y.1==some y.2) &&
 (scope.names.all λy=>y.2 != .free||a y.1==some .cell||a y.1==some .free) &&
 ((m.zip N').all λp=>match p.1 with
   | none=>true
   | some j=>N[j]?==some p.2&&scope.names.lookup p.2==some .free)
theorem kO.of(h:Um X.env.kindOf X.N N' m scope=true):kO X N' m scope:=by
 unfold Um at h;simp only[jH,beq_iff_eq,e7,C7,bne_iff_ne,ne_eq] at h;obtain⟨⟨⟨⟨g,f⟩,h3⟩,d⟩,c⟩:=h;show⟨g,f,λy a=>h3 y a,λy a e=>?_,λi j x hm b=>?_⟩
 .rcases d y a with(z | z) | z
  .exact absurd e z
  .exact .inl z
  show .inr z
 have hz:(some j,x)∈m.zip N':=by
  apply cJ (i:=i);rw[vw];show⟨hm,b⟩
 have:=c _ hz;simpa using this
theorem zk9{K:aj}{b:List Int}(h:fO K G a (b.map V.int)):Rep K G (.ref a) (.lst (b.map D.int)):=by
 show⟨a,_,rfl,h,?_⟩;clear h;induction b with
 | nil=>show ao.nil
 | cons n r c=>show ao.cons (gD _ _ _) c
def Jq(n:Nat):cg:=λds Q=>∃ns:List Int,ds=[.lst (ns.map .int)]/\ns.length<=n/\Q (.fz (.bl true))
theorem aac{l:PySem.W.OpenLaw}{K:Params->aj}
  (E:l.most=some n) (j:n<=sizeLine) (U:d.params.defaults=[]) (D:f9 k callerA) (L:∀w h,A w h->(K w.params).In h)
  (F:∀w mg fa h,(K w.params).In h->h.Ns mainGlobals mg->mg d.name=some (.ref fa)->
   ∃fd:j8,(∀s u,BindsTo s fd ⟨[u],[]⟩ [(x,u)])/\∀base:ay,o8 l.prog w (K w.params) mg base kP k fa fd [x] (yK (K w.params) 1 (Jq n))) :
  PySem.W.WalkO q c S A l.row.toRowW d [] (λf i=>OQ f i):=by
 show YW.abu E U λw gq bM mg Z fa o pm cd doc a i ns G Y ho hd lI sD B hints hlen I=>?_
 have KX:=L w _ Y;obtain⟨fd,J,N⟩:=F w mg fa _ KX G.T.g sD;show zoR KX G.T.g G.T.b G.T.builtins G.T.nolimit I B hints (bU hlen j) D (λbase _ _=>N base) J (λH hO p=>?_) λH e X z=>z
 have M:fO (K w.params) H a (ns.map V.int):=by
  rcases p with p | ⟨o,its,m,y,h2,h3,Q,P,O⟩
  .exact .inl p
  have e:=KX a o y;rw[B] at e;cases e;have t:CI i.toArray _=CI its m:=Q;injection t with R e2
  subst R;show .inr ⟨_,_,y,P,O⟩
 show⟨H,[.lst (ns.map .int)],λr=>r=.fz (.bl true),aZ.refl _,ao.cons (zk9 M) ao.nil,rfl,⟨ns,rfl,hlen,rfl⟩,λv H' r G' _ C e=>?_⟩;subst e;simpa only[dU,Rep] using C
theorem ztq{K:aj}{st:cQ}{T:ay->TX}(e:At K mg "law" st)(sD:mg "law"=some (.ref fa))(S:uW N [x] (fg st))
  (d:∀kV doc pm an a ct us,us.length=1->bindArgs (pz "law" "law" (uM st) (kJ st) (fg st) .none kV doc pm an a ct) ⟨us,[]⟩=pure ([x].zip us))
  (body:∀base f a A outer s H E,f9 k (A.deeper (envOfC "law" (fg st) s.heap.objs.size f a))->jj (nk kP P w K mg base N "law" (fg st) f a A outer s H E).qo (kJ st) (T base))
  (b:∀base ds c,ds.length=1->t ds c->T base { nx:=λ_=>c (.fz .non),rt:=c } (tW N ds)) :
  ∃fd:j8,(∀s u,BindsTo s fd ⟨[u],[]⟩ [(x,u)])/\∀base:ay,o8 P w K mg base kP (k+1) fa fd [x] (yK K 1 t):=by
 obtain⟨f,fd,F,hm⟩:=e.ex;rw[sD] at hm;cases hm;show⟨fd,λs u=>?_,λbase=>Us F S (body base fa) (b base)⟩;obtain⟨h,g,kV,doc,pm,an,a,ct,i,rfl,lk,j⟩:=F.ex;show .of_eq (d kV doc pm an a ct [u] rfl)
def vx(i:Nat)(t:TX):TX:=λD ρ=>t D (ig i ρ)
theorem ztr(d):(R.fz d).val=d:=rfl
theorem xF(ds):(R.ow ds).val=.lst ds:=rfl
theorem zuZ(d):(R.fz d).sl=.fz d:=rfl
theorem zu0(ds):(R.ow ds).sl=.ow ds:=rfl
theorem Km{α:Type}(L:List α)(j f)(hw:∀n:List D->Prop,n (L.map j)->k ρ n)(s:L.length<=sizeLine)
  (h:∀x∈L,∀(o:D->Prop) p,(∀e,f x=some e->o e)->(f x=none->p)->g (j x) (iB m ρ) λl=>tc l λb=>if b=true then te l λr=>o r.val else p)
  (q:Q (.ow (L.filterMap f))):pT k m g tc te ρ Q:=by
 show hw _ ⟨λi acc=>acc=(L.take i).filterMap f,rfl,λi d acc hd a=>?_,λacc a=>?_⟩
 .rw[bE] at hd;cases c:L[i]? with
  | none=>rw[c] at hd;cases hd
  | some x=>
   rw[c] at hd;cases hd;have e:L.take (i+1)=L.take i++[x]:=by rw[gf,c];rfl
   have hlen:acc.length<sizeLine:=by
    rw[a];show pH (Q6 _ _) ?_;grind
   show h x (cJ c) (λe=>acc.length<sizeLine/\acc++[e]=(L.take (i+1)).filterMap f) (acc=(L.take (i+1)).filterMap f)
    (λz hz=>⟨hlen,by rw[e,QE,a];simp[hz]⟩) (λhz=>by rw[e,QE,a];simp[hz])
 rw[ax,gw] at a;rw[a];show q
theorem gP{α:Type}(L:List α)(c f)(hw:∀i:List D->Prop,i (L.map c)->d ρ i)(k:L.length<=sizeLine)
  (h:∀x∈L,∀(b:D->Prop),b (f x)->g (c x) (iB m ρ) λn=>te n λr=>b r.val) (q:Q (.ow (L.map f))):pT d m g tQ te ρ Q:=by
 show Km L c (λx=>some (f x)) hw k (λx j b p l _=>?_) ?_
 .have:=h x j b (l _ rfl);trivial
 have e:L.filterMap (λx=>some (f x))=L.map f:=by
  induction L with
  | nil=>rfl
  | cons a r o=>simp
 rw[e];show q
theorem Fv{α:Type}(L:List α)(i f p)(hw:∀n:List D->Prop,n (L.map i)->j ρ n)(k:L.length<=sizeLine)
  (h:∀x∈L,∀(c:D->Prop) d,(p x=true->c (f x))->(p x=false->d)->g (i x) (iB m ρ) λl=>tc l λb=>if b=true then te l λr=>c r.val else d)
  (q:Q (.ow ((L.filter p).map f))):pT j m g tc te ρ Q:=by
 show Km L i (λx=>if p x=true then some (f x) else none) hw k (λx s c d t h0=>h x s c d (λz=>t _ (by show if_pos ‹_›)) (λz=>h0 (by simp[z]))) ?_;have e:L.filterMap (λx=>if p x=true then some (f x) else none)=(L.filter p).map f:=by
  clear h k hw q;induction L with
  | nil=>rfl
  | cons a r o=>by_cases z:p a=true<;>simp[z,o]
 rw[e];show q
theorem Vs{D:DE}(ds)(hw:∀e:List L2.D->Prop,e ds->b ρ e)(a:Nat->Ev->Prop)(f:a 0 ρ)
  (turn:∀i d ρ',ds[i]?=some d->a i ρ'->g d ρ' λh=>c { D with nx:=a (i+1),ct:=a (i+1),bk:=D.nx } h) (fin:∀ρ',a ds.length ρ'->D.nx ρ'):oA b g c D ρ:=hw _ ⟨a,f,turn,fin⟩
theorem jS{α:Type}{D:DE}(L:List α)(b)(hw:∀h:List L2.D->Prop,h (L.map b)->e ρ h)(a:Nat->Ev->Prop)(j:a 0 ρ)
  (turn:∀i x ρ',L[i]?=some x->a i ρ'->g (b x) ρ' λk=>f { D with nx:=a (i+1),ct:=a (i+1),bk:=D.nx } k) (fin:∀ρ',a L.length ρ'->D.nx ρ'):oA e g f D ρ:=by
 show Vs (L.map b) hw a j (λi d ρ' hd iv=>?_) (λρ' iv=>fin ρ' (by simpa using iv));rw[bE] at hd;cases c:L[i]? with
 | none=>rw[c] at hd;cases hd
 | some x=>rw[c] at hd;cases hd;show turn i x ρ' c iv
theorem vS{D:DE}(n)(hw:∀d:List L2.D->Prop,d ((aN n).map λ(i:Nat)=>.int (0+i))->b ρ d)(a:Nat->Ev->Prop)(k:a 0 ρ)
  (turn:∀i ρ',i<n->a i ρ'->g (.int i) ρ' λl=>c { D with nx:=a (i+1),ct:=a (i+1),bk:=D.nx } l) (fin:∀ρ',a n ρ'->D.nx ρ'):oA b g c D ρ:=by
 show jS (aN n) (λ(i:Nat)=>.int (0+i)) hw a k (λi x ρ' e iv=>?_) (λρ' iv=>fin ρ' (by simpa using iv));obtain⟨j,h⟩:=cD.mp e;have h3:i<n:=by simpa using j
 have f:x=i:=by rw[<-h];simp
 subst f;rw[Hx];show turn x ρ' h3 iv
theorem p24:(10:Int) ^ OM 24=1000000000000000000000000:=by simp_all
theorem p30:(10:Int) ^ OM 30=1000000000000000000000000000000:=by simp_all
theorem zts:xw 10 24=True:=by simp only[xw,eq_iff_iff,iff_true];decide
theorem ztt:xw 10 30=True:=by simp only[xw,eq_iff_iff,iff_true];decide
section
variable{X:Cx}{e:av}{te:TD}{es:List av}{ts:fh}
def RH(t:TD):TD:=λρ Q=>t ρ λr=>match r.val with
 | .int i=>Q (.fz (.int (-i)))
 | _=>False
theorem Ta(h:PD X e te):PD X (.UnaryOp .USub e pos) (RH te):=by
 obtain⟨t,p,q⟩:=h;show⟨_,zuH zsV p,λρ σ l g G H Q P E h k=>q ρ σ l g G H _ _ E h λv H' r m x d a=>?_⟩;obtain⟨j,c,b,_⟩:=d.freeze x;split at a
 .rename_i i f;rw[f] at b;show⟨i,b,k _ _ _ j c (de (gD _ _ _)) a⟩
 show a.elim
def zu1:cg:=λds Q=>match ds with
 | [.lst es]=>Q (.ow es)
 | [.tup es]=>Q (.ow es)
 | _=>False
def Jp:cg:=λds Q=>match ds with
 | [.int i]=>Q (.fz (.int i))
 | [.bl b]=>Q (.fz (.int (if b then 1 else 0)))
 | _=>False
theorem zu3:pU X (.type "int") Jp:=by
 show⟨_,zma,λG H b ds Q P s rs h k=>?_⟩;unfold Jp at h;split at h
 .obtain⟨v,rfl,a⟩:=i7 rs;subst a;show .inl ⟨_,rfl,k _ _ _ G (.refl s) (de (gD _ _ _)) h⟩
 .obtain⟨v,rfl,a⟩:=i7 rs;subst a;show .inr ⟨_,rfl,k _ _ _ G (.refl s) (de (gD _ _ _)) h⟩
 show h.elim
noncomputable def oB:List D->Option (List Int)
 | []=>some []
 | .int b::r=>(oB r).map (b::·)
 | _=>none
theorem Fn:∀{ds bs},oB ds=some bs->ds=bs.map D.int
 | [],bs,h=>by simp[oB] at h;subst h;rfl
 | .int b::r,bs,h=>by
  simp only[oB,i4] at h;obtain⟨c,a,rfl⟩:=h;rw[Fn a];rfl
 | .non::r,bs,h=>by trivial
 | .bl _::r,bs,h=>by trivial
 | .str _::r,bs,h=>by trivial
 | .tup _::r,bs,h=>by trivial
 | .lst _::r,bs,h=>by trivial
 | .obj _ _::r,bs,h=>by trivial
 | .dic _::r,bs,h=>by trivial
 | .dit _::r,bs,h=>by trivial
 | .exc _ _::r,bs,h=>by trivial
 | .idn _ _::r,bs,h=>by trivial
theorem Wq(bs):oB (bs.map D.int)=some bs:=by
 induction bs with
 | nil=>rfl
 | cons b r a=>simp[oB,a]
theorem Fd{K:aj}:∀{bs:List Int}{a},ao K G a (bs.map D.int)->a=bs.map V.int
 | [],[],_=>rfl
 | b::bs,v::a,h=>by
  rw[h.1,Fd h.2];rfl
 | [],_::_,h=>by trivial
 | _::_,[],h=>by trivial
theorem Lq(c:IntsAre a b):∃xs:Array (Int×Tok),a.toArray=intItems xs/\b=xs.toList.map (·.1):=by
 obtain⟨xs,e⟩:=c.allInts.items;show⟨xs,e,by rw[<-c.numsOf,<-nums_intItems,<-e]⟩
theorem zmL(i:X.calm=true):ip X (.builtin "sum") (λxs H Q=>∃(p:ab)(ns:List Int),xs=[.ref p]/\bP X.K H p (ns.map V.int)/\Q (.int ns.sum) H):=by
 intro k s σ H xs us Q I r h;obtain⟨p,ns,rfl,f,q⟩:=h;obtain⟨u,rfl,c⟩:=i8 r;cases c;obtain⟨its,b,pl,hz⟩:=I.list f;obtain⟨ys,e,d⟩:=Lq (xY b);have a:=pl.isList;rw[e] at a;show sum_intListG (I.ok.hd i) a λh' tk t' g=>?_
 have j:preSum (numAt ys) ys.size=ns.sum:=by
  rw[preSum_eq,rg (by simp),d]
 rw[j];show⟨.int _,H,I.kept g,⟨_,rfl⟩,q⟩
theorem ztu(m:X.calm=true):ip X (.builtin "min") (λxs H Q=>∃(p:ab)(ns:List Int),xs=[.ref p]/\bP X.K H p (ns.map V.int)/\ns≠[]/\∀M,M∈ns->(∀a∈ns,M<=a)->Q (.int M) H):=by
 intro x s σ H xs us Q I r h;obtain⟨p,ns,rfl,i,w,q⟩:=h;obtain⟨u,rfl,g⟩:=i8 r;cases g;obtain⟨its,f,pl,hz⟩:=I.list i;obtain⟨ys,e,b⟩:=Lq (xY f);have c:=pl.isList;rw[e] at c;have hsz:0<ys.size:=by
  grind
 show min_intList (I.ok.hd m) c hsz λv h' tk hv k=>?_
 obtain⟨t,rfl⟩:=intItems_at hv;obtain⟨o,n⟩:=argBest_lt (numAt ys) (ys.size-1);show⟨.int _,H,I.kept k,⟨_,rfl⟩,q _ ?_ λa d=>?_⟩
 .rw[b,CH];show getD_mem (by rw[ax,cU];ext)
 rw[b] at d;obtain⟨j,l,rfl⟩:=mem_getD d;rw[ax,cU] at l;rw[<-CH];show n j (by lia)
theorem zmM(m:X.calm=true):ip X (.builtin "max") (λxs H Q=>∃(p:ab)(ns:List Int),xs=[.ref p]/\bP X.K H p (ns.map V.int)/\ns≠[]/\∀M,M∈ns->(∀a∈ns,a<=M)->Q (.int M) H):=by
 intro x s σ H xs us Q I r h;obtain⟨p,ns,rfl,i,w,q⟩:=h;obtain⟨u,rfl,g⟩:=i8 r;cases g;obtain⟨its,f,pl,hz⟩:=I.list i;obtain⟨ys,e,b⟩:=Lq (xY f);have c:=pl.isList;rw[e] at c;have hsz:0<ys.size:=by
  grind
 show max_intList (I.ok.hd m) c hsz λv h' tk hv k=>?_
 obtain⟨t,rfl⟩:=intItems_at hv;obtain⟨o,n⟩:=argBest_gt (numAt ys) (ys.size-1);show⟨.int _,H,I.kept k,⟨_,rfl⟩,q _ ?_ λa d=>?_⟩
 .rw[b,CH];show getD_mem (by rw[ax,cU];ext)
 rw[b] at d;obtain⟨j,l,rfl⟩:=mem_getD d;rw[ax,cU] at l;rw[<-CH];show n j (by lia)
def xq:cg:=λds Q=>match ds with
 | [.lst es]=>match oB es with
  | some ns=>Q (.fz (.int ns.sum))
  | none=>False
 | _=>False
theorem vG(e:X.calm=true):pU X (.builtin "sum") xq:=by
 show⟨_,zmL e,λG H g ds Q P s rs h k=>?_⟩;unfold xq at h;split at h
 .split at h
  .rename_i es bs f;obtain⟨v,rfl,d⟩:=i7 rs;obtain⟨a,xs,rfl,c,b⟩:=d;rw[Fn f] at b;rw[Fd b] at c;show⟨a,bs,rfl,(s.cH c).sq,k _ _ _ G (.refl s) (de (gD _ _ _)) h⟩
  show h.elim
 show h.elim
def zwo:cg:=λds Q=>match ds with
 | [.lst es]=>match oB es with
  | some ns=>ns≠[]/\∀M,M∈ns->(∀a∈ns,M<=a)->Q (.fz (.int M))
  | none=>False
 | [.int i,.int j]=>Q (.fz (.int (if j<i then j else i)))
 | _=>False
def Jo:cg:=λds Q=>match ds with
 | [.lst es]=>match oB es with
  | some ns=>ns≠[]/\∀M,M∈ns->(∀a∈ns,a<=M)->Q (.fz (.int M))
  | none=>False
 | [.int i,.int j]=>Q (.fz (.int (if j>i then j else i)))
 | _=>False
theorem zu5(c:X.calm=true):pU X (.builtin "max") Jo:=by
 show⟨_,(zmM c).or (zl9 c),λG H j ds Q P s rs h k=>?_⟩;unfold Jo at h;split at h
 .split at h
  .rename_i es bs g;obtain⟨v,rfl,b⟩:=i7 rs;obtain⟨a,xs,rfl,e,d⟩:=b;rw[Fn g] at d;rw[Fd d] at e;show .inl ⟨a,bs,rfl,(s.cH e).sq,h.1,λM h3 i=>k _ _ _ G (.refl s) (de (gD _ _ _)) (h.2 M h3 i)⟩
  show h.elim
 .obtain⟨v,u,rfl,b,f⟩:=Ag rs;subst b f;show .inr ⟨_,_,rfl,k _ _ _ G (.refl s) (de (gD _ _ _)) h⟩
 show h.elim
noncomputable def t5:List D->Option (List ae)
 | []=>some []
 | .str b::r=>(t5 r).map (b::·)
 | _=>none
theorem Wo:∀{ds bs},t5 ds=some bs->ds=bs.map D.str
 | [],bs,h=>by simp[t5] at h;subst h;rfl
 | .str b::r,bs,h=>by
  simp only[t5,i4] at h;obtain⟨c,a,rfl⟩:=h;rw[Wo a];rfl
 | .non::r,bs,h=>by trivial
 | .bl _::r,bs,h=>by trivial
 | .int _::r,bs,h=>by trivial
 | .tup _::r,bs,h=>by trivial
 | .lst _::r,bs,h=>by trivial
 | .obj _ _::r,bs,h=>by trivial
 | .dic _::r,bs,h=>by trivial
 | .dit _::r,bs,h=>by trivial
 | .exc _ _::r,bs,h=>by trivial
 | .idn _ _::r,bs,h=>by trivial
theorem Fm(bs):t5 (bs.map D.str)=some bs:=by
 induction bs with
 | nil=>rfl
 | cons b r a=>simp[t5,a]
theorem Vr{K:aj}:∀{bs:List ae}{a},ao K G a (bs.map D.str)->a=bs.map V.str
 | [],[],_=>rfl
 | b::bs,v::a,h=>by
  rw[h.1,Vr h.2];rfl
 | [],_::_,h=>by trivial
 | _::_,[],h=>by trivial
theorem zla:∀{us},Vals (c.map V.str) us->StrsAre us c:=by
 induction c with
 | nil=>
  intro us h;cases h;show .nil
 | cons n r d=>
  intro us h;cases h with
  | cons a b=>
   obtain⟨t,rfl⟩:=a;show .cons _ _ (d b)
def zu6:cg:=λds Q=>match ds with
 | [.lst es]=>match t5 es with
  | some ss=>ss.length<64/\∀b:List ae,b.Perm ss->sortedS b=true->Q (.ow (b.map D.str))
  | none=>match oB es with
   | some ns=>ns.length<64/\∀a:List Int,a.Perm ns->a.Pairwise (·<=·)->Q (.ow (a.map D.int))
   | none=>False
 | _=>False
def GS(X:Cx)(e:String)(o:D->List D->(R->Prop)->Prop):Prop:=∃r,OA X e r/\∀G H x d a ds Q P,aZ G H->Rep X.K G x d->ao X.K G a ds->o d ds Q->
 (∀v H' b c,Ext G H c H'->dU X.K c H' H v b->Q b->P v H')->r x a H P
def dM(T:String)(o:D->List D->(R->Prop)->Prop)(te:TD)(ts:fh):TD:=λρ Q=>te ρ λr=>ju r.val=T/\ts ρ λds=>o r.val ds Q
theorem zrA{K:aj}(s:aZ G H)(r:Rep K G x d)(h:ju d=T)(b:T="list"\/T="str"):Bx K T x H:=by
 cases d with
 | str z=>subst r;show h.symm
 | lst ds=>
  obtain⟨a,xs,rfl,c,_⟩:=r;show .inl ⟨h.symm,xs,(s.cH c).sq⟩
 | non=>subst h;rcases b with h | h<;>simp[ju] at h
 | bl=>subst h;rcases b with h | h<;>simp[ju] at h
 | int=>subst h;rcases b with h | h<;>simp[ju] at h
 | tup=>subst h;rcases b with h | h<;>simp[ju] at h
 | obj=>subst h;rcases b with h | h<;>simp[ju] at h
 | dic=>subst h;rcases b with h | h<;>simp[ju] at h
 | dit=>subst h;rcases b with h | h<;>simp[ju] at h
 | exc=>subst h;rcases b with h | h<;>simp[ju] at h
 | idn=>subst h;rcases b with h | h<;>simp[ju] at h
theorem t7(O:GS X f o)(U:T="list"\/T="str")(I:PlainAttrs T)(slot:Slot T name f)(BU:typeOf (.builtin f)=pure (.type "method_descriptor"))
  (he:PD X e te) (S:jk X (a::es) ts) (u:attributeBase e name X.env (eval e X.env)=eval e X.env:=by rfl)
  (Y:((backTo pos (starEach (a::es) X.env)).all (λx=>!x.1)&&(backToKw pos (keywordEach [] X.env)).all (λx=>x.1.isSome)
   && decide ((a::es).length+([]:List Keyword).length+(if ([]:List Keyword).isEmpty then 0 else 1)<30))=true:=by rfl)
  (w:(j.endLine==pos.line)=true:=by rfl) (M:starEach (a::es) X.env=(false,eval a X.env)::starEach es X.env:=by rfl) (W:(backTo pos (starEach es X.env)).any (·.1)=false:=by rfl) :
  PD X (.Call (.Attribute e name j) (a::es) [] pos) (dM T o te ts):=by
 obtain⟨r,N,L⟩:=O;obtain⟨t1,K,F⟩:=he;obtain⟨t2,J,C⟩:=S;show⟨_,Ae I slot BU N K J u Y w M W,λρ σ n m G H Q P E h k=>F ρ σ n m G H _ _ E h λv H' A G' x y l=>?_⟩;obtain⟨G2,c,i,_⟩:=y.freeze x;show⟨zrA c.s i l.1 U,C ρ σ n m G2 H' _ _ (E.ext c) l.2 λt H3 ds G3 b rs V=>?_⟩;show L G3 H3 v A.val t ds Q P b.s (i.mono b.g) rs V λq Z z G4 p d B=>k q Z z G4 ((c.trans b).trans p) (d.qj (c.trans b).h) B
def xx:D->List D->(R->Prop)->Prop:=λd ds Q=>match d,ds with
 | .str x,[.lst es]=>match t5 es with
  | some ys=>(ys.map (·.length)).sum+ys.length*x.length<=16777216/\Q (.fz (.str (iQ x ys)))
  | none=>False
 | _,_=>False
theorem Am:GS X "str.join" xx:=by
 show⟨λx e H Q=>∃(z:ae)(p:ab)(ys:List ae),x=.str z/\e=[.ref p]/\bP X.K H p (ys.map V.str)/\(ys.map (·.length)).sum+ys.length*z.length<=16777216/\Q (.str (iQ z ys)) H,λm s σ H x xs v us Q I b rs h=>?_,λG H x d e ds Q P s b rs h k=>?_⟩
 .obtain⟨z,p,ys,rfl,rfl,l,hz,q⟩:=h;obtain⟨t,rfl⟩:=b;obtain⟨u,rfl,i⟩:=i8 rs;cases i;obtain⟨its,c,pl,_⟩:=I.list l;show join_list pl.isList (by simpa using zla c) hz λt' k=>⟨.str _,H,I.tok _,⟨_,rfl⟩,q⟩
 unfold xx at h;split at h
 .split at h
  .rename_i z es ys j;obtain⟨v,rfl,c⟩:=i7 rs;obtain⟨a,xs,rfl,g,f⟩:=c;rw[Wo j] at f;rw[Vr f] at g;show⟨_,a,ys,b,rfl,(s.cH g).sq,h.1,k _ _ _ G (.refl s) (de (rP _ _ _)) h.2⟩
  show h.elim
 show h.elim
end
theorem Wn(k:l≠a):
  ∀n i s Q,s.heap.IsListIter a l i->s.heap.IsList l items->i+n<=items.size->
   (∀h':ay,h'.IsListIter a l (i+n)->oh a s.heap h'->Q ((items.toList.drop i).take n) { s with heap:=h' })->wpAny (model prog w) A (draw (.ref a) n) Q E s
 | 0,i,s,Q,st,f,t,q=>by
  show az (by have:=q s.heap st ⟨rfl,λ_ _=>rfl⟩;simpa using this)
 | n+1,i,s,Q,st,f,t,q=>by
  have g:i<items.size:=by lia
  show ag (QT st f (x:=items[i]) (by simp[g]) λj p d=>?_);have r:j.IsList l items:=by
   obtain⟨o,e,c⟩:=f;show⟨o,(d.2 l k).trans e,c⟩
  show ag (fQ (Wn k n (i+1) { s with heap:=j } _ p r (by lia) λu v m=>az ?_));have:=q u (by rw[show i+(n+1)=i+1+n by lia];show v) ⟨m.1.trans d.1,λb h=>(m.2 b h).trans (d.2 b h)⟩;have e:(items.toList.drop i).take (n+1)=items[i]::(items.toList.drop (i+1)).take n:=by
   rw[tN (by simpa using g)];rfl
  rw[e] at this;show this
theorem zeb(hd:A.handled=none)(a:s.heap.IsList l items)
  (q:∀h':ay,Ht s.heap.objs.size s.heap h'->Q items.toList { s with heap:=h' }):wpAny (model prog w) A (unpackItems (.ref l) items.size none) Q E s:=by
 have g:l<s.heap.objs.size:=by obtain⟨o,e,_⟩:=a;show bX e
 have ty:s.TypeIs (.ref l) "list":=by obtain⟨o,e,c,_⟩:=a;show⟨o,e,c⟩
 show ag ?_;show ag (u9 ty F.slot_list_iter.lookup ?_);show az ?_;show ag (fQ (tG a ?_));have d:(s.heap.push { cls:=mY "list_iterator",data:=CO #[fi l,wN 0 0] }).IsList l items:=by
  obtain⟨o,e,c⟩:=a;show⟨o,bZ _ e,c⟩
 show ag (fQ (Wn (c7 g) items.size 0 _ _ ⟨_,c8 _ rfl,rfl,rfl⟩ d (by simp_all) λj n h=>?_));have i:j.IsList l items:=by
  obtain⟨o,e,c⟩:=d;show⟨o,(h.2 l (c7 g)).trans e,c⟩
 have k:List.take items.size (List.drop 0 items.toList)=items.toList:=by rw[HL,show items.size=items.toList.length by simp,gw]
 rw[k,if_neg (by simp)];show ag (fQ (QG hd n i (by simp) λh3 m=>?_));show az (q h3 λb o f e=>m b o f ?_);rw[h.2 b f];show bZ _ e
section
variable{X:Cx}
def ZK(K:aj)(n:Nat)(t:sT):TG:=λv σ H Q=>∃a xs,v=.ref a/\bP K H a xs/\xs.length=n/\t xs σ H Q
theorem zrB(m:X.calm=true)(h:yM X c t)
  (j:(assignEach c X.env).length=n:=by rfl) (q:(assignEach c X.env).findIdx? (·.1)=none:=by rfl):PG X (.Tuple c k pos) (ZK X.K n t):=by
 intro f s σ H v u Q I r hw;obtain⟨a,xs,p,i,l,hw⟩:=hw;subst p;cases r;obtain⟨its,d,pl,hz⟩:=I.list i;show ag (CY ?_);unfold unpack;have hlen:(assignEach c X.env).length=its.toArray.size:=by rw[j,<-l,d.length];rfl
 rw[hlen,q];show ag (fQ (zeb (I.ok.hd m) pl.isList λh' g=>?_));have w:Inv X f σ H { s with heap:=h' }:=I.kept (t':=s.toks) λb o e=>g b o (c7 (bX e)) e
 show h f _ σ H xs _ Q w (by simpa using d) hw
def tR(n:Nat)(t:lX):eh:=λd ρ Q=>match d with
 | .lst ds=>ds.length=n/\t ds ρ Q
 | _=>False
theorem Ul(j:X.calm=true)(h:zX X b t)(i:(assignEach b X.env).length=n:=by rfl)(l:(assignEach b X.env).findIdx? (·.1)=none:=by rfl):qO X (.Tuple b k pos) (tR n t):=by
 obtain⟨t1,f,c⟩:=h;show⟨_,zrB j f i l,λρ σ o m G H d v Q P E r h k=>?_⟩;unfold tR at h;split at h
 .obtain⟨a,xs,rfl,g,rs⟩:=r;show⟨a,xs,rfl,(E.e.s.cH g).sq,by rw[rs.length];show h.1,c ρ σ o m G H _ xs Q P E rs h.2 k⟩
 show h.elim
end
theorem zpf{k:Int}:∀a,a∈step_dedup acc k↔a∈acc\/a=k:=by
 intro a;unfold step_dedup;split
 .rename_i h;constructor
  .exact .inl
  rintro(h' | rfl)
  .exact h'
  simpa using h
 simp
theorem zlc{k:Int}(h:acc.Nodup):(step_dedup acc k).Nodup:=by
 unfold step_dedup;split
 .exact h
 rename_i c;rw[pG];show⟨h,by show mU _ _,λa e b d=>?_⟩;have:b=k:=by simpa using d
 subst this;rintro rfl;show c (by simpa using e)
theorem zld(l acc:List Int)(h:acc.Nodup):(l.foldl step_dedup acc).Nodup/\∀a,a∈l.foldl step_dedup acc↔a∈acc\/a∈l:=by
 induction l generalizing acc with
 | nil=>show⟨h,λa=>by simp⟩
 | cons k r b=>
  obtain⟨d,c⟩:=b (step_dedup acc k) (zlc h);show⟨d,λa=>?_⟩;rw[vc,c a,zpf a,bG,or_assoc]
theorem zha(a:List Int):firstMet (λi=>a.getD i 0) a.length=a.foldl step_dedup []:=by
 unfold firstMet;congr 1
 apply Dk
 .simp
 intro i c b;simp[List.getD,b]
section
variable{e:av}{te:TD}{es:List av}
noncomputable def J2(a:List Int):List Int:=a.foldl step_dedup []
theorem zmP(k:X.calm=true):ip X (.type "set") (λxs H Q=>∃(p:ab)(ns:List Int),xs=[.ref p]/\bP X.K H p (ns.map V.int)/\ns.length<4000/\∀q,H q=none->∀S:Int->Bool,Q (.ref q) (upd H q (.set S (J2 ns).length))):=by
 intro l s σ H xs us Q I r h;obtain⟨p,ns,rfl,g,hsz,q⟩:=h;obtain⟨u,rfl,f⟩:=i8 r;cases f;obtain⟨its,c,pl,hz⟩:=I.list g;have i:its.toArray.size=ns.length:=by rw[cS,<-c.length,ax]
 show call_set_list (I.ok.hd k) pl.isList (by simpa using xY c) (by have:scanBound=4096:=(by rfl);lia) λh' tk d j=>?_
 have hf:H s.heap.objs.size=none:=I.aW.fresh (bx _);rw[i] at d;show⟨.ref s.heap.objs.size,_,I.laid (a:=s.heap.objs.size) (t':=tk) (λb o e=>j b o (bX e) e) (bx _) (o:=.set _ _) d,rfl,?_⟩;rw[zha];show q _ hf _
theorem zmQ:ip X (.builtin "len") (λxs H Q=>∃p S n,xs=[.ref p]/\H p=some (.set S n)/\Q (.int n) H):=by
 intro l s σ H xs us Q I r h;obtain⟨p,S,n,rfl,b,q⟩:=h;obtain⟨u,rfl,a⟩:=i8 r;cases a;obtain⟨o,es,k,t,f,e,h3,j,i,g,d,rfl⟩:=(show s.heap.SetOf (intKind X.prog X.w) p S n from I.aW p _ b)
 show call_len_set f e h3 d ?_ ⟨.int _,H,I.tok _,⟨_,rfl⟩,q⟩;have:scanBound=4096:=by rfl
 have c:es.size<4096:=by trivial
 show Int.ofNat_lt.mpr (zi c (by simp_all))
theorem zmR:bootBuiltins "set"=some (.type "set"):=by rfl
def Kl:cg:=λds Q=>match ds with
 | [.lst es]=>match oB es with
  | some ns=>ns.length<4000/\∀l:List Int,l.Nodup->(∀k,k∈l↔k∈ns)->Q (.fz (.int l.length))
  | none=>False
 | _=>False
theorem zmS(w:X.calm=true)(z:X.mg "len"=none)(o:X.mg "set"=none)(y:jk X [e] ts)(f:Gl X "len":=by rfl)(p:Gl X "set":=by rfl)
  (he:starEach [e] X.env=(false,eval e X.env)::starEach [] X.env:=by rfl) (g:starEach [.Call (.Name "set" c) [e] [] d] X.env=(false,eval (.Call (.Name "set" c) [e] [] d) X.env)::starEach [] X.env:=by rfl):PD X (.Call (.Name "len" n) [.Call (.Name "set" c) [e] [] d] [] pos) (kL Kl ts):=by
 obtain⟨t,pp,q⟩:=y;show⟨_,AR zmQ f z gi (oG (V1 (zmP w) p o zmR pp (by decide) (by rfl) he rfl) oC g) (by decide) (by rfl) g rfl,λρ σ B A G H Q P E h k=>?_⟩;show q ρ σ B A G H _ _ E h λD H' ds C x rs b=>?_
 unfold Kl at b;split at b
 .split at b
  .rename_i es ns u;obtain⟨v,rfl,l⟩:=i7 rs;obtain⟨a,xs,rfl,j,i⟩:=l;rw[Fn u] at i;rw[Fd i] at j;show⟨a,ns,rfl,(x.s.cH j).sq,b.1,λm r S=>⟨m,S,_,rfl,dQ,?_⟩⟩;obtain⟨f1,f2⟩:=zld ns [] Po;show k _ _ _ C (x.trans (.own x.s r)) (de (gD _ _ _)) (b.2 (J2 ns) f1 λk=>by rw[J2,f2];simp)
  show b.elim
 show b.elim
end
noncomputable def RT:D->Bool
 | .non=>true
 | .bl _=>true
 | .int _=>true
 | .str _=>true
 | _=>false
def RS(i:Nat)(te:TD):TD:=λρ Q=>te (ig i ρ) λr=>match r with
 | .fz d=>RT d=true/\Q (.fz d)
 | _=>False
def JA(i:Nat)(t:eE):eE:=λρ Q=>t (ig i ρ) Q
theorem zpg{K:aj}(h:RT d=true)(r:Rep K G v d):Rep K a v d:=by
 cases d<;>first | (show r) | cases h
noncomputable def DS(G:Hp)(L:List ab):Hp:=λa=>if a∈L then none else G a
theorem Vq(j:∀q∈L,G q=none)(x:Ext (i6 G H L) H c H'):Ext G H (DS c L) H':=by
 show⟨λb u e=>?_,x.h,λb u e=>?_,λq i f=>?_⟩
 .have a:b∉L:=λz=>by rw[j b z] at e;cases e
  unfold DS;rw[if_neg a];show x.g b u (by rw[lh a];show e)
 .unfold DS at e;split at e
  .cases e
  show x.s b u e
 unfold DS;split
 .rfl
 rename_i d;show x.n q (by rw[lh d];show i) f
theorem bh.Xn{K:aj}(i)(E:bh K d b ρ a G H):∃c,bh K d b (ig i ρ) a c H/\∀e H',Ext c H e H'->∃g,Ext G H g H':=
 let⟨L,f,h,_⟩:=E.Yx i
 ⟨_,h,λe H' x=>⟨_,Vq f x⟩⟩
theorem Uk(i)(h:PD X e te):PD X e (RS i te):=by
 obtain⟨tt,p,q⟩:=h;show⟨tt,p,λρ σ l f G H Q P E h k=>?_⟩;obtain⟨j,n,back⟩:=E.Xn i;show q _ σ l f j H _ _ n h λv H' r m x c a=>?_
 split at a
 .rename_i d;obtain⟨g,b⟩:=back m H' x;show k v H' (.fz d) g b (zpg a.1 c) a.2
 show a.elim
theorem ES(i)(h:PB X e t):PB X e (JA i t):=by
 obtain⟨tt,p,q⟩:=h;show⟨tt,p,λρ σ j d G H Q P E h k=>?_⟩;obtain⟨g,m,back⟩:=E.Xn i;show q _ σ j d g H _ _ m h λb H' l x c=>?_
 obtain⟨f,a⟩:=back l H' x;show k b H' f a c
theorem zu7{α:Type}{a:Array α}(h:a.size=1):∃e,a=#[e]:=⟨a[0]'(by simp_all),Array.ext (by trivial) λi b _=>by
 have:i=0:=by simp_all
 subst this;rfl⟩
section
variable{X:Cx}{e i':av}{te ti:TD}
def zvI(i:Nat):TX:=λD ρ=>match gt ρ i with
 | .ow _=>D.nx (ρ.set i (.ow []))
 | _=>False
def zV(i:Nat)(te:TD):TX:=λD ρ=>match gt ρ i with
 | .ow ds=>te ρ λr=>match r with
  | .ow a=>ds.length+a.length<=sizeLine/\D.nx (ρ.set i (.ow (ds++a)))
  | _=>False
 | _=>False
theorem J1(i)(he:PD X e te)(F:Nm X i x:=by walk_at"nm")
  (I:starEach [e] X.env=(false,eval e X.env)::starEach [] X.env:=by rfl)
  (C:∀{o t},PE X (.Name x s) o->PA X [e] t->PE X (.Call (.Attribute (.Name x s) "extend" u) [e] [] d) (BC X.K "list" Uc o t):=by intro o t n m;show Ae xh CV Q4 zmh n m) :
  PX X (.Expr (.Call (.Attribute (.Name x s) "extend" u) [e] [] d) pos) (zV i te):=by
 obtain⟨t,p,q⟩:=he;show⟨_,AG (C (l9 F) (oG p oC I)),λρ σ M L G H D E k h g=>?_⟩;unfold zV at h;split at h
 .rename_i ds w;obtain⟨a,xs,n,m,h3,O,y⟩:=k.ow i ds w;show⟨_,n,.inl ⟨rfl,xs,bP.of m⟩,q ρ σ M L G H _ _ k h λv H' r N f A j=>?_⟩;split at j
  .rename_i P;obtain⟨b,zs,rfl,R,Q,J,z⟩:=A;have B:=k.ext f;show⟨a,b,xs,zs,rfl,rfl,f.h _ _ m,J,by rw[y.length,z.length];show j.1,?_⟩;show g.nx _ _ N _ f.g (B.change w n ((y.mono f.g).append z)) j.2
  show j.elim
 show h.elim
def ER(j i:Nat):TX:=λD ρ=>match gt ρ i with
 | .ow ds=>∃d,ds[ds.length-1]?=some d/\D.nx ((ρ.set i (.ow ds.dropLast)).set j (.fz d))
 | _=>False
theorem ao.dropLast{K:aj}(h:ao K H a ds):ao K H a.dropLast ds.dropLast:=by
 rw[QD,QD,h.length];show h.take _
def zty:TX:=λ_ _=>False
theorem Vp{st:cQ}:PX X st zty:=⟨_,zoG,λ_ _ _ _ _ _ _ _ _ h _=>h.elim⟩
end
section
variable{κ:Type}[DecidableEq κ]
noncomputable def e8(kvs:List (κ×V))(k:κ):Option V:=(kvs.find? λkv=>decide (kv.1=k)).map (·.2)
noncomputable def ni(kvs:List (κ×V))(k:κ)(v:V):List (κ×V):=
 if (kvs.any λkv=>decide (kv.1=k))=true then kvs.map (λkv=>if kv.1=k then(kv.1,v) else kv) else kvs++[(k,v)]
theorem Vo{p:κ×V}{r:List (κ×V)}{k:κ}(e:p.1=k):e8 (p::r) k=some p.2:=by simp[e8,kU,e]
theorem Vn{p:κ×V}{r:List (κ×V)}{k:κ}(e:¬p.1=k):e8 (p::r) k=e8 r k:=by simp[e8,kU,e]
theorem KC(k:κ):∀kvs:List (κ×V),(kvs.any λkv=>decide (kv.1=k))=(e8 kvs k).isSome
 | []=>rfl
 | p::r=>by
  rw[CW];by_cases e:p.1=k
  .simp only[Vo e,iu e,O6,Ij]
  rw[Vn e,iw e,Pd];show KC k r
theorem ziW(kvs:List (κ×V))(k:κ)(v:V):(ni kvs k v).length<=kvs.length+1:=by
 unfold ni;grind
theorem qN.Ga(r:qN o u):o.isSome=u.isSome:=by
 cases o with
 | none=>cases u with
  | none=>rfl
  | some _=>show(show False from r).elim
 | some _=>cases u with
  | none=>show(show False from r).elim
  | some _=>rfl
theorem qN.getD(r:qN o u)(a:RelV d d'):RelV (o.getD d) (u.getD d'):=by
 cases o with
 | none=>cases u with
  | none=>show a
  | some _=>show(show False from r).elim
 | some _=>cases u with
  | none=>show(show False from r).elim
  | some _=>show r
end
theorem zu8(r:RelV (kV k) u):(ja P w).is k u=true:=by
 cases k with
 | inl i=>obtain⟨t,e⟩:=(show ∃t,u=wN i t from r);subst e;show ziK P w i t
 | inr x=>obtain⟨t,e⟩:=(show ∃t,u=CL x t from r);subst e;show ziL P w x t
def DR(i:av):Prop:=∀ov iv,subscripted i false ov iv=operate [ov,iv] (getItem ov iv)
theorem zrD
  (l:typeLookup (.type T) "__getitem__"=pure (some (.builtin j))) (k:DR slice)
  (h:wpAny (model prog w) A (eval a env) (λo f=>wpAny (model prog w) A (eval slice env) (λi b=>b.TypeIs o T/\wpAny (model prog w) A (getItem o i) Q E b) E f) E s) :
  wpAny (model prog w) A (eval (.Subscript a slice pos) env) Q E s:=by
 show CN (g7 h (λo f m=>g7 m (λi b c=>?_) λ_ _ x=>x) λ_ _ x=>x);obtain⟨e,c⟩:=c;unfold subscriptTail;show ag ?_;rw[getitemInPython_of_ne e.not_modules];show ag (u9 e l ?_);have fin:wpAny (model prog w) A (subscripted slice false o i) (λr d=>wpAny (model prog w) A (letTemporaryGo a o r >>= λ_=>pure r) Q E d) E b:=by
  rw[k o i];show wpAny_operating (g7 c (λr d g=>ag (wpAny_letTemporaryGo (az g))) λ_ _ x=>x)
 first
  | show az (ag fin)
  | show ag (az (ag fin))
  | show ag fin
structure M2(X:Cx)(o:av)(m:ae)(apos:aI)(e f:av)(f7:aI):Prop where
 base:attributeBase o m X.env (eval o X.env)=eval o X.env
 lK:((backTo f7 (starEach [e,f] X.env)).all (λx=>!x.1)&&(backToKw f7 (keywordEach [] X.env)).all (λx=>x.1.isSome)
  && decide (([e,f]:List av).length+([]:List Keyword).length+(if ([]:List Keyword).isEmpty then 0 else 1)<30))=true
 line:(apos.endLine==f7.line)=true
 trees:backTo f7 (starEach [e,f] X.env)=[(false,eval e X.env),(false,eval f X.env)]
section
variable{σ:St}
theorem Inv.big(I:Inv X J' σ H s):sysModules<s.heap.objs.size:=by
 have h:mainGlobals<s.heap.objs.size:=(I.mod.glob.keeps I.bk).lt;show zi (by decide) h
theorem Uj(I:Inv X J' σ H s)(mu:CA (H a))(c:oh a s.heap h')(he:∃q,h'.get? a=some q)(new:fP X.prog X.w (upd H a ob) h' a ob) :
  Inv X J' σ (upd H a ob) { s with heap:=h',toks:=t' }:=
 I.write (x:=a) (e:=a) mu (.inl rfl) (λb q d z=>(c.2 b d).trans z) he new
end
end L2
namespace PySem
open Sem (wp)
theorem zib:typeLookup (.type "list") "keys"=pure none:=by kernel_rfl
theorem zdM
  (j:s.heap.get? a=some o) (l:o.cls=.type "list") (n:o.data=.seq xs k) (hd:o.dict=none) (f:typeLookup (.type "list") name=pure none) (b:(["__module__","__name__","__qualname__","__doc__","__annotations__"]:List ae).contains name=false) (r:A.handled=none)
  (h:∀h' tk e,Heap.NewExcOf s.heap h' e "AttributeError"->Q none { s with heap:=h',toks:=tk }) (hsz:name.length+100<=sizeLine:=by size_fits) :
  wpAny (model prog w) A (getAttr? (.ref a) name) Q E s:=by
 obtain⟨c,t,dat,sl⟩:=o;simp only at l n hd;subst l n hd;obtain⟨q,g,d,tk,os⟩:=s;have m:∀p,(⟨q,g,d,p,os⟩:ai).TypeIs (.ref a) "list":=λ_=>⟨_,j,rfl⟩
 have f1:=sub_AttributeError;have x:=F.slot_list_getattribute.lookup;have f4:=F.slot_list_getattribute.bind (.ref a);have v:=am_list_getattr_none;unfold getAttr? getAttrBy? getAttrBy;repeat(any_goals (first | assumption | show m _ | ((with_reducible show wpAny _ _ (call (Value.builtin "list.__getattribute__") _ _) _ _ _);show lO F.slot_list_getattribute (m _) am_entry_list_getattribute (F.args_list_getattribute_2 _ _) (meets_getattribute_miss_list a xs k sl name _ f b hsz) ⟨j,r,λh' p e i=>?_⟩) | wp_step))
 obtain⟨t',u,he⟩:=i.there;show wpAny _ _ (getattributeRaised _ _ _ _ _ _ _) _ _ _;unfold getattributeRaised;repeat(any_goals (first | assumption | wp_step))
 show h _ _ _ i.of
theorem WC:entryFor table "dict.update.loop"=some Builtin.«dict.update.loop»:=entryFor_of_tree (by kernel_rfl)
theorem WB:plainId "dict.update.loop"=true:=by decide +kernel
end PySem
namespace L2
open PySem PySem.Spec PyProof.Rows
noncomputable def zU:D->Option Key
 | .int i=>some (.inl i)
 | .str x=>some (.inr x)
 | _=>none
noncomputable def kg:Key->D
 | .inl i=>.int i
 | .inr x=>.str x
theorem zph{K:aj}(r:Rep K G v d)(h:zU d=some k):v=kV k:=by
 cases d<;>simp only[zU,gK,reduceCtorEq] at h<;>subst h<;>simp only[Rep] at r<;>subst r<;>rfl
noncomputable def look(kvs:List (Key×D))(k:Key):Option D:=(kvs.find? λkv=>decide (kv.1=k)).map (·.2)
section
variable{X:Cx}{e i':av}{te ti tv:TD}
def zwi(i:Nat)(ti:TD):TD:=λρ Q=>match gt ρ i with
 | .ov (.dc kvs)=>ti ρ λrk=>∃k d,zU rk.val=some k/\look kvs k=some d/\Q (.fz d)
 | _=>False
def Af(i:Nat):TX:=λD ρ=>match gt ρ i with
 | .ov o=>D.rt (.ov o)
 | _=>False
theorem Kk(i)(n:Nm X i x:=by walk_at"nm"):PX X (.Return (some (.Name x f)) pos) (Af i):=by
 show⟨_,Ey (l9 n),λρ σ u t G H D E k h g=>?_⟩;unfold Af at h;split at h
 .rename_i o m;obtain⟨own,o1,j⟩:=k.on;obtain⟨a,fp,s,r,p,d⟩:=j i _ m;show⟨_,s,g.rt _ H (.ov o) G k.e ⟨a,fp,rfl,r,p,λq b=>⟨(d q b).2.1,(d q b).1⟩⟩ h⟩
 show h.elim
end
section
variable{K:aj}
theorem bJ.length:∀{a b},bJ K G H a b->a.length=b.length
 | [],[],_=>rfl
 | q::a,ds::b,h=>by
  simp only[cC,bJ.length h.2]
 | [],_::_,h=>by simp only[bJ] at h
 | _::_,[],h=>by simp only[bJ] at h
theorem bJ.snoc:∀{a d},bJ K G H a d->H p=some (.lst zs)->ao K G zs ds->bJ K G H (a++[p]) (d++[ds])
 | [],[],_,c,b=>by show⟨⟨zs,c,b⟩,trivial⟩
 | q::a,e::d,h,c,b=>by
  show⟨h.1,bJ.snoc h.2 c b⟩
 | [],_::_,h,_,_=>by simp only[bJ] at h
 | _::_,[],h,_,_=>by simp only[bJ] at h
theorem bJ.get:∀{a b}{j:Nat}{ds},bJ K G H a b->b[j]?=some ds->∃q xs,a[j]?=some q/\H q=some (.lst xs)/\ao K G xs ds
 | [],[],j,ds,_,e=>by trivial
 | q::a,c::b,0,ds,h,e=>by
  simp only[bJ] at h;simp_all
 | q::a,c::b,j+1,ds,h,e=>by
  simp only[zP] at e ⊢;show bJ.get h.2 e
 | [],_::_,_,_,h,_=>by simp only[bJ] at h
 | _::_,[],_,_,h,_=>by simp only[bJ] at h
theorem bJ.set(c:ao K G ys d):∀{a b j},bJ K G H a b->a.Nodup->a[j]?=some q->bJ K G (upd H q (.lst ys)) a (b.set j d)
 | [],[],j,_,_,e=>by trivial
 | r::a,ds::b,0,h,nd,e=>by
  simp only[vt,gK] at e;subst e;show⟨⟨ys,dQ,c⟩,h.2.mono (aZ.refl _) λp f xs e=>?_⟩;rw[bA (λz:p=r=>(gu.mp nd).1 (z▸f))];show e
 | r::a,ds::b,j+1,h,nd,e=>by
  show⟨?_,bJ.set c h.2 (gu.mp nd).2 e⟩;obtain⟨⟨xs,i,g⟩,_⟩:=h;show⟨xs,?_,g⟩;rw[bA (λz:r=q=>(gu.mp nd).1 (z▸cJ e))];show i
 | [],_::_,_,h,_,_=>by simp only[bJ] at h
 | _::_,[],_,h,_,_=>by assumption
end
def Al(e:fG)(m:List (Option Nat))(g:eh)(tc:eE)(te:TD):TD:=λρ Q=>e ρ λds=>∃a:Nat->List (List D)->Prop,a 0 []/\
 (∀i d acc,ds[i]?=some d->a i acc->g d (iB m ρ) λc=>tc c λb=>if b=true then te c λr=>match r with
  | .ow f=>acc.length<sizeLine/\a (i+1) (acc++[f])
  | _=>False
  else a (i+1) acc)/\∀acc,a ds.length acc->Q (.ov (.ll acc))
section
variable{m:List (Option Nat)}{wi:fG}{g:eh}{tc:eE}
noncomputable def zu9(K):yP K (List D) where
 B:=λG H xs fp acc=>xs=fp.map V.ref/\bJ K G H fp acc
 sel:=λr k=>match r with
  | .ow e=>k e
  | _=>False
 res:=λacc=>.ov (.ll acc)
 nil:=λ_ _=>⟨rfl,by simp only[bJ]⟩
 len:=λh=>by rw[h.1,ax,h.2.length]
 here:=λh=>h.2.here
 mono:=λg j h=>⟨h.1,h.2.mono g λq a _=>j q a _⟩
 snoc:=λ{G H s H' v r k xs fp acc} x i c h=>by
  cases r with
  | ow e=>
   obtain⟨p,zs,rfl,o,n,m,l⟩:=i;show⟨e,s,[p],c,x,⟨by rw[h.1,bY];rfl,h.2.snoc m l⟩,mU _ _,λq a=>by rw[du.mp a];show⟨o,n⟩⟩
  | fz=>show c.elim
  | ov=>show c.elim
 fin:=λd b nd f=>⟨_,_,rfl,nd,⟨by rw[<-b.1];show d,b.2⟩,f⟩
theorem Vm(cs:kO X N' m scope)(t:l6 m g)
  (s:∀ρ σ f e G H Q P,bh X.K f e ρ σ G H->wi ρ Q->(∀J H' ds a,Ext G H a H'->Walk X.K J a ds->Q ds->P J H')->l σ H P)
  (r:∀s3 c ex ρ σ f e G H d v Q P,bh X.K f e ρ σ G H->Rep X.K G v d->g d ρ Q->(∀ρ' j a H',bh X.K f e ρ' j a H'->Ext G H a H'->Q ρ'->P j H')->o s3 c ex v σ H P)
  (q:∀s3 c ex ρ σ f e G H Q P,bh X.K f e ρ σ G H->tc ρ Q->(∀b H' a,Ext G H a H'->Q b->P b H')->n s3 c ex σ H P)
  (p:∀s3 c ex,nU X.K te (i s3 c ex)):nU X.K (Al wi m g tc te) (rK l m o n i):=λρ σ f e G H Q P E h k=>Vt (zu9 X.K) t s r q (λs3 c ex ρ' j x H1 a H' u w _=>p s3 c ex ρ' j x H1 a H' u w) E h k
theorem Vl(j:X.calm=true)(cs:kO X N' m scope)(h:l6 m g)(i:PId X tg iter wi)(c:∀s3 a ex,qO (jg X N' scope s3 a ex) tg g)(b:∀s3 a ex,yJ (jg X N' scope s3 a ex) ifs tc)
  (he:∀s3 a ex,PD (jg X N' scope s3 a ex) elt te) (f:∀x,foldedSetIterable iter X.env x=pure x:=by intro _;rfl):PD X (.ListComp elt [⟨tg,iter,ifs,0⟩] scope pos) (Al wi m g tc te):=by
 obtain⟨ww,e,d⟩:=i;show⟨_,Ub (g:=λs3 a ex=>(c s3 a ex).choose) (tc:=λs3 a ex=>(b s3 a ex).choose) (te:=λs3 a ex=>(he s3 a ex).choose) j cs e (λs3 a ex=>(c s3 a ex).choose_spec.1) (λs3 a ex=>(b s3 a ex).choose_spec.1) (λs3 a ex=>(he s3 a ex).choose_spec.1) f,
  Vm cs h d (λs3 a ex=>(c s3 a ex).choose_spec.2) (λs3 a ex=>(b s3 a ex).choose_spec.2) (λs3 a ex=>(he s3 a ex).choose_spec.2)⟩
theorem zpi(i)(y:X.calm=true)(cs:kO X N' m scope)(t:l6 m g)(u:PId X tg iter wi)(d:∀s3 a ex,qO (jg X N' scope s3 a ex) tg g)(c:∀s3 a ex,yJ (jg X N' scope s3 a ex) ifs tc)
  (he:∀s3 a ex,PD (jg X N' scope s3 a ex) elt te) (z:X.N.Nodup:=by assumption) (o:X.N[i]?=some x:=by rfl) (p:Loc X.env.scope x:=by first | show Or.inl rfl | show Or.inr rfl) (q:∀x,foldedSetIterable iter X.env x=pure x:=by intro _;rfl)
  (f:swapsWith (.ListComp elt [⟨tg,iter,ifs,0⟩] scope pos) (some (.Name x b)) e.line X.env=pure true:=by rfl)
  (w:X.fn x=true\/X.env.scope.names.lookup x=some .local:=by first | show .inl rfl | show .inr rfl | assumption) :
  PX X (.Assign [.Name x b] (.ListComp elt [⟨tg,iter,ifs,0⟩] scope pos) e) (rC i (Al wi m g tc te)):=by
 obtain⟨ww,n,l⟩:=u;show⟨_,Ua (g:=λs3 a ex=>(d s3 a ex).choose) (tc:=λs3 a ex=>(c s3 a ex).choose) (te:=λs3 a ex=>(he s3 a ex).choose) z o p y cs n (λs3 a ex=>(d s3 a ex).choose_spec.1) (λs3 a ex=>(c s3 a ex).choose_spec.1) (λs3 a ex=>(he s3 a ex).choose_spec.1) q f w,λρ σ C B G H D E k h A=>?_⟩;show Vm cs t l (λs3 a ex=>(d s3 a ex).choose_spec.2) (λs3 a ex=>(c s3 a ex).choose_spec.2) (λs3 a ex=>(he s3 a ex).choose_spec.2) ρ σ C B G H _ _ k h λv H' r F x j s=>A.nx _ _ F H' x.g (k.put x j) s
end
section
variable{X:Cx}{e i':av}{te ti:TD}
noncomputable def pairsOf:List D->Option (List (Key×D))
 | []=>some []
 | .tup [k,v]::r=>match zU k with
  | some key=>(pairsOf r).map ((key,v)::·)
  | none=>none
 | _=>none
def zvJ(j i:Nat)(ti:TD):TX:=λD ρ=>match gt ρ i with
 | .ow ds=>ti ρ λrk=>match rk.val with
  | .int k=>∃n d,-(2 ^ 63)<=k/\k<2 ^ 63/\jy ds.length k=some n/\ds[n]?=some d/\D.nx ((ρ.set i (.ow (ds.eraseIdx n))).set j (.fz d))
  | _=>False
 | _=>False
def Jd(b a:TD):TD:=λρ Q=>b ρ λc=>a ρ λrb=>match c,rb.val with
 | .ow ds,.int k=>-(2 ^ 63)<=k/\k<2 ^ 63/\ds.length*k.toNat<=sizeLine/\Q (.ow (et k.toNat ds).flatten)
 | _,_=>False
theorem ao.rep{K:aj}(h:ao K H a ds):∀k:Nat,ao K H (et k a).flatten (et k ds).flatten
 | 0=>ao.nil
 | k+1=>by
  show h.append (ao.rep h k)
theorem ztA(D:PD X a m)(C:PD X b j):PD X (.BinOp a .Mult b pos) (Jd m j):=by
 obtain⟨t1,A,y⟩:=D;obtain⟨M,z,x⟩:=C;show⟨_,Se zs7 A z,λρ σ r q G H Q P E h k=>?_⟩;show y ρ σ r q G H _ _ E h λv H1 N L i J B=>?_
 show x ρ σ r q L H1 _ _ (E.ext i) B λu S rb T t w c=>?_
 obtain⟨K,e,n,_⟩:=w.freeze t;split at c
 .rename_i ds kk F;obtain⟨p,xs,rfl,R,O,I,o⟩:=J;rw[F] at n;have d:=i.trans e;show⟨p,kk,xs,rfl,n,e.h _ _ I,c.1,c.2.1,by rw[o.length];show c.2.2.1,λl f=>?_⟩;show k _ _ (.ow _) K (d.trans (.own d.s f)) ⟨l,_,rfl,d.h.free f,d.s.free f,dQ,(o.mono e.g).rep kk.toNat⟩ c.2.2.2
 show c.elim
end
theorem zrE{K:aj}(k):Rep K G (kV k) (kg k):=by
 cases k<;>simp only[kg,Rep]<;>rfl
end L2
namespace HT
open PySem PyProof.Rows
noncomputable def Xm:List Int->List Int->Bool
 | [],[]=>false
 | [],_::_=>false
 | _::_,[]=>true
 | x::xs,y::ys=>if x=y then Xm xs ys else decide (y<x)
end HT
namespace L2
open PySem PySem.Spec PyProof.Rows
def Jz(prog:aG)(w:aF)(A:br)(op:CmpOp)(P:Nat->aa->Prop)(Hk:ay->Prop)(bt:Nat->Nat->Bool):Prop:=
 ∀i j b a z Q E,Hk z.heap->P i b->P j a->Q (.bool (bt i j)) z->wpAny (model prog w) A (richCompare op b a) Q E z
end L2
namespace HT
end HT
namespace L2
open PySem PySem.Spec PyProof.Rows
theorem R3{K:aj}(r:ao K G d [a,b,c]):∃x y z,d=[x,y,z]/\Rep K G x a/\Rep K G y b/\Rep K G z c:=by
 match d,r with
 | [x,y,z],r=>show⟨x,y,z,rfl,r.1,r.2.1,r.2.2.1⟩
 | [],r=>simp only[ao] at r
 | [_],r=>show r.2.elim
 | [_,_],r=>show r.2.2.elim
 | _::_::_::_::_,r=>show r.2.2.2.elim
end L2
namespace Ts
open PySem PyProof.Rows
noncomputable def Kj:Bool->Keyed->Array Keyed->Nat->Nat->Nat->StateT SortSt Sem (Option Nat):=sortPriv% PySem.Builtin.gallop
noncomputable def Vk:Array Keyed->Array Keyed->StateT SortSt Sem (Array Keyed):=sortPriv% PySem.Builtin.mergeLo
noncomputable def Vj:Array Keyed->Array Keyed->StateT SortSt Sem (Array Keyed):=sortPriv% PySem.Builtin.mergeHi
noncomputable def S9(a:Bool)(key:Keyed)(b:Array Keyed)(base i:Nat):StateT SortSt Sem (Option Bool):=do
 let x <-elem' b (base+i)
 if a then lt' x key else return (<-lt' key x).map (!·)
variable{M:Model}{A:br}{E:aa->ai->Prop}{s:ai}
structure Rk(M:Model)(A:br)(E:aa->ai->Prop)(s:ai)(κ:SortKind)(ok:Keyed->Prop)(rk:Keyed->Int):Prop where
 lt:∀x y (st:SortSt) (Q:Option Bool->SortSt->Prop),ok x->ok y->kindOf st=κ->Q (some (decide (rk x<rk y))) st->wpS M A E s (lt' x y) Q st
theorem gA{st:SortSt}(h)(q:Q a[i] st):wpS M A E s (elem' a i) Q st:=by
 rw[elem'_eq,mW h];show bo q
theorem zle(R:Rk M A E s κ ok rk){st:SortSt}(e:kindOf st=κ)(d:∀x∈b,ok x)(c:ok key)(h)
  (q:Q (some (if a=true then decide (rk b[base+i]<rk key) else !decide (rk key<rk b[base+i]))) st):wpS M A E s (S9 a key b base i) Q st:=by
 show aK (gA h ?_);cases a with
 | true=>show R.lt _ _ st _ (d _ (kQ h)) c e q
 | false=>show aK (R.lt _ _ st _ c (d _ (kQ h)) e (bo q))
def Cut(b:Nat->Bool)(n k:Nat):Prop:=k<=n/\∀i,i<n->(b i=true↔i<k)
theorem xX(R:Rk M A E s κ ok rk){st:SortSt}(B:kindOf st=κ)(z:∀x∈g,ok x)(y:ok key)(D:base+n<=g.size)(C:a<n)
  (w:Cut (λi=>if l=true then decide (rk (g.getD (base+i) (j9,j9))<rk key) else !decide (rk key<rk (g.getD (base+i) (j9,j9)))) n k) (q:Q (some k) st):wpS M A E s (Kj l key g base n a) Q st:=by
 have t:∀i,i<n->∀{v:Option Bool->SortSt->Prop},v (some (decide (i<k))) st->wpS M A E s (S9 l key g base i) v st:=λi o v h=>by
  show zle R B z y (by lia) ?_;have f:=w.2 i o;have e:g.getD (base+i) (j9,j9)=g[base+i]'(by lia):=by simp[zf,show base+i<g.size by lia]
  dsimp only at f;rw[e] at f;rw[show(if l=true then decide (rk (g[base+i]'(by lia))<rk key) else !decide (rk key<rk (g[base+i]'(by lia))))=decide (i<k) by rw[Px,f,gJ]];show h
 have F:=w.1;show aK (t a C ?_);by_cases h0:a<k
 .simp only[h0,iR,cO];show aK (iP (i5 (Q:=λc j=>j=st/\c.1=none/\a+c.2.1<k/\k<=a+min c.2.2 (n-a)) (λi c j=>j=st/\c.1=none/\a+c.2.1<k/\i+1<=c.2.2) ?_ ?_ ⟨rfl,rfl,by ext,by show 0+1<=1;show iq _⟩) ?_)
  .rintro i ⟨p,la,of⟩ j _ u ⟨rfl,b,d,f⟩;dsimp only at b d f ⊢;subst b;by_cases hd:of>=n-a
   .rw[if_pos hd];show bo ⟨rfl,rfl,d,by dsimp only;lia⟩
   rw[if_neg hd];show aK (t _ (by lia) ?_);by_cases hm:a+of<k
   .simp only[hm,iR,zo,dW,cM];show bo ⟨rfl,rfl,hm,by dsimp only;lia⟩
   simp only[hm,gc,HK,cO];show bo ⟨rfl,rfl,d,by dsimp only;ext⟩
  .rintro⟨p,la,of⟩ j ⟨rfl,b,d,f⟩;show⟨rfl,b,d,by lia⟩
  rintro⟨p,la,of⟩ j ⟨rfl,b,d,f⟩;dsimp only at b d f ⊢;subst b;show aK (iP (i5 (Q:=λc m=>m=j/\c.1=none/\c.2.2=k) (λi c m=>m=j/\c.1=none/\c.2.1<=k/\k<=c.2.2/\c.2.2<=n/\c.2.2-c.2.1+i<=n) ?_ ?_ ⟨rfl,rfl,by dsimp only;trivial,by ext,by dsimp only;lia,by dsimp only;ext⟩) ?_)
  .rintro i ⟨p,lo,o⟩ m _ u ⟨rfl,b,d,f,h3,r⟩;dsimp only at b d f h3 r ⊢;subst b;by_cases hd:lo>=o
   .rw[if_pos hd];show bo ⟨rfl,rfl,by dsimp only;lia⟩
   rw[if_neg hd];show aK (t _ (by lia) ?_);by_cases hm:lo+(o-lo)/2<k
   .simp only[hm,iR,cO];show bo ⟨rfl,rfl,by dsimp only;trivial,f,h3,by dsimp only;lia⟩
   simp only[hm,gc,dW,cM];show bo ⟨rfl,rfl,d,by dsimp only;simp_all,by dsimp only;lia,by dsimp only;ext⟩
  .rintro⟨p,lo,o⟩ m ⟨rfl,b,d,f,h3,r⟩;show⟨rfl,b,by lia⟩
  rintro⟨p,lo,o⟩ m ⟨rfl,b,d⟩;subst b d;show bo q
 simp only[h0,gc,dW,cM];show aK (iP (i5 (Q:=λc j=>j=st/\c.1=none/\k<=a-c.2.1/\c.2.1<=a/\a+1-min c.2.2 (a+1)<=k) (λi c j=>j=st/\c.1=none/\k<=a-c.2.1/\c.2.1<=a/\i+1<=c.2.2) ?_ ?_ ⟨rfl,rfl,by show k<=a-0;simp_all,cG _,by show 0+1<=1;show iq _⟩) ?_)
 .rintro i ⟨p,la,of⟩ j _ u ⟨rfl,b,d,f,h3⟩;dsimp only at b d f h3 ⊢;subst b;by_cases hd:of>=a+1
  .rw[if_pos hd];show bo ⟨rfl,rfl,d,f,by dsimp only;simp_all⟩
  rw[if_neg hd];show aK (t _ (by lia) ?_);by_cases hm:a-of<k
  .simp only[hm,iR,cO];show bo ⟨rfl,rfl,d,f,by dsimp only;ext⟩
  simp only[hm,gc,dW,cM];show bo ⟨rfl,rfl,by dsimp only;simp_all,by dsimp only;show vf ‹_›,by dsimp only;lia⟩
 .rintro⟨p,la,of⟩ j ⟨rfl,b,d,f,h3⟩;show⟨rfl,b,d,f,by lia⟩
 rintro⟨p,la,of⟩ j ⟨rfl,b,d,f,h3⟩;subst b;show aK (iP (i5 (Q:=λc m=>m=j/\c.1=none/\c.2.2=k) (λi c m=>m=j/\c.1=none/\c.2.1<=k/\k<=c.2.2/\c.2.2<=n/\c.2.2-c.2.1+i<=n) ?_ ?_ ⟨rfl,rfl,by ext,by ext,by dsimp only;lia,by dsimp only;ext⟩) ?_)
 .rintro i ⟨p,lo,o⟩ m _ u ⟨rfl,b,d,f,h3,r⟩;dsimp only at b d f h3 r ⊢;subst b;by_cases hd:lo>=o
  .rw[if_pos hd];show bo ⟨rfl,rfl,by dsimp only;lia⟩
  rw[if_neg hd];show aK (t _ (by lia) ?_);by_cases hm:lo+(o-lo)/2<k
  .simp only[hm,iR,cO];show bo ⟨rfl,rfl,by dsimp only;trivial,f,h3,by dsimp only;lia⟩
  simp only[hm,gc,dW,cM];show bo ⟨rfl,rfl,d,by dsimp only;simp_all,by dsimp only;lia,by dsimp only;ext⟩
 .rintro⟨p,lo,o⟩ m ⟨rfl,b,d,f,h3,r⟩;show⟨rfl,b,by lia⟩
 rintro⟨p,lo,o⟩ m ⟨rfl,b,d⟩;subst b d;show bo q
variable{α:Type}(rk:α->Int)
structure MI(a b out:List α)(ia ib:Nat):Prop where
 la:ia<=a.length
 lb:ib<=b.length
 pm:out.Perm (a.take ia++b.take ib)
 so:out.Pairwise λx y=>rk x<=rk y
 ga:∀x∈out,∀y∈a.drop ia,rk x<=rk y
 gb:∀x∈out,∀y∈b.drop ib,rk x<=rk y
variable{rk}
theorem MI.len(h:MI rk a b out d c):out.length=d+c:=by
 have:=h.pm.length_eq;rw[bL,eP,eP] at this;have:=h.la;have:=h.lb;simp_all
theorem Wm{l:List α}:l.drop i=(l.drop i).take k++l.drop (i+k):=by
 rw[<-List.drop_drop,pI]
theorem MI.sS(h:MI rk a b out d g)(sa:a.Pairwise λx y=>rk x<=rk y)(j:d+k<=a.length)(l:∀x∈(a.drop d).take k,∀y∈b.drop g,rk x<=rk y):MI rk a b (out++(a.drop d).take k) (d+k) g:=by
 have f:(a.drop d).Pairwise λx y=>rk x<=rk y:=sa.sublist (Ib _ _)
 rw[Wm (k:=k),vp] at f;have i:=h.ga;rw[Wm (k:=k)] at i;show⟨j,h.lb,?_,?_,λx c y e=>?_,λx c y e=>?_⟩
 .rw[List.take_add];have:=h.pm.append_right ((a.drop d).take k);show this.trans ?_;rw[gh,gh];show Iy _ xf
 .rw[vp];show⟨h.so,f.1,λx c y e=>i x c y (iy _ e)⟩
 .rcases cj.mp c with c | c
  .exact i x c y (eK _ e)
  show f.2.2 x c y e
 rcases cj.mp c with c | c
 .exact h.gb x c y e
 show l x c y e
theorem MI.swap(h:MI rk a b out d c):MI rk b a out c d:=⟨h.lb,h.la,h.pm.trans xf,h.so,h.gb,h.ga⟩
theorem MI.Cw(h:MI rk a b out d c)(e:b.Pairwise λx y=>rk x<=rk y)(f:c+k<=b.length)(g:∀x∈(b.drop c).take k,∀y∈a.drop d,rk x<=rk y):MI rk a b (out++(b.drop c).take k) d (c+k):=(h.swap.sS e f g).swap
theorem Vi{l:List α}(h):(l.drop i).take 1=[l[i]]:=by
 rw[tN h];rfl
theorem zlf{l:List α}(s:l.Pairwise λx y=>rk x<=rk y)(h):∀y∈l.drop i,rk l[i]<=rk y:=by
 intro y a;rw[tN h] at a;rcases bG.mp a with rfl | a
 .exact iz _
 have b:(l.drop i).Pairwise λx y=>rk x<=rk y:=s.sublist (Ib _ _)
 rw[tN h,Ii] at b;show b.1 y a
theorem MI.uk(h:MI rk a b out c d)(sa:a.Pairwise λx y=>rk x<=rk y)(i:b.Pairwise λx y=>rk x<=rk y)(g)(l:d<b.length)(f:rk a[c]<=rk b[d]):MI rk a b (out++[a[c]]) (c+1) d:=by
 have:=h.sS sa (k:=1) (by trivial) (λx e y j=>by
  rw[Vi g] at e;simp at e;subst e;show HD f (zlf i l y j))
 rwa [Vi g] at this
theorem MI.yb(h:MI rk a b out d c)(sa:a.Pairwise λx y=>rk x<=rk y)(f:b.Pairwise λx y=>rk x<=rk y)(i g)(e:rk b[c]<=rk a[d]):MI rk a b (out++[b[c]]) d (c+1):=(h.swap.uk f sa g i e).swap
theorem MI.Cr(h:MI rk a b out c d)(sa:a.Pairwise λx y=>rk x<=rk y)(l:b.Pairwise λx y=>rk x<=rk y)(e:∀x∈a.drop c,∀y∈b.drop d,rk x<=rk y) :
  (out++a.drop c++b.drop d).Perm (a++b)/\(out++a.drop c++b.drop d).Pairwise λx y=>rk x<=rk y:=by
 have j:=h.sS sa (k:=a.length-c) (by have:=h.la;simp_all) (λx i=>e x (tK i));have n:(a.drop c).take (a.length-c)=a.drop c:=rg (by simp);rw[n] at j
 have f:=j.Cw l (k:=b.length-d) (by have:=h.lb;simp_all) (λx i y g=>by
  rw[show c+(a.length-c)=a.length by have:=h.la;simp_all,PK] at g;cases g)
 have m:(b.drop d).take (b.length-d)=b.drop d:=rg (by simp);rw[m] at f;show⟨?_,f.so⟩;have:=f.pm;rwa [show c+(a.length-c)=a.length by have:=h.la;simp_all,show d+(b.length-d)=b.length by have:=h.lb;simp_all,gw,gw] at this
theorem MI.NR(h:MI rk a b out d c)(sa:a.Pairwise λx y=>rk x<=rk y)(f:b.Pairwise λx y=>rk x<=rk y)(e:∀x∈b.drop c,∀y∈a.drop d,rk x<=rk y) :
  (out++b.drop c++a.drop d).Perm (a++b)/\(out++b.drop c++a.drop d).Pairwise λx y=>rk x<=rk y:=by
 obtain⟨i,g⟩:=h.swap.Cr f sa e;show⟨i.trans xf,g⟩
abbrev jR(st:SortSt)(g:Nat):SortSt:=pq (kindOf st) (arrOf st) (pendingOf st) g (failedOf st)
variable{M:Model}{A:br}{E:aa->ai->Prop}{s:ai}
theorem xQ{st:SortSt}(q:Q () st):wpS M A E s (liftM (rule x):StateT SortSt Sem Unit) Q st:=wpS_lift (tj ⟨rfl,q⟩)
def bW(rk:Keyed->Int)(l:List Keyed):Prop:=l.Pairwise λx y=>rk x<=rk y
def kZ(rk:Keyed->Int)(a b r:Array Keyed):Prop:=r.toList.Perm (a.toList++b.toList)/\bW rk r.toList
structure Mw(rk:Keyed->Int)(a b out:Array Keyed)(ia ib:Nat):Prop where
 mi:MI rk a.toList b.toList out.toList ia ib
 la:ia+1<a.size
 lb:ib<b.size
section
variable{rk:Keyed->Int}{a b out:Array Keyed}{ia ib:Nat}
theorem EO(a:Array Keyed)(i):(a.extract i a.size).toList=a.toList.drop i:=by
 rw[DD];show rg (by simp)
theorem Ui(a:Array Keyed)(i k):(a.extract i (i+k)).toList=(a.toList.drop i).take k:=by
 simp[CS]
theorem Vh(a:Array Keyed):a.toList.drop a.size=[]:=by simp
theorem AV(h:MI rk a.toList b.toList out.toList ia ib)(sa:bW rk a.toList)(f:bW rk b.toList)(g:ia=a.size\/ib=b.size):kZ rk a b (out++a.extract ia a.size++b.extract ib b.size):=by
 obtain⟨j,i⟩:=h.Cr sa f (λx d y c=>by
  rcases g with e | e
  .rw[e,Vh] at d;cases d
  .rw[e,Vh] at c;cases c)
 unfold kZ bW;rw[mS,mS,EO,EO];show⟨j,i⟩
theorem Ft(h:MI rk a.toList b.toList out.toList ia ib)(sa:bW rk a.toList)(d:bW rk b.toList)(m:0<a.size)(l:ia+1=a.size)(i:∀x∈b,rk x<rk (a[a.size-1])):kZ rk a b (out++b.extract ib b.size++a.extract ia a.size):=by
 obtain⟨k,j⟩:=h.NR sa d (λx f y c=>by
  have e:a.toList.drop ia=[a[a.size-1]]:=by
   have g:ia<a.toList.length:=by simp;lia
   rw[tN g,QL (by simp;simp_all)];simp[show ia=a.size-1 by lia]
  rw[e] at c;simp at c;have:=i x (by simpa using w8 f);rw[c];show pA ‹_›)
 unfold kZ bW;rw[mS,mS,EO,EO];show⟨k,j⟩
end
theorem tZ(p):∀n,(∀i j,i<=j->j<n->p j=true->p i=true)->∃k,Cut p n k
 | 0,_=>⟨0,bx _,λi a=>absurd a (tD i)⟩
 | n+1,h=>by
  obtain⟨k,f,c⟩:=tZ p n λi j d g=>h i j d (by lia)
  cases b:p n with
  | true=>
   show⟨n+1,bx _,λi a=>⟨λ_=>a,λ_=>?_⟩⟩;show h i n (by lia) (by show bx _) b
  | false=>
   show⟨k,by lia,λi a=>?_⟩;by_cases e:i=n
   .subst e;rw[b];show⟨λz=>(by cases z),λz=>by lia⟩
   show c i (by lia)
noncomputable abbrev dk:Keyed:=(j9,j9)
theorem hJ{a:Array Keyed}(h):a.getD i dk=a[i]:=by simp[zf,h]
theorem t8{rk:Keyed->Int}{a:Array Keyed}(sa:bW rk a.toList)(h:i<=j)(b:j<a.size):rk (a.getD i dk)<=rk (a.getD j dk):=by
 rw[hJ b,hJ (by show pH ‹_› ‹_›)];by_cases e:i=j
 .subst e;show iz _
 have:=xi.mp sa i j (by simp;show pH ‹_› ‹_›) (by simpa using b) (by lia);trivial
theorem Uh{a:Array Keyed}(h:i+k<=a.size)(b:x∈(a.toList.drop i).take k):∃t,t<k/\x=a.getD (i+t) dk:=by
 obtain⟨t,c,e⟩:=mR b;have d:t<k:=by simp at c;ext
 show⟨t,d,?_⟩;rw[hJ (by lia),<-e];simp
theorem Ug{a:Array Keyed}(c:x∈a.toList.drop i):∃t,i+t<a.size/\x=a.getD (i+t) dk:=by
 obtain⟨t,d,e⟩:=mR c;have b:i+t<a.size:=by simp at d;ext
 show⟨t,b,?_⟩;rw[hJ b,<-e];simp
theorem ZJ{rk:Keyed->Int}{a:Array Keyed}(sa:bW rk a.toList)(b key):∃k,Cut (λi=>if false=true then decide (rk (a.getD (b+i) dk)<rk key) else !decide (rk key<rk (a.getD (b+i) dk))) (a.size-b) k:=
 tZ _ _ λi j d c h=>by
  have:=t8 (rk:=rk) sa (show b+i<=b+j by simp_all) (by ext);simp only[dW,cM,oq,kS] at h ⊢;ext
theorem Z2{rk:Keyed->Int}{b:Array Keyed}(c:bW rk b.toList)(a key):∃k,Cut (λi=>if true=true then decide (rk (b.getD (a+i) dk)<rk key) else !decide (rk key<rk (b.getD (a+i) dk))) (b.size-a) k:=
 tZ _ _ λi j e d h=>by
  have:=t8 (rk:=rk) c (show a+i<=a+j by simp_all) (by ext);simp only[cO,gJ] at h ⊢;ext
theorem MI.Nx{rk:Keyed->Int}{a b out:Array Keyed}(h:MI rk a.toList b.toList out.toList c d)(sa:bW rk a.toList)(g:bW rk b.toList)(la:c<a.size)(lb)(e:Cut (λi=>if false=true then decide (rk (a.getD (c+i) dk)<rk b[d]) else !decide (rk b[d]<rk (a.getD (c+i) dk))) (a.size-c) k) :
  MI rk a.toList b.toList (out++a.extract c (c+k)).toList (c+k) d/\c+k<=a.size/\(c+k<a.size->rk b[d]<rk (a.getD (c+k) dk)):=by
 have q:=e.1;show⟨?_,by lia,λp=>?_⟩
 .rw[mS,Ui];show h.sS sa (by simp;lia) λx l y j=>?_
  obtain⟨t,n,rfl⟩:=Uh (by lia) l;obtain⟨u,m,rfl⟩:=Ug j;have f:=(e.2 t (by show bU ‹_› ‹_›)).mpr n;have o:=t8 (rk:=rk) g (show d<=d+u by simp_all) m;rw[hJ lb] at o;simp only[dW,cM,oq,kS] at f;ext
 have f:=mt (e.2 k (by lia)).mp (iM k);simpa using f
theorem MI.Nw{rk:Keyed->Int}{a b out:Array Keyed}(h:MI rk a.toList b.toList out.toList d c)(sa:bW rk a.toList)(g:bW rk b.toList)(la)(lb:c<=b.size)(e:Cut (λi=>if true=true then decide (rk (b.getD (c+i) dk)<rk a[d]) else !decide (rk a[d]<rk (b.getD (c+i) dk))) (b.size-c) k) :
  MI rk a.toList b.toList (out++b.extract c (c+k)).toList d (c+k)/\c+k<=b.size/\(c+k<b.size->rk a[d]<=rk (b.getD (c+k) dk)):=by
 have q:=e.1;show⟨?_,by lia,λp=>?_⟩
 .rw[mS,Ui];show h.Cw g (by simp;lia) λx l y j=>?_
  obtain⟨t,n,rfl⟩:=Uh (by lia) l;obtain⟨u,m,rfl⟩:=Ug j;have f:=(e.2 t (by show bU ‹_› ‹_›)).mpr n;have o:=t8 (rk:=rk) sa (show d<=d+u by simp_all) m;rw[hJ la] at o;simp only[cO,gJ] at f;ext
 have f:=mt (e.2 k (by lia)).mp (iM k);simpa using f
theorem UA{a:Type}{f:Nat->StateT SortSt Sem a}{c:Prop}{_:Decidable c}{x y:Nat}{Q:a->SortSt->Prop}{st:SortSt}(h:∀n,wpS M A E s (f n) Q st):wpS M A E s (if c then f x else f y) Q st:=by split<;>show h _
theorem Uz{b:Type}{f:Array Keyed->Nat->StateT SortSt Sem b}{c a:Prop}{_:Decidable c}{_:Decidable a}{d:StateT SortSt Sem b}{o1 o0:Array Keyed}{i1 i0:Nat}{Q:b->SortSt->Prop}{st:SortSt}(P:Array Keyed->Nat->Prop)(h:∀o i,P o i->wpS M A E s (f o i) Q st)(j:c->a->wpS M A E s d Q st)
  (h3:c->¬a->P o1 i1) (g:¬c->P o0 i0):wpS M A E s (if c then(if a then d else f o1 i1) else f o0 i0) Q st:=by
 split
 .rename_i e;split
  .rename_i h;show j e h
  rename_i z;show h _ _ (h3 e z)
 rename_i z;show h _ _ (g z)
theorem Uy{d:Type}{f:Array Keyed->Nat->StateT SortSt Sem d}{c a b:Prop}{_:Decidable c}{_:Decidable a}{_:Decidable b}{j g:StateT SortSt Sem d}{o1 o0:Array Keyed}{i1 i0:Nat}{Q:d->SortSt->Prop}{st:SortSt}(P:Array Keyed->Nat->Prop)(h:∀o i,P o i->wpS M A E s (f o i) Q st)
  (m:c->a->wpS M A E s j Q st) (l:c->¬a->b->wpS M A E s g Q st) (h3:c->¬a->¬b->P o1 i1) (k:¬c->P o0 i0):wpS M A E s (if c then(if a then j else if b then g else f o1 i1) else f o0 i0) Q st:=by
 split
 .rename_i e;split
  .rename_i h;show m e h
  rename_i z;split
  .rename_i y;show l e z y
  rename_i y;show h _ _ (h3 e z y)
 rename_i z;show h _ _ (k z)
theorem zi0{κ:SortKind}{ok:Keyed->Prop}{rk:Keyed->Int}(R:Rk M A E s κ ok rk){a b:Array Keyed}{Q:Array Keyed->SortSt->Prop}{st:SortSt}(S:kindOf st=κ)(L:∀x∈a,ok x)(ob:∀x∈b,ok x)(sa:bW rk a.toList)(m:bW rk b.toList)(D:0<a.size)(Y:0<b.size)
  (h0:rk b[0]<rk a[0]) (J:∀x∈b,rk x<rk (a[a.size-1])) (q:∀(r:Array Keyed) g,r.toList.Perm (a.toList++b.toList)->bW rk r.toList->Q r (jR st g)):wpS M A E s (Vk a b) Q st:=by
 show aK (xQ ?_);show aK (gA Y ?_);have di:st=jR st (gallopOf st):=rfl;have m0:MI rk a.toList b.toList (#[b[0]]:Array Keyed).toList 0 1:=by
  have n0:MI rk a.toList b.toList [] 0 0:=⟨cG _,cG _,by rfl,.nil,λx P=>(by cases P),λx P=>(by cases P)⟩
  have:=n0.yb sa m (by simpa using D) (by simpa using Y) (by simp only[j6];show pA ‹_›);trivial
 by_cases t:1=b.size
 .rw[if_pos (by show if_pos ‹_›)];show bo ?_;obtain⟨g1,g2⟩:=AV m0 sa m (.inr t);show q _ _ g1 g2
 rw[if_neg (by simpa using t)];by_cases c2:0+1=a.size
 .rw[if_pos (by show if_pos ‹_›)];show bo ?_;obtain⟨g1,g2⟩:=Ft m0 sa m D c2 J;show q _ _ g1 g2
 rw[if_neg (by simpa using c2)];show aK (n8 ?_);show aK (iP (i5 (Q:=λ(c:Option (Array Keyed)×Array Keyed×Nat×Nat×Nat) l=>∃g r,l=jR st g/\c.1=some r/\kZ rk a b r) (λi (c:Option (Array Keyed)×Array Keyed×Nat×Nat×Nat) l=>(∃g,l=jR st g)/\c.1=none/\Mw rk a b c.2.1 c.2.2.1 c.2.2.2.1/\i<c.2.1.size) ?_ ?_ ⟨⟨_,di⟩,rfl,⟨m0,by dsimp only;lia,by dsimp only;lia⟩,by show iq _⟩) ?_)
 .rintro i ⟨t,out,h,d,mg⟩ l _ gU ⟨⟨g,rfl⟩,n,f,hsz⟩;subst n;show aK (iP (i5 (Q:=λ(c:Option (Array Keyed)×Array Keyed×Nat×Nat×Nat×Nat) l=>(l=jR st g)/\((∃r,c.1=some r/\kZ rk a b r)\/(c.1=none/\Mw rk a b c.2.1 c.2.2.1 c.2.2.2.1/\i+1<c.2.1.size)))
   (λj (c:Option (Array Keyed)×Array Keyed×Nat×Nat×Nat×Nat) l=>(l=jR st g)/\c.1=none/\Mw rk a b c.2.1 c.2.2.1 c.2.2.2.1/\i+j<c.2.1.size) ?_ ?_ ⟨rfl,rfl,f,by ext⟩) ?_)
  .rintro j ⟨t,out,h,d,ac,F⟩ l _ M9 ⟨rfl,n,f,hsz⟩;dsimp only at n f hsz ⊢;subst n;have la:=f.la;have lb:=f.lb;have Xq:h<a.toList.length:=by simp;show cP ‹_›
   have Xo:d<b.toList.length:=by simpa using lb
   show aK (gA lb (aK (gA (show h<a.size by ext) (aK (R.lt _ _ _ _ (ob _ (kQ _)) (L _ (kQ _)) S ?_)))));by_cases bz:rk b[d]<rk (a[h]'(by ext))
   .simp only[bz,iR,cO];have p:=f.mi.yb sa m Xq Xo (by simp only[j6];show pA ‹_›);rw[j6,<-qW] at p;show aK (gA lb ?_);by_cases v:d+1=b.size
    .rw[if_pos (by show if_pos ‹_›)];show bo ⟨rfl,.inl ⟨_,rfl,AV p sa m (.inr v)⟩⟩
    rw[if_neg (by simpa using v)];split
    .exact bo ⟨rfl,.inr ⟨rfl,⟨p,la,by dsimp only;lia⟩,by simp;lia⟩⟩
    show bo ⟨rfl,rfl,⟨p,la,by dsimp only;lia⟩,by simp;lia⟩
   simp only[bz,gc,dW,cM];have H:=f.mi.uk sa m Xq Xo (by simp only[j6];lia);rw[j6,<-qW] at H;show aK (gA (show h<a.size by ext) ?_);by_cases v:h+1+1=a.size
   .rw[if_pos (by show if_pos ‹_›)];show bo ⟨rfl,.inl ⟨_,rfl,Ft H sa m D v J⟩⟩
   rw[if_neg (by simpa using v)];split
   .exact bo ⟨rfl,.inr ⟨rfl,⟨H,by dsimp only;lia,lb⟩,by simp;lia⟩⟩
   show bo ⟨rfl,rfl,⟨H,by dsimp only;lia,lb⟩,by simp;lia⟩
  .rintro⟨t,out,h,d,ac,F⟩ l ⟨rfl,n,f,hsz⟩;show⟨rfl,.inr ⟨n,f,by lia⟩⟩
  rintro⟨t,out,h,d,ac,F⟩ l ⟨rfl,T⟩;rcases T with⟨r,rfl,U⟩ | ⟨rfl,f,hsz⟩
  .exact bo ⟨g,r,rfl,rfl,U⟩
  show aK (xQ ?_);show aK (iP (i5 (Q:=λ(c:Option (Array Keyed)×Array Keyed×Nat×Nat×Nat×Nat×Nat) l=>(∃g,l=jR st g)/\((∃r,c.1=some r/\kZ rk a b r)\/(c.1=none/\Mw rk a b c.2.1 c.2.2.1 c.2.2.2.1/\i+1<c.2.1.size)))
   (λj (c:Option (Array Keyed)×Array Keyed×Nat×Nat×Nat×Nat×Nat) l=>(∃g,l=jR st g)/\c.1=none/\Mw rk a b c.2.1 c.2.2.1 c.2.2.2.1/\i+1<c.2.1.size) ?_ ?_ ⟨⟨_,rfl⟩,rfl,f,hsz⟩) ?_)
  .rintro j ⟨t,out,h,d,mg,ac,F⟩ l _ M9 ⟨⟨g,rfl⟩,n,f,hsz⟩;dsimp only at n f hsz ⊢;subst n;have la:=f.la;have lb:=f.lb;have ol:=f.mi.len;rw[cU] at ol;generalize mg-1=MA;apply UA (x:=MA) (y:=mg);intro mg2;show aK (mX (aK (gA lb ?_)));obtain⟨k,ck⟩:=ZJ sa h b[d];show aK (xX R S L (ob _ (kQ _)) (by lia) (by lia) ck ?_);dsimp only;obtain⟨B,m2,I⟩:=f.mi.Nx sa m (by show cP ‹_›) lb ck;have W:¬k>0->h+k=h:=λz=>by lia
   generalize out++a.extract h (h+k)=o1 at B ⊢;have lo1:h<=h+k:=qV _ _;generalize h+k=i1 at B m2 I W lo1 ⊢;apply Uy (o1:=o1) (i1:=i1) (o0:=out) (i0:=h) (λo i=>MI rk a.toList b.toList o.toList i d/\i+1<a.size/\h<=i/\rk b[d]<rk (a.getD i dk));rotate_left
   .exact λ_ e=>bo ⟨⟨_,rfl⟩,.inl ⟨_,rfl,Ft B sa m D (by simpa using e) J⟩⟩
   .exact λ_ _ e=>bo ⟨⟨_,rfl⟩,.inl ⟨_,rfl,AV B sa m (.inl (by simpa using e))⟩⟩
   .intro _ v e2;have v:¬i1+1=a.size:=by simpa using v
    have e2:¬i1=a.size:=by simpa using e2
    show⟨B,by lia,lo1,I (by lia)⟩
   .intro z;have:=W z;rw[this] at I;show⟨f.mi,la,bx _,I (by show cP ‹_›)⟩
   rintro o u ⟨mo,li,lo,lr⟩;rw[hJ (by show cP ‹_›)] at lr;have p:=mo.yb sa m (show u<a.toList.length by simp;show cP ‹_›) (show d<b.toList.length by simpa using lb) (by simp only[j6];show pA ‹_›);rw[j6,<-qW] at p;show aK (gA lb ?_);by_cases e3:d+1=b.size
   .rw[if_pos (by show if_pos ‹_›)];show bo ⟨⟨_,rfl⟩,.inl ⟨_,rfl,AV p sa m (.inr e3)⟩⟩
   rw[if_neg (by simpa using e3)];show aK (gA (show u<a.size by show cP ‹_›) ?_);obtain⟨C,YN⟩:=Z2 m (d+1) (a[u]'(by show cP ‹_›));show aK (xX R S ob (L _ (kQ _)) (by lia) (by lia) YN ?_);dsimp only;obtain⟨G,n2,w⟩:=p.Nw sa m (by show cP ‹_›) (by trivial) YN;have V:¬C>0->d+1+C=d+1:=λz=>by lia
   generalize o.push b[d]++b.extract (d+1) (d+1+C)=o2 at G ⊢;generalize o.push b[d]=o3 at p ⊢;have Xl:d+1<=d+1+C:=qV _ _;generalize d+1+C=X at G n2 w V Xl ⊢;have Xk:d<d+1:=Dj _;have N:d+1<b.size:=by lia
   generalize d+1=j0 at p w V Xl Xk N ⊢;apply Uz (o1:=o2) (i1:=X) (o0:=o3) (i0:=j0) (λo j=>MI rk a.toList b.toList o.toList u j/\j<b.size/\d<j/\rk (a[u]'(by show cP ‹_›))<=rk (b.getD j dk));rotate_left
   .exact λ_ e=>bo ⟨⟨_,rfl⟩,.inl ⟨_,rfl,AV G sa m (.inr (by simpa using e))⟩⟩
   .intro _ e;have e:¬X=b.size:=by simpa using e
    show⟨G,by lia,by show bU ‹_› ‹_›,w (by lia)⟩
   .intro z;have:=V z;rw[this] at w;show⟨p,N,Xk,w N⟩
   rintro o O ⟨Mz,K,lo4,MC⟩;rw[hJ K] at MC;have nn:=Mz.uk sa m (show u<a.toList.length by simp;show cP ‹_›) (show O<b.toList.length by simpa using K) (by trivial);rw[j6,<-qW] at nn;show aK (gA (show u<a.size by show cP ‹_›) ?_);by_cases Z:u+1+1=a.size
   .rw[if_pos (by show if_pos ‹_›)];show bo ⟨⟨_,rfl⟩,.inl ⟨_,rfl,Ft nn sa m D Z J⟩⟩
   rw[if_neg (by simpa using Z)];have nl:=nn.len;rw[cU] at nl;split
   .exact bo ⟨⟨_,rfl⟩,.inr ⟨rfl,⟨nn,by dsimp only;lia,K⟩,by dsimp only;lia⟩⟩
   show bo ⟨⟨_,rfl⟩,rfl,⟨nn,by dsimp only;lia,K⟩,by dsimp only;lia⟩
  .rintro⟨t,out,h,d,mg,ac,F⟩ l ⟨⟨g,rfl⟩,n,f,hsz⟩;show⟨⟨g,rfl⟩,.inr ⟨n,f,hsz⟩⟩
  rintro⟨t,out,h,d,mg,ac,F⟩ l ⟨⟨g,rfl⟩,T⟩;rcases T with⟨r,rfl,U⟩ | ⟨rfl,f,hsz⟩
  .exact bo ⟨g,r,rfl,rfl,U⟩
  show aK (mX (bo ⟨⟨_,rfl⟩,rfl,f,hsz⟩))
 .rintro⟨t,out,h,d,mg⟩ l ⟨⟨g,rfl⟩,n,f,hsz⟩;exfalso
  have h1:=f.mi.len;have h2:=f.la;have h3:=f.lb;rw[cU] at h1;lia
 rintro⟨t,out,h,d,mg⟩ l ⟨g,r,rfl,rfl,g1,g2⟩;show bo (q r g g1 g2)
section
variable{α:Type}(rk:α->Int)
structure MH(a b out:List α)(na nb:Nat):Prop where
 la:na<=a.length
 lb:nb<=b.length
 pm:out.reverse.Perm (a.drop na++b.drop nb)
 so:out.reverse.Pairwise λx y=>rk x<=rk y
 ga:∀y∈a.take na,∀x∈out,rk y<=rk x
 gb:∀y∈b.take nb,∀x∈out,rk y<=rk x
variable{rk}
theorem MH.len(h:MH rk a b out d c):out.length+d+c=a.length+b.length:=by
 have:=h.pm.length_eq;rw[bL,oo,oo,Qo] at this;have:=h.la;have:=h.lb;lia
theorem MH.swap(h:MH rk a b out d c):MH rk b a out c d:=⟨h.lb,h.la,h.pm.trans xf,h.so,h.gb,h.ga⟩
theorem Wl{l:List α}(a:t<=n):l.take n=l.take t++(l.take n).drop t:=by
 have:=(pI t (l.take n)).symm;rwa [List.take_take,pC a] at this
theorem MH.sS(h:MH rk a b out c i)(sa:a.Pairwise λx y=>rk x<=rk y)(j:t<=c)(l:∀x∈(a.take c).drop t,∀y∈b.take i,rk y<=rk x):MH rk a b (out++((a.take c).drop t).reverse) t i:=by
 have m:=h.la;have g:(a.take c).Pairwise λx y=>rk x<=rk y:=sa.sublist (Ic _ _)
 rw[Wl j,vp] at g;have ga:=h.ga;rw[Wl j] at ga;have k:(out++((a.take c).drop t).reverse).reverse=(a.take c).drop t++out.reverse:=by rw[List.reverse_append,List.reverse_reverse]
 show⟨by show bU ‹_› ‹_›,h.lb,?_,?_,λy f x d=>?_,λy f x d=>?_⟩
 .rw[k];show(h.pm.append_left _).trans ?_;rw[<-gh];show Zn _ ?_;have:a.drop t=(a.take c).drop t++a.drop c:=by
   have e:a=a.take c++a.drop c:=(pI c a).symm;rw[show a.drop t=(a.take c++a.drop c).drop t by rw[<-e],DN (by simp;lia)]
  rw[this]
 .rw[k,vp];show⟨g.2.1,h.so,λx d y f=>ga x (eK _ d) y (Di.mp f)⟩
 .rcases cj.mp d with d | d
  .exact ga y (iy _ f) x d
  show g.2.2 y f x (Di.mp d)
 rcases cj.mp d with d | d
 .exact h.gb y f x d
 show l x (Di.mp d) y f
theorem MH.Cw(h:MH rk a b out d c)(e:b.Pairwise λx y=>rk x<=rk y)(f:t<=c)(g:∀x∈(b.take c).drop t,∀y∈a.take d,rk y<=rk x):MH rk a b (out++((b.take c).drop t).reverse) d t:=(h.swap.sS e f g).swap
theorem VU{l:List α}(h):(l.take (n+1)).drop n=[l[n]]:=by
 rw[gf,aX h,DN (by simp;lia),QL (by rw[eP];lia)];rfl
theorem zlg{l:List α}(s:l.Pairwise λx y=>rk x<=rk y)(h):∀y∈l.take (n+1),rk y<=rk l[n]:=by
 intro y a;obtain⟨i,b,rfl⟩:=mR a;have c:i<=n:=by simp at b;lia
 rw[Dr];by_cases e:i=n
 .subst e;show iz _
 show xi.mp s i n (by show pH ‹_› ‹_›) h (by lia)
theorem MH.uk(h:MH rk a b out (c+1) (d+1))(sa:a.Pairwise λx y=>rk x<=rk y)(i:b.Pairwise λx y=>rk x<=rk y)(g k)(f:rk b[d]<=rk a[c]):MH rk a b (out++[a[c]]) c (d+1):=by
 have:=h.sS sa (t:=c) (by show lP _) (λx e y j=>by
  rw[VU g] at e;simp at e;subst e;show HD (zlg i k y j) f)
 rwa [VU g] at this
theorem MH.yb(h:MH rk a b out (d+1) (c+1))(sa:a.Pairwise λx y=>rk x<=rk y)(f:b.Pairwise λx y=>rk x<=rk y)(i)(g:c<b.length)(e:rk a[d]<=rk b[c]):MH rk a b (out++[b[c]]) (d+1) c:=(h.swap.uk f sa g i e).swap
theorem MH.Cr(h:MH rk a b out d c)(sa:a.Pairwise λx y=>rk x<=rk y)(j:b.Pairwise λx y=>rk x<=rk y)(g:∀x∈a.take d,∀y∈b.take c,rk x<=rk y) :
  (a.take d++b.take c++out.reverse).Perm (a++b)/\(a.take d++b.take c++out.reverse).Pairwise λx y=>rk x<=rk y:=by
 have l:=h.Cw j (t:=0) (cG _) (λx k y f=>g y f x (by trivial));have i:=l.sS sa (t:=0) (cG _) (λx k y f=>by simp at f);have e:(out++((b.take c).drop 0).reverse++((a.take d).drop 0).reverse).reverse=a.take d++b.take c++out.reverse:=by simp
 have p:=i.pm;have s:=i.so;rw[e] at p s;show⟨by trivial,s⟩
theorem MH.NR(h:MH rk a b out d c)(sa:a.Pairwise λx y=>rk x<=rk y)(f:b.Pairwise λx y=>rk x<=rk y)(e:∀x∈b.take c,∀y∈a.take d,rk x<=rk y) :
  (b.take c++a.take d++out.reverse).Perm (a++b)/\(b.take c++a.take d++out.reverse).Pairwise λx y=>rk x<=rk y:=by
 obtain⟨i,g⟩:=h.swap.Cr f sa e;show⟨i.trans xf,g⟩
end
theorem EG(a:Array Keyed)(n):(a.extract 0 n).toList=a.toList.take n:=by
 simp[CS]
theorem VG(a:Array Keyed)(h:n<=a.size):(a.extract t n).toList=(a.toList.take n).drop t:=by
 rw[DD];rw[Pn]
structure Mv(rk:Keyed->Int)(a b out:Array Keyed)(na nb:Nat):Prop where
 mh:MH rk a.toList b.toList out.toList na nb
 la:0<na
 lb:1<nb
section
variable{rk:Keyed->Int}{a b out:Array Keyed}
theorem AU(h:MH rk a.toList b.toList out.toList na nb)(sa:bW rk a.toList)(f:bW rk b.toList)(g:na=0\/nb=0):kZ rk a b (a.extract 0 na++b.extract 0 nb++out.reverse):=by
 obtain⟨j,i⟩:=h.Cr sa f (λx d y c=>by
  rcases g with e | e
  .rw[e] at d;simp at d
  .rw[e] at c;simp at c)
 unfold kZ bW;rw[mS,mS,EG,EG,DC];show⟨j,i⟩
theorem Fl(h:MH rk a.toList b.toList out.toList na nb)(sa:bW rk a.toList)(d:bW rk b.toList)(j)(i:nb=1)(m:∀x∈a,rk b[0]<rk x):kZ rk a b (b.extract 0 nb++a.extract 0 na++out.reverse):=by
 obtain⟨l,k⟩:=h.NR sa d (λx c y f=>by
  have e:b.toList.take nb=[b[0]]:=by
   have g:0<b.toList.length:=by simpa using j
   rw[i,gf,aX g];simp
  rw[e] at c;simp at c;subst c;have:=m y (by simpa using tK f);show pA ‹_›)
 unfold kZ bW;rw[mS,mS,EG,EG,DC];show⟨l,k⟩
theorem KA(f:n<=a.size)(b:x∈(a.toList.take n).drop t):∃u,t<=u/\u<n/\x=a.getD u dk:=by
 obtain⟨u,c,e⟩:=mR b;have d:t+u<n:=by simp at c;lia
 show⟨t+u,by simp_all,d,?_⟩;rw[hJ (by show bU ‹_› ‹_›),<-e];simp
theorem S8(b:n<=a.size)(e:x∈a.toList.take n):∃u,u<n/\x=a.getD u dk:=by
 obtain⟨u,_,d,c⟩:=KA (a:=a) (t:=0) b (x:=x) (by trivial);show⟨u,d,c⟩
theorem MH.Nx(h:MH rk a.toList b.toList out.toList na (c+1))(sa:bW rk a.toList)(j:bW rk b.toList)(lb)(d:Cut (λi=>if false=true then decide (rk (a.getD (0+i) dk)<rk b[c]) else !decide (rk b[c]<rk (a.getD (0+i) dk))) na t) :
  MH rk a.toList b.toList (out++(a.extract t na).reverse).toList t (c+1)/\t<=na/\∀u,u+1=t->rk (a.getD u dk)<=rk b[c]:=by
 have f:=h.la;show⟨?_,d.1,λu o=>?_⟩
 .rw[mS,DC,VG a f];show h.sS sa d.1 λx l y k=>?_
  obtain⟨u,n,g,rfl⟩:=KA f l;obtain⟨v,v1,rfl⟩:=S8 (by trivial) k;have e:=mt (d.2 u g).mp (by simp_all);have m:=t8 (rk:=rk) j (show v<=c by lia) lb;rw[hJ lb] at m;simp only[dW,cM,oq,kS,eO] at e;ext
 have:=d.1;have e:=(d.2 u (by lia)).mpr (by lia);simpa using e
theorem MH.Nw(h:MH rk a.toList b.toList out.toList (c+1) nb)(sa:bW rk a.toList)(j:bW rk b.toList)(la)(d:Cut (λi=>if true=true then decide (rk (b.getD (0+i) dk)<rk a[c]) else !decide (rk a[c]<rk (b.getD (0+i) dk))) nb t) :
  MH rk a.toList b.toList (out++(b.extract t nb).reverse).toList (c+1) t/\t<=nb/\∀u,u+1=t->rk (b.getD u dk)<rk a[c]:=by
 have f:=h.lb;show⟨?_,d.1,λu o=>?_⟩
 .rw[mS,DC,VG b f];show h.Cw j d.1 λx l y k=>?_
  obtain⟨u,n,g,rfl⟩:=KA f l;obtain⟨v,v1,rfl⟩:=S8 (by trivial) k;have e:=mt (d.2 u g).mp (by simp_all);have m:=t8 (rk:=rk) sa (show v<=c by lia) la;rw[hJ la] at m;simp only[cO,gJ,eO] at e;ext
 have:=d.1;have e:=(d.2 u (by lia)).mpr (by lia);simpa using e
end
theorem Z1{rk:Keyed->Int}{a:Array Keyed}(sa:bW rk a.toList)(b:n<=a.size)(key):∃k,Cut (λi=>if false=true then decide (rk (a.getD (0+i) dk)<rk key) else !decide (rk key<rk (a.getD (0+i) dk))) n k:=
 tZ _ _ λi j d c h=>by
  have:=t8 (rk:=rk) sa (show 0+i<=0+j by simp_all) (by lia);simp only[dW,cM,oq,kS] at h ⊢;ext
theorem Z0{rk:Keyed->Int}{b:Array Keyed}(a:bW rk b.toList)(c:n<=b.size)(key):∃k,Cut (λi=>if true=true then decide (rk (b.getD (0+i) dk)<rk key) else !decide (rk key<rk (b.getD (0+i) dk))) n k:=
 tZ _ _ λi j e d h=>by
  have:=t8 (rk:=rk) a (show 0+i<=0+j by simp_all) (by lia);simp only[cO,gJ] at h ⊢;ext
variable{M:Model}{A:br}{E:aa->ai->Prop}{s:ai}
theorem zi1{κ:SortKind}{ok:Keyed->Prop}{rk:Keyed->Int}(R:Rk M A E s κ ok rk){a b:Array Keyed}{Q:Array Keyed->SortSt->Prop}{st:SortSt}(O:kindOf st=κ)(H:∀x∈a,ok x)(ob:∀x∈b,ok x)(sa:bW rk a.toList)(h:bW rk b.toList)(ha:0<a.size)(F:0<b.size)
  (G:∀x∈a,rk b[0]<rk x) (h9:rk (b[b.size-1])<rk (a[a.size-1])) (q:∀(r:Array Keyed) g,r.toList.Perm (a.toList++b.toList)->bW rk r.toList->Q r (jR st g)):wpS M A E s (Vj a b) Q st:=by
 show aK (xQ ?_);show aK (gA (show a.size-1<a.size by lia) ?_);have di:st=jR st (gallopOf st):=rfl;have m0:MH rk a.toList b.toList (#[a[a.size-1]]:Array Keyed).toList (a.size-1) b.size:=by
  have n0:MH rk a.toList b.toList [] (a.size-1+1) (b.size-1+1):=⟨by simp;lia,by simp;lia,by
   rw[show a.size-1+1=a.size by lia,show b.size-1+1=b.size by lia];simp,.nil,λy _ x N=>(by cases N),λy _ x N=>(by cases N)⟩
  have:=n0.uk sa h (by simp;lia) (by simp;lia) (by simp only[j6];show pA ‹_›);rw[show b.size-1+1=b.size by lia] at this;trivial
 by_cases l:a.size-1=0
 .rw[if_pos (by show if_pos ‹_›)];show bo ?_;obtain⟨g1,g2⟩:=AU m0 sa h (.inl l);show q _ _ g1 g2
 rw[if_neg (by simpa using l)];by_cases Z:b.size=1
 .rw[if_pos (by show if_pos ‹_›)];show bo ?_;obtain⟨g1,g2⟩:=Fl m0 sa h F Z G;show q _ _ g1 g2
 rw[if_neg (by simpa using Z)];show aK (n8 ?_);show aK (iP (i5 (Q:=λ(c:Option (Array Keyed)×Nat×Nat×Array Keyed×Nat) f=>∃g r,f=jR st g/\c.1=some r/\kZ rk a b r) (λi (c:Option (Array Keyed)×Nat×Nat×Array Keyed×Nat) f=>(∃g,f=jR st g)/\c.1=none/\Mv rk a b c.2.2.2.1 c.2.1 c.2.2.1/\i<c.2.2.2.1.size) ?_ ?_ ⟨⟨_,di⟩,rfl,⟨m0,by dsimp only;lia,by dsimp only;lia⟩,by show iq _⟩) ?_)
 .rintro i ⟨l,na,nb,out,mg⟩ f _ gU ⟨⟨g,rfl⟩,k,d,hsz⟩;subst k;show aK (iP (i5 (Q:=λ(c:Option (Array Keyed)×Nat×Nat×Array Keyed×Nat×Nat) f=>(f=jR st g)/\((∃r,c.1=some r/\kZ rk a b r)\/(c.1=none/\Mv rk a b c.2.2.2.1 c.2.1 c.2.2.1/\i+1<c.2.2.2.1.size)))
   (λj (c:Option (Array Keyed)×Nat×Nat×Array Keyed×Nat×Nat) f=>(f=jR st g)/\c.1=none/\Mv rk a b c.2.2.2.1 c.2.1 c.2.2.1/\i+j<c.2.2.2.1.size) ?_ ?_ ⟨rfl,rfl,d,by ext⟩) ?_)
  .rintro j ⟨l,na,nb,out,ac,B⟩ f _ M9 ⟨rfl,k,d,hsz⟩;dsimp only at k d hsz ⊢;subst k;have la:=d.la;have lb:=d.lb;have L:=d.mh.la;have w:=d.mh.lb;rw[cU] at L w;obtain⟨na,rfl⟩:∃n,na=n+1:=⟨na-1,by lia⟩
   obtain⟨nb,rfl⟩:∃n,nb=n+1:=⟨nb-1,by lia⟩
   simp only[zE];show aK (gA (show nb<b.size by trivial) (aK (gA (show na<a.size by trivial) (aK (R.lt _ _ _ _ (ob _ (kQ _)) (H _ (kQ _)) O ?_)))));by_cases bz:rk (b[nb]'(by trivial))<rk (a[na]'(by trivial))
   .simp only[bz,iR,cO];have D:=d.mh.uk sa h (show na<a.toList.length by simp;trivial) (show nb<b.toList.length by simp;trivial) (by simp only[j6];show pA ‹_›);rw[j6,<-qW] at D;show aK (gA (show na<a.size by trivial) ?_);by_cases p:na=0
    .rw[if_pos (by show if_pos ‹_›)];show bo ⟨rfl,.inl ⟨_,rfl,AU D sa h (.inl p)⟩⟩
    rw[if_neg (by simpa using p)];split
    .exact bo ⟨rfl,.inr ⟨rfl,⟨D,by dsimp only;lia,lb⟩,by simp;lia⟩⟩
    show bo ⟨rfl,rfl,⟨D,by dsimp only;lia,lb⟩,by simp;lia⟩
   simp only[bz,gc,dW,cM];have m:=d.mh.yb sa h (show na<a.toList.length by simp;trivial) (show nb<b.toList.length by simp;trivial) (by simp only[j6];ext);rw[j6,<-qW] at m;show aK (gA (show nb<b.size by trivial) ?_);by_cases p:nb=1
   .rw[if_pos (by show if_pos ‹_›)];show bo ⟨rfl,.inl ⟨_,rfl,Fl m sa h F p G⟩⟩
   rw[if_neg (by simpa using p)];split
   .exact bo ⟨rfl,.inr ⟨rfl,⟨m,la,by dsimp only;lia⟩,by simp;lia⟩⟩
   show bo ⟨rfl,rfl,⟨m,la,by dsimp only;lia⟩,by simp;lia⟩
  .rintro⟨l,na,nb,out,ac,B⟩ f ⟨rfl,k,d,hsz⟩;show⟨rfl,.inr ⟨k,d,by lia⟩⟩
  rintro⟨l,na,nb,out,ac,B⟩ f ⟨rfl,P⟩;rcases P with⟨r,rfl,S⟩ | ⟨rfl,d,hsz⟩
  .exact bo ⟨g,r,rfl,rfl,S⟩
  show aK (xQ ?_);show aK (iP (i5 (Q:=λ(c:Option (Array Keyed)×Nat×Nat×Array Keyed×Nat×Nat×Nat) f=>(∃g,f=jR st g)/\((∃r,c.1=some r/\kZ rk a b r)\/(c.1=none/\Mv rk a b c.2.2.2.1 c.2.1 c.2.2.1/\i+1<c.2.2.2.1.size)))
   (λj (c:Option (Array Keyed)×Nat×Nat×Array Keyed×Nat×Nat×Nat) f=>(∃g,f=jR st g)/\c.1=none/\Mv rk a b c.2.2.2.1 c.2.1 c.2.2.1/\i+1<c.2.2.2.1.size) ?_ ?_ ⟨⟨_,rfl⟩,rfl,d,hsz⟩) ?_)
  .rintro j ⟨l,na,nb,out,mg,ac,B⟩ f _ M9 ⟨⟨g,rfl⟩,k,d,hsz⟩;dsimp only at k d hsz ⊢;subst k;have la:=d.la;have lb:=d.lb;have Xp:=d.mh.la;have T:=d.mh.lb;have ol:=d.mh.len;simp only[cU] at Xp T ol;obtain⟨nb,rfl⟩:∃n,nb=n+1:=⟨nb-1,by lia⟩
   have w:nb<b.size:=by trivial
   generalize mg-1=MA;apply UA (x:=MA) (y:=mg);intro mg2;show aK (mX (aK (gA w ?_)));obtain⟨t,ct⟩:=Z1 sa Xp b[nb];show aK (xX R O H (ob _ (kQ _)) (by lia) (by lia) ct ?_);dsimp only;obtain⟨K,m2,J⟩:=d.mh.Nx sa h w ct;generalize hac:na-t=ac2;generalize out++(a.extract t na).reverse=o1 at K ⊢;apply Uz (o1:=o1) (i1:=t) (o0:=out) (i0:=na) (λo i=>MH rk a.toList b.toList o.toList i (nb+1)/\0<i/\i<=na/\∀u,u+1=i->rk (a.getD u dk)<=rk b[nb]);rotate_left
   .exact λ_ e=>bo ⟨⟨_,rfl⟩,.inl ⟨_,rfl,AU K sa h (.inl (by simpa using e))⟩⟩
   .intro _ e;have e:¬t=0:=by simpa using e
    show⟨K,by lia,m2,J⟩
   .intro z;have e:t=na:=by lia
    rw[e] at J;show⟨d.mh,by ext,bx _,J⟩
   rintro o U ⟨mo,pos,hle,lr⟩;obtain⟨t,rfl⟩:∃v,U=v+1:=⟨U-1,by lia⟩
   simp only[zE];have m4:=lr t rfl;rw[hJ (by show bU ‹_› ‹_›)] at m4;have m:=mo.yb sa h (show t<a.toList.length by simp;show bU ‹_› ‹_›) (show nb<b.toList.length by simpa using w) (by trivial);rw[j6,<-qW] at m;show aK (gA w ?_);by_cases e3:nb=1
   .rw[if_pos (by show if_pos ‹_›)];show bo ⟨⟨_,rfl⟩,.inl ⟨_,rfl,Fl m sa h F e3 G⟩⟩
   rw[if_neg (by simpa using e3)];show aK (gA (show t<a.size by show bU ‹_› ‹_›) ?_);obtain⟨u,Y⟩:=Z0 h (show nb<=b.size by show cP ‹_›) (a[t]'(by show bU ‹_› ‹_›));show aK (xX R O ob (H _ (kQ _)) (by lia) (by lia) Y ?_);dsimp only;obtain⟨C,n2,I⟩:=m.Nw sa h (by show bU ‹_› ‹_›) Y;generalize hbc:nb-u=bc2;generalize o.push b[nb]++(b.extract u nb).reverse=o2 at C ⊢;generalize o.push b[nb]=o3 at m ⊢;apply Uy (o1:=o2) (i1:=u) (o0:=o3) (i0:=nb) (λo j=>MH rk a.toList b.toList o.toList (t+1) j/\1<j/\j<=nb/\∀v,v+1=j->rk (b.getD v dk)<rk (a[t]'(by show bU ‹_› ‹_›)));rotate_left
   .exact λ_ e=>bo ⟨⟨_,rfl⟩,.inl ⟨_,rfl,Fl C sa h F (by simpa using e) G⟩⟩
   .exact λ_ _ e=>bo ⟨⟨_,rfl⟩,.inl ⟨_,rfl,AU C sa h (.inr (by simpa using e))⟩⟩
   .intro _ p X;have p:¬u=1:=by simpa using p
    have X:¬u=0:=by simpa using X
    show⟨C,by lia,n2,I⟩
   .intro z;have e:u=nb:=by lia
    rw[e] at I;show⟨m,by lia,bx _,I⟩
   rintro o V ⟨Mz,gt1,le2,MC⟩;obtain⟨u,rfl⟩:∃v,V=v+1:=⟨V-1,by lia⟩
   have n4:=MC u rfl;rw[hJ (by lia)] at n4;have nn:=Mz.uk sa h (show t<a.toList.length by simp;show bU ‹_› ‹_›) (show u<b.toList.length by simp;lia) (by show pA ‹_›);rw[j6,<-qW] at nn;show aK (gA (show t<a.size by show bU ‹_› ‹_›) ?_);by_cases W:t=0
   .rw[if_pos (by show if_pos ‹_›)];show bo ⟨⟨_,rfl⟩,.inl ⟨_,rfl,AU nn sa h (.inl W)⟩⟩
   rw[if_neg (by simpa using W)];have nl:=nn.len;simp only[cU] at nl;split
   .exact bo ⟨⟨_,rfl⟩,.inr ⟨rfl,⟨nn,by dsimp only;lia,by ext⟩,by dsimp only;ext⟩⟩
   show bo ⟨⟨_,rfl⟩,rfl,⟨nn,by dsimp only;lia,by ext⟩,by dsimp only;ext⟩
  .rintro⟨l,na,nb,out,mg,ac,B⟩ f ⟨⟨g,rfl⟩,k,d,hsz⟩;show⟨⟨g,rfl⟩,.inr ⟨k,d,hsz⟩⟩
  rintro⟨l,na,nb,out,mg,ac,B⟩ f ⟨⟨g,rfl⟩,P⟩;rcases P with⟨r,rfl,S⟩ | ⟨rfl,d,hsz⟩
  .exact bo ⟨g,r,rfl,rfl,S⟩
  show aK (mX (bo ⟨⟨_,rfl⟩,rfl,d,hsz⟩))
 .rintro⟨l,na,nb,out,mg⟩ f ⟨⟨g,rfl⟩,k,d,hsz⟩;dsimp only at k d hsz ⊢;exfalso
  have h1:=d.mh.len;simp only[cU] at h1;lia
 rintro⟨l,na,nb,out,mg⟩ f ⟨g,r,rfl,rfl,g1,g2⟩;show bo (q r g g1 g2)
theorem zi2(i:Nat):mergeAt' i=(do
 let s <-get
 let(some (sa,na,power),some (b,nb,_)):=((pendingOf s)[i]?,(pendingOf s)[i+1]?) | unsupported "internal:list.sort.pending"
 set (setPending s (((pendingOf s).setIfInBounds i (sa,na+nb,power)).eraseIdxIfInBounds (i+1)))
 let some k <-Kj false (<-elem' (arrOf s) b) (arrOf s) sa na 0 | return false
 let(sa,na):=(sa+k,na-k)
 if na==0 then return true
 let some nb <-Kj true (<-elem' (arrOf s) (sa+na-1)) (arrOf s) b nb (nb-1) | return false
 if nb==0 then return true
 let x:=(arrOf s).extract sa b
 let y:=(arrOf s).extract b (b+nb)
 let merged <-if na<=nb then Vk x y else Vj x y
 modify λs=>setArr s (merged.toList.zipIdx.foldl (λa (p,j)=>a.setIfInBounds (sa+j) p) (arrOf s))
 return (failedOf (<-get)).isNone):=rfl
variable{M:Model}{A:br}{E:aa->ai->Prop}{s:ai}
theorem VT(b):∀(m l:List Keyed) k,b+k+m.length<=l.length->
  (m.zipIdx k).foldl (λ(a:Array Keyed)(q:Keyed×Nat)=>a.setIfInBounds (b+q.2) q.1) l.toArray=(l.take (b+k)++m++l.drop (b+k+m.length)).toArray
 | [],l,k,h=>by simp
 | x::m,l,k,h=>by
  simp only[cC] at h;rw[List.zipIdx_cons,vc];rw[show l.toArray.setIfInBounds (b+k) x=(l.set (b+k) x).toArray by simp];rw[VT b m (l.set (b+k) x) (k+1) (by rw[pD];lia)];congr 1
  have c:(l.set (b+k) x).take (b+(k+1))=l.take (b+k)++[x]:=by
   rw[show b+(k+1)=b+k+1 by rfl,gf,List.take_set,zO (by lia)];rw[List.set_eq_of_length_le (by simp;lia)];rfl
  rw[c,List.drop_set_of_lt (by lia)];simp only[cC,gh,kX,zu];rw[show b+(k+1)+m.length=b+k+(m.length+1) by lia]
theorem zrG{st:SortSt}(q:Q ⟨⟩ x):wpS M A E s (set x:StateT SortSt Sem PUnit) Q st:=mX (f:=λ_=>x) q
theorem EF{rk:Keyed->Int}(h:bW rk l)(b:i<=j)(a:j<l.length):rk (l[i]'(by show pH ‹_› ‹_›))<=rk l[j]:=by
 by_cases e:i=j
 .subst e;show iz _
 show xi.mp h i j (by show pH ‹_› ‹_›) a (by lia)
theorem bW.app{rk:Keyed->Int}(b:bW rk l)(a:bW rk m)(h:∀x∈l,∀y∈m,rk x<=rk y):bW rk (l++m):=vp.mpr ⟨b,a,h⟩
theorem zi3{rk:Keyed->Int}(R:Rk M A E s κ ok rk){st:SortSt}(n:kindOf st=κ)(T:failedOf st=none)(O:∀x∈arrOf st,ok x)
  (dec:(arrOf st).toList=P++(X++(Y++S))) (p1:(pendingOf st)[i]?=some (P.length,X.length,v)) (p2:(pendingOf st)[i+1]?=some (P.length+X.length,Y.length,pb)) (ha:0<X.length) (hb:0<Y.length) (p:bW rk X) (o:bW rk Y)
  (q:∀Z g,Z.Perm (X++Y)->bW rk Z->Q true (pq κ (P++(Z++S)).toArray (((pendingOf st).setIfInBounds i (P.length,X.length+Y.length,v)).eraseIdxIfInBounds (i+1)) g none)):wpS M A E s (mergeAt' i) Q st:=by
 rw[zi2];show aK (n8 ?_);rw[p1,p2];show aK (zrG ?_);have hsz:(arrOf st).size=P.length+(X.length+(Y.length+S.length)):=by rw[<-cU,dec];simp
 have H:arrOf st=(P++(X++(Y++S))).toArray:=by rw[<-dec]
 have F:∀t,(h:t<X.length)->(arrOf st).getD (P.length+t) dk=X[t]:=λt h=>by
  rw[hJ (by lia)];simp[H,IK,Q3,h]
 have D:∀t,(h:t<Y.length)->(arrOf st).getD (P.length+X.length+t) dk=Y[t]:=λt h=>by
  rw[hJ (by lia)];have e2:P.length+X.length+t-P.length-X.length=t:=by ext
  simp only[H,List.getElem_toArray];rw[IK (by lia),IK (by lia),Q3 (by simp_all)];congr 1
 have W:(arrOf st)[P.length+X.length]'(by lia)=Y[0]:=by
  have:=D 0 hb;rw[hJ (by lia)] at this;simpa using this
 show aK (gA (show P.length+X.length<(arrOf st).size by ext) ?_);rw[W]
 have G:∀x,x∈P\/x∈X\/x∈Y\/x∈S->ok x:=λx c=>O x (by
  rw[<-qZ,dec];simp only[cj];show c)
 obtain⟨k,J⟩:∃k,Cut (λi=>if false=true then decide (rk ((arrOf st).getD (P.length+i) dk)<rk Y[0]) else !decide (rk Y[0]<rk ((arrOf st).getD (P.length+i) dk))) X.length k:=by
  show tZ _ _ λi j dB C h=>?_
  have:=EF p dB C;rw[F j C] at h;rw[F i (by show pH ‹_› ‹_›)];simp only[dW,cM,oq,kS] at h ⊢;ext
 have YM:=J.1;show aK (xX R n O (G _ (.inr (.inr (.inl (eZ _))))) (by simp_all) ha J ?_);dsimp only;have K:∀x∈X.take k,∀y∈Y,rk x<=rk y:=λx c y B=>by
  obtain⟨t,l,rfl⟩:=mR c;obtain⟨u,hu,rfl⟩:=mR B;have d:t<k:=by simp at l;simp_all
  have b:=(J.2 t (by show bU ‹_› ‹_›)).mpr d;dsimp only at b;rw[F t (by show bU ‹_› ‹_›)] at b;have h2:=EF o (cG u) hu;simp only[dW,cM,oq,kS] at b;rw[Dr];ext
 have x2:∀x∈X.drop k,rk Y[0]<rk x:=λx c=>by
  obtain⟨t,l,rfl⟩:=mR c;have d:k+t<X.length:=by simp at l;lia
  have b:=mt (J.2 (k+t) d).mp (by simp_all);dsimp only at b;rw[F _ d] at b;simpa using b
 have same:∀g,pq κ (P++((X++Y)++S)).toArray (((pendingOf st).setIfInBounds i (P.length,X.length+Y.length,v)).eraseIdxIfInBounds (i+1)) g none=pq κ (arrOf st) (((pendingOf st).setIfInBounds i (P.length,X.length+Y.length,v)).eraseIdxIfInBounds (i+1)) g none:=λg=>by
  rw[H];simp
 have whole:bW rk (X++Y)->Q true (setPending st (((pendingOf st).setIfInBounds i (P.length,X.length+Y.length,v)).eraseIdxIfInBounds (i+1))):=λh=>by
  have:=q (X++Y) (gallopOf st) (HJ _) h;rw[same] at this;show Q true (pq (kindOf st) (arrOf st) _ (gallopOf st) (failedOf st));rw[n,T];show this
 by_cases e1:X.length-k=0
 .rw[if_pos (by show if_pos ‹_›)];show bo (whole (p.app o λx c=>K x ?_));rw[rg (by lia)];show c
 rw[if_neg (by simpa using e1)];have gl:(arrOf st)[P.length+k+(X.length-k)-1]'(by ext)=X[X.length-1]:=by
  have:=F (X.length-1) (by lia);rw[hJ (by lia)] at this;rw[<-this];congr 1
  lia
 show aK (gA (show P.length+k+(X.length-k)-1<(arrOf st).size by ext) ?_);rw[gl];obtain⟨m,I⟩:∃m,Cut (λi=>if true=true then decide (rk ((arrOf st).getD (P.length+X.length+i) dk)<rk X[X.length-1]) else !decide (rk X[X.length-1]<rk ((arrOf st).getD (P.length+X.length+i) dk))) Y.length m:=by
  show tZ _ _ λi j dB C h=>?_
  have:=EF o dB C;rw[D j C] at h;rw[D i (by show pH ‹_› ‹_›)];simp only[cO,gJ] at h ⊢;ext
 have NQ:=I.1;show aK (xX R n O (G _ (.inr (.inl (eZ _)))) (by lia) (by ext) I ?_);dsimp only;have y1:∀y∈Y.take m,rk y<rk X[X.length-1]:=λy B=>by
  obtain⟨t,l,rfl⟩:=mR B;have d:t<m:=by simp at l;simp_all
  have b:=(I.2 t (by show bU ‹_› ‹_›)).mpr d;dsimp only at b;rw[D t (by show bU ‹_› ‹_›)] at b;simpa using b
 have y2:∀x∈X,∀y∈Y.drop m,rk x<=rk y:=λx c y B=>by
  obtain⟨t,l,rfl⟩:=mR B;obtain⟨u,hu,rfl⟩:=mR c;have d:m+t<Y.length:=by simp at l;lia
  have b:=mt (I.2 (m+t) d).mp (by simp_all);dsimp only at b;rw[D _ d] at b;have h2:=EF p (show u<=X.length-1 by lia) (by lia);rw[Ia];simp only[cO,gJ] at b;ext
 by_cases e2:m=0
 .rw[if_pos (by show if_pos ‹_›)];show bo (whole (p.app o λx c y B=>y2 x c y ?_));rw[e2];trivial
 rw[if_neg (by simpa using e2)];have ex:((arrOf st).extract (P.length+k) (P.length+X.length)).toList=X.drop k:=by
  rw[DD,dec];simp only[CS];rw[zR,DN YM,show P.length+X.length-(P.length+k)=(X.drop k).length by rw[oo];lia,Pl]
 have f:((arrOf st).extract (P.length+X.length) (P.length+X.length+m)).toList=Y.take m:=by
  rw[DD,dec];simp only[CS];rw[zR,show X.length=X.length+0 from rfl,zR,HL,show P.length+(X.length+0)+m-(P.length+(X.length+0))=m by simp_all,Rj NQ]
 have zx:((arrOf st).extract (P.length+k) (P.length+X.length)).size=X.length-k:=by rw[<-cU,ex,oo]
 have zy:((arrOf st).extract (P.length+X.length) (P.length+X.length+m)).size=m:=by rw[<-cU,f,eP];show if_pos ‹_›
 generalize (arrOf st).extract (P.length+k) (P.length+X.length)=x at ex zx ⊢;generalize (arrOf st).extract (P.length+X.length) (P.length+X.length+m)=y at f zy ⊢;have ox:∀z∈x,ok z:=λz hz=>G z (.inr (.inl (w8 (by rw[<-ex];show qZ.mpr hz))))
 have oy:∀z∈y,ok z:=λz hz=>G z (.inr (.inr (.inl (tK (by rw[<-f];show qZ.mpr hz)))))
 have sx:bW rk x.toList:=by rw[ex];show p.sublist (Ib _ _)
 have sy:bW rk y.toList:=by rw[f];show o.sublist (Ic _ _)
 have Xz:0<x.size:=by lia
 have MP:0<y.size:=by lia
 have U:y[0]=Y[0]:=by
  have:y.toList[0]'(by simpa using MP)=Y[0]:=by simp only[f,Dr]
  simpa using this
 have V:x[x.size-1]=X[X.length-1]:=by
  have:x.toList[x.size-1]'(by simp;lia)=X[X.length-1]:=by
   simp only[ex,Ia];congr 1
   lia
  simpa using this
 have fx:∀z∈x,rk y[0]<rk z:=λz hz=>by
  rw[U];show x2 z (by rw[<-ex];show qZ.mpr hz)
 have fy:∀z∈y,rk z<rk (x[x.size-1]):=λz hz=>by
  rw[V];show y1 z (by rw[<-f];show qZ.mpr hz)
 have fin:∀(r:Array Keyed) g,r.toList.Perm (x.toList++y.toList)->bW rk r.toList->Q true (pq κ (r.toList.zipIdx.foldl (λ(a:Array Keyed)(z:Keyed×Nat)=>a.setIfInBounds (P.length+k+z.2) z.1) (arrOf st)) (((pendingOf st).setIfInBounds i (P.length,X.length+Y.length,v)).eraseIdxIfInBounds (i+1)) g none):=λr g e rs=>by
  have rl:=e.length_eq;rw[bL,ex,f,oo,eP,pC NQ] at rl;rw[ex,f] at e;have e9:=VT (P.length+k) r.toList (P++(X++(Y++S))) 0 (by simp only[bL];lia);rw[<-H] at e9;rw[e9];have t1:(P++(X++(Y++S))).take (P.length+k+0)=P++X.take k:=by
   rw[CQ,List.take_length_add_append,Rj YM]
  have t2:(P++(X++(Y++S))).drop (P.length+k+0+r.toList.length)=Y.drop m++S:=by
   rw[show P.length+k+0+r.toList.length=P.length+(X.length+m) by lia,zR,zR,DN NQ]
  rw[t1,t2];have:=q (X.take k++(r.toList++Y.drop m)) g ?_ ?_
  .simpa[gh] using this
  .have b:(X.take k++(r.toList++Y.drop m)).Perm (X.take k++((X.drop k++Y.take m)++Y.drop m)):=Iy _ (e.append_right _);show b.trans ?_;rw[gh,pI,<-gh,pI]
  have mr:∀z∈r.toList,z∈X.drop k\/z∈Y.take m:=λz hz=>cj.mp (e.mem_iff.mp hz)
  have N:bW rk (X.take k++X.drop k):=by rw[pI];show p
  have L:bW rk (Y.take m++Y.drop m):=by rw[pI];show o
  have d1:=(vp.mp N)
  have d2:=(vp.mp L)
  show bW.app d1.1 (rs.app d2.2.1 λz hz w hw=>?_) λz hz w hw=>?_
  .rcases mr z hz with h | h
   .exact y2 z (w8 h) w hw
   show d2.2.2 z h w hw
  rcases cj.mp hw with hw | hw
  .rcases mr w hw with h | h
   .exact d1.2.2 z hz w h
   show K z hz w (tK h)
  show K z hz w (w8 hw)
 split
 .refine aK (zi0 R n ox oy sx sy Xz MP (fx _ (kQ _)) fy λr g e rs=>?_);show aK (mX (aK (n8 (bo ?_))));have:=fin r g e rs;show Q (failedOf st).isNone (pq (kindOf st) _ _ g (failedOf st));rw[T,n];show this
 show aK (zi1 R n ox oy sx sy Xz MP fx (fy _ (kQ _)) λr g e rs=>?_);show aK (mX (aK (n8 (bo ?_))));have:=fin r g e rs;show Q (failedOf st).isNone (pq (kindOf st) _ _ g (failedOf st));rw[T,n];show this
noncomputable def kr(rk:Keyed->Int)(xs:Array Keyed)(i:Nat):Int:=rk (xs.getD i dk)
def kM(rk:Keyed->Int)(xs:Array Keyed)(lo n:Nat):Prop:=∀i j,i<=j->j<n->kr rk xs (lo+i)<=kr rk xs (lo+j)
structure Sl(xs ys:Array Keyed)(lo n:Nat):Prop where
 pm:ys.Perm xs
 out:∀j,j<lo\/lo+n<=j->ys[j]?=xs[j]?
theorem Sl.size{lo n:Nat}(h:Sl xs ys lo n):ys.size=xs.size:=h.pm.size_eq
theorem Sl.refl(xs lo n):Sl xs xs lo n:=⟨Y0 _,λ_ _=>rfl⟩
theorem Sl.trans{lo n:Nat}(h:Sl xs ys lo n)(h':Sl ys zs lo n):Sl xs zs lo n:=⟨h'.pm.trans h.pm,λj a=>(h'.out j a).trans (h.out j a)⟩
theorem AK{rk:Keyed->Int}(h:ys[i]?=xs[j]?):kr rk ys i=kr rk xs j:=by
 unfold kr;rw[Rg,Rg,h]
variable{M:Model}{A:br}{E:aa->ai->Prop}{s:ai}
theorem xT{rk:Keyed->Int}(R:Rk M A E s κ ok rk){st:SortSt}(d:kindOf st=κ)(a:∀x∈arrOf st,ok x)(c:i<(arrOf st).size)(b:j<(arrOf st).size)
  (q:Q (some (decide (kr rk (arrOf st) i<kr rk (arrOf st) j))) st):wpS M A E s (ltAt' i j) Q st:=by
 show aK (n8 (aK (gA c (aK (gA b ?_)))));show R.lt _ _ _ _ (a _ (kQ _)) (a _ (kQ _)) d ?_;unfold kr at q;rwa [hJ c,hJ b] at q
theorem Sl.ok{lo n:Nat}(h:Sl xs ys lo n){ok:Keyed->Prop}(a:∀x∈xs,ok x):∀x∈ys,ok x:=λx b=>a x (h.pm.mem_iff.mp b)
theorem zlh{rk:Keyed->Int}(R:Rk M A E s κ ok rk){lo n t:Nat}{st:SortSt}(O:kindOf st=κ)(L:∀x∈arrOf st,ok x)(V:lo+n<=(arrOf st).size)(N:kM rk (arrOf st) lo t)(W:t<=n)
  (q:∀ys,Sl (arrOf st) ys lo n->kM rk ys lo n->Q true (setArr st ys)):wpS M A E s (binarySort' lo n t) Q st:=by
 show aK (iP (i5 (I:=λk (c:Option Bool×Unit) b=>c.1=none/\∃ys,b=setArr st ys/\Sl (arrOf st) ys lo n/\kM rk ys lo (min k n))
  (Q:=λc b=>c.1=none/\∃ys,b=setArr st ys/\Sl (arrOf st) ys lo n/\kM rk ys lo n) ?step ?fin ?init) ?post)
 case post=>
  rintro⟨c,⟨⟩⟩ b ⟨a,ys,rfl,g,f⟩;subst a;show bo (q ys g f)
 case init=>
  show⟨rfl,arrOf st,rfl,Sl.refl _ _ _,λi j v u=>?_⟩;by_cases g:t=0
  .have:i=j:=by lia
   subst this;show iz _
  show N i j v (by lia)
 case fin=>
  rintro c b ⟨a,ys,rfl,g,f⟩;show⟨a,ys,rfl,g,by rwa [show min (max (max t 1) n) n=n by lia] at f⟩
 case step=>
  rintro k ⟨c,⟨⟩⟩ b T U ⟨a,ys,rfl,g,f⟩;subst a;rw[show min k n=k by lia] at f;have hsz:=g.size;have K:=g.ok L;obtain⟨p,y⟩:∃p,Cut (λm=>!decide (kr rk ys (lo+k)<kr rk ys (lo+m))) k p:=by
   show tZ _ _ λi j v u h=>?_
   have:=f i j v u;simp only[oq,kS] at h ⊢;lia
  have B:=y.1;show aK (iP (i5 (I:=λj (c:Option Bool×Nat×Nat) b=>b=setArr st ys/\c.1=none/\c.2.1<=p/\p<=c.2.2/\c.2.2<=k/\c.2.2-c.2.1+j<=k)
   (Q:=λ(c:Option Bool×Nat×Nat) b=>b=setArr st ys/\c.1=none/\c.2.1=p) ?_ ?_ ⟨rfl,rfl,cG _,B,bx _,by show k-0+0<=k;simp_all⟩) ?_)
  .rintro j ⟨c,l,r⟩ b _ u ⟨rfl,a,o,z,e3,D⟩;dsimp only at a o z e3 D ⊢;subst a;by_cases hd:l>=r
   .rw[if_pos hd];show bo ⟨rfl,rfl,by dsimp only;lia⟩
   rw[if_neg hd];have P:l<=(l+r)/2/\(l+r)/2<r:=by lia
   generalize (l+r)/2=d at P ⊢;show aK (xT R O K (show lo+k<ys.size by lia) (show lo+d<ys.size by lia) ?_);have hm:=y.2 (d) (by lia);simp only[oq,kS] at hm;by_cases H:kr rk ys (lo+k)<kr rk ys (lo+d)
   .rw[show decide (kr rk (arrOf (setArr st ys)) (lo+k)<kr rk (arrOf (setArr st ys)) (lo+d))=true from iu H];show bo ⟨rfl,rfl,o,by dsimp only;simp_all,by dsimp only;lia,by dsimp only;lia⟩
   rw[show decide (kr rk (arrOf (setArr st ys)) (lo+k)<kr rk (arrOf (setArr st ys)) (lo+d))=false from iw H];show bo ⟨rfl,rfl,by dsimp only;lia,z,e3,by dsimp only;lia⟩
  .rintro⟨c,l,r⟩ b ⟨rfl,a,o,z,e3,D⟩;show⟨rfl,a,by lia⟩
  rintro⟨c,l,r⟩ b ⟨rfl,a,o⟩;dsimp only at a o ⊢;subst a o;show aK (mX (bo ⟨rfl,bubble ys (lo+k) (lo+k-(lo+l)),rfl,g.trans ⟨bubble_perm _ _ _,λj u=>?_⟩,?_⟩))
  .rw[Pw (by lia) _ (by simp_all),if_neg (by ext),if_neg (by lia)]
  have C:∀j,kr rk (bubble ys (lo+k) (lo+k-(lo+l))) (lo+j)=if j=l then kr rk ys (lo+k) else if l<j/\j<=k then kr rk ys (lo+(j-1)) else kr rk ys (lo+j):=λj=>by
   have e:=Pw (xs:=ys) (src:=lo+k) (by lia) (lo+k-(lo+l)) (by simp_all) (lo+j);by_cases G:j=l
   .rw[if_pos (by ext)] at e;rw[if_pos G];show AK e
   rw[if_neg (by lia)] at e;rw[if_neg G];by_cases F:l<j/\j<=k
   .rw[if_pos (by ext),show lo+j-1=lo+(j-1) by lia] at e;rw[if_pos F];show AK e
   rw[if_neg (by ext)] at e;rw[if_neg F];show AK e
  have below:∀m,m<l->kr rk ys (lo+m)<=kr rk ys (lo+k):=λm hm=>by
   have:=(y.2 m (by show bU ‹_› ‹_›)).mpr hm;simp only[oq,kS] at this;simp_all
  have above:∀m,l<=m->m<k->kr rk ys (lo+k)<=kr rk ys (lo+m):=λm hm S=>by
   have:=mt (y.2 m S).mp (by simp_all);simp only[oq,kS] at this;lia
  intro i j v u;rw[C,C];by_cases a1:i=l
  .rw[if_pos a1];by_cases w:j=l
   .rw[if_pos w];show iz _
   rw[if_neg w,if_pos (by lia)];show above _ (by lia) (by lia)
  rw[if_neg a1];by_cases a2:l<i/\i<=k
  .rw[if_pos a2,if_neg (by lia),if_pos (by lia)];show f _ _ (by lia) (by lia)
  rw[if_neg a2];by_cases w:j=l
  .rw[if_pos w];show below i (by lia)
  rw[if_neg w];by_cases J:l<j/\j<=k
  .rw[if_pos J];show f _ _ (by lia) (by ext)
  rw[if_neg J];show f _ _ v (by lia)
theorem K5{rk:Keyed->Int}(b:j<=xs.size)(k):kr rk (mirror xs i j ((j-i)/2)) k=if i<=k/\k<j then kr rk xs (i+j-1-k) else kr rk xs k:=by
 have e:=Qn (i:=i) b k;by_cases a:i<=k/\k<j
 .rw[if_pos a] at e ⊢;show AK e
 rw[if_neg a] at e ⊢;show AK e
theorem Fs{i j lo n:Nat}(a:j<=xs.size)(d:lo<=i)(b:j<=lo+n):Sl xs (mirror xs i j ((j-i)/2)) lo n:=
 ⟨mirror_perm _ _ _ _,λk c=>by rw[Qn a,if_neg (by lia)]⟩
theorem LR{rk:Keyed->Int}(b:j<=xs.size)(a:∀k,i<=k->k<j->kr rk xs k=kr rk xs (j-1))(k):kr rk (mirror xs i j ((j-i)/2)) k=kr rk xs k:=by
 rw[K5 b];split
 .rw[a _ (by ext) (by ext),a k (by simp_all) (by simp_all)]
 rfl
def Dec(rk:Keyed->Int)(xs:Array Keyed)(lo n:Nat):Prop:=∀i j,i<=j->j<n->kr rk xs (lo+j)<=kr rk xs (lo+i)
theorem kM.more{rk:Keyed->Int}{lo n:Nat}(h:kM rk xs lo n)(c:1<=n)(d:kr rk xs (lo+n-1)<=kr rk xs (lo+n)):kM rk xs lo (n+1):=λi j b f=>by
 by_cases e:j=n
 .subst e;by_cases a:i=j
  .subst a;show iz _
  have:=h i (j-1) (by lia) (by ext);rw[show lo+(j-1)=lo+j-1 by lia] at this;lia
 show h i j b (by lia)
theorem Dec.more{rk:Keyed->Int}{lo n:Nat}(h:Dec rk xs lo n)(c:1<=n)(d:kr rk xs (lo+n)<=kr rk xs (lo+n-1)):Dec rk xs lo (n+1):=λi j b f=>by
 by_cases e:j=n
 .subst e;by_cases a:i=j
  .subst a;show iz _
  have:=h i (j-1) (by lia) (by ext);rw[show lo+(j-1)=lo+j-1 by lia] at this;lia
 show h i j b (by lia)
theorem Dec.turn{rk:Keyed->Int}{lo n:Nat}(h:Dec rk xs lo n)(a:lo+n<=xs.size):kM rk (mirror xs lo (lo+n) ((lo+n-lo)/2)) lo n:=λi j c b=>by
 rw[K5 a,K5 a,if_pos (by lia),if_pos (by simp_all)];have:=h (n-1-j) (n-1-i) (by ext) (by ext);rw[show lo+(lo+n)-1-(lo+i)=lo+(n-1-i) by lia,show lo+(lo+n)-1-(lo+j)=lo+(n-1-j) by lia];show this
variable{M:Model}{A:br}{E:aa->ai->Prop}{s:ai}
theorem EN{st:SortSt}(h:Q () (setArr st (mirror (arrOf st) i j ((j-i)/2)))):wpS M A E s (reverseSlice' i j) Q st:=by
 show mX h
theorem zm3{rk:Keyed->Int}(R:Rk M A E s κ ok rk){lo d:Nat}{st:SortSt}(F:kindOf st=κ)(C:∀x∈arrOf st,ok x)(hn:lo+d<=(arrOf st).size)(h1:1<=d)
  (q:∀ys n,1<=n->n<=d->Sl (arrOf st) ys lo d->kM rk ys lo n->Q (some n) (setArr st ys)):wpS M A E s (countRun' lo d) Q st:=by
 rw[countRun'_eq];show aK (iP (i5 (I:=λi (c:Option (Option Nat)×Nat) a=>a=st/\c.1=none/\c.2=i/\kM rk (arrOf st) lo i)
  (Q:=λ(c:Option (Option Nat)×Nat) a=>a=st/\c.1=none/\1<=c.2/\c.2<=d/\kM rk (arrOf st) lo c.2/\(c.2<d->kr rk (arrOf st) (lo+c.2)<kr rk (arrOf st) (lo+c.2-1))) ?_ ?_ ⟨rfl,rfl,rfl,λi j y w=>by rw[show i=j by simp_all];show iz _⟩) ?_)
 .rintro i ⟨c,n⟩ a J h3 ⟨rfl,b,e,f⟩;dsimp only at b e ⊢;subst b e;show aK (xT R F C (by lia) (by ext) ?_);by_cases m:kr rk (arrOf a) (lo+n)<kr rk (arrOf a) (lo+n-1)
  .simp only[m,iR,cO];show bo ⟨rfl,rfl,J,by show cP ‹_›,f,λ_=>m⟩
  simp only[m,gc,dW,cM];show bo ⟨rfl,rfl,rfl,f.more J (by simp_all)⟩
 .rintro⟨c,n⟩ a ⟨rfl,b,e,f⟩;subst e;show⟨rfl,b,by simp_all,by simp_all,f,λz=>by simp_all⟩
 rintro⟨c,n⟩ a ⟨rfl,b,o,r,f,hd⟩;dsimp only at b o r f hd ⊢;subst b;by_cases X:n=d
 .rw[if_pos (by show if_pos ‹_›)];show bo (q (arrOf a) n o r (Sl.refl _ _ _) f)
 rw[if_neg (by simpa using X)];generalize W:(rule "list.sort.descending-run" >>= _:StateT SortSt Sem (Option Nat))=K;have ez:∀B,Sl (arrOf a) B lo d->Dec rk B lo (n+1)->wpS M A E s K Q (setArr a B):=by
  rw[<-W];intro B U Z;show aK (xQ ?_);show aK (iP (i5 (I:=λi (c:Option (Option Nat)×Nat×Nat) h=>∃ys,h=setArr a ys/\Sl (arrOf a) ys lo d/\c.1=none/\c.2.1=i/\Dec rk ys lo i/\c.2.2<i/\∀t,t<=c.2.2->kr rk ys (lo+i-1-t)=kr rk ys (lo+i-1))
   (Q:=λ(c:Option (Option Nat)×Nat×Nat) h=>∃ys,h=setArr a ys/\Sl (arrOf a) ys lo d/\c.1=none/\1<=c.2.1/\c.2.1<=d/\Dec rk ys lo c.2.1/\c.2.2<c.2.1/\∀t,t<=c.2.2->kr rk ys (lo+c.2.1-1-t)=kr rk ys (lo+c.2.1-1)) ?_ ?_ ⟨B,rfl,U,rfl,rfl,Z,by dsimp only;simp_all,λt u=>by rw[show t=0 by dsimp only at u;simp_all];rfl⟩) ?_)
  .rintro i ⟨c,n,e⟩ h J h3 ⟨ys,rfl,g,b,H,p,v,eq⟩;dsimp only at b H v eq ⊢;subst b H;have hsz:=g.size;show aK (xT R F (g.ok C) (show lo+n<ys.size by lia) (show lo+n-1<ys.size by lia) ?_);by_cases m:kr rk ys (lo+n)<kr rk ys (lo+n-1)
   .simp only[m,iR,cO];have S:=p.more (by lia) (pA m);by_cases G:e>0
    .rw[if_pos G]
     have l:=LR (rk:=rk) (xs:=ys) (i:=lo+n-(e+1)) (j:=lo+n) (by lia) (λk N L=>by
      have:=eq (lo+n-1-k) (by ext)
      rwa [show lo+n-1-(lo+n-1-k)=k by lia] at this)
     show aK (EN ?_);show bo ⟨_,rfl,g.trans (Fs (by lia) (by lia) (by lia)),rfl,rfl,λi j y w=>?_,by dsimp only;simp_all,λt u=>by rw[show t=0 by dsimp only at u;simp_all];rfl⟩;have:=S i j y w;rw[<-l,<-l] at this;show this
    rw[if_neg G];show bo ⟨ys,rfl,g,rfl,rfl,S,by dsimp only;simp_all,λt u=>by rw[show t=0 by dsimp only at u;simp_all];rfl⟩
   simp only[m,gc,dW,cM];show aK (xT R F (g.ok C) (show lo+n-1<ys.size by lia) (show lo+n<ys.size by lia) ?_);by_cases T:kr rk ys (lo+n-1)<kr rk ys (lo+n)
   .simp only[T,iR,cO];show bo ⟨ys,rfl,g,rfl,by dsimp only;lia,by dsimp only;show cP ‹_›,p,v,eq⟩
   simp only[T,gc,dW,cM];show bo ⟨ys,rfl,g,rfl,rfl,p.more (by lia) (by simp_all),by dsimp only;simp_all,λt u=>?_⟩;dsimp only at u;rw[show lo+(n+1)-1=lo+n by rfl];by_cases t0:t=0
   .subst t0;rfl
   have:=eq (t-1) (by simp_all);rw[show lo+n-1-(t-1)=lo+n-t by lia] at this;lia
  .rintro⟨c,n,e⟩ h ⟨ys,rfl,g,b,H,p,v,eq⟩;dsimp only at b H v eq ⊢;subst H;show⟨ys,rfl,g,b,by lia,by lia,p,v,eq⟩
  rintro⟨c,n,e⟩ h ⟨ys,rfl,g,b,o,r,p,v,eq⟩;dsimp only at b o r p v eq ⊢;subst b;have hsz:=g.size;generalize V:(reverseSlice' lo (lo+n) >>= _:StateT SortSt Sem (Option Nat))=Tl;have tail:∀ws,Sl (arrOf a) ws lo d->Dec rk ws lo n->wpS M A E s Tl Q (setArr a ws):=by
   rw[<-V];intro ws lw Y;have hw:=lw.size;show aK (EN ?_);have D:=lw.trans (Fs (xs:=ws) (i:=lo) (j:=lo+n) (lo:=lo) (n:=d) (by lia) (by simp_all) (by simp_all));have hz:=Y.turn (by lia);generalize mirror ws lo (lo+n) ((lo+n-lo)/2)=zs at D hz;show aK (iP (i5 (I:=λi (c:Option (Option Nat)×Nat) h=>h=setArr a zs/\c.1=none/\c.2=i/\kM rk zs lo i)
    (Q:=λ(c:Option (Option Nat)×Nat) h=>h=setArr a zs/\c.1=none/\1<=c.2/\c.2<=d/\kM rk zs lo c.2) ?_ ?_ ⟨rfl,rfl,rfl,hz⟩) ?_)
   .rintro i ⟨c,n⟩ h J h3 ⟨rfl,b,e,f⟩;dsimp only at b e ⊢;subst b e;show aK (xT R F (D.ok C) (show lo+n<zs.size by have:=D.size;lia) (show lo+n-1<zs.size by have:=D.size;lia) ?_);by_cases m:kr rk zs (lo+n)<kr rk zs (lo+n-1)
    .simp only[m,iR,cO];show bo ⟨rfl,rfl,by show bU ‹_› ‹_›,by show cP ‹_›,f⟩
    simp only[m,gc,dW,cM];show bo ⟨rfl,rfl,rfl,f.more (by show bU ‹_› ‹_›) (by simp_all)⟩
   .rintro⟨c,n⟩ h ⟨rfl,b,e,f⟩;subst e;show⟨rfl,b,by simp_all,by simp_all,f⟩
   rintro⟨c,n⟩ h ⟨rfl,b,o,r,f⟩;subst b;show bo (q zs n o r D f)
  by_cases G:e>0
  .rw[if_pos G]
   have l:=LR (rk:=rk) (xs:=ys) (i:=lo+n-(e+1)) (j:=lo+n) (by lia) (λk N L=>by
    have:=eq (lo+n-1-k) (by ext)
    rwa [show lo+n-1-(lo+n-1-k)=k by lia] at this)
   show aK (EN (tail _ (g.trans (Fs (xs:=ys) (i:=lo+n-(e+1)) (j:=lo+n) (lo:=lo) (n:=d) (by lia) (by ext) (by simp_all))) λi j y w=>?_));have:=p i j y w;rw[<-l,<-l] at this;show this
  rw[if_neg G];show tail ys g p
 by_cases P:n>1
 .rw[if_pos P];show aK (xT R F C (by lia) (by ext) ?_);by_cases O:kr rk (arrOf a) lo<kr rk (arrOf a) (lo+n-1)
  .simp only[O,iR,cO];show bo (q (arrOf a) n o r (Sl.refl _ _ _) f)
  simp only[O,gc,dW,cM];have same:∀k,lo<=k->k<lo+n->kr rk (arrOf a) k=kr rk (arrOf a) (lo+n-1):=λk N L=>by
   have a1:=f 0 (k-lo) (by simp_all) (by ext);have a2:=f (k-lo) (n-1) (by lia) (by lia);rw[show lo+(k-lo)=k by ext] at a1 a2;rw[show lo+(n-1)=lo+n-1 by lia] at a2;simp only[CQ] at a1;lia
  have l:=LR (rk:=rk) (xs:=arrOf a) (i:=lo) (j:=lo+n) (by lia) same;show aK (EN (ez _ (Fs (xs:=arrOf a) (i:=lo) (j:=lo+n) (lo:=lo) (n:=d) (by lia) (by simp_all) (by simp_all)) (Dec.more (λi j y w=>?_) o ?_)))
  .rw[l,l,same _ (by simp_all) (by simp_all),same (lo+i) (by simp_all) (by lia)];show iz _
  rw[l,l];lia
 rw[if_neg P];show ez (arrOf a) (Sl.refl _ _ _) (Dec.more (λi j y w=>by rw[show i=j by lia];show iz _) o (by lia))
noncomputable def starts:Nat->List (List Keyed)->List (Nat×Nat)
 | _,[]=>[]
 | st,X::a=>(st,X.length)::starts (st+X.length) a
noncomputable abbrev ft(t:Nat×Nat×Nat):Nat×Nat:=(t.1,t.2.1)
theorem Lp:∀st a,(starts st a).length=a.length
 | _,[]=>rfl
 | st,X::a=>by simp[starts,Lp]
theorem Wx:∀st a W,starts st (a++[W])=starts st a++[(st+a.flatten.length,W.length)]
 | st,[],W=>by rfl
 | st,X::a,W=>by
  simp only[kX,starts,Wx (st+X.length) a W,qX,bL];rw[show st+X.length+a.flatten.length=st+(X.length+a.flatten.length) by lia]
theorem K4:∀st a X Xs2,(starts st (a++X::Xs2))[a.length]?=some (st+a.flatten.length,X.length)
 | st,[],X,Xs2=>by rfl
 | st,A::a,X,Xs2=>by
  simp only[kX,starts,cC,zP,K4 (st+A.length) a X Xs2,qX,bL];rw[show st+A.length+a.flatten.length=st+(A.length+a.flatten.length) by lia]
theorem Ww(hz:Z.length=X.length+Y.length):∀st a,((starts st (a++X::Y::Xs2)).set a.length (st+a.flatten.length,X.length+Y.length)).eraseIdx (a.length+1)=starts st (a++Z::Xs2)
 | st,[]=>by
  simp[starts,hz,zm]
 | st,A::a=>by
  have b:=Ww (Xs2:=Xs2) hz (st+A.length) a;simp only[kX,starts,cC,List.set_cons_succ,List.eraseIdx_cons_succ,qX,bL];rw[show st+(A.length+a.flatten.length)=st+A.length+a.flatten.length by lia,b]
theorem WG{α β:Type}(f:α->β):∀(l:List α) n,(l.map f).eraseIdx n=(l.eraseIdx n).map f
 | [],_=>rfl
 | a::r,0=>rfl
 | a::r,n+1=>by show f a::(r.map f).eraseIdx n=_;rw[WG f r n];rfl
structure RI(rk:Keyed->Int)(a0 arr:Array Keyed)(pend:Array (Nat×Nat×Nat))(Xs:List (List Keyed))(S:List Keyed):Prop where
 pm:arr.toList.Perm a0.toList
 dec:arr.toList=Xs.flatten++S
 so:∀X∈Xs,bW rk X/\0<X.length
 ps:pend.toList.map ft=starts 0 Xs
theorem zpj{a:List (List Keyed)}(h:i+1<a.length):∃b X Y Xs2,a=b++X::Y::Xs2/\b.length=i:=by
 show⟨a.take i,a[i],a[i+1],a.drop (i+2),?_,by simp;lia⟩;rw[<-tN,<-tN,pI]
theorem Ux{b:Array (Nat×Nat×Nat)}{i a n:Nat}(h:b.toList.map ft=l)(e:l[i]?=some (a,n)):∃p,b[i]?=some (a,n,p):=by
 rw[<-h,bE,n5] at e;cases c:b[i]? with
 | none=>rw[c] at e;cases e
 | some t=>
  rw[c] at e;obtain⟨x,y,z⟩:=t;simp at e;obtain⟨rfl,rfl⟩:=e;show⟨z,rfl⟩
variable{M:Model}{A:br}{E:aa->ai->Prop}{s:ai}
theorem VF{rk:Keyed->Int}(R:Rk M A E s κ ok rk){st:SortSt}(u:kindOf st=κ)(w:failedOf st=none)(r:∀x∈f,ok x)
  (h:RI rk f (arrOf st) (pendingOf st) d S) (v:i+1<d.length)
  (q:∀c j,kindOf c=κ->failedOf c=none->RI rk f (arrOf c) (pendingOf c) j S->j.length+1=d.length->j.flatten.length=d.flatten.length->Q true c):wpS M A E s (mergeAt' i) Q st:=by
 obtain⟨a,X,Y,Xs2,rfl,rfl⟩:=zpj v;obtain⟨y,o⟩:=Ux h.ps (K4 0 a X (Y::Xs2));have p:=K4 0 (a++[X]) Y Xs2;rw[show a++[X]++Y::Xs2=a++X::Y::Xs2 by simp,bL,pJ] at p;obtain⟨pb,e⟩:=Ux h.ps p;rw[eO] at o e;rw[show(a++[X]).flatten.length=a.flatten.length+X.length by simp] at e;have n:=h.so X (by show eK _ (.head _));have m:=h.so Y (by simp);have hd:(arrOf st).toList=a.flatten++(X++(Y++(Xs2.flatten++S))):=by rw[h.dec];simp
 show zi3 R u w (λx t=>r x ?_) hd o e n.2 m.2 n.1 m.1 λZ g k zs=>?_
 .have:=h.pm.mem_iff.mp (qZ.mpr t);show qZ.mp this
 have l:Z.length=X.length+Y.length:=by rw[k.length_eq,bL]
 show q _ (a++Z::Xs2) rfl rfl ⟨?_,?_,λW b=>?_,?_⟩ (by simp only[bL,cC];rfl) (by simp[l];lia)
 .refine List.Perm.trans ?_ h.pm;rw[hd];show Iy _ ?_;rw[<-gh X];show k.append_right _
 .simp
 .rcases cj.mp b with b | b
  .exact h.so W (by show iy _ ‹_›)
  rcases bG.mp b with rfl | b
  .exact⟨zs,by lia⟩
  show h.so W (by simp[b])
 have:=Ww (X:=X) (Y:=Y) (Z:=Z) (Xs2:=Xs2) l 0 a;rw[<-this,<-h.ps,eO];rw[Array.toList_eraseIdxIfInBounds,Array.toList_setIfInBounds,<-WG,u6]
theorem ztC{rk:Keyed->Int}(h:Sl xs ys F.length m)(hd:xs.toList=F++S)(a:kM rk ys F.length n)(f:F.length+n<=xs.size):∃W d,ys.toList=F++(W++d)/\W.length=n/\bW rk W:=by
 have hsz:=h.size;have c:ys.toList.take F.length=F:=by
  have:ys.toList.take F.length=xs.toList.take F.length:=by
   apply pF;intro i;rw[zD,zD];split
   .rw[n5,n5];show h.out i (.inl (by assumption))
   rfl
  rw[this,hd,Pl]
 show⟨(ys.toList.drop F.length).take n,(ys.toList.drop F.length).drop n,?_,by simp;lia,?_⟩
 .rw[pI];conv=>lhs;rw[<-pI F.length ys.toList,c]
 show xi.mpr λi j g b k=>?_
 have e:j<n:=by simp at b;ext
 have:=a i j (by show cP ‹_›) e;unfold kr at this;rw[hJ (by lia),hJ (by lia)] at this;simpa[Dr,Ia] using this
variable{M:Model}{A:br}{E:aa->ai->Prop}{s:ai}
theorem zli(p:Array (Nat×Nat×Nat))(k f)(h:∀x,ft (f x)=ft x):(p.modify k f).toList.map ft=p.toList.map ft:=by
 apply pF;intro i;rw[bE,bE,n5,n5,Array.getElem?_modify];split
 .cases p[i]? with
  | none=>rfl
  | some x=>simp only[kd,h]
 rfl
theorem Uw:∀(a:List (List Keyed)),(∀X∈a,0<X.length)->a.length<=a.flatten.length
 | [],_=>bx _
 | X::a,h=>by
  have d:=h X (by show .head _);have c:=Uw a λY b=>h Y (by show .tail _ ‹_›)
  rw[qX,bL,cC];lia
theorem Sl.wide{lo n m:Nat}(h:Sl xs ys lo n)(a:n<=m):Sl xs ys lo m:=⟨h.pm,λj b=>h.out j (by lia)⟩
theorem zpk{d:Type}{f:Nat->StateT SortSt Sem d}{c:Prop}{_:Decidable c}{b:StateT SortSt Sem Bool}{u:StateT SortSt Sem d}{str:String}{x y:Nat}{Q:d->SortSt->Prop}{st:SortSt}(P:Nat->SortSt->Prop)(h:∀k a,P k a->wpS M A E s (f k) Q a)
  (i:c->wpS M A E s b (λr a=>r=true/\P x a) st) (j:¬c->P y st):wpS M A E s (if c then(rule str >>= λ_=>b >>= λr=>if (!r)=true then u else f x) else f y) Q st:=by
 split
 .rename_i e;show aK (xQ (aK (iP (i e) λr a g=>?_)));rw[g.1];show h _ _ g.2
 rename_i e;show h _ _ (j e)
theorem zpl{rk:Keyed->Int}(R:Rk M A E s κ ok rk){st:SortSt}(hk:kindOf st=κ)(hf:failedOf st=none)(hp:pendingOf st=#[])(J:∀x∈arrOf st,ok x)
  (q:∀e,(arrOf e).toList.Perm (arrOf st).toList->bW rk (arrOf e).toList->failedOf e=none->Q () e):wpS M A E s sortRuns' Q st:=by
 rw[sortRuns'_eq];show aK (n8 ?_);dsimp only;generalize hmr:minRun' (arrOf st).size (arrOf st).size 0=G;generalize hsz:(arrOf st).size=sz;have h0:RI rk (arrOf st) (arrOf st) (pendingOf st) [] (arrOf st).toList:=⟨HJ _,rfl,λX v=>(by cases v),by rw[hp];rfl⟩
 show aK (iP (i5 (I:=λi (c:Option Unit×Nat) e=>c.1=none/\kindOf e=κ/\failedOf e=none/\∃b S,RI rk (arrOf st) (arrOf e) (pendingOf e) b S/\b.flatten.length=c.2/\c.2<=sz/\i<=c.2)
  (Q:=λ(c:Option Unit×Nat) e=>c.1=none/\kindOf e=κ/\failedOf e=none/\∃b,RI rk (arrOf st) (arrOf e) (pendingOf e) b []) ?_ ?_ ⟨rfl,hk,hf,[],_,h0,rfl,cG _,bx _⟩) ?_)
 .rintro i ⟨c,lo⟩ e _ hi ⟨l,r,z,b,S,g,M6,hle,nI⟩;subst l M6;have as:(arrOf e).size=sz:=by rw[<-hsz,<-cU,<-cU];show g.pm.length_eq
  have W9:∀x∈arrOf e,ok x:=λx hx=>J x (qZ.mp (g.pm.mem_iff.mp (qZ.mpr hx)))
  have sl:b.flatten.length+S.length=sz:=by rw[<-as,<-cU,g.dec,bL]
  by_cases hd:b.flatten.length>=sz
  .rw[if_pos hd];have:S=[]:=QY.mp (by lia);subst this;show bo ⟨rfl,r,z,b,g⟩
  rw[if_neg hd];show aK (zm3 R r W9 (by simp_all) (by lia) λys n V U H WW=>?_);have Y:n<G->n<=min (sz-b.flatten.length) G/\min (sz-b.flatten.length) G<=sz-b.flatten.length:=λh=>by lia
  generalize min (sz-b.flatten.length) G=fr at Y ⊢;apply zpk (x:=fr) (y:=n) (λk a=>∃zs,a=setArr e zs/\Sl (arrOf e) zs b.flatten.length (sz-b.flatten.length)/\kM rk zs b.flatten.length k/\1<=k/\k<=sz-b.flatten.length);rotate_left
  .intro l;have f2:=Y l;show zlh R (st:=setArr e ys) r (H.ok W9) (show _<=ys.size by have:=H.size;lia) WW f2.1 λzs N O=>⟨rfl,zs,rfl,H.trans (N.wide f2.2),O,by lia,f2.2⟩
  .exact λ_=>⟨ys,rfl,H,WW,V,U⟩
  rintro n _ ⟨zs,rfl,Z,O,V,U⟩;obtain⟨W,F,dz,wl,ws⟩:=ztC Z g.dec O (by lia);have T:RI rk (arrOf st) zs (pendingOf e) b (W++F):=⟨(Array.perm_iff_toList_perm.mp Z.pm).trans g.pm,dz,g.so,g.ps⟩
  have ent:∀(a:SortSt)(d:List (List Keyed)),kindOf a=κ->failedOf a=none->RI rk (arrOf st) (arrOf a) (pendingOf a) d (W++F)->d.flatten.length=b.flatten.length->∃w D,RI rk (arrOf st) (arrOf a) ((pendingOf a).push (b.flatten.length,n,0)) w D/\w.flatten.length=b.flatten.length+n:=λa d m f2 f o=>by
   show⟨d++[W],F,⟨f.pm,by rw[f.dec];simp,λX v=>?_,?_⟩,by simp[o,wl]⟩
   .rcases cj.mp v with v | v
    .exact f.so X v
    simp at v;subst v;show⟨ws,by lia⟩
   rw[qW,bY,f.ps,Wx,o,wl,eO];rfl
  show aK (n8 ?_);cases hbk:(pendingOf (setArr e zs)).back? with
  | none=>
   show aK (mX (bo ?_));obtain⟨w,D,B,C⟩:=ent (setArr e zs) b r z T rfl;show⟨rfl,r,z,w,D,B,C,by lia,by lia⟩
  | some t=>
   obtain⟨s1,t1,p1⟩:=t;show aK (iP (i5 (I:=λj (c:Option Unit×Unit) a=>c.1=none/\kindOf a=κ/\failedOf a=none/\∃d,RI rk (arrOf st) (arrOf a) (pendingOf a) d (W++F)/\d.flatten.length=b.flatten.length)
    (Q:=λ(c:Option Unit×Unit) a=>c.1=none/\kindOf a=κ/\failedOf a=none/\∃d,RI rk (arrOf st) (arrOf a) (pendingOf a) d (W++F)/\d.flatten.length=b.flatten.length) ?_ ?_ ⟨rfl,r,z,b,T,rfl⟩) ?_)
   .rintro j ⟨c,⟨⟩⟩ a _ hj ⟨l,m,f2,d,f,o⟩;subst l;show aK (n8 ?_);have pl:(pendingOf a).size=d.length:=by
     have:=dN qS f.ps;rwa [ax,cU,Lp] at this
    by_cases big:(pendingOf a).size>1
    .rw[if_pos big,mW (show(pendingOf a).size-2<(pendingOf a).size by lia)];generalize (pendingOf a)[(pendingOf a).size-2]'(by lia)=u;obtain⟨u1,u2,u3⟩:=u;dsimp only;split
     .exact bo ⟨rfl,m,f2,d,f,o⟩
     show aK (VF R m f2 J f (by lia) λFK w K L B _ C=>?_);show bo ⟨rfl,K,L,w,B,by rw[C,o]⟩
    rw[if_neg big];show bo ⟨rfl,m,f2,d,f,o⟩
   .rintro⟨c,⟨⟩⟩ a h;show h
   rintro⟨c,⟨⟩⟩ a ⟨l,m,f2,d,f,o⟩;subst l;show aK (mX (aK (mX (bo ?_))));obtain⟨w,D,B,C⟩:=ent (setPending a ((pendingOf a).modify ((pendingOf a).size-1) λx=>(x.1,x.2.1,power' sz (2*s1+t1) (2*s1+t1+t1+n) sz))) d m f2 ⟨f.pm,f.dec,f.so,by rw[<-f.ps];show zli _ _ _ λx=>rfl⟩ o;show⟨rfl,m,f2,w,D,B,C,by lia,by lia⟩
 .rintro⟨c,lo⟩ e ⟨l,r,z,b,S,g,M6,hle,nI⟩;have as:(arrOf e).size=sz:=by rw[<-hsz,<-cU,<-cU];show g.pm.length_eq
  have sl:b.flatten.length+S.length=sz:=by rw[<-as,<-cU,g.dec,bL]
  have:S=[]:=QY.mp (by lia);subst this;show⟨l,r,z,b,g⟩
 rintro⟨c,lo⟩ e ⟨l,r,z,b,g⟩;subst l;have as:(arrOf e).size=sz:=by rw[<-hsz,<-cU,<-cU];show g.pm.length_eq
 have fl:b.flatten.length=sz:=by rw[<-as,<-cU,g.dec];simp
 have xl:=Uw b λX v=>(g.so X v).2
 show aK (iP (i5 (I:=λj (c:Option Unit×Unit) a=>c.1=none/\kindOf a=κ/\failedOf a=none/\∃d,RI rk (arrOf st) (arrOf a) (pendingOf a) d []/\d.length+j<=sz)
  (Q:=λ(c:Option Unit×Unit) a=>c.1=none/\kindOf a=κ/\failedOf a=none/\∃d,RI rk (arrOf st) (arrOf a) (pendingOf a) d []/\d.length<=1) ?_ ?_ ⟨rfl,r,z,b,g,by simp_all⟩) ?_)
 .rintro j ⟨c,⟨⟩⟩ a _ hj ⟨l,m,f2,d,f,o⟩;subst l;show aK (n8 ?_);have pl:(pendingOf a).size=d.length:=by
   have:=dN qS f.ps;rwa [ax,cU,Lp] at this
  by_cases P:(pendingOf a).size<=1
  .rw[if_pos P];show bo ⟨rfl,m,f2,d,f,by simp_all⟩
  rw[if_neg P];have ix:∀(p:Prop)[Decidable p],(if p then(pendingOf a).size-2-1 else(pendingOf a).size-2)+1<d.length:=λp _=>by split<;>ext
  show aK (VF R m f2 J f (ix _) λFK w K L B C _=>?_);show bo ⟨rfl,K,L,w,B,by lia⟩
 .rintro⟨c,⟨⟩⟩ a ⟨l,m,f2,d,f,o⟩;show⟨l,m,f2,d,f,by lia⟩
 rintro⟨c,⟨⟩⟩ a ⟨l,m,f2,d,f,o⟩;subst l;show bo (q a f.pm ?_ f2);rw[f.dec,gI];match d,o,f.so with
 | [],_,_=>show .nil
 | [X],_,so=>simpa using (so X (by show .head _)).1
open PySem.W
section
variable{n N:Nat}{r:Nat->Int}{s:ai}{p:Array Nat}{i j k m:Nat}
noncomputable def kp(r:Nat->Int)(p:Array Nat)(i:Nat):Int:=r (p.getD i 0)
def Pm(n:Nat)(p:Array Nat):Prop:=p.toList.Perm (aN n)
def Up(r:Nat->Int)(p:Array Nat)(m:Nat):Prop:=∀i j,i<=j->j<m->kp r p i<=kp r p j
end
section
variable{prog:aG}{w:aF}{A:br}{E:aa->ai->Prop}{s:ai}
structure Ky(prog:aG)(w:aF)(A:br)(s:ai)(κ:SortKind)(ok:Keyed->Prop)(rk:Keyed->Int):Prop where
 key:∀x y (C:Bool->ai->Prop),ok x->ok y->C (decide (rk x<rk y)) s->wpAny (model prog w) A (keyLt' κ x.1 y.1) C (λ_ _=>False) s
def wC(n:Nat):Prop:=∀{prog w A E s κ rk it}(R:Ky prog w A s κ (λx=>x∈it) rk){Q},it.size=n->
 (∀a,(arrOf a).toList.Perm it.toList->bW rk (arrOf a).toList->failedOf a=none->Q () a)->wpS (model prog w) A E s sortRuns' Q (pq κ it #[] 7 none)
structure Ask(prog:aG)(w:aF)(A:br)(E:aa->ai->Prop)(vs:List aa)(rk:Keyed->Int)(s:ai):Prop where
 ask:2<=vs.length->∃κ,(∀Q':SortKind->ai->Prop,Q' κ s->wpAny (model prog w) A (keyKind' vs.toArray) Q' E s)/\Ky prog w A s κ (λx=>x∈pairsOf vs) rk
theorem zm6{rk:Keyed->Int}(h:l.length<2):bW rk l:=by
 cases l with
 | nil=>show .nil
 | cons a r=>
  cases r with
  | nil=>show mU _ _
  | cons b t=>
   simp only[cC] at h;lia
theorem zi4{rk:Keyed->Int}(g:s.heap.get? a=some (seqObj "list" d.toArray n))(hl:d.length<=sizeLine)(v:2<=d.length->wC d.length)
  (R:∀h',(∀b o,b≠a->s.heap.get? b=some o->h'.get? b=some o)->Ask prog w A E d rk { s with heap:=h' })
  (h:∀f:SortSt,(arrOf f).toList.Perm (pairsOf d).toList->bW rk (arrOf f).toList->P (.done (.ret .none)) { s with heap:=sortedHeap s.heap a d ((arrOf f).map (·.2)) }) :
  wpAny (model prog w) A (Builtin.«list.sort» ⟨[.ref a],[]⟩) P E s:=by
 rw[list_sort_plain];have q:a<s.heap.objs.size:=bX g;show ag (listItems_at g rfl ?_);show ag (HF g rfl ?_ (by trivial) (cG _));obtain⟨m,r⟩:∃m,(s.heap.update a (gZ λ_=>#[])).get? a=some (seqObj "list" #[] m):=⟨_,get?_update_seq g (λ_=>#[])⟩
 show ag (Hs r rfl ?_);show ag (HI ?_ (by show hl));show ag (Pc ?_ (cG _));show fQ ?_;have j:(((s.heap.update a (gZ λ_=>#[])).push (seqObj "tuple" d.toArray 0)).push (seqObj "list" #[] 0)).get? a=some (seqObj "list" #[] m):=by
  rw[Dq _ _ _ (by rw[size_push',ve];show c7 (tH q)),Dq _ _ _ (by rw[ve];show c7 q)];show r
 have y:=R (((s.heap.update a (gZ λ_=>#[])).push (seqObj "tuple" d.toArray 0)).push (seqObj "list" #[] 0)) (λb o x e=>bZ _ (bZ _ ((lM _ _ (Ne.symm x)).trans e)));have fin:=h;by_cases i:d.toArray.size<2
 .rw[if_pos i,if_pos i];show ag (az ?_);show ag (az ?_);show ag (Hs j rfl ?_);show ag (HF j rfl ?_ (cG _) (by rw[Pk];show(pairsOf d).size<=_;rw[CP];show Ig hl));simp only[bne_self_eq_false,dW,cM];show az (fin (pq general' (d.toArray.zip d.toArray) #[] 7 none) (HJ _) ?_);show bW rk (pairsOf d).toList;show zm6 (by rw[cU,CP];walk_at"sb")
 rw[if_neg i,if_neg i];obtain⟨κ,t,kr⟩:=y.ask (by show vf ‹_›);show ag (t _ ?_)
 show ag (g7 (v (by show vf ‹_›) kr
  (Q:=λ_ f=>(arrOf f).toList.Perm (pairsOf d).toList/\bW rk (arrOf f).toList/\failedOf f=none) (CP d) λf a1 a2 a3=>⟨a1,a2,a3⟩) ?_ λ_ _ e=>e)
 rintro⟨⟨⟩,f⟩ z ⟨rfl,p,u,hf⟩;show ag (Hs j rfl ?_)
 show ag (HF j rfl ?_ (cG _) (by
  rw[Pk,<-cU,p.length_eq,cU,CP];show Ig hl))
 rw[hf];simp only[bne_self_eq_false,dW,cM];show az (fin f p u)
theorem aah{rk:Keyed->Int}(i:s.heap.IsList l a.toArray)(hz:a.length<=sizeLine)(g:2<=a.length->wC a.length)
  (R:∀h',(∀b o,s.heap.get? b=some o->h'.get? b=some o)->Ask prog w A.in1.in1 E a rk { s with heap:=h' })
  (h:∀c:SortSt,(arrOf c).toList.Perm (pairsOf a).toList->bW rk (arrOf c).toList->Q (.ref (s.heap.objs.size+1)) { s with heap:=sortedAll s.heap a ((arrOf c).map (·.2)) }) :
  wpAny (model prog w) A (call (.builtin "sorted") [.ref l]) Q E s:=by
 show Calls.call_function_entry kind_sorted plain_sorted entry_sorted (args_sorted1 _) ?_;show ag (m:=checkCount "sorted" 1 1 _) (az ?_);show ag (collect_list i ?_ hz);show ag (Pc ?_ hz);have hsz:((s.heap.push (seqObj "list" #[] 0)).update s.heap.objs.size (gZ (·++a.toArray))).objs.size=s.heap.objs.size+1:=by
  rw[ve,size_push']
 have f:(((s.heap.push (seqObj "list" #[] 0)).update s.heap.objs.size (gZ (·++a.toArray))).push (seqObj "list" a.toArray 0)).get? (s.heap.objs.size+1)=some (seqObj "list" a.toArray 0):=by
  rw[<-hsz];show c8 _ rfl
 have keep:∀b o,s.heap.get? b=some o->(((s.heap.push (seqObj "list" #[] 0)).update s.heap.objs.size (gZ (·++a.toArray))).push (seqObj "list" a.toArray 0)).get? b=some o:=λb o q=>by
  have d:b<s.heap.objs.size:=bX q;rw[Dq _ _ _ (by rw[hsz];show c7 (tH d)),Heap.get?_update_ne _ _ _ _ (c7 d),Dq _ _ _ (c7 d)];show q
 rw[hsz];show ag (fQ (m9 slot_list_sort ⟨_,f,rfl⟩ entry_list_sort (zi4 (rk:=rk) f hz g (λh' k=>R h' λb o e=>k b o (c7 (tH (bX e))) (keep b o e)) λc a1 a2=>⟨_,rfl,?_⟩) (args_list_sort _)));show az ⟨_,rfl,h c a1 a2⟩
end
theorem FR(n):wC n:=λR _ _ q=>zpl (ok:=λx=>x∈_) ⟨λx y st Q d c f q=>by
 rw[lt'_eq];show aK (n8 ?_);rw[f]
 show aK (wpS_lift (u7 (g7 (R.key x y (λb a=>a=_/\b=decide _) d c ⟨rfl,rfl⟩) (λb a ⟨h,g⟩=>⟨h,by subst g;show bo q⟩) λ_ _ z=>z.elim)))⟩ rfl rfl rfl (λx e=>e) q
end Ts
namespace HT
end HT
namespace Ts
open PySem PySem.W PyProof.Rows
section
variable{w:aF}{A:br}{s:ai}
noncomputable def Jc(h:ay)(v:aa):List Int:=match v with
 | .ref a=>match h.get? a with
  | some o=>match o.data with
   | .seq xs _=>numsOf xs.toList
   | _=>[]
  | none=>[]
 | _=>[]
def ZZ(h:ay)(v:aa):Prop:=∃a o xs n,v=.ref a/\h.get? a=some o/\o.cls=.type "tuple"/\o.data=.seq xs n/\IntsAre xs.toList (Jc h v)/\Jc h v≠[]
theorem zm7(k:∀b o,h.get? b=some o->h'.get? b=some o):∀{its},(∀v∈its,ZZ h v)->∃fs,KatTups h' its fs/\fs.length=its.length/\∀v∈fs,∃n t,v=wN n t
 | [],_=>⟨[],.nil,rfl,λv hv=>by cases hv⟩
 | v::r,hv=>by
  obtain⟨fs,j,i,h3⟩:=zm7 k (its:=r) λx c=>hv x (cK _ c)
  obtain⟨a,o,xs,n,rfl,f,g,hd,d,e⟩:=hv v cT;generalize Jc h (.ref a)=t at d e;generalize c:xs.toList=l at d;cases d with
  | nil=>show absurd rfl e
  | cons m u p=>
   have h0:xs[0]?=some (.int m u):=by rw[<-n5,c];rfl
   show⟨.int m u::fs,O5 (k _ _ f) g hd h0 j,by simp[i],λx c=>by
    rcases bG.mp c with rfl | c
    .exact⟨_,_,rfl⟩
    .exact h3 x c⟩
end
end Ts
namespace L2
open PySem PySem.Spec PyProof.Rows
theorem VS{α β:Type}{f:α->β}{a b:List β}(h:a.Perm b):∀{L},b=L.map f->∃c:List α,c.Perm L/\a=c.map f:=by
 induction h with
 | nil=>intro L e;show⟨[],by rw[show L=[] from by simpa using e.symm],rfl⟩
 | cons x h k=>
  intro L e;cases L with
  | nil=>cases e
  | cons y L=>
   injection e with n m
   obtain⟨c,j,i⟩:=k m;show⟨y::c,j.cons y,by rw[bD,n,i]⟩
 | swap x y l=>
  intro L e;match L,e with
  | [],e=>cases e
  | [_],e=>cases e
  | u::v::L,e=>
   simp only[bD,lN.injEq] at e;show⟨v::u::L,YZ u v L,by simp[e]⟩
 | trans j i g d=>
  intro L e;obtain⟨L2,a1,a2⟩:=d e;obtain⟨q,p,o⟩:=g a2;show⟨q,p.trans a1,o⟩
theorem Uv{α:Type}{f:α->V}{g:α->aa}:∀{L:List α},(∀q∈L,RelV (f q) (g q))->Vals (L.map f) (L.map g)
 | [],_=>.nil
 | q::L,h=>.cons (h q cT) (Uv λx a=>h x (cK _ a))
theorem Uu{α:Type}{K:aj}{f:α->V}{g:α->D}:∀{L:List α},(∀q∈L,Rep K G (f q) (g q))->ao K G (L.map f) (L.map g)
 | [],_=>ao.nil
 | q::L,h=>ao.cons (h q cT) (Uu λx a=>h x (cK _ a))
theorem K3:∀{a us},Vals (a.map kV) us->ItemsAre (ja P w) a us
 | [],_,r=>by rw[tu] at r;cases r;show .nil
 | k::a,_,r=>by
  rw[bD] at r;cases r with
  | cons h t=>show .cons (zu8 h) (K3 t)
abbrev KT(H:Hp):List (List Key×V)->List (List Key×ab×aa)->Prop:=Paired λp q=>p.1=q.1/\H q.2.1=some (.tup (p.1.map kV))/\RelV p.2 q.2.2
theorem KT.val(r:KT H kvs xs)(k):qN (e8 kvs k) ((atKey xs k).map (·.2)):=by
 induction r with
 | nil=>show u0
 | @cons p q ps a h t f=>
  obtain⟨d,_,g⟩:=h;by_cases e:p.1=k
  .have c:q.1=k:=d.symm.trans e;have b:atKey (q::a) k=some q.2:=by simp[atKey,kU,c]
   rw[Vo e,b];show g
  have c:¬q.1=k:=λz=>e (d.trans z)
  have b:atKey (q::a) k=atKey a k:=by simp[atKey,kU,c]
  rw[Vn e,b];show f
theorem KT.vY(r:KT H kvs xs)(k)(c:RelV y u) :
  KT H (kvs.map λkv=>if kv.1=k then(kv.1,y) else kv) (xs.map (putAt k u)):=by
 induction r with
 | nil=>show .nil
 | @cons p q ps f h t d=>
  rw[bD,bD];show .cons ?_ d;obtain⟨a,b,h3⟩:=h;unfold putAt;by_cases e:p.1=k
  .rw[if_pos e,if_pos (a.symm.trans e)];show⟨a,b,c⟩
  rw[if_neg e,if_neg (λz=>e (a.trans z))];show⟨a,b,h3⟩
theorem KT.put(r:KT H kvs xs)(k)(c:H b=some (.tup (k.map kV)))(a:RelV y u) :
  KT H (ni kvs k y) (storedH xs k b u):=by
 have e:(kvs.any λkv=>decide (kv.1=k))=(atKey xs k).isSome:=by
  rw[KC,(r.val k).Ga,Dp]
 unfold ni storedH;rw[e];by_cases q:(atKey xs k).isSome=true
 .rw[if_pos q,if_pos q];show r.vY k a
 rw[if_neg q,if_neg q];show OU r ⟨rfl,c,a⟩
theorem KT.keeps(r:KT H kvs xs)(a:∀b ys,H b=some (.tup ys)->H' b=some (.tup ys)):KT H' kvs xs:=
 Paired.Xi r λ_ _ z=>⟨z.1,a _ _ z.2.1,z.2.2⟩
theorem R0(ok:fH P w H h)(e:Rd H a u):fP P w H h a u:=e.ok ok
theorem vJ(ok:fH P w H h)(e:H a=some (.tup (b.map kV))):(tupleKind (ja P w)).is h b a:=by
 obtain⟨_,its,r,o,d,c,n,h3⟩:=(show fP P w H h a (.tup (b.map kV)) from ok a _ e)
 show⟨o,its.toArray,n,d,c,h3,by simpa using K3 r⟩
end L2
namespace PySem
open Sem (wp)
section
variable{prog:aG}{w:aF}{K:Type}[DecidableEq K]{knd:HeapKind prog w K}{A:br}{E:aa->ai->Prop}{s:ai}
theorem zfo{d a:ab}{xs:List (K×ab×aa)}{k:K}{b:aa}{Q:aa->ai->Prop}(t:knd.room A)(g:knd.is s.heap k a)(C:s.heap.DictOfH knd d xs)
  (there:∀p,atKey xs k=some p->Q p.2 { s with toks:=s.toks+knd.draws k })
  (new:atKey xs k=none->∀h',h'.DictOfH knd d (storedH xs k a b)->oh d s.heap h'->Q b { s with heap:=h',toks:=s.toks+knd.draws k })
  (hsz:xs.length<=sizeLine):wpAny (model prog w) A (dictSetDefault d (.ref a) b) Q E s:=by
 obtain⟨o,l,F,f,D,hd,he,B,i⟩:=C;unfold dictSetDefault;try with_reducible show fQ ?_
 show ag (knd.pyHash t g (ag (wpAny_dictFind_heap (s:={ s with toks:=s.toks+knd.draws k }) t g f hd he B i (λn=>?_) λj p u=>?_)))
 .have e:=atKey_none_of_get n;have nw:=new e;rw[storedH_new e] at nw;have m:k∉xs.map (·.1):=not_mem_keys_of_get n;have G:l.size<=sizeLine:=by have:=size_of_entries he;simp_all
  show ag (tj (ag (wpAny_updateDictKeys (hz:=G) (s:={ s with toks:=s.toks+knd.draws k }) f hd (az (nw _ ⟨_,_,F+1,mT _ f (Obj.isFreed_of_dict (Qt hd _)),
   D.mapDictKeys _,Qt hd _,by simp[he,entryOfKey],λx c=>?_,?_⟩ (vo ..))))))
  .have keep:∀{q:K}{v:ab},knd.is s.heap q v->knd.is (s.heap.update d (Obj.mapDictKeys λl=>l.push ⟨knd.hash k,.ref a,b⟩)) q v:=λh=>knd.keeps h f hd (vo ..)
   rcases cj.mp c with c | c
   .exact keep (B x c)
   rw[du.mp c];show keep g
  rw[bY,pG];show⟨i,by show mU _ _,λx c y r z=>m (by rw[List.map_singleton,du] at r;rw[<-show x=k from z.trans r];show c)⟩
 show ag (vg (s:={ s with toks:=s.toks+knd.draws k }) f hd ?_);rw[entry_at he j,u];show ag (tj (az (there p (atKey_of_get i u))))
theorem zcT{d a:ab}(hd:(d==sysModules)=false)(b:aa) :
  MeetsIn prog w (Builtin.«dict.setdefault» ⟨[.ref d,.ref a,b],[]⟩) (λA R s=>∃k xs,knd.room A.in1/\knd.is s.heap k a/\s.heap.DictOfH knd d xs/\xs.length<=sizeLine/\
   (∀p,atKey xs k=some p->R (.ok (.ret p.2)) { s with toks:=s.toks+knd.draws k })/\
   (atKey xs k=none->∀h',h'.DictOfH knd d (storedH xs k a b)->oh d s.heap h'->R (.ok (.ret b)) { s with heap:=h',toks:=s.toks+knd.draws k })):=
 .of_wp λA R s ⟨k,xs,e,h,hm,hz,j,i⟩=>by
  show ag ?_;show ag (DF hm.typeIs ?_);show az ?_;show wpAny _ _ (if (d==sysModules)=true then _ else(dictSetDefault d (.ref a) b >>= _)) _ _ s;rw[if_neg (by rw[hd];show eJ)];show ag (zfo e h hm (λp f=>az ⟨p.2,rfl,j p f⟩) (λg h' c l=>az ⟨b,rfl,i g h' c l⟩) hz)
end
def nV(h:ay)(d:ab)(a:Array DictEntry)(b:Nat):Prop:=∃o,h.get? d=some o/\o.ExactDict/\o.data=.dict a b
theorem nV.kept(x:nV h d a b)(k:∀o,h.get? d=some o->h'.get? d=some o):nV h' d a b:=let⟨o,c,r⟩:=x;⟨o,k o c,r⟩
section
variable{s:ai}
theorem nV.ty(x:nV s.heap d es ep):s.TypeIs (.ref d) "dict":=let⟨o,a,b,_⟩:=x;⟨o,a,b.1⟩
theorem zpm(hd:(d==sysModules)=false)(x:nV s.heap d es ep)
  (q:Q (.ref s.heap.objs.size) { s with heap:=s.heap.push { cls:=.type "dict_keyiterator",data:=.fields #[.ref d,.int 0 0,.int es.size 0,.int ep 0] } }):wpAny (model prog w) A (pyIter (.ref d)) Q E s:=by
 obtain⟨c,b,_,a⟩:=id x;show HZ x.ty PJ (m9 PJ x.ty F.entry_dict_iter ?_ (F.args_dict_iter_1 _));show ag (m:=Zt _ _) ?_;show ag (DF x.ty (show wpAny _ _ (pure (fi d)) _ _ s from az ?_));show wpAny _ _ (Iw d >>= _) _ _ s;unfold Iw;rw[if_neg (by rw[hd];show eJ)];show ag (az (ag (vg b a (ag (wU b a (ag (kR (az ⟨_,rfl,"dict_keyiterator",_,⟨_,c8 _ rfl,rfl⟩,F.slot_dict_keyiterator_next.lookup,?_⟩))))))));trivial
theorem zpn(t:s.heap.IsKeyIter it d i es.size ep)(x:nV s.heap d es ep)(f)
  (q:∀h',h'.IsKeyIter it d (i+1) es.size ep->oh it s.heap h'->Q (some es[i].key) { s with heap:=h' }):wpAny (model prog w) A (pyNext (.ref it)) Q E s:=by
 obtain⟨h,b,g,a⟩:=id t;obtain⟨j,e,_,c⟩:=id x;show ag (u7 (vv (name:=fI "__next__") t.typeIs DK
  (m9 DK t.typeIs Ri ?_ (Rm _))))
 show ag (az (ag (ag ?_)));show ag (DM t.typeIs (az (ag (C3 b a ?_))));show ag (az (ag (vg e c ?_)));rw[if_neg (by simp)];show ag (az (ag (wU e c ?_)));rw[if_neg (by simp)];show az ?_;simp only[show ¬((i:Int)<0) from by simp_all,cM,jJ,mW f];show ag (ag (DM t.typeIs (az (ag (QC t.typeIs ?_)))));show wpAny _ _ (setField (.ref it) 1 (rawInt ((i:Int)+1)) >>= _) _ _ s;show ag (C2 b a (by simp) ?_);have t':(s.heap.update it (zk (·.setIfInBounds 1 (rawInt ((i:Int)+1))))).IsKeyIter it d (i+1) es.size ep:=
  ⟨_,mT _ b (QB (Dw a _)),(P2 ..).trans g,by rw[Dw a];rfl⟩
 show ag (fQ (ag (QC (s:={ s with heap:=s.heap.update it (zk (·.setIfInBounds 1 (rawInt ((i:Int)+1)))) }) t'.typeIs ?_)));show az (az ⟨_,rfl,az (q _ t' (vo ..))⟩)
theorem zrH(j:A.handled=none)(t:s.heap.IsKeyIter it d i es.size ep)(x:nV s.heap d es ep)(h:es.size<=i)
  (q:∀h',Ht it s.heap h'->Q none { s with heap:=h' }):wpAny (model prog w) A (pyNext (.ref it)) Q E s:=by
 obtain⟨k,c,n,e⟩:=id t;obtain⟨l,g,_,f⟩:=id x;show ag (u7 (vv (name:=fI "__next__") t.typeIs DK
  (m9 DK t.typeIs Ri ?_ (Rm _))))
 show ag (az (ag (ag ?_)));show ag (DM t.typeIs (az (ag (C3 c e ?_))));show ag (az (ag (vg g f ?_)));rw[if_neg (by simp)];show ag (az (ag (wU g f ?_)));rw[if_neg (by simp)];show az ?_;simp only[show ¬((i:Int)<0) from by simp_all,cM,jJ,IA h];show ag (ag (DM t.typeIs (az ?_)));show wpAny _ _ (setField (.ref it) 0 .none >>= _) _ _ s;show ag (C2 c e (by show iq _) ?_);show ag ?_;show ag (kR (ag (m:=firstArgMember _ _) (Hr (a:=j9) (by first | rfl | (rfl)) (kR ?_ (by size_fits)))) (by size_fits));show ag (Pb ?_);rw[show A.in1.handled=none from j];show ag (az (wpAny_throw ?_));show ag (Dh (T:="StopIteration") (b:=true) ⟨_,c8 _ rfl,rfl⟩ HH ?_);show az (q _ (((vo ..).extBut.push _).push _))
end
end PySem
namespace L2
open PySem PySem.Spec PyProof.Rows
def IsT(H:Hp)(a:ab):Prop:=∃kvs bs,Rd H a (.dT kvs bs)
theorem vI(ok:fH P w H h)(e:Rd H a (.dT kvs bs)):kvs.length<=sizeLine/\(a==sysModules)=false/\
  ∃xs,xs.map (λx=>x.2.1)=bs.1/\KT H kvs xs/\h.DictOfH (tupleKind (ja P w)) a xs:=by
 obtain⟨z,y,xs,s,r,o,k,n,j,i,h3,g,f⟩:=(show fP P w H h a (.dT kvs bs) from R0 ok e)
 have all:∀{l:List (List Key×V)}{m:List (List Key×ab×aa)},KT H l m->∀x∈m,(tupleKind (ja P w)).is h x.1 x.2.1:=λ{l m} q=>by
  induction q with
  | nil=>show λx b=>nomatch b
  | @cons p q ps u c t d=>
   intro x b;cases b with
   | head=>show vJ ok (by rw[<-c.1];show c.2.1)
   | tail _ b=>show d x b
 show⟨z,y,xs,s,r,o,k,n,j,i,h3,g,all r,f.1⟩
def ZY:TE:=λ_ H Q=>∀p,H p=none->Q (.ref p) (upd H p (.dT [] ([],0)))
section
variable{X:Cx}{e i':av}{te ti:TD}
theorem Tx:PE X (.Dict [] [] pos) ZY:=λb s σ H Q I h=>by
 have ok:fP X.prog X.w (upd H s.heap.objs.size (.dT [] ([],0))) (s.heap.push { cls:=.type "dict",data:=.dict #[] }) s.heap.objs.size (.dT [] ([],0)):=
  ⟨cG _,beq_eq_false_iff_ne.mpr (Ne.symm (c7 I.big)),[],rfl,.nil,_,#[],0,c8 _ rfl,⟨rfl,rfl,rfl⟩,rfl,rfl,Po,rfl⟩
 show wpAny_Dict_empty ⟨.ref s.heap.objs.size,_,I.laid (a:=s.heap.objs.size) (o:=.dT [] ([],0)) (t':=s.toks) (λ_ _ q=>bZ _ q) (bx _) ok,rfl,h _ (I.aW.fresh (bx _))⟩
theorem JK{f:St}(I:Inv X i f H s)(d:IsT H a) :
  s.TypeIs (.ref a) "dict"/\(∀b,fi a=.ref b->∃ob,s.heap.get? b=some ob/\ob.dict=none)/\(a==sysModules)=false:=by
 obtain⟨kvs,bs,e⟩:=d;obtain⟨_,hd,xs,_,_,c⟩:=vI I.aW e;show⟨c.typeIs,λb q=>?_,hd⟩;cases q;obtain⟨ob,_,_,h,g,_⟩:=c;show⟨ob,h,g.2.1⟩
def ZX(e ty d:TE):TE:=λσ H Q=>e σ H λx H1=>∃a,x=.ref a/\IsT H1 a/\ty σ H1 λy g=>d σ g λz c=>∃kvs bs k b,c a=some (.dT kvs bs)/\y=.ref b/\c b=some (.tup (k.map kV))/\kvs.length<sizeLine/\
 (∀v,e8 kvs k=some v->Q v c)/\(e8 kvs k=none->∀f,Q z (upd c a (.dT (kvs++[(k,z)]) (bs.1++[b],f))))
theorem zrI(hu:X.A.units+64<cLine)(ho:PE X o J)(he:PE X e ty)(hf:PE X f E)(m:M2 X o "setdefault" g e f S):PE X (.Call (.Attribute o "setdefault" g) [e,f] [] S) (ZX J ty E):=by
 intro C s σ H Q I h;show P1 m.base m.lK m.line IE Rh PySem.F.type_dict_setdefault (aR (ho C s σ H _ I h) λu s1 j=>?_);obtain⟨x,H1,V,Z,a,ex,d,q1⟩:=j;subst ex;obtain rfl:u=fi a:=Z;obtain⟨t1,W,_⟩:=JK V d;show⟨t1,W,?_⟩;rw[m.trees];show zN rfl (Iq (vn (aR (he C s1 σ H1 _ V q1) λiv s2 j=>?_)));obtain⟨y,H2,I2,Y,q2⟩:=j;show vn (aR (hf C s2 σ H2 _ I2 q2) λR s3 j=>?_);obtain⟨z,D,t,K,kvs,bs,k,b,v,ey,N,hl,q3,q4⟩:=j;show zC ?_;subst ey;obtain rfl:iv=fi b:=Y;obtain⟨hz,hd,xs,bq,rel,U⟩:=vI t.aW (.inl v);have hlen:kvs.length=xs.length:=tw rel;show Hw Rh U.typeIs PySem.F.entry_dict_setdefault (PySem.F.args_dict_setdefault_3 _ _ _) (zcT (knd:=tupleKind (ja X.prog X.w)) hd R)
  ⟨k,xs,vh (by grind),vJ t.aW N,U,by rw[<-hlen];show hz,λp hp=>?_,λM h' NM hs=>?_⟩
 .have r:=rel.val k;rw[hp] at r;cases i:e8 kvs k with
  | none=>rw[i] at r;show r.elim
  | some x=>
   rw[i] at r;show⟨x,D,t.tok _,r,q3 x i⟩
 have r:=rel.val k;rw[M] at r;cases i:e8 kvs k with
 | some=>rw[i] at r;show r.elim
 | none=>
  obtain⟨q,es,n,L,h2,h3,P,_,O⟩:=NM;rw[storedH_new M] at P O;have B:KT D (kvs++[(k,z)]) (xs++[(k,b,R)]):=OU rel ⟨rfl,N,K⟩;have ok:fP X.prog X.w (upd D a (.dT (kvs++[(k,z)]) (bs.1++[b],n))) h' a (.dT (kvs++[(k,z)]) (bs.1++[b],n)):=by
   show⟨by simp;walk_at"sb",hd,_,by rw[bY,bq];rfl,B.keeps λc ys T=>?_,q,es,n,L,h2,h3,P,O,rfl⟩;rw[bA (Sh T v (λz=>nomatch z))];show T
  show⟨z,_,Uj t (by rw[v];show u0) hs ⟨q,L⟩ ok,K,q4 i n⟩
def z9:TD:=λ_ Q=>Q (.ov (.dt []))
theorem Kz:PD X (.Dict [] [] pos) z9:=by
 show⟨_,Tx,λρ σ c b G H Q P E h k=>λd hd=>?_⟩;show k _ _ (.ov (.dt [])) G (.own E.e.s hd) ⟨d,[],rfl,by show mU _ _,⟨[],([],0),dQ,trivial,rfl,rfl,by trivial⟩,λq a=>?_⟩ h;simp only[du] at a;subst a;show⟨hd,E.e.s.free hd⟩
theorem zlj{k:List Key}{j:Nat}(h:b[j]?=some (k,v))(d:∀c<j,∀p,b[c]?=some p->p.1≠k):e8 b k=some v:=by
 induction b generalizing j with
 | nil=>trivial
 | cons a b e=>
  unfold e8;rw[kU];cases j with
  | zero=>
   simp_all
  | succ j=>
   have g:a.1≠k:=d 0 (iq _) a rfl;simp only[g,gc];show e h λc f p i=>d (c+1) (Nat.succ_lt_succ f) p (by trivial)
theorem Wy{k:List Key}:(b.any λkv=>decide (kv.1=k))=(e8 b k).isSome:=by
 induction b with
 | nil=>rfl
 | cons a b c=>
  unfold e8;grind
theorem VR{α β:Type}{a:List (List Key×α)}{kvs:List (List Key×β)}(h:a.map (·.1)=kvs.map (·.1))(k):(a.any λkv=>decide (kv.1=k))=kvs.any λkv=>decide (kv.1=k):=by
 have c:(a.any λkv=>decide (kv.1=k))=(a.map (·.1)).any λx=>decide (x=k):=by rw[Hv];rfl
 have b:(kvs.any λkv=>decide (kv.1=k))=(kvs.map (·.1)).any λx=>decide (x=k):=by rw[Hv];rfl
 rw[c,b,h]
theorem eX.snoc(a:H b=some (.tup (k.map kV))):∀{ps bs},eX H ps bs->eX H (ps++[(k,v)]) (bs++[b])
 | [],[],_=>⟨a,trivial⟩
 | p::ps,c::bs,h=>⟨h.1,eX.snoc a h.2⟩
 | [],_::_,h=>h.elim
 | _::_,[],h=>h.elim
theorem znd{k:List Key}(h:e8 a k=none):e8 (a++[(k,v)]) k=some v:=by
 unfold e8 at h ⊢;rw[PZ];rw[zM] at h;rw[h];simp
noncomputable def iT:List D->Option (List Key)
 | []=>some []
 | d::r=>match zU d,iT r with
  | some k,some a=>some (k::a)
  | _,_=>none
theorem vT{K:aj}:∀{ds b a},ao K G b ds->iT ds=some a->b=a.map kV
 | [],[],a,_,h=>by simp only[iT,gK] at h;subst h;rfl
 | d::ds,v::b,a,r,h=>by
  simp only[iT] at h;split at h
  .rename_i k f e c;simp only[gK] at h;subst h;rw[zph r.1 e,vT r.2 c];rfl
  cases h
 | [],_::_,_,r,_=>by simp only[ao] at r
 | _::_,[],_,r,_=>by simp only[ao] at r
noncomputable def gQ(kvs:List (List Key×List D))(k:List Key):List (List Key×List D):=if (kvs.any λkv=>decide (kv.1=k))=true then kvs else kvs++[(k,[])]
end
section
variable{X:Cx}{e i':av}{te ti:TD}
theorem VE:∀{l₁:List α}{l₂:List β},Paired F l₁ l₂->∀{i:Nat}{a b},l₁[i]?=some a->l₂[i]?=some b->F a b
 | _,_,.nil,i,a,b,e,_=>by trivial
 | _,_,.cons r t,0,a,b,d,c=>by
  simp_all
 | _,_,.cons r t,i+1,a,b,d,c=>by
  show VE t d c
def zvi:cg:=λds Q=>match ds with
 | [.dit kvs]=>∃a:List (List Int),kvs.map (·.1)=a.map (λt=>t.map tf)/\a.length<64/\(∀t∈a,t≠[])/\∀b:List (List Int),b.Perm a->b.Pairwise (λx y=>HT.Xm x y=false)->Q (.ow (b.map λt=>.tup (t.map D.int)))
 | _=>False
theorem bC.keys{K:aj}:∀{c kvs},bC K G c kvs->c.map (·.1)=kvs.map (·.1)
 | [],[],_=>rfl
 | a::c,b::kvs,h=>by
  rw[bD,bD,h.1.1,bC.keys h.2]
 | [],_::_,h=>by simp only[bC] at h
 | _::_,[],h=>by simp only[bC] at h
theorem eX.at:∀{ps bs}{i:Nat}{b k},eX H ps bs->bs[i]?=some b->(ps.map (·.1))[i]?=some k->H b=some (.tup (k.map kV))
 | p::ps,c::bs,0,b,k,h,a,d=>by
  simp only[vt,gK,bD] at a d;subst a d;show h.1
 | p::ps,c::bs,i+1,b,k,h,a,d=>by
  show eX.at h.2 a d
 | [],[],_,_,_,_,a,_=>by trivial
 | [],_::_,_,_,_,h,_,_=>h.elim
 | _::_,[],_,_,_,h,_,_=>h.elim
def ztE(K:aj)(d ty:TE):TE:=λσ H Q=>d σ H λx H1=>ty σ H1 λy c=>∃a b kvs bs k v,x=.ref a/\y=.ref b/\Rd c a (.dT kvs bs)/\cz K c b (k.map kV)/\e8 kvs k=some v/\Q v c
theorem VD(S:X.A.units+64<cLine)(C:PE X o f)(D:PE X i ty)(z:DR i):PE X (.Subscript o i pos) (ztE X.K f ty):=by
 intro j s σ H Q I h;show zrD PySem.F.slot_dict_getitem.lookup z (aR (C j s σ H _ I h) λu s1 d=>?_);obtain⟨x,H1,O,m,r⟩:=d;show aR (D j s1 σ H1 _ O r) λiv s2 d=>?_
 obtain⟨y,P,e,l,a,b,kvs,bs,k,v,ex,L,G,E,hv,q⟩:=d;subst ex L;obtain rfl:u=fi a:=m;obtain rfl:iv=fi b:=l;obtain⟨_,hd,xs,_,rel,g⟩:=vI e.aW G;obtain⟨its,n,⟨o1,g1,N,t,M⟩,_⟩:=e.tuple E;have key:(tupleKind (ja X.prog X.w)).is s2.heap k b:=⟨o1,its.toArray,t,g1,N,M,by simpa using K3 n⟩
 obtain⟨R,hw,J⟩:=qN.some_of (v:=v) (o:=(atKey xs k).map (·.2)) (by rw[<-hv];show rel.val k);obtain⟨p,B,c⟩:=i4.mp hw;show⟨g.typeIs,wpAny_getItem_heap (vh (by lia)) key g B ?_⟩;rw[c];show⟨v,P,e.tok _,J,q⟩
noncomputable def iS(kvs:List (List Key×D))(k:List Key):Option D:=(kvs.find? λkv=>decide (kv.1=k)).map (·.2)
def Jy(te ti:TD):TD:=λρ Q=>te ρ λr=>ti ρ λrk=>match r.val,rk.val with
 | .dit kvs,.tup a=>∃k d,iT a=some k/\iS kvs k=some d/\Q (.fz d)
 | _,_=>False
theorem bC.look{K:aj}:∀{c kvs},bC K G c kvs->iS kvs k=some d->∃v,e8 c k=some v/\Rep K G v d
 | [],[],_,e=>by trivial
 | a::c,b::kvs,h,e=>by
  simp only[bC] at h;unfold iS at e;unfold e8;rw[kU] at e ⊢;rw[h.1.1];by_cases f:b.1=k
  .simp_all
  simp only[f,gc] at e ⊢;show bC.look h.2 e
 | [],_::_,h,_=>by simp only[bC] at h
 | _::_,[],h,_=>by simp only[bC] at h
theorem Av(I:X.A.units+64<cLine)(he:PD X e te)(N:PD X i' ti)(J:DR i':=by intro _ _;rfl):PD X (.Subscript e i' pos) (Jy te ti):=by
 obtain⟨t,p,q⟩:=he;obtain⟨t2,C,B⟩:=N;show⟨_,VD I p C J,λρ σ n m G H Q P E h k=>q ρ σ n m G H _ _ E h λv H1 r G1 x y K=>?_⟩;obtain⟨Z,i,j,_⟩:=y.freeze x;show B ρ σ n m Z H1 _ _ (E.ext i) K λu W rk G3 o D f=>?_
 obtain⟨Y,c,l,_⟩:=D.freeze o;split at f
 .rename_i kvs es V U;obtain⟨key,d,M,L,f⟩:=f;rw[V] at j;rw[U] at l;obtain⟨a,F,bs,rfl,R,uG,z⟩:=j;obtain⟨b,ys,rfl,O,T⟩:=l;obtain⟨w,hw,S⟩:=(bC.mono c.g _ _ z).look L;show⟨a,b,F,bs,key,w,rfl,rfl,.inl (c.s _ _ (c.g _ _ R)),by rw[<-vT T M];show c.s.ui O,hw,k w W (.fz d) Y (i.trans c) S f⟩
 show f.elim
end
section
variable{K:aj}
theorem bh.unset(E:bh K G0 H0 ρ σ G H):bh K G0 H0 (ρ.set i .un) (σ.set i u) G H:=by
 have a:∀j s,gt (ρ.set i .un) j=s->s≠.un->i≠j/\gt ρ j=s:=λj s e f=>by
  rw[lg] at e;by_cases h:i=j/\j<ρ.length
  .rw[if_pos h] at e;show absurd e.symm f
  rw[if_neg h] at e;show⟨λz=>h ⟨z,tU e f⟩,e⟩
 have ss:∀j,i≠j->(σ.set i u)[j]?=σ[j]?:=λj h=>by rw[zB,if_neg h]
 obtain⟨own,o1,q⟩:=E.on;show⟨E.e,by simp[E.len],λj d h=>?_,λj ds h=>?_,λj k ds m l c b=>?_,own,λj ds p h r=>?_,λj o h=>?_⟩
 .obtain⟨n,h⟩:=a j _ h (by simp);rw[ss j n];show E.fz j d h
 .obtain⟨n,h⟩:=a j _ h (by simp);rw[ss j n];show E.ow j ds h
 .obtain⟨n,c⟩:=a j _ c (by simp);obtain⟨g,b⟩:=a k _ b (by simp);rw[ss j n,ss k g];show E.dj j k ds m l c b
 all_goals grind
end
end L2
namespace PySem
open Sem (wp)
end PySem
namespace L2
open PySem PySem.Spec PyProof.Rows
end L2
namespace PySem
open Sem (wp)
end PySem
namespace L2
open PySem PySem.Spec PyProof.Rows
namespace SI
open PySem PySem.Spec PyProof.Rows
structure Kn(prog:aG)(w:aF) where
 κ:Type
 dec:DecidableEq κ
 knd:Pj prog w κ
 to:κ->Tok->aa
 un:aa->κ
 acg:∀x t,knd.is x (to x t)=true
 shape:∀x v,knd.is x v=true->∃t,v=to x t
 ab7:∀x t,un (to x t)=x
 sc:∀x t,(to x t).scannable=true
 hv:∀x t,∃b,hashByValue 8 (to x t)=pure b
instance {prog:aG} {w:aF} (kn:Kn prog w):DecidableEq kn.κ:=kn.dec
end SI
end L2
namespace L2
open PySem PySem.Spec PyProof.Rows
namespace SI
end SI
end L2
namespace L2
open PySem PySem.Spec PyProof.Rows
section
variable{P:aG}{w:aF}{K:aj}{mg:ae->Option aa}{base:ay}
theorem zpo{st:cQ}(k)(A:At K mg x st)(S:uW N ps (fg st))
  (body:∀f c A outer s H E,f9 k (A.deeper (envOfC x (fg st) s.heap.objs.size f c))->jj (nk kP P w K mg base N x (fg st) f c A outer s H E).qo (kJ st) T)
  (a:∀ds e,ds.length=n->t ds e->T { nx:=λ_=>e (.fz .non),rt:=e } (tW N ds))
  (b:∀kV doc pm an c ct us,us.length=n->bindArgs (pz x x (uM st) (kJ st) (fg st) .none kV doc pm an c ct) ⟨us,[]⟩=pure (ps.zip us)) (g:ps.length=n:=by rfl) (hd:k+1=d:=by rfl):Known P w K mg base d x n t:=by
 subst g hd;obtain⟨f,fd,F,hm⟩:=A.ex;show⟨f,fd,ps,Us F S (body f) a,hm,F.kp,F.binds b⟩
theorem eA{st:cQ}(k)(A:At K mg x st)
  (e:∀ds h,ds.length=n->t ds h->T { nx:=λ_=>h (.fz .non),rt:=h } (tW N ds))
  (body:N.Nodup->∀f g A outer s H E,f9 k (A.deeper (envOfC x (fg st) s.heap.objs.size f g))->jj (nk kP P w K mg base N x (fg st) f g A outer s H E).qo (kJ st) T)
  (S:uW N (N.take n) (fg st):=by walk_at"sc") (b:∀kV doc pm an g ct us,us.length=n->bindArgs (pz x x (uM st) (kJ st) (fg st) .none kV doc pm an g ct) ⟨us,[]⟩=pure ((N.take n).zip us):=by walk_at"bn") (i:(N.take n).length=n:=by rfl) (hd:k+1=d:=by rfl):Known P w K mg base d x n t:=zpo k A S (body S.nd) e b i hd
abbrev eF(P:aG)(w:aF)(K:aj)(mg:ae->Option aa)(base:ay)(k:Nat)(x:ae)(N:List ae)(st:cQ)(T:TX):Prop:=
 N.Nodup->∀f a A outer s H E,f9 k (A.deeper (envOfC x (fg st) s.heap.objs.size f a))->jj (nk kP P w K mg base N x (fg st) f a A outer s H E).qo (kJ st) T
end
end L2
namespace Ts
open PySem PySem.W PyProof.Rows
end Ts
namespace L2
open PySem PySem.Spec PyProof.Rows
theorem rm{α:Type}{l:List α}(h:l.length=n+1):∃a r,l=a::r/\r.length=n:=by
 cases l with
 | nil=>cases h
 | cons a r=>show⟨a,r,rfl,O4 h⟩
theorem ZI{α:Type}{l:List α}(h:l.length=0):l=[]:=xj h
theorem RG{α:Type}{l:List α}(h:l.length=1):∃b,l=[b]:=by
 obtain⟨a,r,e,h⟩:=rm h;show⟨a,by rw[e,ZI h]⟩
theorem RF{α:Type}{l:List α}(h:l.length=2):∃d a1,l=[d,a1]:=by
 obtain⟨a,r,e,h⟩:=rm h;obtain⟨c,b⟩:=RG h;show⟨a,c,by rw[e,b]⟩
theorem RE{α:Type}{l:List α}(h:l.length=3):∃f a1 a2,l=[f,a1,a2]:=by
 obtain⟨a,r,e,h⟩:=rm h;obtain⟨d,c,b⟩:=RF h;show⟨a,d,c,by rw[e,b]⟩
theorem RD{α:Type}{l:List α}(h:l.length=4):∃g a1 a2 a3,l=[g,a1,a2,a3]:=by
 obtain⟨a,r,e,h⟩:=rm h;obtain⟨f,d,c,b⟩:=RE h;show⟨a,f,d,c,by rw[e,b]⟩
theorem RC{α:Type}{l:List α}(h:l.length=5):∃j a1 a2 a3 i,l=[j,a1,a2,a3,i]:=by
 obtain⟨a,r,e,h⟩:=rm h;obtain⟨g,f,d,c,b⟩:=RD h;show⟨a,g,f,d,c,by rw[e,b]⟩
theorem RA{α:Type}{l:List α}(h:l.length=6):∃m a1 a2 a3 k j,l=[m,a1,a2,a3,k,j]:=by
 obtain⟨a,r,e,h⟩:=rm h;obtain⟨i,g,f,d,c,b⟩:=RC h;show⟨a,i,g,f,d,c,by rw[e,b]⟩
theorem Ry{α:Type}{l:List α}(h:l.length=7):∃o a1 a2 a3 n m k,l=[o,a1,a2,a3,n,m,k]:=by
 obtain⟨a,r,e,h⟩:=rm h;obtain⟨j,i,g,f,d,c,b⟩:=RA h;show⟨a,j,i,g,f,d,c,by rw[e,b]⟩
theorem ZH{α:Type}{l:List α}(h:l.length=8):∃q a1 a2 a3 p o n m,l=[q,a1,a2,a3,p,o,n,m]:=by
 obtain⟨a,r,e,h⟩:=rm h;obtain⟨k,j,i,g,f,d,c,b⟩:=Ry h;show⟨a,k,j,i,g,f,d,c,by rw[e,b]⟩
theorem zwp{α:Type}{l:List α}(h:l.length=9):∃t a1 a2 a3 s q p o n,l=[t,a1,a2,a3,s,q,p,o,n]:=by
 obtain⟨a,r,e,h⟩:=rm h;obtain⟨m,k,j,i,g,f,d,c,b⟩:=ZH h;show⟨a,m,k,j,i,g,f,d,c,by rw[e,b]⟩
open PySem.Builtin PySem.Builtin.Str
theorem zlk(d:(y.length==0)=false)
  (b:∀l tk,l.map (·.1)=og x y->Q (.ref s.heap.objs.size) { s with heap:=s.heap.push { cls:=.type "list",data:=.seq (strValues l).toArray },toks:=tk })
  (hsz:x.length+2<=sizeLine):wpAny (model prog w) A (call (.builtin "str.split") [.str x t,.str y u]) Q E s:=by
 have c:(partsBetween x (occurrences x y 0 x.length (x.length+1)) y.length).length<=sizeLine:=by
  rw[len_partsBetween];have:=StrLaws.occ_length_le x y 0 x.length (x.length+1);show pH ‹_› ‹_›
 cases a:(decide (x.length<y.length)||decide (strKind x<strKind y))
 .cases hf:(occurrences x y 0 x.length (x.length+1)).isEmpty
  .refine lO zL (u4 _ _ _) ID (IG _ _) (meets_str_split_sep x y t u a d hf (by lia) c) ?_;rw[strsFrom_eq];show b (numbered s.toks _) _ ((numbered_texts _ _).trans ((if_neg (ne_true_of_eq_false a)).trans (if_neg (ne_true_of_eq_false hf))).symm)
  show lO zL (u4 _ _ _) ID (IG _ _) (meets_str_split_not_found x y t u a d hf)
   (b [(x,t)] s.toks ((if_neg (ne_true_of_eq_false a)).trans (if_pos hf)).symm)
 show lO zL (u4 _ _ _) ID (IG _ _) (meets_str_split_cannot_occur x y t u a)
  (b [(x,t)] s.toks (if_pos a).symm)
theorem VC:∀l,Vals ((l.map (·.1)).map V.str) (strValues l)
 | []=>.nil
 | (x,t)::r=>.cons ⟨t,rfl⟩ (VC r)
theorem VQ{K:aj}:∀(l:List ae),ao K G (l.map V.str) (l.map D.str)
 | []=>ao.nil
 | x::r=>ao.cons (rP _ _ _) (VQ r)
def EE:D->List D->(R->Prop)->Prop:=λd ds Q=>match d,ds with
 | .str x,[.str y]=>y.length≠0/\x.length+2<=sizeLine/\Q (.ow ((og x y).map D.str))
 | _,_=>False
theorem Tw:GS X "str.split" EE:=by
 show⟨λx b H Q=>∃(z y:ae),x=.str z/\b=[.str y]/\y.length≠0/\z.length+2<=sizeLine/\∀p,H p=none->Q (.ref p) (upd H p (.lst ((og z y).map V.str))),λj s σ H x xs v us Q I a rs h=>?_,λG H x d b ds Q P s a rs h k=>?_⟩
 .obtain⟨z,y,rfl,rfl,i,hz,q⟩:=h;obtain⟨t,rfl⟩:=a;obtain⟨u,rfl,e⟩:=i8 rs;obtain⟨g,rfl⟩:=e;show zlk (by show if_neg ‹_›) (λl tk f=>?_) hz;have hv:=VC l;rw[f] at hv;show⟨.ref _,_,I.F8 (t':=tk) hv (by rw[ax];show bU (split_le z y) hz),rfl,q _ I.fresh⟩
 unfold EE at h;split at h
 .obtain⟨y,rfl,c⟩:=i7 rs;subst a c;show⟨_,_,rfl,rfl,h.1,h.2.1,Ay s (VQ _) h.2.2 k⟩
 show h.elim
end L2
namespace L2.SO
open PySem PySem.Spec PyProof.Rows L2
end L2.SO
namespace L2
open PySem PySem.Spec PyProof.Rows
section
variable{prog:aG}{w:aF}{K:Type}[DecidableEq K]{knd:HeapKind prog w K}{A:br}{E:aa->ai->Prop}{s:ai}{d a:ab}{k:K}{xs:List (K×ab×aa)}
theorem WE{Q:Bool->ai->Prop}(e:knd.room A.in1)(c:knd.is s.heap k a)(hd:(d==sysModules)=false)(b:s.heap.DictOfH knd d xs)
  (h:Q (atKey xs k).isSome { s with toks:=s.toks+knd.draws k }):wpAny (model prog w) A (contains (.ref d) (.ref a)) Q E s:=by
 unfold contains;try with_reducible show fQ ?_
 show ag (u9 b.typeIs slot_dict_contains.lookup ?_);rw[if_neg (by show eJ)];show ag (wpAny_callSpecialUnlessNone?_slot (name:=fI "__contains__") b.typeIs Qa
  (m9 Qa b.typeIs entry_dict_contains ?_ (args_dict_contains _ _)))
 show wpAny _ _ (dictGet d (.ref a) >>= _) _ _ s;show ag (wpAny_dictGet_heap e c b ?_);cases hf:atKey xs k with
 | some p=>
  rw[hf] at h;show az ⟨_,rfl,lR h⟩
 | none=>
  rw[hf] at h;show ag (wpAny_pendingKey_other hd (az ⟨_,rfl,lR h⟩))
end
section
variable{X:Cx}{e i':av}{te ti tv:TD}
def Jb(n:Bool):R2:=λx y H Q=>∃a b kvs bs k,y=.ref a/\x=.ref b/\Rd H a (.dT kvs bs)/\H b=some (.tup (k.map kV))/\Q (.bl (if n then !(e8 kvs k).isSome else(e8 kvs k).isSome)) H
theorem zvR(i:X.A.units+64<cLine):dE X (compareOp .In) (Jb false):=by
 intro j s σ H x y v u Q I d c h;obtain⟨a,b,kvs,bs,k,rfl,rfl,f,e,q⟩:=h;cases d;cases c;obtain⟨_,hd,xs,_,rel,g⟩:=vI I.aW f;show ag (WE (knd:=tupleKind (ja X.prog X.w)) (vh (by lia)) (vJ I.aW e) hd g (az ⟨.bl _,H,I.tok _,rfl,?_⟩));have:=(rel.val k).Ga;rw[Dp] at this;rw[<-this];show q
theorem znf(i:X.A.units+64<cLine):dE X (compareOp .NotIn) (Jb true):=by
 intro j s σ H x y v u Q I d c h;obtain⟨a,b,kvs,bs,k,rfl,rfl,f,e,q⟩:=h;cases d;cases c;obtain⟨_,hd,xs,_,rel,g⟩:=vI I.aW f;show ag (WE (knd:=tupleKind (ja X.prog X.w)) (vh (by lia)) (vJ I.aW e) hd g (az ⟨.bl _,H,I.tok _,rfl,?_⟩));have:=(rel.val k).Ga;rw[Dp] at this;rw[<-this];show q
theorem bC.isSome{K:aj}(k):∀{c kvs},bC K G c kvs->(e8 c k).isSome=(iS kvs k).isSome
 | [],[],_=>rfl
 | a::c,b::kvs,h=>by
  unfold iS e8;rw[kU,kU,h.1.1];by_cases d:b.1=k
  .simp only[d,iR,kd,Ij]
  simp only[d,gc];show bC.isSome k h.2
 | [],_::_,h=>by simp only[bC] at h
 | _::_,[],h=>by simp only[bC] at h
def z0(a:Bool):O2:=λd e Q=>match d,e with
 | .tup b,.dit kvs=>∃k,iT b=some k/\Q (.fz (.bl (if a then !(iS kvs k).isSome else(iS kvs k).isSome)))
 | _,_=>False
theorem zrK{d e:D}(s:aZ G H)(g:Rep X.K G x d)(f:Rep X.K G y e)(h:z0 n d e Q)(k:∀v H' r c,Ext G H c H'->dU X.K c H' H v r->Q r->P v H'):Jb n x y H P:=by
 unfold z0 at h;split at h
 .obtain⟨b,ys,rfl,m,p⟩:=g;obtain⟨a,j,bs,rfl,o,t,i⟩:=f;obtain⟨key,l,q⟩:=h;show⟨a,b,j,bs,key,rfl,rfl,.inl (s _ _ o),by rw[<-vT p l];show s _ _ m,?_⟩;rw[i.isSome key];show k _ _ _ G (.refl s) (de (iE _ _ _)) q
 show h.elim
theorem zpq(c:X.A.units+64<cLine):ik X (compareOp .NotIn) (z0 true):=⟨_,znf c,λG H x y d e Q P s b a h k=>zrK s b a h k⟩
def Jx:TD:=λ_ Q=>Q (.ov (.dq []))
theorem VB:PD X (.Dict [] [] pos) Jx:=by
 show⟨_,Tx,λρ σ c b G H Q P E h k=>λd hd=>?_⟩;show k _ _ (.ov (.dq [])) G (.own E.e.s hd) ⟨d,[],rfl,by show mU _ _,⟨rfl,[],([],0),dQ,trivial,by simp only[bC]⟩,λq a=>?_⟩ h;simp only[du] at a;subst a;show⟨hd,E.e.s.free hd⟩
def zrM(e ty d:TE):TE:=λσ H Q=>e σ H λx H1=>∃a,x=.ref a/\IsT H1 a/\ty σ H1 λy f=>d σ f λz c=>∃kvs bs k b,Rd c a (.dT kvs bs)/\y=.ref b/\c b=some (.tup (k.map kV))/\Q ((e8 kvs k).getD z) c
theorem zng(T:X.A.units+64<cLine)(J:PE X o n)(he:PE X e ty)(L:PE X f l)(m:M2 X o "get" c e f p):PE X (.Call (.Attribute o "get" c) [e,f] [] p) (zrM n ty l):=by
 intro i s σ H Q I h;show P1 m.base m.lK m.line IE QA PySem.F.type_dict_get (aR (J i s σ H _ I h) λu s1 g=>?_);obtain⟨x,H1,r,C,a,ex,d,G⟩:=g;subst ex;obtain rfl:u=fi a:=C;obtain⟨t1,t,_⟩:=JK r d;show⟨t1,t,?_⟩;rw[m.trees];show zN rfl (Iq (vn (aR (he i s1 σ H1 _ r G) λiv s2 g=>?_)));obtain⟨y,S,P,B,E⟩:=g;show vn (aR (L i s2 σ S _ P E) λN s3 g=>?_);obtain⟨z,R,j,v,kvs,bs,k,b,K,O,M,D⟩:=g;show zC ?_;subst O;obtain rfl:iv=fi b:=B;obtain⟨hz,hd,xs,U,rel,q⟩:=vI j.aW K;show Hw QA q.typeIs PySem.F.entry_dict_get (PySem.F.args_dict_get_3 _ _ _) (meetsH_dict_get_default (tupleKind (ja X.prog X.w)) a b hd N) ⟨vh (by ext),k,xs,vJ j.aW M,q,?_⟩;show⟨_,R,j.tok _,(rel.val k).getD v,D⟩
def Ak(te ti a:TD):TD:=λρ Q=>te ρ λr=>match r.val with
 | .dit kvs=>ti ρ λrk=>a ρ λb=>match rk.val with
  | .tup c=>∃k,iT c=some k/\Q (.fz ((iS kvs k).getD b.val))
  | _=>False
 | _=>False
theorem VA(hu:X.A.units+64<cLine)(he:PD X e te)(hi:PD X i' ti)(hf:PD X f F)(m:M2 X e "get" i i' f pos:=by show⟨rfl,rfl,rfl,rfl⟩):PD X (.Call (.Attribute e "get" i) [i',f] [] pos) (Ak te ti F):=by
 obtain⟨t,p,q⟩:=he;obtain⟨t2,p2,Y⟩:=hi;obtain⟨t3,Z,W⟩:=hf;show⟨_,zng hu p p2 Z m,λρ σ C B G H Q P E h k=>q ρ σ C B G H _ _ E h λv H1 r G1 S U y=>?_⟩;obtain⟨G2,j,I,_⟩:=U.freeze S;split at y
 .rename_i kvs hk;rw[hk] at I;obtain⟨a,x,bs,rfl,K,uG,V⟩:=I;show⟨a,rfl,⟨x,bs,.inl (j.s _ _ K)⟩,?_⟩;show Y ρ σ C B G2 H1 _ _ (E.ext j) y λu H3 rk G3 R oM cB=>?_
  obtain⟨G4,D,J,_⟩:=oM.freeze R;show W ρ σ C B G4 H3 _ _ ((E.ext j).ext D) cB λz M T G5 O BG c=>?_
  obtain⟨N,o,FQ,_⟩:=BG.freeze O;split at c
  .rename_i es e2;obtain⟨key,h1,c⟩:=c;have l:=D.trans o;rw[e2] at J;obtain⟨b,ys,rfl,hb,gG⟩:=J;show⟨x,bs,key,b,.inl (l.s _ _ (l.g _ _ K)),rfl,by rw[<-vT gG h1];show o.s _ _ (o.g _ _ hb),?_⟩;have L:=bC.mono l.g _ _ V;cases n:iS kvs key with
   | none=>
    have:=L.isSome key;rw[n] at this;cases hv:e8 x key with
    | some=>rw[hv] at this;cases this
    | none=>
     rw[n] at c;show k _ M (.fz T.val) N (j.trans l) FQ c
   | some d=>
    obtain⟨w,hw,gr⟩:=L.look n;rw[hw];rw[n] at c;show k _ M (.fz d) N (j.trans l) gr c
  show c.elim
 show y.elim
def ztG(d ty tv:TE):TS:=λD σ H=>tv σ H λv H1=>d σ H1 λx f=>ty σ f λy c=>∃a b kvs bs k,x=.ref a/\y=.ref b/\c a=some (.dT kvs bs)/\c b=some (.tup (k.map kV))/\kvs.length<sizeLine/\∀e,D.nx σ (upd c a (.dT (ni kvs k v) (if (kvs.any λkv=>decide (kv.1=k))=true then bs.1 else bs.1++[b],e)))
theorem zpr{n ty tv:TE}(hu:X.A.units+64<cLine)(P:PE X o n)(Q:PE X i ty)(hv:PE X d tv)(O:swapsWith d (some (.Subscript o i f)) pos.line X.env=pure false) :
  PS X (.Assign [.Subscript o i f] d pos) (ztG n ty tv):=by
 intro l s σ H D I h;show wpAny_Assign_Subscript (aR (hv l s σ H _ I h) λr s1 g=>?_) O;obtain⟨v,H1,I1,K,N⟩:=g;show aR (P l s1 σ H1 _ I1 N) λu s2 g=>?_
 obtain⟨x,H2,I2,J,M⟩:=g;show aR (Q l s2 σ H2 _ I2 M) λiv s3 g=>?_
 obtain⟨y,H3,m,G,a,b,kvs,bs,k,ex,U,j,B,hl,L⟩:=g;subst ex U;obtain rfl:u=fi a:=J;obtain rfl:iv=fi b:=G;obtain⟨hz,hd,xs,F,rel,W⟩:=vI m.aW (.inl j);have hlen:kvs.length=xs.length:=tw rel;show wpAny_setItem_heap (knd:=tupleKind (ja X.prog X.w)) (hsz:=by rw[<-hlen];show hz) (vh (by lia)) (vJ m.aW B) W λh' Z Y=>?_
 obtain⟨q,V,C,t,T,h3,S,_,R⟩:=Z;show⟨σ,_,?_,L C⟩;show Uj m (by rw[j];show u0) Y ⟨q,t⟩ ⟨by have:=ziW kvs k v;show bU ‹_› ‹_›,hd,_,?_,(rel.put k B K).keeps λc ys E=>?_,q,V,C,t,T,h3,S,R,rfl⟩
 .have e:(kvs.any λkv=>decide (kv.1=k))=(atKey xs k).isSome:=by
   rw[KC,(rel.val k).Ga,Dp]
  unfold storedH;rw[e];by_cases z:(atKey xs k).isSome=true
  .rw[if_pos z,if_pos z,bp,<-F];show tI λp _=>?_
   show(putAt k r p).2.1=p.2.1;unfold putAt;split<;>rfl
  rw[if_neg z,if_neg z,bY,F];rfl
 rw[bA (Sh E j (λz=>nomatch z))];show E
end
noncomputable def oz(kvs:List (List Key×D))(k:List Key)(d:D):List (List Key×D):=
 if (kvs.any λkv=>decide (kv.1=k))=true then kvs.map (λkv=>if kv.1=k then(kv.1,d) else kv) else kvs++[(k,d)]
section
variable{K:aj}
theorem bC.length:∀{c kvs},bC K G c kvs->c.length=kvs.length
 | [],[],_=>rfl
 | a::c,b::kvs,h=>by
  simp only[cC,bC.length h.2]
 | [],_::_,h=>by simp only[bC] at h
 | _::_,[],h=>by simp only[bC] at h
theorem bC.any(k):∀{c kvs},bC K G c kvs->(c.any λkv=>decide (kv.1=k))=kvs.any λkv=>decide (kv.1=k)
 | [],[],_=>rfl
 | a::c,b::kvs,h=>by
  rw[CW,CW,h.1.1,bC.any k h.2]
 | [],_::_,h=>by simp only[bC] at h
 | _::_,[],h=>by simp only[bC] at h
theorem bC.snoc(r:Rep K G v d):∀{c kvs},bC K G c kvs->bC K G (c++[(k,v)]) (kvs++[(k,d)])
 | [],[],_=>by simp only[zu,bC];show⟨⟨trivial,r⟩,trivial⟩
 | a::c,b::kvs,h=>by
  show⟨h.1,bC.snoc r h.2⟩
 | [],_::_,h=>by simp only[bC] at h
 | _::_,[],h=>by simp only[bC] at h
theorem bC.vY(r:Rep K G v d):∀{c kvs},bC K G c kvs->bC K G (c.map λkv=>if kv.1=k then(kv.1,v) else kv) (kvs.map λkv=>if kv.1=k then(kv.1,d) else kv)
 | [],[],_=>by trivial
 | a::c,b::kvs,h=>by
  simp only[bD,bC];show⟨?_,bC.vY r h.2⟩;rw[h.1.1];split
  .exact⟨rfl,r⟩
  show⟨h.1.1,h.1.2⟩
 | [],_::_,h=>by assumption
 | _::_,[],h=>by assumption
theorem bC.put(h:bC K G a kvs)(r:Rep K G v d):bC K G (ni a k v) (oz kvs k d):=by
 unfold ni oz;rw[h.any k];split
 .exact h.vY r
 show h.snoc r
theorem eX.vY:∀{ps bs},eX G ps bs->eX G (ps.map λkv=>if kv.1=k then(kv.1,v) else kv) bs
 | [],[],h=>h
 | p::ps,b::bs,h=>by
  rw[bD];show⟨?_,eX.vY h.2⟩;split
  .exact h.1
  show h.1
 | [],_::_,h=>h.elim
 | _::_,[],h=>h.elim
theorem eX.put(h:eX G a bs)(c:G b=some (.tup (k.map kV))):eX G (ni a k v) (if (a.any λkv=>decide (kv.1=k))=true then bs else bs++[b]):=by
 unfold ni;split
 .exact h.vY
 show h.snoc c
end
section
variable{X:Cx}{e i':av}{te ti tv:TD}
def D2(i:Nat)(ti tv:TD):TX:=λD ρ=>match gt ρ i with
 | .ov (.dq kvs)=>tv ρ λr=>ti ρ λrk=>match rk.val with
  | .tup a=>∃k,iT a=some k/\kvs.length<sizeLine/\D.nx (ρ.set i (.ov (.dq (oz kvs k r.val))))
  | _=>False
 | _=>False
theorem Au(hu:X.A.units+64<cLine)(i)(hi:PD X i' ti)(he:PD X e tv)(hN:Nm X i x:=by walk_at"nm")
  (hs:swapsWith e (some (.Subscript (.Name x C) i' B)) pos.line X.env=pure false:=by rfl) :
  PX X (.Assign [.Subscript (.Name x C) i' B] e pos) (D2 i ti tv):=by
 obtain⟨t,p,q⟩:=he;obtain⟨t2,Mp,Y⟩:=hi;show⟨_,zpr hu (l9 hN) Mp p hs,λρ σ P N G H D E k h g=>?_⟩;unfold D2 at h;split at h
 .rename_i kvs J;obtain⟨own,o1,o2⟩:=k.on;obtain⟨a,fp,M,b2,⟨rfl,I,bs,K,uG,W⟩,b4⟩:=o2 i _ J;show q ρ σ P N G H _ _ k h λv H' r G' R V m=>?_
  obtain⟨G2,y,U,_⟩:=V.freeze R;show⟨_,M,Y ρ σ P N G2 H' _ _ (k.ext y) m λu H3 rk G3 Q oM d=>?_⟩;obtain⟨O,j,F,_⟩:=oM.freeze Q;split at d
  .rename_i es e2;obtain⟨key,hk,hlen,d⟩:=d;rw[e2] at F;obtain⟨b,ys,rfl,n,gG⟩:=F;have L:O b=some (.tup (key.map kV)):=by rw[<-vT gG hk];show n
   have f:=y.trans j;show⟨a,b,I,bs,key,rfl,rfl,f.h _ _ K,j.s _ _ L,by rw[W.length];show hlen,λep=>?_⟩;show g.nx _ _ O _ f.g ((k.ext f).yG J M λfp nd ow=>?_) d;obtain⟨rfl,S,T,Z,w,o⟩:=ow;have e1:S=I/\T=bs:=by
    have:=(f.h _ _ K).symm.trans Z;injection this with this
    injection this with L6 L5
    show⟨L6.symm,L5.symm⟩
   obtain⟨rfl,rfl⟩:=e1;show⟨[],by trivial,⟨rfl,_,_,dQ,w.put L,o.put (U.mono j.g)⟩,λq m=>.inl m,λb n _=>bA λz=>n (by show z▸.head _)⟩
  show d.elim
 show h.elim
end
section
variable{X:Cx}{e i':av}{te ti:TD}
def xp(i:Nat)(tk te:TD):TX:=λD ρ=>match gt ρ i with
 | .ov (.dt kvs)=>tk ρ λrk=>match rk.val with
  | .tup b=>∃k n ds,iT b=some k/\kvs.length<sizeLine/\(gQ kvs k)[n]?=some (k,ds)/\(∀a<n,∀p,(gQ kvs k)[a]?=some p->p.1≠k)/\
   te (ρ.set i (.ov (.dt (gQ kvs k)))) λr=>ds.length<sizeLine/\D.nx (ρ.set i (.ov (.dt ((gQ kvs k).set n (k,ds++[r.val])))))
  | _=>False
 | _=>False
theorem Er(hu:X.A.units+64<cLine)(i){R Q p3 p4 p5 F:aI}(hk:PD X y tk)(he:PD X e te)(hN:Nm X i x:=by walk_at"nm")
  (di:starEach [e] X.env=(false,eval e X.env)::starEach [] X.env:=by rfl) (m:M2 X (.Name x R) "setdefault" Q y (.List [] p3) p4:=by show⟨rfl,rfl,rfl,rfl⟩)
  (I:∀{ta t},PE X (.Call (.Attribute (.Name x R) "setdefault" Q) [y,.List [] p3] [] p4) ta->PA X [e] t->PE X (.Call (.Attribute (.Call (.Attribute (.Name x R) "setdefault" Q) [y,.List [] p3] [] p4) "append" p5) [e] [] F) (BC X.K "list" EZ ta t):=by intro ta t h1 h2;show Ae xh Q8 Q7 Lr h1 h2) :
  PX X (.Expr (.Call (.Attribute (.Call (.Attribute (.Name x R) "setdefault" Q) [y,.List [] p3] [] p4) "append" p5) [e] [] F) pos) (xp i tk te):=by
 obtain⟨t,p,q⟩:=he;obtain⟨tkk,pk,qk⟩:=hk;show⟨_,AG (I (zrI hu (l9 hN) pk (Su oC) m) (oG p oC di)),λρ σ Y U G H D E k h g=>?_⟩;unfold xp at h;split at h
 .rename_i kvs hg;obtain⟨own,o1,o2⟩:=k.on;obtain⟨a,fp0,N,b20,⟨ks0,bs0,ha0,_⟩,b40⟩:=o2 i _ hg;show⟨_,N,a,rfl,⟨ks0,bs0,.inl ha0⟩,qk ρ σ Y U G H _ _ k h λvk Hk rk Gk xk rrk MZ=>?_⟩;obtain⟨W,x2,qi,_⟩:=rrk.freeze xk;split at MZ;rotate_left
  .exact MZ.elim
  rename_i es u;obtain⟨key,n,ds,sI,hlen,hj,aa7,oT⟩:=MZ;rw[u] at qi;obtain⟨bb,vs,rfl,GC,rvs⟩:=qi;have Z:=k.ext x2;have s2:aZ G W:=x2.g;have bz:i<ρ.length:=tU hg (by simp);obtain⟨aca,o12,o22⟩:=Z.on;obtain⟨a2,fp,YS,b2,⟨ks,bs,ha,uG,M8,hkv,hr⟩,b4⟩:=o22 i _ hg;rw[N] at YS;cases YS;have I:Hk bb=some (.tup vs):=Z.e.s _ _ GC;have YD:=vT rvs sI;have ym:ks.length=kvs.length:=by have:=dN qS M8;simpa using this
  have lH:=hg;have B0:=bz;have gbb:=GC;generalize hρ:ρ=ρ' at *;generalize hH:Hk=H1 at *
  -- S5 ab9
  have fin:∀(O:Hp)(v:V)(Q5:VK),bh X.K Y U (ρ'.set i (.ov (.dt (gQ kvs key)))) σ W O->(∀B Cu,O a=some (.dT B Cu)->e8 B key=some v)->(∀H',E.nx σ H'->Q5 .non H')->
    Bx X.K "list" v O/\t σ O λw H6=>EZ v [w] H6 Q5:=by
   intro O v Q5 E5 hv5 hQ5;have Ya:gt (ρ'.set i (.ov (.dt (gQ kvs key)))) i=.ov (.dt (gQ kvs key)):=by rw[lg,if_pos ⟨rfl,B0⟩]
   obtain⟨aap,_,o5⟩:=E5.on;obtain⟨a',oZ,c1,c2,⟨B,Cu,d1,dk,d2,d3,d4⟩,c4⟩:=o5 i _ Ya;rw[N] at c1;cases c1;obtain⟨L,xs,f1,f2,f3⟩:=d4.get (j:=n) (ds:=ds) (by rw[bE,hj];rfl);have hk5:B[n]?=some (key,.ref L):=by
    have d:=dN (λl=>l[n]?) d2;have u:=dN (λl=>l[n]?) d3;simp only[bE,hj,f1,kd] at d u;cases ym:B[n]? with
    | none=>rw[ym] at d;cases d
    | some p=>
     rw[ym] at d u;simp only[kd,gK] at d u;obtain⟨R,Q⟩:=p;simp only at d u;rw[d,u]
   have hv:v=.ref L:=by
    have d:=zlj hk5 λj' Gz p hp z=>by
     have d:=dN (λl=>l[j']?) d2;simp only[bE,hp,kd] at d;cases J:(gQ kvs key)[j']? with
     | none=>rw[J] at d;cases d
     | some p'=>
      rw[J] at d;simp only[kd,gK] at d;show aa7 j' Gz p' J (by rw[<-d];show z)
    rw[hv5 B Cu d1] at d;injection d
   subst hv;show⟨.inl ⟨rfl,xs,bP.of f2⟩,q _ σ Y U W O _ _ E5 oT λw H7 r G7 x7 rr7 XO=>?_⟩;obtain⟨G8,P,rv8,_⟩:=rr7.freeze x7;show⟨L,xs,w,rfl,rfl,P.h _ _ f2,by rw[f3.length];show XO.1,hQ5 _ (g.nx _ _ G8 _ (s2.trans P.g) ?_ XO.2)⟩;have E9:=(E5.ext P).yG (o':=.dt ((gQ kvs key).set n (key,ds++[r.val]))) (H':=upd H7 L (.lst (xs++[w]))) Ya N λC nd ow=>?_
   .rw[List.set_set] at E9;show E9
   obtain⟨wa,uP,d,ek,u,e3,e4⟩:=ow;have NI:wa=B:=by
    have:=(P.h _ _ d1).symm.trans d;injection this with this
    injection this with this
    show this.symm
   subst NI;have NJ:C=oZ:=(wX λa b h=>by cases h;rfl).mp (e3.symm.trans d3);subst NJ;have jc:=gu.mp nd;have XN:L∈C:=cJ f1;show⟨C,nd,⟨wa,uP,?_,ek,?_,e3,?_⟩,λq f=>.inl f,λb I _=>bA λz=>I (by rw[z];show cK _ XN)⟩
   .rw[bA (λz:a=L=>jc.1 (z▸XN))];show d
   .rw[u,u6];apply pF;intro m;rw[zB];split
    .rename_i M;subst M;rw[bE,hj];simp only[kd,ax];rw[if_pos (cD.mp hj).1]
    rfl
   rw[u6];show e4.set ((f3.mono P.g).append (ao.cons rv8 ao.nil)) jc.2 f1
  show⟨cG _,λl hl=>?_⟩;have S:a≠l:=λz=>by rw[<-z,ha] at hl;cases hl
  have yk:bb≠l:=λz=>by rw[<-z,I] at hl;cases hl
  show⟨ks,bs,key,bb,by rw[bA S];show ha,rfl,by rw[bA yk,<-YD];show I,by rw[ym];show hlen,λv hv=>?_,λM ep=>?_⟩
  .have J:gQ kvs key=kvs:=by
    unfold gQ;rw[<-VR M8,Wy,hv];rfl
   have E3:=Z.ext (.own Z.e.s hl (o:=.lst []));have E4:bh X.K Y U (ρ'.set i (.ov (.dt (gQ kvs key)))) σ W (upd H1 l (.lst [])):=by
    rw[J];show E3.yG lH N λC nd ow=>⟨C,nd,ow,λq f=>.inl f,λ_ _ _=>rfl⟩
   show fin _ v (λ_ H'=>E.nx σ H') E4 (λB Cu T=>?_) λH' h'=>h'
   rw[bA S,ha] at T;cases T;show hv
  have abd:(kvs.any λkv=>decide (kv.1=key))=false:=by rw[<-VR M8,Wy,M];rfl
  have J:gQ kvs key=kvs++[(key,[])]:=by
   unfold gQ;rw[abd];rfl
  have E4:bh X.K Y U (ρ'.set i (.ov (.dt (gQ kvs key)))) σ W (upd (upd H1 l (.lst [])) a (.dT (ks++[(key,.ref l)]) (bs.1++[bb],ep))):=by
   rw[J];show Z.yG lH N λC nd ow=>?_
   obtain⟨wa,uP,d,ek,u,e3,e4⟩:=ow;have NI:wa=ks/\uP=bs:=by
    have:=ha.symm.trans d;injection this with this
    injection this with L6 L5
    show⟨L6.symm,L5.symm⟩
   obtain⟨rfl,rfl⟩:=NI;have B4:l∉a::C:=λz=>by
    rcases bG.mp z with z | z
    .exact S z.symm
    show e4.here l z hl
   have haf:a∉C:=(gu.mp nd).1;show⟨C++[l],?_,⟨_,_,dQ,?_,by simp[u],by simp[e3],?_⟩,λq f=>?_,λb I M=>?_⟩
   .rw[gu] at nd ⊢;show⟨λz=>?_,?_⟩
    .rcases cj.mp z with z | z
     .exact nd.1 z
     simp at z;show S z
    rw[pG];show⟨nd.2,by show mU _ _,λx hx y hy=>?_⟩;simp at hy;subst hy;show λz=>B4 (cK _ (z▸hx))
   .exact eX.snoc (by rw[<-YD];show gbb) ek
   .rw[bY];show bJ.snoc (zs:=[]) (e4.mono (aZ.refl _) λq f xs e=>?_) ?_ ao.nil
    .rw[bA (λz:q=a=>haf (z▸f)),bA (λz:q=l=>B4 (cK _ (z▸f)))];show e
    rw[bA S.symm];show dQ
   .rcases bG.mp f with rfl | f
    .exact .inl (by show .head _)
    rcases cj.mp f with f | f
    .exact .inl (cK _ f)
    simp at f;subst f;show .inr hl
   rw[bA (λz:b=a=>I (by rw[z];show .head _)),bA (λz:b=l=>M (by rw[z];show hl))]
  show fin _ _ (λ_ H'=>E.nx σ H') E4 (λB Cu T=>?_) λH' h'=>h'
  rw[dQ] at T;cases T;show znd M
 show h.elim
end
end L2
namespace PySem
open Sem (wp)
theorem zll(d)(hd:(d==sysModules)=false):
  MeetsIn prog w (Builtin.«dict.values» ⟨[.ref d],[]⟩) (λ_ R s=>s.TypeIs (.ref d) "dict"/\R (.ok (.ret (.ref s.heap.objs.size))) { s with heap:=s.heap.push { cls:=.type "dict_values",data:=.fields #[.ref d] } }):=
 .of_wp λA R s ⟨a,h⟩=>by
  show ag (m:=Za _ _) ?_;show ag (DF a (show wpAny _ _ (pure d) _ _ s from az ?_));unfold Iw;rw[if_neg (by rw[hd];show eJ)];show ag (az (ag (kR (az ⟨_,rfl,h⟩))))
theorem zni(hv:s.heap.IsValuesView v d)(x:nV s.heap d es ep)
  (q:Q (.ref s.heap.objs.size) { s with heap:=s.heap.push { cls:=.type "dict_valueiterator",data:=.fields #[.ref d,.int 0 0,.int es.size 0,.int ep 0] } }):wpAny (model prog w) A (pyIter (.ref v)) Q E s:=by
 obtain⟨ov,a,f,b⟩:=id hv;obtain⟨g,e,_,c⟩:=id x;show HZ hv.typeIs QX (m9 QX hv.typeIs F.entry_dict_values_iter ?_ (F.args_dict_values_iter_1 _));show ag (az (ag (m:=Zr _) ?_));show ag (jL a b (x:=.ref d) rfl (az (ag (m:=ZA _ _) ?_)));show ag (vg e c (ag (wU e c ?_)));simp only[show Zy "dict_valueiterator"=false by decide,dW,cM];show kR (az ⟨_,rfl,"dict_valueiterator",_,⟨_,c8 _ rfl,rfl⟩,F.slot_dict_valueiterator_next.lookup,?_⟩);trivial
theorem znj(t:s.heap.IsValIter it d i es.size ep)(x:nV s.heap d es ep)(f)
  (q:∀h',h'.IsValIter it d (i+1) es.size ep->oh it s.heap h'->Q (some es[i].val) { s with heap:=h' }):wpAny (model prog w) A (pyNext (.ref it)) Q E s:=by
 obtain⟨h,b,g,a⟩:=id t;obtain⟨j,e,_,c⟩:=id x;show ag (u7 (vv (name:=fI "__next__") t.typeIs DO
  (m9 DO t.typeIs Rn ?_ (Rp _))))
 show ag (az (ag (ag ?_)));show ag (DL t.typeIs (az (ag (C3 b a ?_))));show ag (az (ag (vg e c ?_)));rw[if_neg (by simp)];show ag (az (ag (wU e c ?_)));rw[if_neg (by simp)];show az ?_;simp only[show ¬((i:Int)<0) from by simp_all,cM,jJ,mW f];show ag (ag (DL t.typeIs (az (ag (Iu t.typeIs ?_)))));show wpAny _ _ (setField (.ref it) 1 (rawInt ((i:Int)+1)) >>= _) _ _ s;show ag (C2 b a (by simp) ?_);have t':(s.heap.update it (zk (·.setIfInBounds 1 (rawInt ((i:Int)+1))))).IsValIter it d (i+1) es.size ep:=
  ⟨_,mT _ b (QB (Dw a _)),(P2 ..).trans g,by rw[Dw a];rfl⟩
 show ag (fQ ?_);show ag (Iu (s:={ s with heap:=s.heap.update it (zk (·.setIfInBounds 1 (rawInt ((i:Int)+1)))) }) t'.typeIs ?_);show ag (Iu (s:={ s with heap:=s.heap.update it (zk (·.setIfInBounds 1 (rawInt ((i:Int)+1)))) }) t'.typeIs ?_);show az (az ⟨_,rfl,az (q _ t' (vo ..))⟩)
theorem zpt(j:A.handled=none)(t:s.heap.IsValIter it d i es.size ep)(x:nV s.heap d es ep)(h:es.size<=i)
  (q:∀h',Ht it s.heap h'->Q none { s with heap:=h' }):wpAny (model prog w) A (pyNext (.ref it)) Q E s:=by
 obtain⟨k,c,n,e⟩:=id t;obtain⟨l,g,_,f⟩:=id x;show ag (u7 (vv (name:=fI "__next__") t.typeIs DO
  (m9 DO t.typeIs Rn ?_ (Rp _))))
 show ag (az (ag (ag ?_)));show ag (DL t.typeIs (az (ag (C3 c e ?_))));show ag (az (ag (vg g f ?_)));rw[if_neg (by simp)];show ag (az (ag (wU g f ?_)));rw[if_neg (by simp)];show az ?_;simp only[show ¬((i:Int)<0) from by simp_all,cM,jJ,IA h];show ag (ag (DL t.typeIs (az ?_)));show wpAny _ _ (setField (.ref it) 0 .none >>= _) _ _ s;show ag (C2 c e (by show iq _) ?_);show ag ?_;show ag (kR (ag (m:=firstArgMember _ _) (Hr (a:=j9) (by first | rfl | (rfl)) (kR ?_ (by size_fits)))) (by size_fits));show ag (Pb ?_);rw[show A.in1.handled=none from j];show ag (az (wpAny_throw ?_));show ag (Dh (T:="StopIteration") (b:=true) ⟨_,c8 _ rfl,rfl⟩ HH ?_);show az (q _ (((vo ..).extBut.push _).push _))
end PySem
namespace L2
open PySem PySem.Spec PyProof.Rows
theorem xE(ok:fH P w H h)(e:H a=some (.dT kvs bs)):(a==sysModules)=false/\
  ∃xs b,xs.map (λx=>x.2.1)=bs.1/\KT H kvs xs/\nV h a b bs.2/\b.toList=xs.map (entryOfKey (tupleKind (ja P w))):=by
 obtain⟨z,y,xs,i,r,o,b,k,g,f,h3,d,j,c⟩:=(show fP P w H h a (.dT kvs bs) from R0 ok (.inl e))
 rw[c] at h3;show⟨y,xs,b,i,r,⟨o,g,f,h3⟩,d⟩
noncomputable def Ja(a:ab)(c:List (List Key×V))(bs:List ab×Nat):It:=⟨λi H=>i<bs.1.length/\H a=some (.dT c bs),λi H v H'=>H'=H/\∃b,bs.1[i]?=some b/\v=.ref b,λi H=>i=bs.1.length/\H a=some (.dT c bs)⟩
theorem zlm{K:aj}:Turn P w K M (Ja a t bs) [f] f (λi h=>h.IsKeyIter f a i bs.1.length bs.2) where
 mem:=by show .head _
 obj:=λi h st b g=>by
  have e:b=f:=by simpa using g
  subst e;obtain⟨o,e,c,d⟩:=st;show⟨o,e,λv z=>by rw[d] at z;cases z⟩
 keep:=λi h h' st k=>by
  obtain⟨o,e,r⟩:=st;show⟨o,k f (by show .head _) o e,r⟩
 item:=by
  intro X B hw C F i L s σ H E I hf st u;subst B hw C;obtain⟨n,y⟩:=(show i<bs.1.length/\H a=some (.dT t bs) from u)
  obtain⟨hd,xs,j,p,rel,raw,m⟩:=xE I.aW y;have hlen:bs.1.length=j.size:=by rw[<-p,<-cU,m,ax,ax]
  rw[hlen] at st;have D:i<j.size:=by simp_all
  show zpn st raw D λh' J N=>?_
  have kk:∀b o,b∉[f]->s.heap.get? b=some o->h'.get? b=some o:=λb o g e=>N.extBut b o (λz=>g (by show z▸.head _)) e
  have W:Inv X L σ H { s with heap:=h',toks:=s.toks }:=I.oH (fp:=[f]) kk hf;obtain⟨o,e,U,d⟩:=id J;have O:j[i].key=fi (bs.1[i]):=by
   have G:j.toList[i]?=some j[i]:=by rw[n5,mW D]
   rw[m,bE] at G;obtain⟨x,R,T⟩:=i4.mp G;rw[<-T];have e3:=dN (λl=>l[i]?) p;simp only[bE,R,kd,aX n,gK] at e3;rw[<-e3];rfl
  rw[O];show⟨_,rfl,vH (s:={ s with heap:=h',toks:=s.toks }) e U d (by rfl) ⟨.ref bs.1[i],H,W,rfl,⟨rfl,_,aX n,rfl⟩,?_,λb g=>(hf b g).1⟩⟩;rw[hlen];show J
 done:=by
  intro X B hw C F i L s σ H E I hf st u;subst B hw C;obtain⟨n,y⟩:=(show i=bs.1.length/\H a=some (.dT t bs) from u)
  obtain⟨hd,xs,j,p,rel,raw,m⟩:=xE I.aW y;have hlen:bs.1.length=j.size:=by rw[<-p,<-cU,m,ax,ax]
  subst n;rw[hlen] at st;show zrH (I.ok.hd F) st raw (bx _) λh' S=>⟨rfl,I.oH (fp:=[f]) (t':=s.toks) (λb o g q=>S b o (λz=>g (by show z▸.head _)) q) hf⟩
 self:=λA i s Q E st q=>wpAny_pyIter_keyiter st q
noncomputable def IZ(a:ab)(b:List (List Key×V))(bs:List ab×Nat):It:=⟨λi H=>i<b.length/\H a=some (.dT b bs),λi H v H'=>H'=H/\∃p,b[i]?=some p/\v=p.2,λi H=>i=b.length/\H a=some (.dT b bs)⟩
theorem zln:entryFor table "dict_valueiterator.__iter__"=some Builtin.«dict_keyiterator.__iter__»:=entryFor_alias (id':="dict_keyiterator.__iter__") (by kernel_rfl) rfl (by decide +kernel) (by kernel_rfl)
theorem zlo{K:aj}:Turn P w K N (IZ a g bs) [f] f (λi h=>h.IsValIter f a i g.length bs.2) where
 mem:=by show .head _
 obj:=λi h st b j=>by
  have e:b=f:=by simpa using j
  subst e;obtain⟨o,e,c,d⟩:=st;show⟨o,e,λv z=>by rw[d] at z;cases z⟩
 keep:=λi h h' st k=>by
  obtain⟨o,e,r⟩:=st;show⟨o,k f (by show .head _) o e,r⟩
 item:=by
  intro X x hw y G i L s σ H E I hf st p;subst x hw y;obtain⟨m,t⟩:=(show i<g.length/\H a=some (.dT g bs) from p)
  obtain⟨hd,xs,l,T,rel,raw,n⟩:=xE I.aW t;have hlen:g.length=l.size:=by rw[tw rel,<-cU,n,ax]
  rw[hlen] at st;have C:i<l.size:=by simp_all
  show znj st raw C λh' J O=>?_
  have kk:∀b o,b∉[f]->s.heap.get? b=some o->h'.get? b=some o:=λb o j e=>O.extBut b o (λz=>j (by show z▸.head _)) e
  have U:Inv X L σ H { s with heap:=h',toks:=s.toks }:=I.oH (fp:=[f]) kk hf;obtain⟨o,e,S,d⟩:=id J;have D:i<xs.length:=by rw[<-tw rel];show m
  have M:l[i].val=xs[i].2.2:=by
   have B:l.toList[i]?=some l[i]:=by rw[n5,mW C]
   rw[n,bE,aX D] at B;simp only[kd,gK] at B;rw[<-B];rfl
  have pr:=VE rel (aX m) (aX D);rw[M];show⟨_,rfl,vH (s:={ s with heap:=h',toks:=s.toks }) e S d (by rfl) ⟨g[i].2,H,U,pr.2.2,⟨rfl,_,aX m,rfl⟩,?_,λb j=>(hf b j).1⟩⟩;rw[hlen];show J
 done:=by
  intro X x hw y G i L s σ H E I hf st p;subst x hw y;obtain⟨m,t⟩:=(show i=g.length/\H a=some (.dT g bs) from p)
  obtain⟨hd,xs,l,T,rel,raw,n⟩:=xE I.aW t;have hlen:g.length=l.size:=by rw[tw rel,<-cU,n,ax]
  subst m;rw[hlen] at st;show zpt (I.ok.hd G) st raw (bx _) λh' R=>⟨rfl,I.oH (fp:=[f]) (t':=s.toks) (λb o j q=>R b o (λz=>j (by show z▸.head _)) q) hf⟩
 self:=λA i s Q E st q=>by
  have u:s.TypeIs (.ref f) "dict_valueiterator":=st.typeIs;show HZ u Rr (m9 Rr u zln ?_ (PySem.F.args_dict_valueiterator_iter_1 _));show wpAny _ _ (ret (.ref f)) _ _ s;show az ⟨_,rfl,"dict_valueiterator",_,u,PySem.F.slot_dict_valueiterator_next.lookup,q⟩
def ztH(tl:TE):TI:=λσ H R=>tl σ H λx H1=>∃a b bs,x=.ref a/\H1 a=some (.dT b bs)/\R (Ja a b bs) H1
theorem zpu(i:PE X l tl):PI X tg l (ztH tl):=by
 intro r s σ H R I h;show aR (i r s σ H _ I h) λv s1 p=>?_
 obtain⟨x,H1,c,d,f⟩:=p;obtain⟨a,t,bs,e,k,q⟩:=f;subst e;cases d;obtain⟨hd,xs,m,n,rel,raw,g⟩:=xE c.aW k;have hlen:bs.1.length=m.size:=by rw[<-n,<-cU,g,ax,ax]
 show zpm hd raw ?_;show⟨s1.heap.objs.size,[s1.heap.objs.size],_,_,H1,rfl,c.kept (t':=s1.toks) λb o e=>bZ _ e,zlm,⟨_,c8 _ rfl,rfl,by rw[hlen];rfl⟩,λb j=>?_,q⟩;have e:b=s1.heap.objs.size:=by simpa using j
 subst e;show c.nJ (bx _) (c.aW.fresh (bx _))
def ztI(tl:TE):TI:=λσ H R=>tl σ H λx H1=>∃a b bs,x=.ref a/\H1 a=some (.dT b bs)/\R (IZ a b bs) H1
theorem zpv(r:PE X o to)(l:attributeBase o "values" X.env (eval o X.env)=eval o X.env:=by rfl)(m:(c.endLine==k.line)=true:=by rfl) :
  PI X tg (.Call (.Attribute o "values" c) [] [] k) (ztI to):=by
 intro y s σ H R I h;show Q0 l m (aR (r y s σ H _ I h) λv s1 w=>?_);obtain⟨x,H1,d,n,a,i,bs,ex,j,q⟩:=w;subst ex;obtain⟨g,t,_⟩:=JK d ⟨i,bs,.inl j⟩;obtain rfl:v=fi a:=n;show⟨"dict","dict.values",IE,Q2,PySem.F.type_dict_values,g,t,zN rfl (Qq ?_)⟩;obtain⟨hd,xs,u,A,rel,raw,p⟩:=xE d.aW j;have hlen:i.length=u.size:=by rw[tw rel,<-cU,p,ax]
 show Hw Q2 g PySem.F.entry_dict_values (PySem.F.args_dict_values_1 _) (zll a hd) ⟨g,?_⟩;have f:(s1.heap.push { cls:=.type "dict_values",data:=.fields #[.ref a] }).IsValuesView s1.heap.objs.size a:=⟨_,c8 _ rfl,rfl,rfl⟩
 show zni f (raw.kept λo e=>bZ _ e) ?_;show⟨_,[_],_,_,H1,rfl,(d.kept (t':=s1.toks) λb o e=>bZ _ e).kept (t':=s1.toks) λb o e=>bZ _ e,zlo,⟨_,c8 _ rfl,rfl,by rw[hlen];rfl⟩,λb z=>?_,q⟩;have e:b=(s1.heap.push { cls:=.type "dict_values",data:=.fields #[.ref a] }).objs.size:=by show du.1 ‹_›
 subst e;rw[jm];show d.nJ (lP _) (d.aW.fresh (lP _))
noncomputable def IY(k:List Key):D:=.tup (k.map kg)
theorem eX.length:∀{ps bs},eX G ps bs->ps.length=bs.length
 | [],[],_=>rfl
 | p::ps,b::bs,h=>by rw[cC,cC,eX.length h.2]
 | [],_::_,h=>h.elim
 | _::_,[],h=>h.elim
theorem VP{K:aj}:∀(k:List Key),ao K G (k.map kV) (k.map kg)
 | []=>ao.nil
 | a::k=>ao.cons (zrE a) (VP k)
theorem zlp{K:aj}(h:G a=some (.dT c bs))(j:eX G c bs.1)(r:bC K G c kvs):Walk K (Ja a c bs) G (kvs.map λp=>IY p.1):=by
 have o:=r.length;have s:=j.length;show⟨λi d f H' hd s1 s2=>?_,λf H' s1 s2=>⟨by rw[ax];simp_all,s2 _ _ (s1 _ _ h)⟩⟩;rw[bE] at hd;obtain⟨p,g,rfl⟩:=i4.mp hd;have q:i<kvs.length:=(cD.mp g).1;show⟨⟨by simp_all,s2 _ _ (s1 _ _ h)⟩,λv n m=>?_⟩;obtain⟨rfl,b,l,rfl⟩:=m;show⟨f,.refl s2,?_⟩;have e:n b=some (.tup (p.1.map kV))/\f b=some (.tup (p.1.map kV)):=by
  have:=j.at l (k:=p.1) (by rw[r.keys,bE,g];rfl);show⟨s2 _ _ (s1 _ _ this),s1 _ _ this⟩
 show⟨b,_,rfl,e.2,VP p.1⟩
theorem bC.at{K:aj}:∀{c kvs},bC K G c kvs->∀(i:Nat){p q},c[i]?=some p->kvs[i]?=some q->Rep K G p.2 q.2
 | [],[],_,i,_,_,h,_=>by trivial
 | a::c,b::kvs,r,i,p,q,h,h'=>by
  cases i with
  | zero=>
   simp only[vt,gK] at h h';subst h h';show r.1.2
  | succ i=>show bC.at r.2 i (by simpa using h) (by simpa using h')
 | [],_::_,r,_,_,_,_,_=>by simp only[bC] at r
 | _::_,[],r,_,_,_,_,_=>by simp only[bC] at r
theorem zlq{K:aj}(h:G a=some (.dT b bs))(r:bC K G b kvs):Walk K (IZ a b bs) G (kvs.map (·.2)):=by
 have j:=r.length;show⟨λi d e H' hd s1 s2=>?_,λe H' s1 s2=>⟨by rw[ax];show j.symm,s2 _ _ (s1 _ _ h)⟩⟩;rw[bE] at hd;obtain⟨p,c,rfl⟩:=i4.mp hd;have k:i<kvs.length:=(cD.mp c).1;show⟨⟨by simp_all,s2 _ _ (s1 _ _ h)⟩,λv l f=>?_⟩;obtain⟨rfl,q,g,rfl⟩:=f;show⟨e,.refl s2,(r.at i g c).mono s1⟩
def Jw(te:TD):fG:=λρ Q=>te ρ λr=>match r.val with
 | .dit kvs=>Q (kvs.map λp=>IY p.1)
 | _=>False
theorem zpw(h:PD X l te):PId X tg l (Jw te):=by
 obtain⟨t,p,q⟩:=h;show⟨_,zpu p,λρ σ o m G H Q P E h k=>q ρ σ o m G H _ _ E h λv H' r u x g b=>?_⟩;obtain⟨n,c,d,_⟩:=g.freeze x;split at b
 .rename_i kvs e;rw[e] at d;obtain⟨a,i,bs,rfl,f,j,h3⟩:=d;show⟨a,i,bs,rfl,c.s _ _ f,k _ H' _ n c (zlp f j h3) b⟩
 show b.elim
def Aj(te:TD):fG:=λρ Q=>te ρ λr=>match r.val with
 | .dit kvs=>Q (kvs.map (·.2))
 | _=>False
theorem VO(h:PD X o te)(j:attributeBase o "values" X.env (eval o X.env)=eval o X.env:=by rfl)(l:(b.endLine==i.line)=true:=by rfl):PId X tg (.Call (.Attribute o "values" b) [] [] i) (Aj te):=by
 obtain⟨t,p,q⟩:=h;show⟨_,zpv p j l,λρ σ y u G H Q P E h k=>q ρ σ y u G H _ _ E h λv H' r A x m c=>?_⟩;obtain⟨w,d,f,_⟩:=m.freeze x;split at c
 .rename_i kvs e;rw[e] at f;obtain⟨a,n,bs,rfl,g,z,h3⟩:=f;show⟨a,n,bs,rfl,d.s _ _ g,k _ H' _ w d (zlq g h3) c⟩
 show c.elim
end L2
namespace Ts
open PySem PySem.W PyProof.Rows
section
variable{α:Type}{lt:α->α->Bool}{l:List α}{a b:α}
noncomputable def r8(lt:α->α->Bool)(l:List α)(a:α):Int:=((l.countP λb=>lt b a:Nat):Int)
theorem S7(h:∀x∈l,p x=true->q x=true):l.countP p<=l.countP q:=by
 induction l with
 | nil=>show bx _
 | cons a r c=>
  have:=c λx d=>h x (cK _ d)
  rw[Dg,Dg];by_cases b:p a=true
  .rw[if_pos b,if_pos (h a cT b)];simp_all
  rw[if_neg b];lia
theorem ztJ(h:∀x∈l,p x=true->q x=true)(b:a∈l)(i:p a=false)(g:q a=true):l.countP p<l.countP q:=by
 induction l with
 | nil=>cases b
 | cons c r f=>
  have j:=S7 (l:=r) λx d=>h x (cK _ d)
  rw[Dg,Dg];rcases bG.mp b with z | b
  .subst z;rw[i,g];simp only[dW,cM,cO];lia
  have:=f (λx d=>h x (cK _ d)) b;by_cases e:p c=true
  .rw[if_pos e,if_pos (h c cT e)];simp_all
  rw[if_neg e];lia
structure Ord(lt:α->α->Bool):Prop where
 tr:∀a b c,lt a b=true->lt b c=true->lt a c=true
 ir:∀a,lt a a=false
 dF:∀a b,a≠b->lt a b=true\/lt b a=true
theorem JJ(O:Ord lt)(f:a∈l):lt a b=decide (r8 lt l a<r8 lt l b):=by
 unfold r8;cases h:lt a b with
 | true=>
  symm
  rw[decide_eq_true_iff];have:=ztJ (l:=l) (p:=λc=>lt c a) (q:=λc=>lt c b) (λx _ d=>O.tr _ _ _ d h) f (O.ir a) h;simp_all
 | false=>
  symm
  rw[kS];have:l.countP (λc=>lt c b)<=l.countP (λc=>lt c a):=by
   show S7 λx _ d=>?_
   by_cases e:a=b
   .rw[e];show d
   rcases O.dF a b e with z | z
   .rw[z] at h;cases h
   show O.tr _ _ _ d z
  simp_all
theorem aam(O:Ord lt)(d:a∈l)(c:b∈l)(h:r8 lt l a<=r8 lt l b):lt b a=false:=by
 rw[JJ O c,kS];simp_all
end
theorem zrO{a b:ae}(h:a.cps.toList=b.cps.toList):a=b:=by
 cases a;cases b;simp only[Str.mk.injEq];show Array.toList_inj.mp h
theorem Fq(hz:z∈pairsOf its):z.1∈its:=by
 unfold pairsOf at hz;have a:z∈its.zip its:=by simpa using hz
 show(pE a).1
end Ts
namespace L2
open PySem PySem.Spec PyProof.Rows
noncomputable def IX(x:ae):It:=⟨λi _=>i<x.cps.size,λi H v H'=>∃t c,v=.ref t/\H t=none/\x.cps[i]?=some c/\H'=upd H t (.tup [.int i,.str ⟨#[c]⟩]),λi _=>i=x.cps.size⟩
theorem zlr{K:aj}(e f)(F:e≠f)
  (D:∀L:br,L.handled=none->Draws P w L f [f] x.cps.size (λi v=>∃c u,x.cps[i]?=some c/\v=.str ⟨#[c]⟩ u) (λi h=>h.IsStrIter f n x t i)) :
  Turn P w K (.Tuple l N pos) (IX x) [e,f] e (λi h=>(∃old,IsEnum h e f i old)/\h.IsStrIter f n x t i) where
 mem:=by show .head _
 obj:=λi h st b a=>by
  obtain⟨⟨old,g⟩,o,j,c,d⟩:=st;rcases bG.mp a with rfl | a
  .exact⟨_,g,λv z=>by have M:CO _=zd v:=z;cases M⟩
  have e:b=f:=by simpa using a
  subst e;show⟨o,j,λv z=>by rw[d] at z;cases z⟩
 keep:=λi h h' st k=>by
  obtain⟨⟨old,g⟩,o,j,r⟩:=st;show⟨⟨old,k e (by show .head _) _ g⟩,o,k f (by show .tail _ (.head _)) o j,r⟩
 item:=by
  intro X A hw B y i Z s σ H E I hf st p;subst A hw B;obtain⟨⟨old,g⟩,j⟩:=st;have J:s.heap.objs.size≠e:=kT (bX g);have Y:s.heap.objs.size≠f:=by obtain⟨o,q,_⟩:=j;show kT (bX q)
  show wpAny_pyNext_enum_itemD (D _ (I.ok.hd y)) g j p F (by simpa using F) λu h' tk R W V e3 e4 kk=>?_
  obtain⟨c,t',Q,rfl⟩:=R;show⟨_,rfl,Ws W λG U m=>?_⟩;have S:=m.extBut _ _ J e3;have O:H s.heap.objs.size=none:=I.aW.fresh (bx _);have new:fP X.prog X.w (upd H s.heap.objs.size (.tup [.int i,.str ⟨#[c]⟩])) G s.heap.objs.size (.tup [.int i,.str ⟨#[c]⟩]):=⟨JY,[.int i tk,.str ⟨#[c]⟩ t'],.cons ⟨_,rfl⟩ (.cons ⟨_,rfl⟩ .nil),⟨_,S,rfl,_,rfl⟩⟩
  have C:G.IsStrIter f n x t (i+1):=by
   obtain⟨o,q,r⟩:=V;show⟨o,m.extBut _ _ (Ne.symm F) q,r⟩
  show⟨.ref s.heap.objs.size,upd H s.heap.objs.size (.tup [.int i,.str ⟨#[c]⟩]),I.L1 (fp:=[e,f]) (λb o a q=>m.extBut b o (λz=>a (by show z▸.head _)) (kk b o (λz=>a (by show z▸.head _)) (λz=>a (by show z▸.tail _ (.head _))) q)) hf (bx _) new,rfl,
   ⟨_,c,rfl,O,Q,rfl⟩,⟨⟨_,U⟩,C⟩,JX (λb a=>(hf b a).1) λb a=>?_⟩
  rcases bG.mp a with rfl | a
  .exact J.symm
  have z:b=f:=by simpa using a
  rw[z];show Y.symm
 done:=by
  intro X A hw B y i Z s σ H E I hf st p;subst A hw B;obtain⟨⟨old,g⟩,j⟩:=st;have e:i=x.cps.size:=p;subst e;show wpAny_pyNext_enum_endD (D _ (I.ok.hd y)) g j λh' T=>⟨rfl,I.oH (fp:=[e,f]) (t':=s.toks) (λb o a q=>T b o (λz=>a (by show z▸.tail _ (.head _))) q) hf⟩
 self:=λ_ _ _ _ _ st h=>by
  obtain⟨⟨old,g⟩,_⟩:=st;show Ds g h
section
variable{X:Cx}
def ztK(b:TA):TI:=λσ H R=>b σ H λa H1=>∃z,a=[.str z]/\R (IX z) H1
theorem zpx(E:Gl X "enumerate")(C:X.mg "enumerate"=none)(d:PA X [a] l)(B:starEach [a] X.env=[(false,eval a X.env)]:=by rfl):PI X (.Tuple elts x1 vW) (.Call (.Name "enumerate" p) [a] [] pos) (ztK l):=by
 intro x s σ H R I h;show Call_ (l7 I E C Pp (n6 (aR (d pos x s σ H _ I h) λus s1 G=>?_) B rfl));obtain⟨J,H1,k,y,A⟩:=G;obtain⟨z,e,q⟩:=A;subst e;obtain⟨u,rfl,t,rfl⟩:=i8 y;show call_enumerate_str λh' r o e3 kk=>Ds r ?_
 have F:s1.heap.objs.size+1≠s1.heap.objs.size:=by simp_all
 have fin:∀n,(D:∀f:br,f.handled=none->Draws X.prog X.w f s1.heap.objs.size [s1.heap.objs.size] z.cps.size (λi v=>∃c u,z.cps[i]?=some c/\v=.str ⟨#[c]⟩ u) (λi h=>h.IsStrIter s1.heap.objs.size n z t i))->
   h'.IsStrIter s1.heap.objs.size n z t 0->Cz X x σ (.Tuple elts x1 vW) R (.ref (s1.heap.objs.size+1)) { s1 with heap:=h' }:=λn D st=>by
  show⟨s1.heap.objs.size+1,[s1.heap.objs.size+1,s1.heap.objs.size],_,_,H1,rfl,k.kept (t':=s1.toks) kk,zlr _ _ F D,⟨⟨_,r⟩,st⟩,λb g=>?_,q⟩;have m:s1.heap.objs.size<=b:=by
   rcases bG.mp g with rfl | g
   .exact lP _
   have e:b=s1.heap.objs.size:=by simpa using g
   show HA e.symm
  show k.nJ m (k.aW.fresh m)
 cases d:z.cps.all (·<128)
 .exact fin "str_iterator" (λf j=>Draws.strWide j _ z t) (by simpa[strIterType,d] using o)
 show fin "str_ascii_iterator" (λf j=>Draws.strAscii j _ z t) (by simpa[strIterType,d] using o)
theorem zls{K:aj}(z):Walk K (IX z) G (iC (z.cps.toList.map λc=>.str ⟨#[c]⟩)):=by
 show⟨λi d a H' hd s1 s2=>?_,λa H' s1 s2=>by show _=_;simp[iC]⟩;unfold iC at hd;rw[zI,bE] at hd;cases e:z.cps.toList[i]? with
 | none=>rw[e] at hd;cases hd
 | some c=>
  rw[e] at hd;cases hd;have f:z.cps[i]?=some c:=by simpa using e
  show⟨(IQ.mp f).1,λv l h=>?_⟩;obtain⟨t,k,rfl,j,b,rfl⟩:=h;rw[f] at b;cases b;have g:Ext a H' (upd a t (.tup [.int i,.str ⟨#[c]⟩])) (upd H' t (.tup [.int i,.str ⟨#[c]⟩])):=.new s2 j;show⟨_,g,KP dQ (gD _ _ _) (by simp only[Rep])⟩
def S6(a:fh):fG:=λρ Q=>a ρ λds=>match ds with
 | [.str z]=>Q (iC (z.cps.toList.map λc=>.str ⟨#[c]⟩))
 | _=>False
theorem KZ(f:X.mg "enumerate"=none)(i:jk X [a] c)(g:Gl X "enumerate":=by rfl)(e:starEach [a] X.env=[(false,eval a X.env)]:=by rfl):PId X (.Tuple elts x1 vW) (.Call (.Name "enumerate" p) [a] [] pos) (S6 c):=by
 obtain⟨t,pp,q⟩:=i;show⟨_,zpx g f pp e,λρ σ l j G H Q P E h k=>q ρ σ l j G H _ _ E h λn H' ds m x rs b=>?_⟩;split at b
 .obtain⟨v,rfl,d⟩:=i7 rs;subst d;show⟨_,rfl,k _ H' _ m x (zls _) b⟩
 show b.elim
end
noncomputable def IW(lo:Int)(n:Nat):It:=⟨λi _=>i<n,λi H x H'=>H'=H/\x=.int (lo+i*2),λi _=>n<=i⟩
theorem zi6{K:aj}(a lo n):Turn P w K q (IW lo n) [a] a (λi h=>IsRangeIter h a (lo+(i:Nat)*2) ((n:Int)-(i:Nat)) 2) where
 mem:=by show .head _
 obj:=λi h st b c=>by
  have e:b=a:=by simpa using c
  subst e
  show⟨_,st,λv z=>by
   have p:CO _=zd v:=z;cases p⟩
 keep:=λi h h' st k=>k a (by show .head _) _ st
 item:=by
  intro X g hw j f i m s σ H E I hf st d;subst g hw j;have W:=OY (prog:=X.prog) (w:=X.w) (I.ok.hd f) a lo 2 n;show W.item i s _ _ d st λv h' tk hv l kk=>?_
  obtain⟨t,rfl⟩:=hv;have u:Inv X m σ H { s with heap:=h',toks:=tk }:=I.oH kk hf;show⟨_,rfl,vH (s:={ s with heap:=h',toks:=tk }) (n:="range_iterator") l rfl rfl (by rfl) ⟨.int (lo+i*2),H,u,⟨t,rfl⟩,⟨rfl,rfl⟩,l,λb c=>(hf b c).1⟩⟩
 done:=by
  intro X g hw j f i m s σ H E I hf st d;subst g hw j;show QS (I.ok.hd f) st (by have:n<=i:=d;lia) λh' r=>⟨rfl,I.oH (fp:=[a]) (t':=s.toks) (λb o c e=>r b o (λz=>c (by show z▸.head _)) e) hf⟩
 self:=λ_ _ _ _ _ st h=>QR st h
theorem UT{lo a:Int}:DG lo a 2=(((a-lo+1)/2).toNat:Int):=by
 unfold DG;split<;>ext
theorem znl{lo a:Int}(h:0<=lo/\lo<1000000/\0<=a/\a<1000000):Qm lo a 2=true:=by
 unfold Qm;rw[UT];simp only[Zx,jH,C7,gJ,beq_iff_eq,show(2:Int)>0 by decide,cO];ext
def ZW(b:TA):TI:=λσ H R=>b σ H λa H1=>∃i j:Int,a=[.int i,.int j,.int 2]/\(0<=i/\i<1000000/\0<=j/\j<1000000)/\R (IW i ((j-i+1)/2).toNat) H1
theorem znm(z:Gl X "range")(y:X.mg "range"=none)(A:PA X [a,b,c] k)(x:starEach [a,b,c] X.env=(false,eval a X.env)::starEach [b,c] X.env:=by rfl)(w:(backTo pos (starEach [b,c] X.env)).any (·.1)=false:=by rfl) :
  PI X tg (.Call (.Name "range" p) [a,b,c] [] pos) (ZW k):=by
 intro m s σ H R I h;show Call_ (l7 I z y Hl (n6 (aR (A pos m s σ H _ I h) λus s1 D=>?_) x w));obtain⟨F,H1,E,n,v⟩:=D;obtain⟨lo,d,e,l,q⟩:=v;subst e;cases n with
 | cons r f=>
  cases f with
  | cons u f=>
   cases f with
   | cons i f=>
    cases f;obtain⟨t,rfl⟩:=r;obtain⟨t',rfl⟩:=u;obtain⟨g,rfl⟩:=i;show call_range_3 (by decide) ?_ (Or.inl (QQ (by simp_all)));show Qe (OX ..) (znl l) ?_;have j:Inv X m σ H1 { s1 with heap:=s1.heap.push { cls:=.type "range",data:=.fields #[.int lo t,.int d t',.int 2 g] },toks:=s1.toks }:=E.kept λb o e=>bZ _ e
    show⟨(s1.heap.push { cls:=.type "range",data:=.fields #[.int lo t,.int d t',.int 2 g] }).objs.size,[(s1.heap.push { cls:=.type "range",data:=.fields #[.int lo t,.int d t',.int 2 g] }).objs.size],_,_,H1,rfl,
     j.kept (t':=s1.toks) λb o e=>bZ _ e,zi6 _ lo _,?_,λb l=>?_,q⟩
    .have C:lo+((0:Nat):Int)*2=lo:=by simp
     have B:((((d-lo+1)/2).toNat:Nat):Int)-((0:Nat):Int)=DG lo d 2:=by rw[UT];rfl
     rw[C,B];show c8 _ rfl
    have e:b=(s1.heap.push { cls:=.type "range",data:=.fields #[.int lo t,.int d t',.int 2 g] }).objs.size:=by show du.1 ‹_›
    subst e;show j.nJ (bx _) (j.aW.fresh (bx _))
theorem zi7{K:aj}(lo n):Walk K (IW lo n) G ((aN n).map λ(i:Nat)=>.int (lo+i*2)):=by
 show⟨λi d a H' hd s1 s2=>?_,λa H' s1 s2=>?_⟩
 .rw[bE] at hd;obtain⟨c,e,rfl⟩:=i4.mp hd;obtain⟨h,g⟩:=cD.mp e;have h3:i<n:=by simpa using h
  have f:c=i:=by rw[<-g];simp
  subst f;show⟨h3,λv k b=>?_⟩;obtain⟨j,rfl⟩:=b;subst j;show⟨a,.refl s2,gD _ _ _⟩
 show n<=_;simp
def DZ(a:fh):fG:=λρ Q=>a ρ λds=>match ds with
 | [.int i,.int j,.int k]=>k=2/\(0<=i/\i<1000000/\0<=j/\j<1000000)/\Q ((aN ((j-i+1)/2).toNat).map λ(n:Nat)=>.int (i+n*2))
 | _=>False
theorem Lo(l:X.mg "range"=none)(o:jk X [a,b,c] e)(m:Gl X "range":=by rfl)(j:starEach [a,b,c] X.env=(false,eval a X.env)::starEach [b,c] X.env:=by rfl)(i:(backTo pos (starEach [b,c] X.env)).any (·.1)=false:=by rfl):PId X tg (.Call (.Name "range" p) [a,b,c] [] pos) (DZ e):=by
 obtain⟨t,pp,q⟩:=o;show⟨_,znm m l pp j i,λρ σ w s G H Q P E h k=>q ρ σ w s G H _ _ E h λA H' ds y x rs d=>?_⟩;split at d
 .obtain⟨v,z,u,rfl,f,r,g⟩:=R3 rs;subst f r g;obtain⟨rfl,n,d⟩:=d;show⟨_,_,rfl,n,k _ H' _ y x (zi7 _ _) d⟩
 show d.elim
end L2
namespace Ts
open PySem PySem.W PyProof.Rows
section
open PySem.SeqAt
open PySem.AutoSeq1 (wpAny_loadPart')
open PySem.MeetsSeq PySem.MeetsSeq2 PySem.MeetsSeq3
theorem zpz(A s a t c u prog w E Q)(h:Q (.bool (decide (a.cps.toList<c.cps.toList))) s) :
  wpAny (model prog w) A (richCompare .Lt (.str a t) (.str c u)) Q E s:=
 (Ql h:wpAny (model prog w) A (compareOp .Lt (.str a t) (.str c u)) Q E s)
theorem KN(A s a t c u prog w E Q)(h:Q (.bool (decide (a<c))) s) :
  wpAny (model prog w) A (richCompare .Lt (.int a t) (.int c u)) Q E s:=
 (Ip h:wpAny (model prog w) A (compareOp .Lt (.int a t) (.int c u)) Q E s)
def JI(A:br)(s:ai)(y x:aa)(b:Bool):Prop:=
 ∀prog w E Q,Q (.bool b) s->wpAny (model prog w) A (richCompare .Lt y x) Q E s
theorem zhi(l b items items2 n k t m sl o r)(q:0<items2.size)(c) :
  Meets (Builtin.«list.__eq__.loop» ⟨[.ref l,.ref b,rawInt 0,rawInt 0],[]⟩)
   (λA R s=>s.heap.get? l=some { cls:=.type "list",dict:=t,data:=.seq items n,slots:=sl }/\s.heap.get? b=some { cls:=.type "list",dict:=m,data:=.seq items2 k,slots:=o }/\
    EqAt A.in1 s items[0] items2[0] false/\JI A.in1 s items[0] items2[0] c/\R (.ok (.ret (.bool c))) s):=by
 intro prog w A R s h;obtain⟨u,g,d,tk,os⟩:=s;obtain⟨f,i,he,p,h⟩:=h;wp_walk using jK f,jK i
 have a:items[(0:Int).toNat]?=some items[0]:=by simp[r]
 have e:items2[(0:Int).toNat]?=some items2[0]:=by simp[q]
 rw[a,e];show ag (he prog w _ _ ?_);wp_walk using jK f,jK i
 rw[a,e];have j:=p prog w;wp_walk using j
 show h
theorem zim(l items n j sl k) :
  ∀i:Nat,items.size-i=k->Meets (Builtin.«list.__eq__.loop» ⟨[.ref l,.ref l,rawInt i,rawInt 0],[]⟩)
   (λA R s=>s.heap.get? l=some { cls:=.type "list",dict:=j,data:=.seq items n,slots:=sl }/\R (.ok (.ret (.bool false))) s):=by
 induction k with
 | zero=>
  intro i f prog w A R s h;obtain⟨e,g,d,tk,os⟩:=s;obtain⟨a,h⟩:=h;wp_walk using jK a
  have b:items[((i:Nat):Int).toNat]?=none:=by simp;lia
  rw[b];wp_walk using jK a
  show R (.ok (.ret (.bool (decide (items.size<items.size))))) _;simpa using h
 | succ k c=>
  intro i f prog w A R s h;obtain⟨e,g,d,tk,os⟩:=s;obtain⟨a,h⟩:=h;wp_walk using jK a
  have m:i<items.size:=by ext
  have b:items[((i:Nat):Int).toNat]?=some items[i]:=by simp[m]
  rw[b];show ag (EqAt.same _ prog w _ _ ?_);wp_walk
  show⟨mZ plain_eq_loop _,pB entry_eq_loop (by
   show c (i+1) (by lia) prog w A R _ ⟨a,h⟩)⟩
theorem zhj(l b items items2 n a k e sl f p)(o:0<items2.size)(c) :
  Meets (Builtin.«list.__lt__» ⟨[.ref l,.ref b],[]⟩)
   (λA R s=>s.heap.get? l=some { cls:=.type "list",dict:=k,data:=.seq items n,slots:=sl }/\s.heap.get? b=some { cls:=.type "list",dict:=e,data:=.seq items2 a,slots:=f }/\
    EqAt A.in1 s items[0] items2[0] false/\JI A.in1 s items[0] items2[0] c/\R (.ok (.ret (.bool c))) s):=by
 intro prog w A R s h;obtain⟨q,g,d,tk,os⟩:=s;obtain⟨i,j,he,m,h⟩:=h;have r:=QK;wp_walk using jK i,jK j
 show⟨mZ plain_eq_loop _,pB entry_eq_loop (by
  show zhi l b items items2 n a k e sl f p o c prog w A R _ ⟨i,j,he,m,h⟩)⟩
theorem zin(l items n b sl) :
  Meets (Builtin.«list.__lt__» ⟨[.ref l,.ref l],[]⟩)
   (λA R s=>s.heap.get? l=some { cls:=.type "list",dict:=b,data:=.seq items n,slots:=sl }/\R (.ok (.ret (.bool false))) s):=by
 intro prog w A R s h;obtain⟨c,g,d,tk,os⟩:=s;obtain⟨a,h⟩:=h;have e:=QK;wp_walk using jK a
 show⟨mZ plain_eq_loop _,pB entry_eq_loop (by
  show zim l items n b sl _ 0 rfl prog w A R _ ⟨a,h⟩)⟩
end
open PySem.SeqAt
end Ts
namespace L2
open PySem PySem.Spec PyProof.Rows
noncomputable abbrev aQ:=ae×Int
noncomputable def kK(p:aQ):D:=.tup [.str p.1,.int p.2]
theorem Kw{α:Type}{f:α->V}:∀{ps:List α}{its},Vals (ps.map f) its->∀z∈ps.zip its,RelV (f z.1) z.2
 | [],_,_,z,hz=>by cases hz
 | p::ps,_,r,z,hz=>by
  cases r with
  | cons a b=>
   rcases bG.mp hz with rfl | hz
   .exact a
   show Kw b z hz
theorem Ly{α β:Type}:∀{l:List α}{m:List β},l.length=m.length->∀b∈m,∃a,(a,b)∈l.zip m
 | [],[],_,b,d=>by cases d
 | a::l,c::m,h,b,d=>by
  rcases bG.mp d with rfl | d
  .exact⟨a,by show .head _⟩
  obtain⟨x,e⟩:=Ly (l:=l) (m:=m) (by simpa using h) b d;show⟨x,by show .tail _ ‹_›⟩
 | [],_::_,h,_,_=>by trivial
 | _::_,[],h,_,_=>by trivial
section
variable{X:Cx}{e i' i2:av}{te ti tk:TD}
def Fc(i:Nat)(ti tk te:TD):TX:=λD ρ=>match gt ρ i with
 | .ov (.ll a)=>te ρ λr=>ti ρ λrk=>match rk.val with
  | .int n=>∃j ds,jy a.length n=some j/\a[j]?=some ds/\tk ρ λb=>match b.val with
   | .int m=>∃c,jy ds.length m=some c/\D.nx (ρ.set i (.ov (.ll (a.set j (ds.set c r.val)))))
   | _=>False
  | _=>False
 | _=>False
theorem Ln(i)(hi:PD X i' ti)(hk:PD X i2 tk)(he:PD X e te)(hN:Nm X i x:=by walk_at"nm")(F:Kp i':=by intro _ _;rfl)
  (w:∀v,assign (.Subscript (.Subscript (.Name x m) i' f) i2 d) X.env v=(do
   let ov <-holding [v] (eval (.Subscript (.Name x m) i' f) X.env)
   let iv <-holding [v,ov] (eval i2 X.env)
   standAt d
   holding [v,ov,iv] (setItem ov iv v)
   release [v,ov,iv] []):=by intro _;rfl)
  (hs:swapsWithSole [.Subscript (.Subscript (.Name x m) i' f) i2 d] e pos.line X.env=pure false:=by rfl) (hw:swappedStores [.Subscript (.Subscript (.Name x m) i' f) i2 d] e X.env=pure none:=by rfl)
  (h1:(assignEach [.Subscript (.Subscript (.Name x m) i' f) i2 d] X.env).map (·.2)=[assign (.Subscript (.Subscript (.Name x m) i' f) i2 d) X.env]:=by rfl) :
  PX X (.Assign [.Subscript (.Subscript (.Name x m) i' f) i2 d] e pos) (Fc i ti tk te):=by
 obtain⟨t,p,q⟩:=he;obtain⟨t2,Mp,q2⟩:=hi;obtain⟨t3,FV,q3⟩:=hk;show⟨_,SA p (zsO (Si Xr (l9 hN) Mp F) FV zoO w) hs hw h1,λρ σ K J G H D E k h g=>?_⟩;unfold Fc at h;split at h
 .rename_i aC S;obtain⟨own,o1,o2⟩:=k.on;obtain⟨a,fp,W,b2,⟨w,R⟩,b4⟩:=o2 i _ S;show q ρ σ K J G H _ _ k h λv H' r G' x1 rr C=>?_
  obtain⟨G2,N,rv,_⟩:=rr.freeze x1;show⟨_,W,q2 ρ σ K J G2 H' _ _ (k.ext N) C λu H3 rk G3 x3 oM o=>?_⟩;obtain⟨G4,M,P,_⟩:=oM.freeze x3;split at o
  .rename_i kk e1;obtain⟨j,ds,hj,uI,o⟩:=o;rw[e1] at P;obtain⟨A,ks,y,c2,U⟩:=R.get uI;have I:bF (fp.map V.ref) kk=some (.ref A):=by
    unfold bF;rw[ax,R.length,hj];simp[y]
   have B:=N.trans M;show⟨a,fp.map V.ref,kk,_,rfl,P,bP.of (B.h _ _ w),I,?_⟩;show q3 ρ σ K J G4 H3 _ _ (k.ext B) o λu5 H5 r5 G5 Z BG n=>?_
   obtain⟨G6,L,Y,_⟩:=BG.freeze Z;split at n
   .rename_i mm e5;obtain⟨c,hc,n⟩:=n;rw[e5] at Y;have s:=B.trans L;show⟨A,ks,mm,c,rfl,Y,s.h _ _ c2,by rw[U.length];show hc,?_⟩;show g.nx _ _ G6 _ s.g ((k.ext s).yG S W λT nd ow=>?_) n;obtain⟨O,iH⟩:=ow;have e3:T=fp:=by
     have:=(s.h _ _ w).symm.trans O;injection this with this
     injection this with this
     show((wX λa b h=>by cases h;rfl).mp this).symm
    subst e3;have Q:=gu.mp nd;show⟨T,nd,⟨?_,iH.set ((U.mono s.g).set c (rv.mono (M.trans L).g)) Q.2 y⟩,λq C=>.inl C,λb hb _=>bA λz=>hb (by rw[z];show cK _ (cJ y))⟩;rw[bA (λz:a=A=>Q.1 (z▸cJ y))];show O
   show n.elim
  show o.elim
 show h.elim
theorem zno(j i)(O:Nm X i x:=by walk_at"nm")
  (hnd:X.N.Nodup:=by assumption) (J:X.N[j]?=some y:=by rfl) (B:Loc X.env.scope y:=by first | show Or.inl rfl | show Or.inr rfl)
  (M:∀{n},PE X (.Name x f) n->PE X (.Call (.Attribute (.Name x f) "pop" o) [] [] b) (Jl X.K "list" RK n):=by intro n m;show Sq xh PySem.F.slot_list_pop PySem.F.type_list_pop zs6 m)
  (C:swapsWith (.Call (.Attribute (.Name x f) "pop" o) [] [] b) (some (.Name y u)) pos.line X.env=pure false:=by rfl) (L:X.fn y=true\/X.env.scope.names.lookup y=some .local:=by first | show .inl rfl | show .inr rfl | assumption) :
  PX X (.Assign [.Name y u] (.Call (.Attribute (.Name x f) "pop" o) [] [] b) pos) (ER j i):=by
 show⟨_,J3 hnd J B (M (l9 O)) C L,λρ σ S R G H D E k h g=>?_⟩;unfold ER at h;split at h
 .rename_i ds v;obtain⟨d,q,I⟩:=h;obtain⟨a,xs,m,z,h3,Q,t⟩:=k.ow i ds v;have hl:=t.length;obtain⟨w,hw,P⟩:=t.get q;have p:xs[xs.length-1]?=some w:=by rw[hl];show hw
  show⟨_,m,.inl ⟨rfl,xs,bP.of z⟩,a,xs,w,rfl,rfl,z,p,?_⟩;have A:=k.change v m t.dropLast;show g.nx _ _ G _ (aZ.refl _) (A.put (.refl A.e.s) (r:=.fz d) P) I
 show h.elim
end
section
variable{St:Nat->ay->Prop}
theorem zpA(W:Walks prog w A.in1 I fp wr n P St)(bt S)(s:Jz prog w A.in1 .Lt P Hk bt)(i:S∉fp)(K)(lq:∀h h',Hk h->(∀b o,b∉wr->b≠S->h.get? b=some o->h'.get? b=some o)->Hk h') :
  ∀m j z best c,n-(j+1)=m->j<n->St (j+1) z.heap->Hk z.heap->P (argBest bt j) best->z.heap.get? S=some { cls:=.type "list",dict:=none,data:=.seq #[best,best] c,slots:=#[] }->
   (∀v h' tk,P (argBest bt (n-1)) v->(∀b o,b∉wr->b≠S->z.heap.get? b=some o->h'.get? b=some o)->Rz (.ok (.ret v)) { z with heap:=h',toks:=tk })->
   codeAny (model prog w) A (.builtin "min.loop" ⟨[.ref I,.none,.ref S],K⟩) Rz z:=by
 have G:S∉wr:=λh=>i (W.sub _ h)
 intro m;induction m with
 | zero=>
  intro j z best c em J st p pb k fin;have F:j+1=n:=by lia
  show pB HX ?_;show ag (m7 k rfl ?_);show ag (zq (W.done z _ _ (F▸st) λr tk kp=>?_));have g:=kp S _ G k;show ag ?_;show qU g rfl (ag (qR (az ?_)));show fin best _ tk (by rw[<-F];show pb) λb o a d e=>(lM _ _ (Ne.symm d)).trans (kp b o a e)
 | succ m D=>
  intro j z best c em J st p pb k fin;have t:j+1<n:=by ext
  show pB HX ?_;show ag (m7 k rfl ?_);show ag (zq (W.item (j+1) z _ _ t st λv r tk pv C kp=>?_));have g:=kp S _ G k;have B:Hk r:=lq _ _ p λb o a _ e=>kp b o a e
  show wpAny _ A.in1 (tryCatch (holding [v,v] (richCompare .Lt v best >>= _)) _ >>= _) _ _ _;show ag (zq (fQ (ag (s (j+1) (argBest bt j) v best _ _ _ B pv pb ?_))));show ag (fQ (lR ?_));show ag (qR (az ?_));cases E:bt (j+1) (argBest bt j) with
  | true=>
   show ag ?_;show qU g rfl (ag (qR ?_));have H:∀f b o,b∉wr->b≠S->z.heap.get? b=some o->(r.update S f).get? b=some o:=λf b o a d e=>(lM _ _ (Ne.symm d)).trans (kp b o a e)
   show az ⟨mZ Df _,D (j+1) _ v _ (by ext) t (W.frame _ _ _ C λb L o e=>?_) (lq _ _ p (H _)) (by simp only[argBest,E,cO];show pv) (mT _ g rfl) λl q y x u=>?_⟩
   .exact(lM _ _ (λh:S=b=>i (by rw[h];show L))).trans e
   show fin l q y x λb o a d e=>u b o a d (H _ b o a d e)
  | false=>
   show ag (qR ?_);show az ⟨mZ Df _,D (j+1) _ best c (by ext) t C B (by simp only[argBest,E,dW,cM];show pb) g λl q y x u=>?_⟩;show fin l q y x λb o a d e=>u b o a d (kp b o a e)
theorem zpB(W:Walks prog w A.in1 I fp wr n P St)(bt S)(i:Jz prog w A.in1 .Lt P Hk bt)(a:S∉fp)(k)(lq:∀h h',Hk h->(∀b o,b∉wr->b≠S->h.get? b=some o->h'.get? b=some o)->Hk h')(pos:0<n)(st:St 0 z.heap)(r:Hk z.heap)
  (l:z.heap.get? S=some { cls:=.type "list",dict:=none,data:=.seq #[] c,slots:=#[] })
  (fin:∀v h' tk,P (argBest bt (n-1)) v->(∀b o,b∉wr->b≠S->z.heap.get? b=some o->h'.get? b=some o)->Rz (.ok (.ret v)) { z with heap:=h',toks:=tk }) :
  codeAny (model prog w) A (.builtin "min.loop" ⟨[.ref I,.none,.ref S],k⟩) Rz z:=by
 have x:S∉wr:=λh=>a (W.sub _ h)
 show pB HX ?_;show ag (m7 l rfl ?_);show ag (zq (W.item 0 z _ _ pos st λv t tk pv q kp=>?_));have j:=kp S _ x l;show wpAny _ A.in1 (updateSeq S (λ_=>#[v,v]) >>= _) _ _ _;show ag ?_;show qU j rfl ?_;have m:∀f b o,b∉wr->b≠S->z.heap.get? b=some o->(t.update S f).get? b=some o:=λf b o g d e=>(lM _ _ (Ne.symm d)).trans (kp b o g e)
 show az ⟨mZ Df _,zpA W bt S i a k lq _ 0 _ v _ rfl pos (W.frame _ _ _ q λb u o e=>?_) (lq _ _ r (m _)) pv (mT _ j rfl) λp s C B y=>?_⟩
 .exact(lM _ _ (λh:S=b=>a (by rw[h];show u))).trans e
 show fin p s C B λb o g d e=>y b o g d (m _ b o g d e)
end
theorem zlt(l:A.handled=none)(g:Jz prog w A.in1 .Lt (λi v=>(#[a,b]:Array aa)[i]?=some v) (λh=>∀c o,s.heap.get? c=some o->h.get? c=some o) bt)
  (h:∀h' tk,(∀c o,s.heap.get? c=some o->h'.get? c=some o)->Q (if bt 1 0=true then b else a) { s with heap:=h',toks:=tk }) :
  wpAny (model prog w) A (call (.builtin "min") [a,b]) Q E s:=by
 show call_function_tree F.kind_min F.plain_min F.entry_min (F.args_min2 _ _) ?_;show ag (Hr (show Zw "min" ["key","default"] 0 ⟨[],[]⟩=pure [none,none] from rfl) ?_);show ag (kR ?_);have k:(s.heap.push { cls:=.type "tuple",data:=.seq #[a,b] }).IsTuple s.heap.objs.size #[a,b]:=⟨_,c8 _ rfl,rfl,0,rfl⟩
 have hsz:(s.heap.push { cls:=.type "tuple",data:=.seq #[a,b] }).objs.size=s.heap.objs.size+1:=jm ..;show ag (Qb k ?_);show ag (kR ?_);generalize n:s.heap.push { cls:=.type "tuple",data:=.seq #[a,b] }=d at *;have W:=Walks.tuple (prog:=prog) (w:=w) (A:=A.in1) l d.objs.size s.heap.objs.size (by rw[hsz];show c7 (Dj _)) #[a,b];have keep:∀c o,s.heap.get? c=some o->d.get? c=some o:=λc o e=>by rw[<-n];show bZ _ e
 have f:∀c o,s.heap.get? c=some o->c∉[d.objs.size]/\c≠(d.push { cls:=.type "tuple_iterator",data:=.fields #[.ref s.heap.objs.size,.int 0 0] }).objs.size:=λc o e=>by
  have:=bX e;show⟨λhm=>?_,λh=>?_⟩
  .have m:c=d.objs.size:=by show du.1 ‹_›
   rw[m,hsz] at this;show iM _ (zA this)
  rw[jm,hsz] at h;rw[h] at this;show iM _ (zA (zA this))
 show az ⟨mZ Df _,?_⟩;have p:=W.frame 0 _ ((d.push { cls:=.type "tuple_iterator",data:=.fields #[.ref s.heap.objs.size,.int 0 0] }).push { cls:=.type "list",dict:=none,data:=.seq #[] 0,slots:=#[] }) ⟨⟨_,c8 _ rfl,rfl,rfl⟩,k.push _⟩ λb _ o e=>bZ _ e
 have off:(d.push { cls:=.type "tuple_iterator",data:=.fields #[.ref s.heap.objs.size,.int 0 0] }).objs.size∉[d.objs.size,s.heap.objs.size]:=λhm=>by
  rw[jm] at hm;simp only[bG,kY,or_false] at hm;ext
 show zpB (bt:=bt) W _ (Hk:=λh=>∀c o,s.heap.get? c=some o->h.get? c=some o) g off _ (λh h' x y c o e=>y c o (f c o e).1 (f c o e).2 (x c o e)) (by show lP _) p (λc o e=>bZ _ (bZ _ (keep c o e))) (c8 _ rfl) λv h' tk pv kp=>?_
 have hv:v=if bt 1 0=true then b else a:=by
  have e:argBest bt ((#[a,b]:Array aa).size-1)=if bt 1 0=true then 1 else 0:=rfl
  rw[e] at pv;cases j:bt 1 0 with
  | true=>rw[j] at pv;show(fT ‹_›).symm
  | false=>rw[j] at pv;show(fT ‹_›).symm
 rw[hv];show h h' tk λc o e=>kp c o (f c o e).1 (f c o e).2 (bZ _ (bZ _ (keep c o e)))
theorem znp(T:X.A.units+64<cLine)(G:X.calm=true):ip X (.builtin "min") (λxs H Q=>∃a b ns ms,xs=[.ref a,.ref b]/\cz X.K H a (ns.map V.int)/\cz X.K H b (ms.map V.int)/\Q (if HT.lexLt ms ns=true then .ref b else .ref a) H):=by
 intro P s σ H xs us Q I r h;obtain⟨a,b,ns,ms,rfl,L,J,q⟩:=h;obtain⟨u,R,rfl,w,M⟩:=Ah r;cases w;cases M;obtain⟨e,y,⟨o1,g1,O⟩,_⟩:=I.tuple L;obtain⟨d,x,⟨C,g2,N⟩,_⟩:=I.tuple J;have g:∀i (v:aa),(#[fi a,.ref b]:Array aa)[i]?=some v->∀z:ai,(∀c o,s.heap.get? c=some o->z.heap.get? c=some o)->∃p it,v=.ref p/\IsTup z.heap p (Hz it)/\IntsAre it (if i=0 then ns else ms):=λi v hv z f=>by
  have F:i=0\/i=1:=by
   have:=(IQ.mp hv).1;simp at this;lia
  rcases F with rfl | rfl
  .simp at hv;show⟨a,e,hv.symm,⟨o1,f _ _ g1,O⟩,by simpa using xY y⟩
  simp at hv;show⟨b,d,hv.symm,⟨C,f _ _ g2,N⟩,by simpa using xY x⟩
 show zlt (bt:=λi j=>HT.lexLt (if i=0 then ns else ms) (if j=0 then ns else ms)) (I.ok.hd G) (λi j n m z U W l pi B E=>?_) λh' tk k=>?_
 .obtain⟨p,it,rfl,t1,i1⟩:=g i n pi z l;obtain⟨S,D,rfl,t,i2⟩:=g j m B z l;show HT.aaz t1 t i1 i2 (by show X.A.units+1<cLine;lia) E
 show EP X P σ Q (if HT.lexLt ms ns=true then .ref b else .ref a) _;show⟨if HT.lexLt ms ns=true then .ref b else .ref a,H,I.kept k,?_,q⟩;split<;>rfl
def D7:cg:=λds Q=>match ds with
 | [.tup a,.tup b]=>∃ns ms,a=wM D.int ns/\b=wM D.int ms/\Q (.fz (if HT.lexLt ms ns=true then .tup b else .tup a))
 | _=>False
theorem KY{K:aj}:∀{xs}{ns:List Int},ao K G xs (ns.map D.int)->xs=ns.map V.int
 | [],[],_=>rfl
 | x::xs,n::ns,r=>by
  rw[bD,r.1,KY r.2]
 | [],_::_,r=>by rw[bD] at r;simp only[ao] at r
 | _::_,[],r=>by rw[tu] at r;simp only[ao] at r
theorem ztL(i:X.A.units+64<cLine)(j:X.calm=true):pU X (.builtin "min") D7:=by
 show⟨_,znp i j,λG H o ds Q P s rs h k=>?_⟩;unfold D7 at h;split at h
 .obtain⟨ns,ms,rfl,rfl,q⟩:=h;obtain⟨v,n,rfl,e,g⟩:=Ag rs;have d:=e;have c:=g;obtain⟨a,xs,rfl,f,m⟩:=e;obtain⟨b,ys,rfl,h3,l⟩:=g;rw[KY m] at f;rw[KY l] at h3;show⟨a,b,ns,ms,rfl,cz.of (s _ _ f),cz.of (s _ _ h3),k _ _ _ G (.refl s) (de ?_) q⟩;split
  .exact c
  show d
 show h.elim
section
variable{ti:TD}
def Ep(i:Nat)(ti:TD):TD:=λρ Q=>match gt ρ i with
 | .ov (.dq kvs)=>ti ρ λrk=>match rk.val with
  | .tup a=>∃k d,iT a=some k/\iS kvs k=some d/\Q (.fz d)
  | _=>False
 | _=>False
theorem US(y:X.A.units+64<cLine)(i)(C:PD X i' ti)(z:DR i':=by intro _ _;rfl)(J:Nm X i x:=by walk_at"nm"):PD X (.Subscript (.Name x q) i' pos) (Ep i ti):=by
 obtain⟨V,p,o⟩:=C;show⟨_,VD y (l9 J) p z,λρ σ T R G H Q P E h k=>?_⟩;unfold Ep at h;split at h
 .rename_i kvs D;obtain⟨own,o1,t⟩:=E.on;obtain⟨a,fp,N,Z,⟨rfl,v,bs,I,U,n⟩,Y⟩:=t i _ D;show⟨_,N,o ρ σ T R G H _ _ E h λu O rk G3 m r e=>?_⟩;obtain⟨S,f,j,_⟩:=r.freeze m;split at e
  .rename_i W M;obtain⟨key,d,B,hl,e⟩:=e;rw[M] at j;obtain⟨b,ys,rfl,F,L⟩:=j;obtain⟨w,hw,K⟩:=(bC.mono f.g _ _ n).look hl;show⟨a,b,v,bs,key,w,rfl,rfl,.inl (f.h _ _ I),cz.of (by rw[<-vT L B];show f.s _ _ F),hw,k w O (.fz d) S f K e⟩
  show e.elim
 show h.elim
end
section
variable{X:Cx}{e:av}{te:TD}
def UR(K:aj):V->List V->Hp->VK->Prop:=λx a H Q=>∃l b xs zs,x=.ref l/\a=[.ref b]/\H l=some (.lst xs)/\fO K H b zs/\xs.length+zs.length<=sizeLine/\Q .non (upd H l (.lst (xs++zs)))
theorem zlu:CB X "list.extend" (UR X.K):=by
 intro A s σ H x t v us Q I f g h;obtain⟨l,b,xs,zs,rfl,rfl,d,k,hz,q⟩:=h;cases f;obtain⟨u,rfl,i⟩:=g.one;cases i;obtain⟨z,its,n,r,y,e⟩:=I.v8 d;obtain⟨p,a,j,c,m⟩:=I.cH k;have w:zs.length=a.length:=c.length;have hsz:its.toArray.size+a.toArray.size<=sizeLine:=by rw[cS,cS];simp_all
 have o:¬(!its.toArray.isEmpty&&zQ (its.toArray.size+a.toArray.size))=true:=by
  rw[KL hsz,HM];show eJ
 show lO CV ⟨_,e,rfl⟩ Qp (Qu _ _)
  (Rq l its.toArray n b a.toArray j o (by simp_all) (by lia)) ⟨e,m,?_⟩
 show⟨.non,_,I.BM (its':=its++a) d e (by simp) (r.append c) ?_,rfl,q⟩;rw[bL];show hz
def D6(i:Nat)(te:TD):TX:=λD ρ=>match gt ρ i with
 | .ow ds=>te ρ λr=>match r with
  | .fz (.lst a)=>ds.length+a.length<=sizeLine/\D.nx (ρ.set i (.ow (ds++a)))
  | _=>False
 | _=>False
theorem zrP(i)(he:PD X e te)(L:Nm X i x:=by walk_at"nm")
  (N:starEach [e] X.env=(false,eval e X.env)::starEach [] X.env:=by rfl)
  (J:∀{o t},PE X (.Name x w) o->PA X [e] t->PE X (.Call (.Attribute (.Name x w) "extend" y) [e] [] d) (BC X.K "list" (UR X.K) o t):=by intro o t n m;show Ae xh CV Q4 zlu n m) :
  PX X (.Expr (.Call (.Attribute (.Name x w) "extend" y) [e] [] d) pos) (D6 i te):=by
 obtain⟨t,p,q⟩:=he;show⟨_,AG (J (l9 L) (oG p oC N)),λρ σ Q P G H D E k h g=>?_⟩;unfold D6 at h;split at h
 .rename_i ds z;obtain⟨a,xs,n,m,h3,R,A⟩:=k.ow i ds z;show⟨_,n,.inl ⟨rfl,xs,bP.of m⟩,q ρ σ Q P G H _ _ k h λv H' r C f F j=>?_⟩;split at j
  .rename_i M;have u:Rep X.K C v (.lst M):=F;obtain⟨b,zs,rfl,O,B⟩:=u;have I:=k.ext f;show⟨a,b,xs,zs,rfl,rfl,f.h _ _ m,f.s.cH O,by rw[A.length,B.length];show j.1,?_⟩;show g.nx _ _ C _ f.g (I.change z n ((A.mono f.g).append B)) j.2
  show j.elim
 show h.elim
end
theorem zlv:typeLookup (.type "list_reverseiterator") "__len__"=pure none:=by kernel_rfl
theorem zpE:typeLookup (.type "list_reverseiterator") "__length_hint__"=pure (some (.builtin "list_reverseiterator.__length_hint__")):=by kernel_rfl
theorem zhl:bootBuiltins "reversed"=some (.type "reversed"):=by rfl
section
variable{prog:aG}{w:aF}{A:br}{E:aa->ai->Prop}{s:ai}{R:Result->ai->Prop}{I l:ab}{items:Array aa}
theorem zlw(t:A.handled=none)(S:ab)(res:aa)(g:Nat)(a:s.heap.IsRevIter I l ((items.size:Int)-1))(r:s.heap.IsList l items)(D:l≠I)(F:S≠I)(G:S≠l)
  (x:s.heap.get? S=some { cls:=.type "list",data:=.seq #[] g })
  (y:∀h' tk h d,(∀b o,b≠S->b≠I->s.heap.get? b=some o->h'.get? b=some o)->h'.get? S=some { cls:=.type "list",dict:=none,data:=.seq h d,slots:=#[] }->
   ItemsOf (λi v=>items[items.size-1-i]?=some v) h items.size->R (.ok (.ret res)) { s with heap:=h',toks:=tk }) (q:items.size<=sizeLine) :
  wpAny (model prog w) A.in1 (Rf (.ref S) (.ref I) res)
   (λfin c=>match fin with | .done f=>R (.ok f) c | .again d=>d.quiet=true/\codeAny (model prog w) A d R c) (λe c=>R (.error e) c) s:=by
 have k:S∉[I,l]:=λhm=>by
  rcases bG.mp hm with e | hm
  .exact F e
  show G (du.mp hm)
 show ag (zj (T:="list_reverseiterator") a.typeIs ?_);have B:IF (.ref S) (.ref I)=false:=by show if_neg ‹_›
 have z:(mY "list_reverseiterator"==mY "list")=false:=by rfl
 have h3:(mY "list_reverseiterator"==mY "tuple")=false:=by assumption
 simp only[B,z,h3,Pa,dW,cM];show ag (wpAny_pyIter_revIter a ?_);show ag (fQ ?_);show ag (u9 (T:="list_reverseiterator") a.typeIs zlv ?_);show ag (u9 (T:="list_reverseiterator") a.typeIs zpE ?_);wp_delta
 show ag (Dh (T:="list_reverseiterator") (b:=true) a.typeIs (by kernel_rfl) ?_);show az ?_;have W:=(Walks.listRev (prog:=prog) (w:=w) (A:=A.in1) t I l D items).toS;have E:0<=items.size/\s.heap.IsRevIter I l ((items.size:Int)-1-((0:Nat):Int))/\s.heap.IsList l items:=⟨cG _,by simpa using a,r⟩
 show az ⟨mZ Io _,codeAny_extend_loopS W q _ k _ items.size 0 _ _ _ rfl (cG _) E x (ItemsOf.nil _) λc h d hm p n=>?_⟩;rw[Moved.eq_with hm];show y c.heap c.toks h d (λb ob u m e=>hm.heap b ob (λj=>?_) e) p n;rcases bG.mp j with C | j
 .exact u C
 show m (du.mp j)
theorem zhm(z:A.handled=none)(S:ab)(j:s.heap.IsRevIter I l ((items.size:Int)-1))(x:s.heap.IsList l items)(C:l≠I)(m:S≠I)(n:S≠l)
  (k:s.heap.get? S=some { cls:=.type "list",data:=.seq #[] })
  (B:∀h' tk g a,(∀b o,b≠S->b≠I->s.heap.get? b=some o->h'.get? b=some o)->h'.get? S=some { cls:=.type "list",dict:=none,data:=.seq g a,slots:=#[] }->
   ItemsOf (λi v=>items[items.size-1-i]?=some v) g items.size->R (.ok (.ret .none)) { s with heap:=h',toks:=tk }) (u:items.size<=sizeLine) :
  wpAny (model prog w) A.in1 (Builtin.«list.__init__» ⟨[.ref S,.ref I],[]⟩)
   (λfin c=>match fin with | .done f=>R (.ok f) c | .again a=>a.quiet=true/\codeAny (model prog w) A a R c) (λe c=>R (.error e) c) s:=by
 show ag ?_;show ag (m7 k rfl (az ?_));show ag (qU k rfl ?_);have p:=mT (gZ (λ_=>(#[]:Array aa))) k rfl;have h:∀b o,b≠S->s.heap.get? b=some o->(s.heap.update S (gZ (λ_=>(#[]:Array aa)))).get? b=some o:=
  λb o d e=>(lM _ _ (Ne.symm d)).trans e
 show ag (qR ?_);show zlw z S .none _ (j.at λo e=>h I o (Ne.symm m) e) (x.at λo e=>h l o (Ne.symm n) e) C m n p (λh' tk g a y t r=>?_) u;show B h' tk g a (λb o d q e=>y b o d q (h b o d e)) t r
theorem zhn(q:A.handled=none)(a:s.heap.IsRevIter I l ((items.size:Int)-1))(g:s.heap.IsList l items)(z:l≠I)
  (t:∀h' tk c f,(∀b o,b≠I->s.heap.get? b=some o->h'.get? b=some o)->
   h'.get? s.heap.objs.size=some { cls:=.type "list",dict:=none,data:=.seq c f,slots:=#[] }->ItemsOf (λi v=>items[items.size-1-i]?=some v) c items.size->Q (.ref s.heap.objs.size) { s with heap:=h',toks:=tk }) (n:items.size<=sizeLine) :
  wpAny (model prog w) A (call (.type "list") [.ref I]) Q E s:=by
 show HG (Q₁:=λobj j=>obj=.ref s.heap.objs.size/\j={ s with heap:=s.heap.push { cls:=.type "list",data:=.seq #[] } }) O9 (PY _) PV
  (O8 _ ⟨rfl,rfl⟩) λobj j y=>?_
 obtain⟨rfl,rfl⟩:=y;have h:(s.heap.push { cls:=.type "list",data:=.seq #[] }).get? s.heap.objs.size=some { cls:=.type "list",data:=.seq #[] }:=c8 _ rfl;have x:s.heap.objs.size≠I:=by obtain⟨o,d,_⟩:=a;show kT (bX d)
 have u:s.heap.objs.size≠l:=by obtain⟨o,d,_⟩:=g;show kT (bX d)
 show⟨⟨_,h,rfl⟩,P9 _ _,zhm (A:=A.in1) q _ (a.at λo e=>bZ _ e) (g.at λo e=>bZ _ e) z x u h (λh' tk c f p m k=>?_) n⟩;show⟨rfl,t h' tk c f (λb o r e=>p b o (c7 (bX e)) r (bZ _ e)) m k⟩
end
theorem zpF(h:Vals xs its)(a:ItemsOf (λi v=>its.toArray[its.toArray.size-1-i]?=some v) acc its.toArray.size):acc.toList=its.reverse:=by
 apply pF;intro i;have b:=a.1;simp only[cS] at b;by_cases c:i<its.length
 .have d:i<acc.size:=by simp_all
  have:=a.2 i acc[i] (mW d);simp only[cS,Ir] at this;rw[List.getElem?_reverse c,this];show aX ‹_›
 rw[tL (by simp;simp_all),tL (by simp;simp_all)]
theorem zpG(h:Vals xs its):Vals xs.reverse its.reverse:=by
 induction h with
 | nil=>show .nil
 | cons a b c=>
  rw[Dn,Dn];show c.append (.cons a .nil)
theorem UQ{K:aj}:∀{a ds},ao K G a ds->ao K G a.reverse ds.reverse
 | [],[],_=>by simp[ao]
 | v::a,d::ds,h=>by
  rw[Dn,Dn];show(UQ h.2).append (by show⟨h.1,trivial⟩)
 | [],_::_,h=>by simp only[ao] at h
 | _::_,[],h=>by simp only[ao] at h
section
variable{p p2 pos ic:aI}{e:av}{te:TE}
def zpH(K:aj)(te:TE):TE:=λσ H Q=>Sa te RO σ H λa H1=>∃q ys,a=[.ref q]/\bP K H1 q ys/\∀l,H1 l=none->Q (.ref l) (upd H1 l (.lst ys.reverse))
theorem zlx(E:X.calm=true)(B:X.mg "list"=none)(t:X.mg "reversed"=none)(F:PE X e te)(D:Gl X "list")(v:Gl X "reversed")(i:starEach [e] X.env=(false,eval e X.env)::starEach [] X.env)
  (j:starEach [CK (.Name "reversed" p2) [e] [] ic] X.env=(false,eval (.Call (.Name "reversed" p2) [e] [] ic) X.env)::starEach [] X.env):PE X (.Call (.Name "list" p) [.Call (.Name "reversed" p2) [e] [] ic] [] pos) (zpH X.K te):=by
 intro M s σ H Q I h;show vm (l7 I D B CJ (n6 ?_ j rfl));show vn (vm (l7 I v t zhl (n6 (aR (oG (te:=te) F oC i ic M s σ H _ I h) λus s1 L=>?_) i rfl)));obtain⟨N,H1,g,m,n⟩:=L;obtain⟨q,ys,rfl,z,x⟩:=n;obtain⟨u,rfl,k⟩:=i8 m;cases k;obtain⟨its,a,pl,hz⟩:=g.list z;have hlen:=a.length;have f:=pl.isList;show call_reversed_list f ?_;show zC ?_;have d:q<s1.heap.objs.size:=by obtain⟨o,A,_⟩:=f;show bX A
 show zhn (I.ok.hd E) (I:=s1.heap.objs.size) (l:=q) (items:=its.toArray) ⟨_,c8 _ rfl,rfl,rfl⟩ (f.at λo e=>bZ _ e) (c7 d) (λh' tk acc c C y r=>?_) (by simp only[cS];simp_all);have J:=zpF a r;have G:acc=its.reverse.toArray:=by rw[<-J]
 subst G;have hsz:s1.heap.objs.size<=(s1.heap.push (revObj q ((its.toArray.size:Int)-1))).objs.size:=by simp_all
 show⟨.ref _,_,g.laid (t':=tk) (λb u e=>C b u (c7 (bX e)) (bZ _ e)) hsz (show fP X.prog X.w _ h' _ (.lst ys.reverse) from⟨by simpa using hz,its.reverse,c,zpG a,y⟩),rfl,x _ (g.aW.fresh hsz)⟩
def Kv(te:TD):TD:=λρ Q=>te ρ λr=>match r.val with
 | .lst a=>Q (.ow a.reverse)
 | _=>False
theorem zly(w:X.calm=true)(o:X.mg "list"=none)(m:X.mg "reversed"=none)(y:PD X e f)(u:Gl X "list":=by rfl)(n:Gl X "reversed":=by rfl)(C:starEach [e] X.env=(false,eval e X.env)::starEach [] X.env:=by rfl)
  (j:starEach [CK (.Name "reversed" p2) [e] [] ic] X.env=(false,eval (.Call (.Name "reversed" p2) [e] [] ic) X.env)::starEach [] X.env:=by rfl):PD X (.Call (.Name "list" p) [.Call (.Name "reversed" p2) [e] [] ic] [] pos) (Kv f):=by
 obtain⟨t,pp,q⟩:=y;show⟨_,zlx w o m pp u n C j,λρ σ J F G H Q P E h k=>q ρ σ J F G H _ _ E h λv H' r M x c d=>?_⟩;obtain⟨L,b,g,_⟩:=c.freeze x;split at d
 .rename_i K B;rw[B] at g;obtain⟨a,xs,rfl,A,z⟩:=g;show⟨a,xs,rfl,(b.s.cH A).sq,Ay b.s (UQ z) d λv D r I i c l=>k v D r I (b.trans i) (c.qj b.h) l⟩
 show d.elim
end
section
variable{σ:St}
theorem Inv.tell(I:Inv X J' σ H s)(h:Inv X J' σ H0 s0)(f:H a=none)(g:s0.heap.get? a=none)(new:fP X.prog X.w (upd H a o) s.heap a o):Inv X J' σ (upd H a o) s:=by
 have nl:a≠X.env.locals:=λz=>by
  obtain⟨m,⟨B,_,_,t,_⟩,_⟩:=h.loc;rw[z,t] at g;cases g
 show⟨I.ok,I.os,I.bare,⟨I.base.keep,I.base.slot,λb ob e n j=>?_,I.base.there,λb xs e=>?_,λb o' u e=>?_,λb ps e=>?_⟩,I.loc,I.cell,by rw[bA (Ne.symm nl)];show I.free,λx c e=>?_,λp k=>?_,λb u e=>?_,I.len⟩
 .have:b≠a:=λz=>by
   obtain⟨o',r⟩:=h.base.there b ob e j;rw[z,g] at r;cases r
  rw[bA this];show I.base.free b ob e n j
 .have z:=I.base.rW b xs e;rw[bA (iD z f)];show z
 .have z:=I.base.qH b o' u e;rw[bA (iD z f)];show z
 .obtain⟨more,z⟩:=I.base.ud b ps e;show⟨more,by rw[bA (iD z f)];show z⟩
 .have:c≠a:=λz=>by
   obtain⟨v,A,i,_⟩:=h.cell x c e;rw[z,g] at i;cases i
  rw[bA this];show I.oY x c e
 .obtain⟨e,n,ne,y,d⟩:=I.pin p k;have:p.1≠a:=λz=>by
   have:=(h.pin p k).1;rw[z,g] at this;cases this
  show⟨e,by rw[bA this];show n,ne,y,d⟩
 by_cases l:b=a
 .subst l;rw[dQ] at e;cases e;show new
 rw[bA l] at e;show(I.aW b u e).lq (λc v _ q=>q) (λc q=>by rw[bA (iD q f)];show q) λc xs q=>by rw[bA (iD q f)];show q
end
end L2
namespace PySem.W
open PySem PySem.Spec PySem.Calls PyProof.Rows Builtin Builtin.ObjectAttr Builtin.Getset_descriptor
end PySem.W
namespace L2
open PySem PySem.Spec PyProof.Rows
open Builtin Builtin.ObjectAttr
noncomputable def S5(a:List aa):List aa->Bool
 | []=>a==[]
 | v::r=>(v::r)==a||match v with
  | .ref _=>S5 a r
  | _=>false
noncomputable abbrev XQ:=ae->ae->R->Prop
end L2
namespace PySem.W
open PySem PySem.Spec PySem.Calls PyProof.Rows Builtin Builtin.ObjectAttr Builtin.Getset_descriptor
end PySem.W
namespace L2
open PySem PySem.Spec PyProof.Rows
end L2
namespace Ts
open PySem PySem.W PyProof.Rows
noncomputable abbrev Kx:=Sum Int ae
noncomputable def uu:Kx->Kx->Bool
 | .inl i,.inl j=>decide (i<j)
 | .inl _,.inr _=>true
 | .inr _,.inl _=>false
 | .inr a,.inr b=>decide (a.cps.toList<b.cps.toList)
theorem MF:Ord uu:=by
 show⟨λa b c e d=>?_,λa=>?_,λa b h=>?_⟩
 .cases a<;>cases b<;>cases c<;>simp only[uu,gJ,dW] at *
  .lia
  show List.lt_trans e d
 .cases a with
  | inl i=>simp[uu]
  | inr a=>simp only[uu,kS];show List.lt_irrefl _
 cases a with
 | inl i=>
  cases b with
  | inl j=>
   have:i≠j:=λz=>h (by rw[z])
   simp only[uu,gJ];lia
  | inr b=>show .inl rfl
 | inr a=>
  cases b with
  | inl j=>show .inr rfl
  | inr b=>
   have h:a≠b:=λz=>h (by rw[z])
   simp only[uu,gJ];rcases O3 (a.cps.toList<b.cps.toList) with z | z
   .exact .inl z
   rcases O3 (b.cps.toList<a.cps.toList) with y | y
   .exact .inr y
   show absurd (zrO (List.le_antisymm (OT.mp y) (OT.mp z))) h
noncomputable def dH:List Kx->List Kx->Bool
 | [],[]=>false
 | [],_::_=>true
 | _::_,[]=>false
 | a::r,b::t=>if a=b then dH r t else uu a b
theorem S4:∀a b c:List Kx,dH a b=true->dH b c=true->dH a c=true
 | [],[],c,e,_=>by cases e
 | _::_,[],c,e,_=>by cases e
 | [],_::_,[],_,d=>by cases d
 | [],_::_,_::_,_,_=>rfl
 | _::_,_::_,[],_,d=>by cases d
 | a::r,b::t,c::u,e,d=>by
  unfold dH at *;by_cases g:a=b
  .subst g;rw[if_pos rfl] at e;by_cases f:a=c
   .rw[if_pos f] at d ⊢;show S4 r t u e d
   rw[if_neg f] at d ⊢;show d
  rw[if_neg g] at e;by_cases f:b=c
  .subst f;rw[if_neg g];show e
  rw[if_neg f] at d;have h3:=MF.tr _ _ _ e d;rw[if_neg λz=>by subst z;rw[MF.ir] at h3;cases h3];show h3
theorem S1:∀a:List Kx,dH a a=false
 | []=>rfl
 | a::r=>by unfold dH;rw[if_pos rfl];show S1 r
theorem Tv:∀a b:List Kx,a≠b->dH a b=true\/dH b a=true
 | [],[],h=>absurd rfl h
 | [],_::_,_=>.inl rfl
 | _::_,[],_=>.inr rfl
 | a::r,b::t,h=>by
  unfold dH;by_cases e:a=b
  .subst e;rw[if_pos rfl,if_pos rfl];show Tv r t λz=>h (by rw[z])
  rw[if_neg e,if_neg (Ne.symm e)];show MF.dF _ _ e
theorem sO:Ord dH:=⟨S4,S1,Tv⟩
noncomputable def kv:aa->Kx
 | .str x _=>.inr x
 | .int i _=>.inl i
 | _=>.inl 0
def iL:List Bool->List aa->Prop
 | [],[]=>True
 | true::s,.str _ _::r=>iL s r
 | false::s,.int _ _::r=>iL s r
 | _,_=>False
theorem iL.len:∀{sh xs},iL sh xs->xs.length=sh.length
 | [],[],_=>rfl
 | [],_::_,h=>h.elim
 | b::_,[],h=>by cases b<;>show h.elim
 | b::sh,x::xs,h=>by
  cases b<;>cases x<;>first | show h.elim | (show dN (·+1) (iL.len (sh:=sh) (xs:=xs) h))
section
variable{w:aF}{s:ai}
theorem zpI:∀{sh xs ys} i,iL sh xs->iL sh ys->Q (dH (xs.map kv) (ys.map kv)) s->KatLex prog w A b false Q (xs.zip ys) i s:=by
 intro sh;induction sh with
 | nil=>
  intro xs ys i d a q;cases xs with
  | nil=>cases ys with
   | nil=>show kat_nil q
   | cons _ _=>show a.elim
  | cons _ _=>show d.elim
 | cons c sh f=>
  intro xs ys i d a q;cases xs with
  | nil=>cases c<;>show d.elim
  | cons x xs=>
   cases ys with
   | nil=>cases c<;>show a.elim
   | cons y ys=>
    rw[bD,bD] at q;unfold dH at q;cases c with
    | true=>
     cases x<;>first | show d.elim | skip
     cases y<;>first | show a.elim | skip
     rename_i x t y u;show kat_cons (Dl ?_);by_cases e:x=y
     .rw[iu e];rw[if_pos (by rw[e];rfl)] at q;show kat_yes (f (i+1) d a q)
     rw[iw e];rw[if_neg (λz=>e (by injection z))] at q;show kat_no ?_;cases (b&&i==0) with
     | true=>show oneLt_str q
     | false=>show kat_one _ _ (Ql q)
    | false=>
     cases x<;>first | show d.elim | skip
     cases y<;>first | show a.elim | skip
     rename_i x t y u;show kat_cons (Dm ?_);by_cases e:x=y
     .simp only[beq_iff_eq.mpr e];rw[if_pos (by rw[e];rfl)] at q;show kat_yes (f (i+1) d a q)
     simp only[beq_eq_false_iff_ne.mpr e];rw[if_neg (λz=>e (by injection z))] at q;show kat_no ?_;cases (b&&i==0) with
     | true=>show oneLt_int q
     | false=>show kat_one _ _ (Ip q)
noncomputable def jY(h:ay)(v:aa):List Kx:=match v with
 | .ref a=>match h.get? a with
  | some o=>match o.data with
   | .seq xs _=>xs.toList.map kv
   | _=>[]
  | none=>[]
 | _=>[]
def sV(sh:List Bool)(h:ay)(v:aa):Prop:=∃a o xs n,v=.ref a/\h.get? a=some o/\o.cls=.type "tuple"/\o.data=.seq xs n/\iL sh xs.toList/\jY h v=xs.toList.map kv
noncomputable def WY(b:Bool):aa:=if b then .type "str" else .type "int"
theorem Wv(k:∀b o,h.get? b=some o->h'.get? b=some o):∀{its},(∀v∈its,sV (c::sh) h v)->∃fs,KatTups h' its fs/\fs.length=its.length/\∀v∈fs,iL [c] [v]
 | [],_=>⟨[],.nil,rfl,λv hv=>by cases hv⟩
 | v::r,hv=>by
  obtain⟨fs,m,l,h3⟩:=Wv k (its:=r) λx d=>hv x (cK _ d)
  obtain⟨a,o,xs,n,rfl,i,j,hd,g,_⟩:=hv v cT;obtain⟨f,rs,e⟩:∃f rs,xs.toList=f::rs:=by
   cases h:xs.toList with
   | nil=>rw[h] at g;cases c<;>show g.elim
   | cons f rs=>show⟨f,rs,rfl⟩
  rw[e] at g;show⟨_,O5 (f:=f) (k _ _ i) j hd (by rw[<-n5,e];rfl) m,by simp[l],λx d=>?_⟩;rcases bG.mp d with rfl | d
  .cases c<;>cases x<;>first | show g.elim | trivial
  show h3 x d
theorem abx(k:∀b o,h.get? b=some o->h'.get? b=some o)(hv:∀v∈its,sV (c::sh) h v):Ask prog w A E its (λx=>r8 dH (its.map (jY h)) (jY h x.1)) { s with heap:=h' }:=by
 show⟨λi=>⟨tuples' (WY c != mY "tuple"),λG q=>?_,⟨λx y Q r p q=>?_⟩⟩⟩
 .obtain⟨fs,d,F,h3⟩:=Wv k hv;show kat_kind (s:={ s with heap:=h' }) (T:=WY c) d (by lia) (λv hv=>?_) (by cases c<;>decide +kernel) q;have:=h3 v hv;cases c<;>cases v<;>first | show this.elim | show Looks.of_pure rfl
 have e:=Fq r;have t:=Fq p;obtain⟨a,C,xs,n,z,ga,ca,B,g,l⟩:=hv _ e;obtain⟨b,ob,ys,m,u,gb,D,db,f,j⟩:=hv _ t;rw[<-JJ sO (qY e),l,j] at q;rw[z,u];show kat_lt (k _ _ ga) B (k _ _ gb) db ?_;have:decide (xs.size<ys.size)=false:=by
  have d:=g.len;have i:=f.len;rw[cU] at d i;rw[kS];simp_all
 rw[this];show zpI 0 g f q
end
theorem zpJ(a b r t):dH (a::r) (b::t)=if a=b then dH r t else uu a b:=by rw[dH]
section
open PySem.SeqAt
open PySem.AutoSeq1 (wpAny_loadPart')
open PySem.MeetsSeq PySem.MeetsSeq2 PySem.MeetsSeq3
theorem zrQ(l b xs ys n K S L sl M)(G:iL sh xs.toList)(F:iL sh ys.toList) :
  Meets (Builtin.«tuple.__lt__» ⟨[.ref l,.ref b],[]⟩)
   (λ_ R s=>s.heap.get? l=some { cls:=.type "tuple",dict:=S,data:=.seq xs n,slots:=sl }/\s.heap.get? b=some { cls:=.type "tuple",dict:=L,data:=.seq ys K,slots:=M }/\
    R (.ok (.ret (.bool (dH (xs.toList.map kv) (ys.toList.map kv))))) s):=
 .of_wp λprog w A R s h=>by
  obtain⟨D,g,d,tk,os⟩:=s;obtain⟨N,O,h⟩:=h;have f2:=IH;wp_walk using jK N,jK O,PN _ (λez b B=>b.1=none/\B=⟨D,g,d,tk,os⟩/\∃i f a,ez=f.zip a/\iL i f/\iL i a/\dH (xs.toList.map kv) (ys.toList.map kv)=dH (f.map kv) (a.map kv)) _
  case turn=>
   rintro⟨p,q⟩ ez b B ⟨E,rfl,i,f,a,k,j,m,he⟩;cases f with
   | nil=>cases k
   | cons x f=>
    cases a with
    | nil=>cases k
    | cons y a=>
     rw[Ik] at k;injection k with C H
     injection C with I J
     subst I J;cases i with
     | nil=>show j.elim
     | cons c i=>
      rw[bD,bD] at he;rw[zpJ] at he;cases c with
      | true=>
       cases p<;>first | show j.elim | skip
       cases q<;>first | show m.elim | skip
       rename_i x t y u;show ag (Dl ?_);by_cases e:x=y
       .rw[iu e];rw[if_pos (by rw[e];rfl)] at he;wp_walk
        show⟨rfl,rfl,i,f,a,H,j,m,he⟩
       rw[iw e];rw[if_neg (λz=>e (by injection z))] at he;have v:=zpz A.in1 ⟨D,g,d,tk,os⟩ x t y u prog w;wp_walk using v
       show⟨_,rfl,by rw[he] at h;show h⟩
      | false=>
       cases p<;>first | show j.elim | skip
       cases q<;>first | show m.elim | skip
       rename_i x t y u;show ag (Dm ?_);by_cases e:x=y
       .simp only[beq_iff_eq.mpr e];rw[if_pos (by rw[e];rfl)] at he;wp_walk
        show⟨rfl,rfl,i,f,a,H,j,m,he⟩
       simp only[beq_eq_false_iff_ne.mpr e];rw[if_neg (λz=>e (by injection z))] at he;have v:=KN A.in1 ⟨D,g,d,tk,os⟩ x t y u prog w;wp_walk using v
       show⟨_,rfl,by rw[he] at h;show h⟩
  case fin=>
   rintro⟨U,T⟩ B ⟨E,rfl,i,f,a,k,j,m,he⟩;simp only at E;subst E;have Q:dH (f.map kv) (a.map kv)=false:=by
    have r:=j.len;have o:=m.len;cases f with
    | nil=>
     cases a with
     | nil=>rfl
     | cons _ _=>simp at r o;lia
    | cons _ _=>
     cases a with
     | nil=>simp at r o;rfl
     | cons _ _=>cases k
   rw[he,Q] at h;have P:xs.size=ys.size:=by
    have r:=G.len;have o:=F.len;rw[cU] at r o;simp_all
   wp_walk
   show⟨_,rfl,by simpa[ZD,P] using h⟩
  case h=>show⟨rfl,rfl,sh,_,_,rfl,G,F,rfl⟩
end
section
variable{w:aF}{s:ai}
open PySem.SeqAt
noncomputable def mG(h:ay)(v:aa):List Kx:=match v with
 | .ref a=>match h.get? a with
  | some o=>match o.data with
   | .seq xs _=>jY h (xs.getD 0 .none)
   | _=>[]
  | none=>[]
 | _=>[]
def YT(sh:List Bool)(h:ay)(v:aa):Prop:=∃a o xs n,v=.ref a/\h.get? a=some o/\o.cls=.type "list"/\o.data=.seq xs n/\∃b:0<xs.size,sV sh h xs[0]/\jY h xs[0]=mG h v
theorem zpK(r:A.units<cLine)(k:∀b o,h.get? b=some o->s.heap.get? b=some o)(hv:sV sh h v)(hw:sV sh h u):JI A s v u (dH (jY h v) (jY h u)):=λprog w E Q q=>by
 obtain⟨a,⟨B,t,y,sl⟩,xs,n,rfl,g1,f,e,l,v1⟩:=hv;obtain⟨b,⟨z,m,db,p⟩,ys,i,rfl,g2,e3,d,j,v2⟩:=hw;simp only at f e e3 d;subst f e e3 d;rw[v1,v2] at q;have c:=k _ _ g1;have g:=k _ _ g2;show QO (op:=.Lt) ⟨_,c,rfl⟩ ⟨_,g,rfl⟩ QF QN (Q1 _ _) (zrQ a b xs ys n i t m sl p l j)
  ⟨c,g,show zg _≠Qv/\Q (.bool _) s from⟨(λx=>nomatch x),q⟩⟩ r
theorem iL.at:∀{sh xs ys},iL sh xs->iL sh ys->∀(j:Nat) x y,xs[j]?=some x->ys[j]?=some y->EqAt A s x y (decide (kv x=kv y))
 | [],[],_,_,_,j,x,y,e,_=>by cases e
 | [],_::_,_,h,_,_,_,_,_,_=>h.elim
 | c::_,[],_,h,_,_,_,_,_,_=>by cases c<;>show h.elim
 | c::_,_::_,[],_,h,_,_,_,_,_=>by cases c<;>show h.elim
 | c::sh,p::xs,q::ys,f,d,j,x,y,i,g=>by
  cases c with
  | true=>
   cases p<;>first | show f.elim | skip
   cases q<;>first | show d.elim | skip
   cases j with
   | zero=>
    cases i;cases g;intro prog w E Q q;show Dl ?_;simpa[kv] using q
   | succ j=>show iL.at (sh:=sh) (xs:=xs) (ys:=ys) f d j x y i g
  | false=>
   cases p<;>first | show f.elim | skip
   cases q<;>first | show d.elim | skip
   cases j with
   | zero=>
    cases i;cases g;intro prog w E Q q;show Dm ?_;rename_i a _ b _;have:(a==b)=decide (a=b):=by by_cases z:a=b<;>simp[z]
    rw[this];simpa[kv] using q
   | succ j=>show iL.at (sh:=sh) (xs:=xs) (ys:=ys) f d j x y i g
theorem zpL(r:A.units<cLine)(k:∀b o,h.get? b=some o->s.heap.get? b=some o)(hv:sV sh h v)(hw:sV sh h u)(l:jY h v≠jY h u):EqAt A s v u false:=by
 obtain⟨a,m,xs,n,rfl,g1,y,x,g,v1⟩:=hv;obtain⟨b,ob,ys,B,rfl,g2,e3,w,f,v2⟩:=hw;have t:a≠b:=λz=>l (by rw[z])
 have R:=RcAt.tuples (A:=A) (s:=s) (items:=xs) (items2:=ys) (e:=λj=>decide (kv (xs.getD j .none)=kv (ys.getD j .none))) ⟨m,k _ _ g1,y,_,x⟩ ⟨ob,k _ _ g2,e3,_,w⟩ r λj d c=>by
  have a1:xs.getD j .none=xs[j]:=by simp[zf,d]
  have a2:ys.getD j .none=ys[j]:=by simp[zf,c]
  rw[a1,a2];show iL.at g f j _ _ (by rw[n5];show mW d) (by rw[n5];show mW c)
 have q:=g.len;have p:=f.len;rw[cU] at q p;have e:((aN (min xs.size ys.size)).all (λj=>decide (kv (xs.getD j .none)=kv (ys.getD j .none)))&&xs.size==ys.size)=false:=by
  rw[Bool.eq_false_iff];intro z;rw[jH,e7] at z;show l ?_;rw[v1,v2];apply Dk
  .simp only[ax,cU];simp_all
  intro i d c;simp only[ax,cU] at d c;have:=z.1 i (fR.mpr (by simp_all));simpa[zf,d,c] using this
 rw[e] at R;show EqAt.of_refs t R
theorem abw(R:A.units+8<cLine)(k:∀b o,h.get? b=some o->h'.get? b=some o)(hv:∀v∈its,YT sh h v)(hd:∀v∈its,∀u∈its,mG h v=mG h u->v=u):Ask prog w A E its (λx=>r8 dH (its.map (mG h)) (mG h x.1)) { s with heap:=h' }:=by
 show⟨λO=>⟨oneType',λV q=>?_,⟨λx y Q G F q=>?_⟩⟩⟩
 .refine kas_kind (s:={ s with heap:=h' }) (T:=.type "list") O (λv hm=>?_) (by rfl) (by rfl) q;obtain⟨a,o,xs,n,rfl,g1,t,_⟩:=hv v hm;rw[<-t];show(Looks.ld (k _ _ g1)).andThen .now
 have f:=Fq G;have i:=Fq F;rw[<-JJ sO (qY f)] at q;have J:=hv _ f;have I:=hv _ i;have g:=hd _ f _ i;generalize x.1=v at *;generalize y.1=u at *;obtain⟨a,⟨t,r,S,sl⟩,xs,n,rfl,g1,p,m,N,C,z⟩:=J;obtain⟨b,⟨U,K,db,L⟩,ys,H,rfl,g2,e3,l,M,D,B⟩:=I;simp only at p m e3 l;subst p m e3 l;show ag (wpAny_cRoomFor (by lia) ?_);have d:=k _ _ g1;have P:=k _ _ g2;have fin:∀c,c=dH (mG h (.ref a)) (mG h (.ref b))->Q c { s with heap:=h' }:=λc e=>e▸q
 by_cases j:mG h (.ref a)=mG h (.ref b)
 .have:=g j;cases this;show ag (Rl (T:="list") ⟨_,d,rfl⟩ DB (lO DB ⟨_,d,rfl⟩ Qz (QJ _ _) (zin a xs n r sl) ⟨d,?_⟩));show lR (fin _ (sO.ir _).symm)
 show ag (Rl (T:="list") ⟨_,d,rfl⟩ DB (lO DB ⟨_,d,rfl⟩ Qz (QJ _ _) (zhj a b xs ys n H r K sl L N M (dH (jY h xs[0]) (jY h ys[0])))
  ⟨d,P,zpL (by show A.units+1<cLine;lia) k C D (by rw[z,B];show j),zpK (by show A.units+1<cLine;lia) k C D,?_⟩))
 show lR (fin _ (by rw[z,B]))
end
end Ts
namespace L2
open PySem PySem.Spec PyProof.Rows
noncomputable abbrev EK:=List Key
noncomputable def aO(p:EK):D:=.tup (p.map kg)
noncomputable def me(p:EK):List Bool:=p.map Sum.isRight
section
variable{X:Cx}
def Kr(X:Cx)(a:ay->aa->EK)(C:Hp->List (V×EK)->Prop):Prop:=∀{c s}{σ:St}{H}(I:Inv X c σ H s){ps its},C H ps->Vals (ps.map (·.1)) its->
 (∀z∈ps.zip its,a s.heap z.2=z.1.2)/\∀h',(∀b o,s.heap.get? b=some o->h'.get? b=some o)->Ts.Ask X.prog X.w X.A.in1.in1 X.xe its (λx=>Ts.r8 Ts.dH (its.map (a s.heap)) (a s.heap x.1)) { s with heap:=h' }
def Eo(K:aj)(C:Hp->List (V×EK)->Prop):List V->Hp->VK->Prop:=λxs H Q=>∃p ps,xs=[.ref p]/\bP K H p (ps.map (·.1))/\C H ps/\(2<=ps.length->Ts.wC ps.length)/\
  ∀a:List (V×EK),a.Perm ps->a.Pairwise (λx y=>Ts.dH y.2 x.2=false)->∀l,H l=none->Q (.ref l) (upd H l (.lst (a.map (·.1))))
theorem Wk(Y:Kr X g C):ip X (.builtin "sorted") (Eo X.K C):=by
 intro J' s σ H xs us Q I r h;obtain⟨p,ps,rfl,U,W,T,q⟩:=h;obtain⟨u,rfl,P⟩:=i8 r;cases P;obtain⟨its,t,pl,hz⟩:=I.list U;obtain⟨kk,ask⟩:=Y I W t;have v:ps.length=its.length:=by rw[<-t.length,ax]
 obtain⟨d,m⟩:∃d,d=ps.zip its:=⟨_,rfl⟩
 have w:ps=d.map (·.1):=by rw[m];show(HW (by simp_all)).symm
 have j:its=d.map (·.2):=by rw[m];show(HV (by lia)).symm
 have rel:∀z∈d,RelV z.1.1 z.2:=λz hz=>by
  obtain⟨i,F⟩:=gL hz;have c:(ps.map (·.1))[i]?=some z.1.1:=by rw[w];simp[F]
  obtain⟨v',L,O⟩:=t.get c;have k:its[i]?=some z.2:=by rw[j];simp[F]
  rw[k] at L;cases L;show O
 rw[<-m] at kk;show Ts.aah (rk:=λx=>Ts.r8 Ts.dH (its.map (g s.heap)) (g s.heap x.1)) pl.isList (by rw[<-v,<-ax (f:=(·.1))];show hz) (λk=>by rw[<-v];show T (by lia)) ask λy E l=>?_
 have Z:(Qs its).toList=d.map λz=>((z.2,z.2):Keyed):=by
  unfold Qs;rw[j];simp only[List.zip_toArray];clear m w j rel kk E l;induction d with
  | nil=>rfl
  | cons a r D=>simp at D ⊢;show D
 obtain⟨n,c,k⟩:=VS (E.trans (qT Z)) rfl;have A:∀z∈n,RelV z.1.1 z.2:=λz hz=>rel z (c.subset hz)
 have out:((arrOf y).map (·.2)).toList=n.map (·.2):=by
  rw[Array.toList_map,k,bp];rfl
 obtain⟨en,he⟩:=sortedAll_at s.heap its ((arrOf y).map (·.2));have hf:H (s.heap.objs.size+1)=none:=I.aW.fresh (lP _)
 have B:=q (n.map (·.1)) (by rw[w];show c.map _) (by
  rw[jI];unfold Ts.bW at l;rw[k,jI] at l;show l.imp_of_mem λ{a b} J G eW=>?_
  have N:=kk a (c.subset J);have M:=kk b (c.subset G);rw[<-N,<-M];have S:g s.heap a.2∈its.map (g s.heap):=qY (by rw[j];show qY (c.subset J));have R:g s.heap b.2∈its.map (g s.heap):=qY (by rw[j];show qY (c.subset G))
  show Ts.aam Ts.sO S R (by simp only at eW;ext)) _ hf
 rw[bp] at B;show⟨.ref (s.heap.objs.size+1),_,I.laid (a:=s.heap.objs.size+1) (o:=.lst (n.map ((·.1)∘(·.1)))) (t':=s.toks) (λb o e=>sortedAll_old e) (lP _) ?_,rfl,B⟩;have el:d.length=its.length:=by rw[j,ax]
 show⟨by rw[ax,c.length_eq,el,<-v,<-ax (f:=(·.1))];show hz,((arrOf y).map (·.2)).toList,en,?_,?_⟩
 .rw[out];show Uv A
 show he
theorem VN:∀{p its},Vals (p.map kV) its->Ts.iL (me p) its/\its.map Ts.kv=p
 | [],[],_=>⟨trivial,rfl⟩
 | [],_::_,r=>by cases r
 | k::p,_,r=>by
  cases r with
  | cons a b=>
   obtain⟨d,c⟩:=VN b;cases k with
   | inl i=>
    obtain⟨t,rfl⟩:=a;show⟨d,by rw[bD,c];rfl⟩
   | inr x=>
    obtain⟨t,rfl⟩:=a;show⟨d,by rw[bD,c];rfl⟩
theorem RZ{f:St}(I:Inv X l f H s)(h:∃b,v=.ref b/\cz X.K H b (e.map kV))(r:RelV v u):Ts.sV (me e) s.heap u/\Ts.jY s.heap u=e:=by
 obtain⟨b,rfl,sq⟩:=h;cases r;obtain⟨i1,v1,g,_⟩:=I.tuple sq;obtain⟨o1,g1,k,i,d⟩:=g;obtain⟨j,a⟩:=VN v1;have c:Ts.jY s.heap (.ref b)=e:=by
  unfold Ts.jY;simp only[g1,d];simpa using a
 show⟨⟨b,o1,_,i,rfl,g1,k,d,by simpa using j,by rw[c];simpa using a.symm⟩,c⟩
def YV(K:aj)(c:Bool)(sh:List Bool):Hp->List (V×EK)->Prop:=λH ps=>∀q∈ps,me q.2=c::sh/\∃b,q.1=.ref b/\cz K H b (q.2.map kV)
theorem zrR:Kr X Ts.jY (YV X.K c sh):=λ{h s σ H} I {ps its} d r=>by
 have b:ps.length=its.length:=by rw[<-r.length,ax]
 have at_:∀z∈ps.zip its,Ts.sV (c::sh) s.heap z.2/\Ts.jY s.heap z.2=z.1.2:=λz hz=>by
  obtain⟨g,f⟩:=d _ (pE hz).1;rw[<-g];show RZ I f (Kw r z hz)
 show⟨λz hz=>(at_ z hz).2,λh' k=>Ts.abx (c:=c) (sh:=sh) k λv hv=>?_⟩;obtain⟨a,e⟩:=Ly b v hv;show(at_ _ e).1
def En(C:Nat->Prop):cg:=λds Q=>∃c sh ps,ds=[.lst (ps.map aO)]/\(∀p∈ps,me p=c::sh)/\C ps.length/\∀a:List EK,a.Perm ps->a.Pairwise (λx y=>Ts.dH y x=false)->Q (.ow (a.map aO))
theorem UP{K:aj}:∀{xs}{p:EK},ao K G xs (p.map kg)->xs=p.map kV
 | [],[],_=>rfl
 | v::xs,k::p,r=>by
  rw[bD,<-UP r.2];have a:=r.1;cases k<;>(rw[a];rfl)
 | [],_::_,r=>by rw[bD] at r;simp only[ao] at r
 | _::_,[],r=>by rw[tu] at r;simp only[ao] at r
theorem JH{K:aj}(r:Rep K G v (aO p)):∃b,v=.ref b/\G b=some (.tup (p.map kV)):=by
 obtain⟨a,ys,rfl,sq,c⟩:=r;show⟨a,rfl,by rw[<-UP c];show sq⟩
theorem UO{K:aj}:∀{xs ps},ao K G xs (ps.map aO)->xs.length=ps.length/\∀q∈xs.zip ps,Rep K G q.1 (aO q.2)
 | [],[],_=>⟨rfl,λq a=>by cases a⟩
 | v::xs,p::ps,r=>by
  obtain⟨c,b⟩:=UO r.2;show⟨by simp[c],λq a=>?_⟩;rcases bG.mp a with rfl | a
  .exact r.1
  show b q a
 | [],_::_,r=>by rw[bD] at r;simp only[ao] at r
 | _::_,[],r=>by rw[tu] at r;simp only[ao] at r
theorem Tu{C:Nat->Prop}(o:∀n,2<=n->C n->Ts.wC n)(_:X.calm=true):pU X (.builtin "sorted") (En C):=by
 show⟨λxs H Q=>∃c sh,Eo X.K (YV X.K c sh) xs H Q,λA s σ H xs us Q I r y=>by obtain⟨c,sh,h⟩:=y;show Wk zrR A s σ H xs us Q I r h,λG H B ds Q P s rs h k=>?_⟩;obtain⟨c,sh,ps,rfl,i,m,q⟩:=h;obtain⟨v,rfl,j⟩:=i7 rs;obtain⟨a,xs,rfl,t,p⟩:=j;obtain⟨h3,hz⟩:=UO p;have x:(xs.zip ps).map (·.1)=xs:=HW (by simp_all);have w:(xs.zip ps).map (·.2)=ps:=HV (by simp_all);have u:(xs.zip ps).length=ps.length:=by rw[HQ];simp_all
 show⟨c,sh,a,xs.zip ps,rfl,by rw[x];show(s.cH t).sq,λz d=>⟨i _ (pE d).2,?_⟩,λh=>by rw[u] at h ⊢;show o _ h m,λg f l=>?_⟩
 .obtain⟨b,e,sq⟩:=JH (hz z d);show⟨b,e,s.uj (cz.of sq)⟩
 show Ay s (ds:=(g.map (·.2)).map aO) ?_ (q (g.map (·.2)) ((f.map _).trans (qT w)) (by rw[jI];show l)) k;rw[bp];show Uu λq d=>hz q (f.subset d)
end
section
variable{X:Cx}
def IV(K:aj)(sh:List Bool):Hp->List (V×EK)->Prop:=λH ps=>(ps.map (·.2)).Nodup/\∀q∈ps,me q.2=sh/\∃b c xs,q.1=.ref b/\bP K H b (.ref c::xs)/\cz K H c (q.2.map kV)
theorem zpM(P:X.A.units+64<cLine):Kr X Ts.mG (IV X.K sh):=λ{Q s σ H} I {ps its} x r=>by
 have p:ps.length=its.length:=by rw[<-r.length,ax]
 have at_:∀z∈ps.zip its,Ts.YT sh s.heap z.2/\Ts.mG s.heap z.2=z.1.2:=λz hz=>by
  obtain⟨y,b,c,xs,e,sl,st⟩:=x.2 _ (pE hz).1;have h:=Kw r z hz;rw[e] at h;obtain⟨⟨O,t⟩,N⟩:=z;simp only at h st y ⊢;subst y;cases h;obtain⟨it,F,⟨o,n,g,M,_,d⟩,_⟩:=I.list sl;cases F with
  | @cons _ _ _ ys G rb=>
   obtain⟨L,B⟩:=RZ (e:=t) I ⟨c,rfl,st⟩ G;have w:Ts.mG s.heap (.ref b)=t:=by
    unfold Ts.mG;simp only[g,d];show B
   show⟨⟨b,o,_,n,rfl,g,M,d,by show iq _,L,by rw[w];show B⟩,w⟩
 show⟨λz hz=>(at_ z hz).2,λh' k=>Ts.abw (sh:=sh) (by show X.A.units+1+1+8<cLine;lia) k (λv hv=>?_) λv hv u hw e=>?_⟩
 .obtain⟨a,J⟩:=Ly p v hv;show(at_ _ J).1
 obtain⟨i,q⟩:=gL hv;obtain⟨j,f⟩:=gL hw;have m:i<ps.length:=by rw[p];show(cD.mp q).1
 have C:j<ps.length:=by rw[p];show(cD.mp f).1
 have E:(ps[i],v)∈ps.zip its:=cJ (i:=i) (by rw[vw];show⟨aX m,q⟩);have D:(ps[j],u)∈ps.zip its:=cJ (i:=j) (by rw[vw];show⟨aX C,f⟩);rw[(at_ _ E).2,(at_ _ D).2] at e;have:i=j:=(wW (l:=ps.map (·.2)) (by simpa using m) x.1).mp (by rw[bE,bE,aX m,aX C];show dN some e);subst this;rw[q] at f;show fT f
noncomputable def dr(g:List EK):EK:=g.headD []
def xP(C:Nat->Prop)(te:TD):TD:=λρ Q=>te ρ λr=>match r with
 | .ov (.ll b)=>∃(sh:List Bool)(gss:List (List EK)),b=gss.map (λg=>g.map aO)/\(∀g∈gss,∀e∈g,me e=sh)/\C gss.length/\(∀g∈gss,g≠[])/\(gss.map dr).Nodup/\
  ∀a:List (List EK),a.Perm gss->a.Pairwise (λx y=>Ts.dH (dr y) (dr x)=false)->Q (.ov (.ll (a.map λg=>g.map aO)))
 | _=>False
theorem bJ.atK{K:aj}:∀{a}{gss:List (List EK)},bJ K G H a (gss.map λg=>g.map aO)->∀z∈a.zip gss,∃xs,H z.1=some (.lst xs)/\ao K G xs (z.2.map aO)
 | [],[],_,z,hz=>by cases hz
 | q::a,g::gss,h,z,hz=>by
  rcases bG.mp hz with rfl | hz
  .exact h.1
  show bJ.atK h.2 z hz
 | [],_::_,h,_,_=>by rw[bD] at h;simp only[bJ] at h
 | _::_,[],h,_,_=>by rw[tu] at h;simp only[bJ] at h
theorem UN{K:aj}:∀{L:List (ab×List EK)},(∀z∈L,∃xs,H z.1=some (.lst xs)/\ao K G xs (z.2.map aO))->bJ K G H (L.map (·.1)) ((L.map (·.2)).map λg=>g.map aO)
 | [],_=>by trivial
 | z::L,h=>by
  show⟨h z cT,UN λy a=>h y (cK _ a)⟩
theorem zlz(U:∀n,2<=n->C n->Ts.wC n)(q:nU X.K te w):nU X.K (xP C te) (FF (λxs H Q=>∃sh,Eo X.K (IV X.K sh) xs H Q) (λσ H Q=>w σ H λv H1=>Q [v] H1)):=by
 intro ρ σ G0 Z G H Q P E h k;show q ρ σ G0 Z G H _ _ E h λv H1 r u d M a=>?_
 split at a;rotate_left
 .exact a.elim
 rename_i aC;obtain⟨sh,gss,rfl,L,m,Y,nd,a⟩:=a;obtain⟨p,fp,rfl,F,⟨S,i⟩,fr⟩:=M;have hlen:fp.length=gss.length:=by have:=i.length;simpa using this
 have at_:=i.atK;have D:(fp.zip gss).map (·.1)=fp:=HW (by simp_all);have B:(fp.zip gss).map (·.2)=gss:=HV (by simp_all);show⟨sh,p,(fp.zip gss).map λz=>(V.ref z.1,dr z.2),rfl,?_,⟨?_,λy R=>?_⟩,λh=>by rw[ax,HQ,hlen,Nat.min_self] at h ⊢;show U _ h m,λmj O A l f=>?_⟩
 .rw[bp];have:((λx:V×EK=>x.1)∘λz:ab×List EK=>(V.ref z.1,dr z.2))=V.ref∘(λz:ab×List EK=>z.1):=rfl;rw[this,<-bp,D];show bP.of S
 .rw[bp];have:((λx:V×EK=>x.2)∘λz:ab×List EK=>(V.ref z.1,dr z.2))=dr∘(λz:ab×List EK=>z.2):=rfl;rw[this,<-bp,B];show nd
 .obtain⟨z,hz,rfl⟩:=aB.mp R;obtain⟨xs,g1,g2⟩:=at_ z hz;have o:=Y z.2 (pE hz).2;cases j:z.2 with
  | nil=>show absurd j o
  | cons e g=>
   rw[j,bD] at g2;cases xs with
   | nil=>simp only[ao] at g2
   | cons y ys=>
    obtain⟨c,rfl,T⟩:=JH g2.1;show⟨L _ (pE hz).2 _ (by rw[j];show cT),z.1,c,ys,rfl,bP.of g1,cz.of (d.s _ _ T)⟩
 obtain⟨b,f1,rfl⟩:=VS O rfl;have t:(b.map (·.1)).Perm fp:=(f1.map _).trans (qT D);have I:∀q∈fp,q≠l:=λq a z=>i.here q a (by rw[z];show f)
 have J:Ext u H1 u (upd H1 l (.lst (b.map λz=>V.ref z.1))):=.own d.s f;have N:=a (b.map (·.2)) ((f1.map _).trans (qT B)) (by rw[jI] at A ⊢;show A);have W:((b.map λz:ab×List EK=>(V.ref z.1,dr z.2)).map λx:V×EK=>x.1)=b.map λz=>V.ref z.1:=by rw[bp];rfl
 rw[W];show k _ _ (.ov (.ll ((b.map (·.2)).map λg=>g.map aO))) u (d.trans J) ⟨l,b.map (·.1),rfl,?_,⟨?_,?_⟩,λq a=>?_⟩ N
 .rw[gu] at F ⊢;show⟨λz=>I l (t.subset z) rfl,t.nodup_iff.mpr F.2⟩
 .rw[dQ,bp];rfl
 .refine UN λz hz=>?_
  obtain⟨xs,g1,g2⟩:=at_ z (f1.subset hz);show⟨xs,?_,g2⟩;rw[bA (I z.1 (pE (f1.subset hz)).1)];show g1
 rcases bG.mp a with rfl | a
 .exact⟨d.h.free f,d.s.free f⟩
 show fr q (cK _ (t.subset a))
theorem Wj(f:∀n,2<=n->C n->Ts.wC n)(b:X.A.units+64<cLine)(c:X.mg "sorted"=none)(h:PD X e te)(d:Gl X "sorted":=by rfl)(a:starEach [e] X.env=(false,eval e X.env)::starEach [] X.env:=by rfl):PD X (.Call (.Name "sorted" p) [e] [] pos) (xP C te):=by
 obtain⟨tt,pp,q⟩:=h;have:=AR (pos:=pos) (p:=p) (r:=λxs H Q=>∃sh,Eo X.K (IV X.K sh) xs H Q) (λi s σ H xs us Q I r g=>by obtain⟨sh,h⟩:=g;show Wk (zpM b) i s σ H xs us Q I r h) d c Hq (oG pp oC a) (he:=a);show⟨_,this,zlz f q⟩
end
section
def EM:D->List D->(R->Prop)->Prop:=λd ds Q=>match d,ds with
 | .str x,[.str y]=>Q (.fz (.bl (C1 x y)))
 | _,_=>False
theorem zpN:GS X "str.startswith" EM:=by
 show⟨λx b H Q=>∃(z y:ae),x=.str z/\b=[.str y]/\Q (.bl (C1 z y)) H,λg s σ H x xs v us Q I a rs h=>?_,λG H x d b ds Q P s a rs h k=>?_⟩
 .obtain⟨z,y,rfl,rfl,q⟩:=h;obtain⟨t,rfl⟩:=a;obtain⟨u,rfl,e⟩:=i8 rs;obtain⟨f,rfl⟩:=e;show SC.startswith ⟨.bl _,H,I,rfl,q⟩
 unfold EM at h;split at h
 .obtain⟨y,rfl,c⟩:=i7 rs;subst a c;show⟨_,_,rfl,rfl,k _ _ _ G (.refl s) (de (iE _ _ _)) h⟩
 show h.elim
open PySem.AutoSeq1 (wpAny_loadPart') in
theorem zpO(l:ab)(items:Array aa)(n:Nat)(b:ab)(items2:Array aa)(a:Nat)(j c:Option ab)(sl e:Array (Option aa))(k:¬items.isEmpty=true)(o:¬items2.isEmpty=true)(p:items.size+items2.size<=sizeLine) :
  Meets (Builtin.«tuple.__add__» ⟨[.ref l,.ref b],[]⟩) (λ_ R s=>s.heap.get? l=some { cls:=.type "tuple",dict:=j,data:=.seq items n,slots:=sl }/\s.heap.get? b=some { cls:=.type "tuple",dict:=c,data:=.seq items2 a,slots:=e }/\R (.ok (.ret (fi s.heap.objs.size))) { s with heap:=s.heap.push { cls:=.type "tuple",data:=.seq (items++items2) } }):=
 .of_wp λprog w A R s h=>by
  obtain⟨m,g,d,tk,os⟩:=s;obtain⟨f,i,h⟩:=h;have f2:=IH;wp_walk using jK f,jK i
  show⟨_,rfl,h⟩
def xy:O2:=λd e Q=>match d,e with
 | .tup xs,.tup ys=>xs≠[]/\ys≠[]/\xs.length+ys.length<=sizeLine/\Q (.fz (.tup (xs++ys)))
 | _,_=>False
theorem S0:ik X (binaryOp .Add) xy:=by
 show⟨λx y H Q=>∃l b xs zs,x=.ref l/\y=.ref b/\cz X.K H l xs/\cz X.K H b zs/\xs≠[]/\zs≠[]/\xs.length+zs.length<=sizeLine/\∀p,H p=none->Q (.ref p) (upd H p (.tup (xs++zs))),λ{J' s σ H x y v u Q} I j i h=>?_,λG H x y d e Q P s j i h k=>?_⟩
 .obtain⟨l,b,xs,zs,rfl,rfl,hH,hB,L,J,hz,q⟩:=h;cases j;cases i;obtain⟨its,r,⟨⟨c1,dd,da,sl⟩,g1,D,S,C⟩,z1⟩:=I.tuple hH;obtain⟨f,n,⟨⟨c2,T,db,U⟩,g2,e3,R,B⟩,z2⟩:=I.tuple hB;simp only at D C e3 B;subst D C e3 B;have Z:=r.length;have O:=n.length;have N:its≠[]:=λz=>L (xj (by rw[Z,z];rfl))
  have M:f≠[]:=λz=>J (xj (by rw[O,z];rfl))
  show concat_meets ⟨_,g1,rfl⟩ ⟨_,g2,rfl⟩ noFill_tuple_add seq_tuple_add F.slot_tuple_add F.entry_tuple_add (F.args_tuple_add_2 _ _) (zpO l its.toArray S b f.toArray R dd T sl U (by simpa using N) (by simpa using M) (by simp;simp_all)) ⟨g1,g2,?_⟩;have ea:its.toArray++f.toArray=(its++f).toArray:=by simp
  rw[ea];show⟨.ref _,_,I.laid (a:=s.heap.objs.size) (o:=.tup (xs++zs)) (t':=s.toks) (λc o e=>bZ _ e) (bx _) ⟨by rw[bL];show hz,its++f,r.append n,⟨_,c8 _ rfl,rfl,_,rfl⟩⟩,rfl,q _ I.fresh⟩
 unfold xy at h;split at h
 .obtain⟨a,xs,rfl,W,E⟩:=j;obtain⟨b,ys,rfl,V,A⟩:=i;have w:=E.length;have t:=A.length;show⟨a,b,xs,ys,rfl,rfl,s.uj (cz.of W),s.uj (cz.of V),λz=>h.1 (xj (by rw[<-w,z];rfl)),λz=>h.2.1 (xj (by rw[<-t,z];rfl)),by rw[w,t];show h.2.2.1,λp Y=>?_⟩;have m:Ext G H (upd G p (.tup (xs++ys))) (upd H p (.tup (xs++ys))):=.new s Y;show k _ _ (.fz (.tup _)) _ m ?_ h.2.2.2;show⟨p,xs++ys,rfl,dQ,(E.append A).mono m.g⟩
 show h.elim
end
section
variable{e:av}{te:TD}{lo hi:Option av}{tl th:wB}
noncomputable def z8(z:ae)(lo hi:Option Int)(k:Int):ae:=⟨((tO lo hi k z.length).filterMap (z.cps[·]?)).toArray⟩
def ZG(k:Int)(te:TE)(tl th:TO):TE:=λσ H Q=>te σ H λx H1=>tl σ H1 λl b=>th σ b λu a=>∃z,x=.str z/\(z8 z l u k).length<=sizeLine/\Q (.str (z8 z l u k)) a
theorem znu{te:TE}{tl th:TO}(hk:k≠0)(B:k≠1)(he:PE X e te)(K:PO X lo tl)(J:PO X hi th):PE X (.Subscript e (.Slice lo hi (some (.Constant (.int k) kk c)) p2) pos) (ZG k te tl th):=by
 intro a s σ H Q I h;have R:PO X (some (.Constant (.int k) kk c)) (Sj (tC (.int k))):=Ue SD;show CN (aR (he a s σ H _ I h) λv s1 z=>?_);obtain⟨x,H1,W,C,G⟩:=z;show wpAny_Slice (aR (K a s1 σ H1 _ W G) λA s2 r=>?_);obtain⟨l,Y,V,pl,E⟩:=r;show aR (J a s2 σ Y _ V E) λw s3 n=>?_
 obtain⟨u,g,U,pu,D⟩:=n;show aR (R a s3 σ g (λo f=>o=some k/\f=g) U ⟨k,rfl,rfl,rfl⟩) λy s4 m=>?_
 obtain⟨Z,f,T,ps,N,M⟩:=m;subst N M;obtain⟨z,rfl,hz,q⟩:=D;obtain⟨t,rfl⟩:=C;have S:Inv X a σ _ { s4 with heap:=s4.heap.push { cls:=.type "slice",data:=.fields #[A,w,y] } }:=T.kept (t':=s4.toks) λb ob q=>bZ _ q
 show Hg (ops:=[.str z t,.ref s4.heap.objs.size]) (u4 _ _ _) F.slot_str_getitem.lookup ?_ (by with_unfolding_all rfl);have part:∀{u:aa}{o:Option Int},IsPart u o->∃p:Option (Int×Tok),u=partValue p/\p.map (·.1)=o:=λh=>by
  cases h with
  | none=>show⟨none,rfl,rfl⟩
  | int i t=>show⟨some (i,t),rfl,rfl⟩
 obtain⟨d,rfl,P⟩:=part pl;obtain⟨p2,rfl,O⟩:=part pu;obtain⟨j,rfl,e3⟩:=part ps;show QZ (l:=d) (u:=p2) (st:=j) ⟨_,c8 _ rfl,rfl,rfl⟩ (by rw[e3];show if_neg ‹_›) ?_;unfold sliceMade;rw[e3];rw[if_neg (by simp[B])];have L:slicePicked z d p2 j=tO l u k z.length:=by
  unfold slicePicked;rw[P,O,e3];rfl
 rw[L];show⟨hz,⟨.str _,_,S.tok _,⟨_,rfl⟩,q⟩⟩
def IU(k:Int)(te:TD)(tl th:wB):TD:=λρ Q=>te ρ λr=>tl ρ λlo=>th ρ λhi=>match r.val with
 | .str z=>(z8 z lo hi k).length<=sizeLine/\Q (.fz (.str (z8 z lo hi k)))
 | _=>False
theorem znv(he:PD X e te)(u:yL X lo tl)(y:yL X hi th)(w:k≠0:=by decide)(l:k≠1:=by decide):PD X (.Subscript e (.Slice lo hi (some (.Constant (.int k) kk c)) p2) pos) (IU k te tl th):=by
 obtain⟨t1,q,p⟩:=he;obtain⟨J,p2,o⟩:=u;obtain⟨t3,c,n⟩:=y;show⟨_,znu w l q p2 c,λρ σ f d G H Q P E h kp=>p ρ σ f d G H _ _ E h λv H' r L x m t=>?_⟩;obtain⟨I,b,i,_⟩:=m.freeze x;show o ρ σ f d I H' _ _ (E.ext b) t λlo C F g B=>?_
 show n ρ σ f d F C _ _ ((E.ext b).ext g) B λhi K D j a=>?_
 have s:=(b.trans g).trans j;split at a
 .rename_i z A;rw[A] at i;subst i;show⟨z,rfl,a.1,kp _ _ _ D s (de (rP _ _ _)) a.2⟩
 show a.elim
end
end L2
namespace PySem
open Sem (wp)
section
variable{prog:aG}{w:aF}{K:Type}[DecidableEq K]{knd:KeyKind prog w K}{A:br}{R:Result->ai->Prop}{I:ab}{fp wr:List ab}{G:Array GenState->Array GenState->Prop}{n:Nat}{P:Nat->aa->Prop}{St:Nat->ai->Prop}
noncomputable abbrev nW(K:Type):=List (List K×ab×aa)
noncomputable def bH(l:nW K):nW K:=l.foldl (λacc p=>storedH acc p.1 p.2.1 p.2.2) []
theorem zrS{kvs:nW K}{i:Nat}{k:List K}{b:ab}{y:aa}(e:kvs[i]?=some (k,b,y)):storedH (bH (kvs.take i)) k b y=bH (kvs.take (i+1)):=by
 unfold bH;have a:kvs.take (i+1)=kvs.take i++[(k,b,y)]:=by rw[gf,e];rfl
 rw[a,List.foldl_append];rfl
theorem zi9(l:nW K)(k:List K)(b:ab)(y:aa):(storedH l k b y).length<=l.length+1:=by
 unfold storedH;split<;>simp
theorem SY(l:nW K):(bH l).length<=l.length:=by
 have:∀(r acc:nW K),(r.foldl (λacc p=>storedH acc p.1 p.2.1 p.2.2) acc).length<=acc.length+r.length:=by
  intro r;induction r with
  | nil=>intro acc;simp
  | cons p r a=>
   intro acc;have c:=a (storedH acc p.1 p.2.1 p.2.2);have b:=zi9 acc p.1 p.2.1 p.2.2;rw[vc,cC];lia
 simpa[bH] using this l []
theorem ZV(Z:ab->Prop)(l:nW K)(f:∀p∈l,Z p.2.1):∀x∈bH l,Z x.2.1:=by
 have:∀(r acc:nW K),(∀p∈r,Z p.2.1)->(∀p∈acc,Z p.2.1)->∀x∈r.foldl (λacc p=>storedH acc p.1 p.2.1 p.2.2) acc,Z x.2.1:=by
  intro r;induction r with
  | nil=>intro acc _ h;show h
  | cons p r d=>
   intro acc c b;rw[vc];show d _ (λq a=>c q (cK _ a)) λq a=>?_
   unfold storedH at a;split at a
   .obtain⟨z,hz,rfl⟩:=aB.mp a;unfold putAt;split<;>show b z hz
   rcases cj.mp a with a | a
   .exact b q a
   rw[du] at a;subst a;show c p cT
 show this l [] f λp e=>by cases e
theorem IsTupleKey.kept{h h':ay}{k:List K}{a:ab}(x:IsTupleKey knd h k a)(e:∀o,h.get? a=some o->h'.get? a=some o):IsTupleKey knd h' k a:=let⟨o,its,n,b,r⟩:=x;⟨o,its,n,e o b,r⟩
theorem Heap.DictOfH.kept{h h':ay}{d:ab}{xs:nW K}(T:h.DictOfH (tupleKind knd) d xs)(e:∀o,h.get? d=some o->h'.get? d=some o)(l:∀x∈xs,∀o,h.get? x.2.1=some o->h'.get? x.2.1=some o):h'.DictOfH (tupleKind knd) d xs:=by
 obtain⟨o,j,k,i,g,h3,f,c,b⟩:=T;show⟨o,j,k,e o i,g,h3,f,λx a=>IsTupleKey.kept (c x a) (l x a),b⟩
theorem znw(U:A.units+1<cLine)(W:WalksS prog w A.in1 I fp wr G n P St)(S:ab)(C:S∉fp)(u:ay)(kvs:nW K)(d:kvs.length=n)(hsz:kvs.length<=sizeLine)(J:∀p∈kvs,p.2.1≠S/\p.2.1∉wr)
  (M:∀i v,P i v->∃k y b a,kvs[i]?=some (k,b,y)/\v=.ref a/\IsTupleKey knd u k b/\u.IsTuple a #[.ref b,y]/\a≠S/\a∉wr) :
  ∀(m i:Nat)(s:ai),n-i=m->i<=n->St i s->s.heap.DictOfH (tupleKind knd) S (bH (kvs.take i))->(∀b o,b≠S->b∉wr->u.get? b=some o->s.heap.get? b=some o)->
   (∀c,Moved (S::wr) G s c->c.heap.DictOfH (tupleKind knd) S (bH kvs)->R (.ok (.ret .none)) c)->codeAny (model prog w) A (.builtin "dict.update.loop" ⟨[.ref S,.ref I,rawInt (i:Int),.none],[]⟩) R s:=by
 have L:S∉wr:=λh=>C (W.sub _ h)
 have more:∀b∈wr,b∈S::wr:=λb f=>cK _ f
 have aH:∀i,∀x∈bH (kvs.take i),x.2.1≠S/\x.2.1∉wr:=λi=>ZV (λa=>a≠S/\a∉wr) _ λp V=>J p (tK V)
 intro m;induction m with
 | zero=>
  intro i s Y Z st T lW q;have e:i=n:=by lia
  subst e;show pB WC ?_;show ag (W.done s _ _ st λc hm=>?_);have g:=T.kept (h':=c.heap) (λo e=>hm.heap S _ L e) λx d o e=>hm.heap _ o (aH _ x d).2 e
  rw[<-d,gw] at g;show ag (az (az (q c (hm.mono more) g)))
 | succ m Q=>
  intro i s Y Z st T lW q;have F:i<n:=by ext
  show pB WC ?_;show ag (W.item i s _ _ F st λv c hP ar hm=>?_);obtain⟨k,y,b,a,D,rfl,N,hT,t,H⟩:=M i v hP;obtain⟨l,j⟩:=J _ (cJ D);have T':=T.kept (h':=c.heap) (λo e=>hm.heap S _ L e) λx d o e=>hm.heap _ o (aH _ x d).2 e
  have B:IsTupleKey knd c.heap k b:=N.kept λo e=>hm.heap b o j (lW b o l j e)
  obtain⟨o,X,hc,nn,hd⟩:=hT;have E:c.heap.get? a=some o:=hm.heap a o H (lW a o t H X);show ag (fQ ?_);show ag (zq ?_);show ag (zj (T:="tuple") ⟨o,E,hc⟩ ?_);show ag (m7 E hd ?_);show az ?_;show fQ (wpAny_dictSet_heap (knd:=tupleKind knd) (hsz:=by have:=SY (kvs.take i);rw[eP] at this;lia) (vh U) B T' λh' g r=>?_);rw[zrS D] at g;show az ⟨mZ WB _,Q (i+1) _ (by ext) F (W.frame _ c _ _ ar (qV _ _) λb f o e=>?_) g (λb o l j e=>?_) λs2 O T3=>?_⟩
  .rw[r.2 b (λz:b=S=>C (by rw[<-z];show f))];show e
  .rw[r.2 b l];show hm.heap b o j (lW b o l j e)
  show q s2 (Moved.trans W.gtrans ((hm.mono more).then_heap (qV _ _) λb o f e=>?_) O) T3;rw[r.2 b (λz:b=S=>f (by rw[z];show cT))];show e
end
section
variable{prog:aG}{w:aF}{K:Type}[DecidableEq K]{knd:KeyKind prog w K}{A:br}{E:aa->ai->Prop}{s:ai}
theorem zja{l:ab}{items:List aa}{kvs:nW K}{Q:aa->ai->Prop}(hu:A.units+8<cLine)(I:A.handled=none)(Y:∃o n,s.heap.get? l=some o/\o.cls=.type "list"/\o.dict=none/\o.data=.seq items.toArray n)(f:kvs.length=items.length)(hsz:kvs.length<=sizeLine)
  (C:∀(i:Nat)(v:aa),items[i]?=some v->∃k y b a,kvs[i]?=some (k,b,y)/\v=.ref a/\IsTupleKey knd s.heap k b/\s.heap.IsTuple a #[.ref b,y])
  (h:∀h' tk,h'.DictOfH (tupleKind knd) s.heap.objs.size (bH kvs)->(∀b o,s.heap.get? b=some o->h'.get? b=some o)->Q (.ref s.heap.objs.size) { s with heap:=h',toks:=tk }) :
  wpAny (model prog w) A (call (.type "dict") [.ref l]) Q E s:=by
 obtain⟨ol,nl,R,m,q,D⟩:=Y;show HG (Q₁:=λobj N=>obj=.ref s.heap.objs.size/\N={ s with heap:=s.heap.push { cls:=.type "dict",data:=.dict #[] } }) F.kt_called_dict (F.kt_typeCall_dict_1 _) F.entry_dict_init (kt_code_dict_new _ ⟨rfl,rfl⟩) ?_;rintro obj N ⟨rfl,rfl⟩;have B:(s.heap.push { cls:=.type "dict",data:=.dict #[] }).DictOfH (tupleKind knd) s.heap.objs.size []:=Y4 s.heap;show⟨B.typeIs,F.args_dict_init_2 _ _,?_⟩;have z:(s.heap.push { cls:=.type "dict",data:=.dict #[] }).get? l=some ol:=bZ _ R;show ag ?_;show ag (DF B.typeIs ?_);show az ?_;show ag (zj (T:="list") ⟨_,z,m⟩ ?_);show ag (zdM z m D q zib (by rfl) (by simpa using I) ?_);intro h' tk e ne;show ag (tj ?_);have kp:∀b o,(s.heap.push { cls:=.type "dict",data:=.dict #[] }).get? b=some o->h'.get? b=some o:=ne.keeps
 have G:h'.IsList l items.toArray:=⟨_,kp _ _ z,m,nl,D⟩
 have O:h'.DictOfH (tupleKind knd) s.heap.objs.size []:=B.kept (λo e=>kp _ _ e) λx f=>by cases f
 have S:l<s.heap.objs.size:=bX R;have j:s.heap.objs.size<h'.objs.size:=by
  obtain⟨o,es,ep,d,r⟩:=O;show bX d
 have P:∀{c},(∃o,s.heap.get? c=some o)->c≠s.heap.objs.size/\c∉[h'.objs.size]:=λ⟨o,g⟩=>by
  have:=bX g;rw[du];show⟨c7 this,c7 (zi this j)⟩
 show ag (tG G (az ⟨mZ WB _,?_⟩));have u:l≠h'.objs.size:=c7 (zi S j);have U:s.heap.objs.size∉[h'.objs.size,l]:=by
  simp only[bG,kY,or_false,not_or];show⟨c7 j,kT S⟩
 have Nb:A.in1.in1.handled=none:=by simpa using I
 show znw (by show A.units+1+1<cLine;lia) ((OO Nb _ l u items.toArray).toS) s.heap.objs.size U s.heap kvs (by trivial) hsz (λp X=>?_) (λi v hv=>?_) (items.toArray.size-0) 0 _ rfl (cG _)
  ⟨⟨_,c8 _ rfl,rfl,rfl⟩,(G.push _)⟩ (O.kept (λo e=>bZ _ e) λx f=>by cases f) (λb o Z yr e=>bZ _ (kp _ _ (bZ _ e))) ?_
 .obtain⟨i,H⟩:=gL X;have W:i<items.length:=by rw[<-f];show(cD.mp H).1
  obtain⟨k,y,b,a,d,_,⟨o,_,_,g,_⟩,_⟩:=C i _ (aX W);rw[H] at d;cases d;show P ⟨o,g⟩
 .rw[Ir] at hv;obtain⟨k,y,b,a,d,t,h3,M⟩:=C i v hv;have L:=P (c:=a) (let⟨o,g,_⟩:=M;⟨o,g⟩);show⟨k,y,b,a,d,t,h3,M,L.1,L.2⟩
 intro V hm T;obtain⟨t,g',d',FE,Mq⟩:=V;have eg:g'=s.gens:=hm.gens;have ed:d'=s.drawn:=hm.drawn;have eo:Mq=s.os:=hm.os;subst eg ed eo;show⟨rfl,h t FE T λb o e=>?_⟩;have J:b<s.heap.objs.size:=bX e;show hm.heap b o ?_ (bZ _ (kp _ _ (bZ _ e)));simp only[bG,kY,or_false,not_or];show⟨c7 J,c7 (zi J j)⟩
end
end PySem
namespace L2
open PySem PySem.Spec PyProof.Rows
noncomputable abbrev TQ:=ab×ab×List Key×V
noncomputable def xK(a:List TQ):List (List Key×V):=a.foldl (λacc t=>ni acc t.2.2.1 t.2.2.2) []
noncomputable def Ki(ps:List (EK×D)):List (List Key×D):=ps.foldl (λacc p=>oz acc p.1 p.2) []
section
variable{X:Cx}
theorem Tt{l:St}(I:Inv X E l H s)(g:aZ G H):∀{d:List TQ}{its},(∀t∈d,cz X.K H t.1 [.ref t.2.1,t.2.2.2]/\G t.2.1=some (.tup (t.2.2.1.map kV)))->Vals (d.map λt=>V.ref t.1) its->
  ∃kvs:nW Key,kvs.length=its.length/\(∀(i:Nat) v,its[i]?=some v->∃k y b a,kvs[i]?=some (k,b,y)/\v=.ref a/\IsTupleKey (ja X.prog X.w) s.heap k b/\s.heap.IsTuple a #[.ref b,y])/\
   ∀f c,KT G f c->KT G (d.foldl (λacc t=>ni acc t.2.2.1 t.2.2.2) f) (kvs.foldl (λacc p=>storedH acc p.1 p.2.1 p.2.2) c)
 | [],its,_,r=>by
  cases r;show⟨[],rfl,λi v e=>(by cases e),λf c h=>h⟩
 | t::d,_,h,r=>by
  cases r with
  | @cons _ u _ us a rs=>
   obtain⟨kvs,D,C,h3⟩:=Tt I g (λx A=>h x (cK _ A)) rs;obtain⟨st,j⟩:=h t cT;obtain⟨i1,v1,z,_⟩:=I.tuple st;obtain⟨n,m,rfl,q,o⟩:=Ah v1;cases (show u=fi t.1 from a);cases (show n=fi t.2.1 from q);show⟨(t.2.2.1,t.2.1,m)::kvs,by rw[cC,cC,D],λi v e=>?_,λf c B=>?_⟩
   .cases i with
    | zero=>
     cases e;show⟨_,_,_,_,rfl,rfl,vJ I.aW (g _ _ j),z⟩
    | succ i=>show C i v e
   show h3 _ _ (B.put t.2.2.1 j o)
theorem KT.aaG:∀{a xs},KT G a xs->eX G a (xs.map λx=>x.2.1):=by
 intro a xs r;induction r with
 | nil=>trivial
 | cons h t b=>show⟨h.2.1,b⟩
def ztN(K:aj):List V->Hp->VK->Prop:=λb H Q=>∃l a G,b=[V.ref l]/\aZ G H/\bP K H l (a.map λt=>V.ref t.1)/\(∀t∈a,cz K H t.1 [.ref t.2.1,t.2.2.2]/\G t.2.1=some (.tup (t.2.2.1.map kV)))/\
 ∀p,H p=none->∀bs:List ab×Nat,eX G (xK a) bs.1->Q (.ref p) (upd H p (.dT (xK a) bs))
theorem zlB(y:X.calm=true)(P:X.A.units+64<cLine):ip X (.type "dict") (ztN X.K):=by
 intro R s σ H xs us Q I r h;obtain⟨l,c,G,rfl,d,v,t,q⟩:=h;obtain⟨u,rfl,k⟩:=i8 r;cases k;obtain⟨its,f,pl,hz⟩:=I.list v;obtain⟨kvs,hlen,j,fold⟩:=Tt I d t f;obtain⟨o,n,D,C,h3,B⟩:=pl;have i:kvs.length<=sizeLine:=by rw[hlen,<-f.length];show hz
 have kt:KT G (xK c) (bH kvs):=fold [] [] .nil;show zja (knd:=ja X.prog X.w) (kvs:=kvs) (items:=its) (by lia) (I.ok.hd y) ⟨o,n,D,C,h3,B⟩ hlen i j λh' tk F kp=>?_
 have hf:H s.heap.objs.size=none:=I.aW.fresh (bx _);obtain⟨m,E,g,O,N,M,L,_,J⟩:=F;have p:(xK c).length=(bH kvs).length:=tw kt;show⟨.ref s.heap.objs.size,_,I.laid (a:=s.heap.objs.size) (o:=.dT (xK c) ((bH kvs).map λx=>x.2.1,g)) (t':=tk) kp (bx _) ⟨by rw[p];show bU (SY kvs) i,beq_eq_false_iff_ne.mpr (Ne.symm (c7 I.big)),bH kvs,rfl,kt.keeps λb ys e=>?_,m,E,g,O,N,M,L,J,rfl⟩,rfl,q _ hf _ kt.aaG⟩;have:=d _ _ e;rw[bA (λz=>by rw[z,hf] at this;cases this)];show this
def JG:cg:=λds Q=>∃ps:List (EK×D),ds=[.lst (ps.map λp=>.tup [aO p.1,p.2])]/\Q (.ov (.dq (Ki ps)))
theorem Tr{K:aj}:∀{xs}{ps:List (EK×D)},ao K G xs (ps.map λp=>.tup [aO p.1,p.2])->∃c:List TQ,xs=c.map (λt=>V.ref t.1)/\(∀t∈c,G t.1=some (.tup [.ref t.2.1,t.2.2.2])/\G t.2.1=some (.tup (t.2.2.1.map kV)))/\
  ∀f e,bC K G f e->bC K G (c.foldl (λacc t=>ni acc t.2.2.1 t.2.2.2) f) (ps.foldl (λacc p=>oz acc p.1 p.2) e)
 | [],[],_=>⟨[],rfl,λt d=>(by cases d),λf e h=>h⟩
 | v::xs,p::ps,r=>by
  obtain⟨c,rfl,o,h3⟩:=Tr r.2;have k:=r.1;obtain⟨a,ys,rfl,n,j⟩:=k;obtain⟨y,z,rfl,g,i⟩:=Ag j;obtain⟨b,rfl,m⟩:=JH g;show⟨(a,b,p.1,z)::c,rfl,λt d=>?_,λf e l=>?_⟩
  .rcases bG.mp d with rfl | d
   .exact⟨n,m⟩
   show o t d
  show h3 _ _ (l.put i)
 | [],_::_,r=>by rw[bD] at r;simp only[ao] at r
 | _::_,[],r=>by rw[tu] at r;simp only[ao] at r
theorem zrT(j:X.calm=true)(g:X.A.units+64<cLine):pU X (.type "dict") JG:=by
 show⟨_,zlB j g,λG H o ds Q P s rs h k=>?_⟩;obtain⟨ps,rfl,q⟩:=h;obtain⟨v,rfl,f⟩:=i7 rs;obtain⟨a,xs,rfl,n,m⟩:=f;obtain⟨c,rfl,h3,l⟩:=Tr m;show⟨a,c,G,rfl,s,(s.cH n).sq,λt d=>⟨s.uj (cz.of (h3 t d).1),(h3 t d).2⟩,λp b bs i=>?_⟩;show k _ _ (.ov (.dq (Ki ps))) G (.own s b) ⟨p,[],rfl,by show mU _ _,⟨rfl,xK c,bs,dQ,i,l [] [] (by simp only[bC])⟩,λq e=>?_⟩ q;simp only[du] at e;subst e;show⟨b,s.free b⟩
end
noncomputable def yF(g:List EK):D:=.lst (g.map aO)
section
variable{X:Cx}
noncomputable def nQ(a:List (List D))(t:Nat):List (List D):=(a.take t).map (λ_=>[])++a.drop t
def xV(i j:Nat)(tc:eE):TX:=λD ρ=>match gt ρ i with
 | .ov (.ll a)=>i≠j/\j<ρ.length/\(∀ds∈a,tc ((ρ.set i .un).set j (.fz (.lst ds))) λb=>b=false)/\D.nx ((ρ.set j .un).set i (.ov (.ll (a.map λ_=>[]))))
 | _=>False
theorem ztO(h):(nQ a t)[t]?=some a[t]:=by
 unfold nQ;rw[IP (by rw[ax,eP];lia),ax,eP,Dv,show t+(t-min t a.length)=t by lia];show aX h
theorem zrU(h:t<a.length):(nQ a t).set t []=nQ a (t+1):=by
 unfold nQ;rw[Qy _ _ (by rw[ax,eP];lia),ax,eP,show t-min t a.length=0 by lia,tN h,List.set_cons_zero,gf,aX h,bY];simp
theorem zrV(a):nQ a a.length=a.map λ_=>[]:=by
 unfold nQ;rw[gw,PK,gI]
theorem bh.aaB{K:aj}{S R G H:Hp}{i t:Nat}{fp:List ab}(E:bh K S R ρ A G H)(Z:gt ρ i=.ov (.ll Q))(w:A[i]?=some (some (.ref p)))(Y:H p=some (.lst (fp.map V.ref)))(L:fp[t]?=some q)(hd:Q[t]?=some ds):bh K S R (ρ.set i .un) A (i6 G H [q]) H/\G q=none/\Rep K (i6 G H [q]) (.ref q) (.lst ds):=by
 obtain⟨own,o1,J⟩:=E.on;obtain⟨p',dG,P,b2,⟨l,b4⟩,b5⟩:=J i _ Z;rw[w] at P;cases P;have e:dG=fp:=by
  rw[Y] at l;injection l with l
  injection l with l
  show((wX λa b h=>by cases h;rfl).mp l).symm
 subst e;obtain⟨q',xs,O,c2,c3⟩:=b4.get hd;rw[L] at O;cases O;obtain⟨N,d2,d3⟩:=b5 q (cK _ (cJ L));have m:aZ G (i6 G H [q]):=xU λr B=>by rw[du.mp B];show N
 have c:∀j s,gt (ρ.set i .un) j=s->s≠.un->i≠j/\gt ρ j=s:=λj s e w=>by
  rw[lg] at e;by_cases h:i=j/\j<ρ.length
  .rw[if_pos h] at e;show absurd e.symm w
  rw[if_neg h] at e;show⟨λz=>h ⟨z,tU e w⟩,e⟩
 have I:∀r k,own r=some k->i≠k->i6 G H [q] r=G r:=λr k x h2=>lh λz=>by
  rw[du.mp z,d3] at x;injection x with x
  show h2 x
 show⟨⟨⟨E.e.g.trans m,E.e.h,λb u e=>?_,λr W F=>?_⟩,by simp[E.len],λj d h=>?_,λj f h=>?_,λj k f fs X a1 a2=>?_,own,λj f r h B=>?_,λj o h=>?_⟩,N,?_⟩
 .by_cases M:b∈[q]
  .rw[md M] at e;show e
  rw[lh M] at e;show E.e.s b u e
 .rw[lh (λz=>F (by rw[du.mp z];show d2))];show E.e.n r W F
 .obtain⟨u,U,T⟩:=E.fz j d (c j _ h (by simp)).2;show⟨u,U,T.mono m⟩
 .obtain⟨n,h⟩:=c j _ h (by simp);obtain⟨r,fc,y,C,e3,v,e5⟩:=E.ow j f h;show⟨r,fc,y,C,by rw[I r j (o1 j f r h y) n];show e3,v,e5.mono m⟩
 .exact E.dj j k f fs X (c j _ a1 (by simp)).2 (c k _ a2 (by simp)).2
 .exact o1 j f r (c j _ h (by simp)).2 B
 .obtain⟨n,h⟩:=c j _ h (by simp);obtain⟨r,fr,y,C,e3,v⟩:=J j o h;show⟨r,fr,y,C,e3.mono m λ_ _ u e=>e,λz hz=>⟨by rw[I z j (v z hz).2.2 n];show(v z hz).1,(v z hz).2⟩⟩
 show⟨q,xs,rfl,fO.of (by rw[md (by show .head _)];show c2),c3.mono m⟩
theorem zhq(i j){ez:List cQ}(hc:X.calm=true)(hX:X.N.Nodup)
  (hp:PassesOwn (model X.prog X.w) X.A X.env X.xe) (ht:PB X C tc) (hr:∃t,j5 X ez t) (hn:∃t,j5 X [] t/\∀D σ H,D.nx σ H->t D σ H) (hN:Nm X i c:=by walk_at"nm")
  (Yq:Nm X j y:=by walk_at"nm") (hx:Loc X.env.scope y:=by first | show Or.inl rfl | show Or.inr rfl) (hf:X.fn y=true\/X.env.scope.names.lookup y=some .local:=by first | show .inl rfl | show .inr rfl)
  (Q:∀{ta},PE X (.Name y O) ta->PE X (.Call (.Attribute (.Name y O) "clear" p6) [] [] p7) (Jl X.K "list" So ta):=by intro ta S;show Sq xh PySem.F.slot_list_clear PySem.F.type_list_clear zoQ S)
  (kD:swapsWith (.Call (.Attribute (.Name y O) "clear" p6) [] [] p7) none p8.line X.env=pure false:=by rfl)
  (hs:∀x,foldedSetIterable (.Name c p2) X.env x=pure x:=by intro _;rfl) :
  PX X (.For (.Name y p1) (.Name c p2) [.If C ez [] p4,.Expr (.Call (.Attribute (.Name y O) "clear" p6) [] [] p7) p8] [] pos) (xV i j tc):=by
 obtain⟨tt,pt,qt⟩:=ht;obtain⟨tr,pr⟩:=hr;obtain⟨tn,pn,qn⟩:=hn;show⟨_,Sz hp hc (zq9 (l9 hN)) (UB hX Yq.N hx hf) (Ve (Sf pt pr pn) (Kq (AG (Q (l9 Yq)) kD))) hs,λρ σ G0 H0 G H D E k h gg=>?_⟩;unfold xV at h;split at h
 .rename_i B Nc;obtain⟨T,Gx,hT,hD⟩:=h;have nI:i<ρ.length:=tU Nc (by simp);obtain⟨own,o1,o2⟩:=k.on;obtain⟨p,fp,s1,Mu,⟨g1,g2⟩,fr⟩:=o2 i _ Nc;have hle:=g2.length;show⟨_,s1,p,rfl,⟨_,bP.of g1⟩,?_⟩;have Nv:∀o,gt ((ρ.set j .un).set i (.ov o)) i=.ov o:=λo=>by rw[lg,if_pos ⟨rfl,by rw[pD];show nI⟩]
  show⟨λt m L W=>m=fp.length-t/\t<=fp.length/\L[i]?=some (some (.ref p))/\W p=some (.lst (fp.map V.ref))/\∃M,aZ G M/\bh X.K G0 H0 ((ρ.set j .un).set i (.ov (.ll (nQ B t)))) L M W,
   ⟨_,rfl,cG _,s1,g1,G,aZ.refl _,?_⟩,?_⟩
  .have e0:((ρ.set j .un).set i (.ov (.ll (nQ B 0))))=ρ.set j .un:=by
    apply pF;intro n;rw[zB];split
    .rename_i hn;subst hn;rw[if_pos (by rw[pD];show nI),vq (λz=>T z.symm)];have:∀(l:Ev)(n:Nat)(s:Sl),gt l n=s->s≠.un->l[n]?=some s:=λl=>by
      induction l with
      | nil=>intro n s e h;show absurd e.symm h
      | cons a l ih=>
       intro n s e h;cases n with
       | zero=>rw[<-e];rfl
       | succ n=>show ih n s e h
     show(this ρ i _ Nc (by simp)).symm
    rfl
   rw[e0];show k.weak (by rw[pD]) λn=>by
    rw[lg];split
    .exact .inl rfl
    show .inr rfl
  rintro t m L W ⟨rfl,ht,Z,P,M,sG,E1⟩;by_cases f:t<fp.length
  .refine .inr ⟨⟨_,.ref fp[t],bP.of P,by simp[f]⟩,_,λiZ U hN=>hN,λx U hy=>?_⟩;obtain⟨rfl,hy⟩:=hy;have Xx:=hy _ (bP.of P);simp only[bE,aX f,kd,gK] at Xx;subst Xx;have B0:t<B.length:=by lia
   obtain⟨EL,hL0,rt⟩:=E1.aaB (Nv _) Z P (aX f) (ztO B0);have hL:∀q∈[fp[t]],M q=none:=λq hq=>by rw[du.mp hq];show hL0
   have EP:=EL.put (i:=j) (v:=.ref fp[t]) (r:=.fz (.lst B[t])) (Ext.refl EL.e.s) rt;have EW:bh X.K G0 H0 ((ρ.set i .un).set j (.fz (.lst B[t]))) (L.set j (some (.ref fp[t]))) (i6 M U [fp[t]]) U:=EP.weak (by simp) λn=>by
    show .inr ?_;simp only[lg,pD,R.sl];by_cases S:j=n/\n<ρ.length<;>by_cases h2:i=n/\n<ρ.length<;>simp only[S,h2,cO,cM,true_and,and_self]
   show qt _ _ G0 H0 _ U _ _ EW (hT _ (eZ B0)) λb H4 G4 x4 Q=>?_
   subst Q;show qn _ _ _ ?_;have x5:=Vq hL x4;have E5:=E1.ext x5;have Y:H4 p=some (.lst (fp.map V.ref)):=x5.h _ _ P;obtain⟨aap,o51,o52⟩:=E5.on;obtain⟨O,d,q1,q2,⟨J,q4⟩,_⟩:=o52 i _ (Nv _);rw[Z] at q1;cases q1;have NJ:d=fp:=by
    rw[Y] at J;injection J with J
    injection J with J
    show((wX λa b h=>by cases h;rfl).mp J).symm
   subst NJ;obtain⟨xs,Xw⟩:=q4.kind d[t] (eZ f);have jl':j<L.length:=by rw[E1.len];simp;show Gx
   show⟨.ref d[t],by simp[jl'],.inl ⟨rfl,xs,bP.of Xw⟩,d[t],xs,rfl,rfl,Xw,d.length-(t+1),by ext,rfl,f,?_,?_,_,sG.trans x5.g,?_⟩
   .rw[vq (λz=>T z.symm)];show Z
   .rw[bA (λz:p=d[t]=>(gu.mp q2).1 (by rw[z];show eZ f))];show Y
   have E6:=E5.unset (i:=j) (u:=some (.ref d[t]));have g6:gt (((ρ.set j .un).set i (.ov (.ll (nQ B t)))).set j .un) i=.ov (.ll (nQ B t)):=by
    rw[lg,if_neg (λz=>T z.1.symm)];show Nv _
   have E7:=E6.yG (o':=.ll (nQ B (t+1))) (p:=p) (H':=upd H4 d[t] (.lst [])) g6 (by rw[vq (λz=>T z.symm)];show Z) λdG nd ow=>by
    obtain⟨I,w2⟩:=ow;have e3:dG=d:=by
     rw[Y] at I;injection I with I
     injection I with I
     show((wX λa b h=>by cases h;rfl).mp I).symm
    subst e3;show⟨dG,nd,⟨?_,?_⟩,λq hq=>.inl hq,λb Q _=>bA λz=>Q (by rw[z];show cK _ (eZ f))⟩
    .rw[bA (λz:p=dG[t]=>(gu.mp nd).1 (by rw[z];show eZ f))];show Y
    rw[<-zrU B0];show w2.set ao.nil (gu.mp nd).2 (aX f)
   show E7.weak (by simp) λn=>.inr ?_
   simp only[lg,pD];by_cases S:i=n/\n<ρ.length<;>by_cases h2:j=n/\n<ρ.length<;>simp only[S,h2,cO,cM,true_and,and_self]
  show .inl ⟨⟨_,bP.of P,by simp;show vf ‹_›⟩,gg.nx _ L M W sG E1 ?_⟩;rw[show t=B.length by lia,zrV];show hD
 show h.elim
end
theorem zlC:typeLookup (.type "zip") "__len__"=pure none:=by kernel_rfl
theorem zjc:typeLookup (.type "zip") "__length_hint__"=pure none:=by kernel_rfl
abbrev Zp(h:ay)(n:Nat)(b a:aa):Prop:=h.get? (n+5)=some { cls:=.type "zip",dict:=none,data:=.fields #[b,a,.bool false,.ref (n+3),.ref (n+4)],slots:=#[] }
abbrev jZ(h:ay)(T:Nat)(a b c:aa):Prop:=h.get? T=some { cls:=.type "tuple",data:=.seq #[a,b,c] }
structure Z3(n l1 l2 l3:Nat)(xs ys zs:Array aa)(k:Nat)(h:ay):Prop where
 z:∃f0 f1,Zp h n f0 f1/\(f0=.none\/∃(T:Nat)(o:aT),f0=rawInt T/\h.get? T=some o/\n+6<T)
 ti:jZ h (n+3) (.ref n) (.ref (n+1)) (.ref (n+2))
 to:∃a b c,jZ h (n+4) a b c
 i1:h.IsListIter n l1 k
 i2:h.IsListIter (n+1) l2 k
 i3:h.IsListIter (n+2) l3 k
 a1:h.IsList l1 xs
 a2:h.IsList l2 ys
 a3:h.IsList l3 zs
theorem Z3.at(st:Z3 n g f d xs ys zs k h)(t:g<n)(s:f<n)(r:d<n)(kk:∀c o,c≠n+6->h.get? c=some o->h'.get? c=some o):Z3 n g f d xs ys zs k h':=by
 obtain⟨⟨f0,f1,j,i⟩,t1,⟨a,b,c,m⟩,i1,i2,i3,a1,a2,a3⟩:=st;show⟨⟨f0,f1,kk _ _ (by simp_all) j,i.imp id λp=>by obtain⟨T,o,e,q,l⟩:=p;show⟨T,o,e,kk _ _ (by show kT ‹_›) q,l⟩⟩,kk _ _ (by simp_all) t1,⟨a,b,c,kk _ _ (by simp_all) m⟩,i1.at λo e=>kk _ o (by simp_all) e,i2.at λo e=>kk _ o (by simp_all) e,i3.at λo e=>kk _ o (by simp_all) e,a1.at λo e=>kk _ o (by lia) e,a2.at λo e=>kk _ o (by lia) e,a3.at λo e=>kk _ o (by lia) e⟩
theorem dn(h:@Ne Nat a b):@Ne ab a b:=h
theorem Wu(h:Q (s.heap.get? a) s):wpAny M A (loadIfAlive a) Q E s:=λ_ _ _=>h
theorem IT{T:ab}(d:jZ s.heap T a b c)
  (h:∀h',h'.get? T=some { cls:=.type "tuple",data:=.seq ((#[a,b,c]:Array aa).setIfInBounds k x) }->oh T s.heap h'->Q () { s with heap:=h' }) :
  wpAny (model prog w) A (updateSeq T (·.setIfInBounds k x)) Q E s:=by
 show qU d rfl (h _ ?_ (vo ..));rw[mT _ d rfl];simp[gZ]
theorem znA{Q:aa->ai->Prop}(b1:l1<n)(b2:l2<n)(b3:l3<n)(hsz:n+6<s.heap.objs.size)(st:Z3 n l1 l2 l3 xs ys zs k s.heap)(hx:xs[k]?=some x)(hy:ys[k]?=some y)(hv:zs[k]?=some v)
  (hQ:∀h',Z3 n l1 l2 l3 xs ys zs (k+1) h'->jZ h' s.heap.objs.size x y v->h'.objs.size=s.heap.objs.size+1->(∀c o,c<n\/n+5<c->s.heap.get? c=some o->h'.get? c=some o)->Q (.ref s.heap.objs.size) { s with heap:=h' }) :
  wpAny (model prog w) A (Builtin.«zip.__next__» ⟨[.ref (n+5)],[]⟩) (λfin J=>∃v,fin=.done (.ret v)/\Q v J) E s:=by
 obtain⟨⟨f0,f1,hz,hf⟩,Cc,⟨a,b,c,Np⟩,h1,h2,h3,L,K,R⟩:=st;show wpAny _ _ (field (.ref (n+5)) 2 >>= _) _ _ _;show ag (jL hz rfl (x:=.bool false) rfl ?_);show ag (jL hz rfl (x:=.ref (n+3)) rfl ?_);show ag (m7 Cc rfl ?_);rcases hf with rfl | ⟨T,o,rfl,hT,Ym⟩
 .refine ag ?_;show ag (jL hz rfl (x:=.none) rfl (az ?_));show ag (tj ?_);show ag (jL hz rfl (x:=.ref (n+4)) rfl ?_);show ag (wpAny_setField_rec hz (by show iq _) λS B t=>?_);replace B:Zp S n .ellipsis f1:=B
  show ag ?_;have m:=t.extBut;show ag (ag (CU ?_));show ag (xg (h1.extBut m (dn (by simp_all))) (L.extBut m (dn (by lia))) hx λnC Nq u=>az ?_);have h:=u.extBut;have Yp:jZ nC (n+4) a b c:=h _ _ (dn (by simp_all)) (m _ _ (dn (by simp_all)) Np);show ag (m7 Yp rfl ?_);show ag (IT Yp λsj Nn r=>?_);replace Nn:jZ sj (n+4) x b c:=Nn
  have i:=r.extBut;show ag (qR (az ?_));show ag (ag (CU ?_));show ag (xg (((h2.extBut m (dn (by simp_all))).extBut h (dn (by simp_all))).extBut i (dn (by simp_all))) (((K.extBut m (dn (by lia))).extBut h (dn (by show c7 ‹_›))).extBut i (dn (by lia))) hy λj W H=>az ?_);have l:=H.extBut;have Yo:jZ j (n+4) x b c:=l _ _ (dn (by simp_all)) Nn;show ag (m7 Yo rfl ?_);show ag (IT Yo λMN Nl XI=>?_);replace Nl:jZ MN (n+4) x y c:=Nl
  have p:=XI.extBut;show ag (qR (az ?_));show ag (ag (CU ?_));show ag (xg (((((h3.extBut m (dn (by simp_all))).extBut h (dn (by simp_all))).extBut i (dn (by simp_all))).extBut l (dn (by simp_all))).extBut p (dn (by simp_all))) (((((R.extBut m (dn (by lia))).extBut h (dn (by show c7 ‹_›))).extBut i (dn (by lia))).extBut l (dn (by lia))).extBut p (dn (by lia))) hv λaaJ Z XH=>az ?_);have F:=XH.extBut;have Yn:jZ aaJ (n+4) x y c:=F _ _ (dn (by simp_all)) Nl;show ag (m7 Yn rfl ?_);show ag (IT Yn λd P XG=>?_);replace P:jZ d (n+4) x y v:=P
  have G:=XG.extBut;show ag (qR (az (az ?_)));show ag (m7 P rfl ?_);show ag (HI ?_);have sz:d.objs.size=s.heap.objs.size:=by rw[XG.1,XH.1,XI.1,H.1,r.1,u.1,t.1]
  have aaM:Zp d n .ellipsis f1:=G _ _ (dn (by simp_all)) (F _ _ (dn (by simp_all)) (p _ _ (dn (by simp_all)) (l _ _ (dn (by simp_all)) (i _ _ (dn (by simp_all)) (h _ _ (dn (by simp_all)) B)))));have kk:∀(c:Nat) o,c<n\/n+5<c\/c=n+3->s.heap.get? c=some o->d.get? c=some o:=λc o M e=>
   G _ _ (dn (by lia)) (F _ _ (dn (by lia)) (p _ _ (dn (by lia)) (l _ _ (dn (by lia)) (i _ _ (dn (by lia)) (h _ _ (dn (by lia)) (m _ _ (dn (by lia)) e))))))
  have U:d.IsListIter n l1 (k+1):=((((Nq.extBut i (dn (by simp_all))).extBut l (dn (by simp_all))).extBut p (dn (by simp_all))).extBut F (dn (by simp_all))).extBut G (dn (by simp_all));have X:d.IsListIter (n+1) l2 (k+1):=((W.extBut p (dn (by simp_all))).extBut F (dn (by simp_all))).extBut G (dn (by simp_all));have abf:d.IsListIter (n+2) l3 (k+1):=Z.extBut G (dn (by simp_all));show ag ?_;have aaL:Zp (d.push { cls:=.type "tuple",data:=.seq #[x,y,v] }) n .ellipsis f1:=bZ _ aaM;show ag (wpAny_setField_rec aaL (by show iq _) λaaI MO MX=>?_);replace MO:Zp aaI n (rawInt d.objs.size) f1:=MO
  show wpAny_setField_rec MO (by simp) λC O MY=>?_
  replace O:Zp C n (rawInt d.objs.size) (.bool false):=O
  have up:∀(c:Nat) o,c≠n+5->d.get? c=some o->C.get? c=some o:=λc o N e=>MY.extBut _ _ N (MX.extBut _ _ N (bZ _ e))
  have q:jZ C d.objs.size x y v:=MY.extBut _ _ (dn (by lia)) (MX.extBut _ _ (dn (by lia)) (c8 _ rfl));have I:C.objs.size=d.objs.size+1:=by rw[MY.1,MX.1,jm]
  rw[sz] at O q I;show az ⟨_,rfl,?_⟩;rw[sz];show hQ C ⟨⟨_,_,O,.inr ⟨_,_,rfl,q,hsz⟩⟩,up _ _ (by simp_all) (kk _ _ (by simp_all) Cc),⟨_,_,_,up _ _ (by simp_all) P⟩,U.at λo e=>up _ o (by simp_all) e,X.at λo e=>up _ o (by simp_all) e,abf.at λo e=>up _ o (by simp_all) e,L.at λo e=>up _ o (by lia) (kk _ o (by show .inl ‹_›) e),K.at λo e=>up _ o (by lia) (kk _ o (by show .inl ‹_›) e),R.at λo e=>up _ o (by lia) (kk _ o (by show .inl ‹_›) e)⟩ q I λc o M e=>up c o (by ext) (kk c o (by ext) e)
 have ez:∀(h₀:ay)(g:aa),h₀.objs.size=s.heap.objs.size->Zp h₀ n (rawInt T) g->(∀(c:Nat) o,c≠n+5->s.heap.get? c=some o->h₀.get? c=some o)->wpAny (model prog w) A (IJ (.ref n)) (λx' s1=>x'=x/\wpAny (model prog w) A (IJ (.ref (n+1))) (λy' s2=>y'=y/\wpAny (model prog w) A (IJ (.ref (n+2))) (λv' s3=>v'=v/\wpAny (model prog w) A (newTuple [x,y,v]) Q E s3) E s2) E s1) E { s with heap:=h₀ }:=λh₀ g XM aaN f=>by
  show xg (h1.at λo e=>f _ o (by ext) e) (L.at λo e=>f _ o (by ext) e) hx λnC Nq u=>⟨rfl,?_⟩
  have h:=u.extBut;show xg ((h2.at λo e=>f _ o (by ext) e).extBut h (dn (by ext))) ((K.at λo e=>f _ o (by ext) e).extBut h (dn (by ext))) hy λsj V r=>⟨rfl,?_⟩
  have i:=r.extBut;show xg (((h3.at λo e=>f _ o (by ext) e).extBut h (dn (by ext))).extBut i (dn (by ext))) (((R.at λo e=>f _ o (by ext) e).extBut h (dn (by ext))).extBut i (dn (by ext))) hv λj Y H=>⟨rfl,?_⟩
  have l:=H.extBut;show HI ?_;have sz:j.objs.size=s.heap.objs.size:=by rw[H.1,r.1,u.1,XM]
  have up:∀(c:Nat) o,c≠n->c≠n+1->c≠n+2->h₀.get? c=some o->(j.push { cls:=.type "tuple",data:=.seq #[x,y,v] }).get? c=some o:=λc o N c2 c3 e=>bZ _ (l _ _ c3 (i _ _ c2 (h _ _ N e)))
  have q:jZ (j.push { cls:=.type "tuple",data:=.seq #[x,y,v] }) j.objs.size x y v:=c8 _ rfl;have I:(j.push { cls:=.type "tuple",data:=.seq #[x,y,v] }).objs.size=j.objs.size+1:=jm ..;have p1:(j.push { cls:=.type "tuple",data:=.seq #[x,y,v] }).IsListIter n l1 (k+1):=((Nq.extBut i (dn (by ext))).extBut l (dn (by ext))).at λo e=>bZ _ e
  have p2:(j.push { cls:=.type "tuple",data:=.seq #[x,y,v] }).IsListIter (n+1) l2 (k+1):=(V.extBut l (dn (by ext))).at λo e=>bZ _ e
  have p3:(j.push { cls:=.type "tuple",data:=.seq #[x,y,v] }).IsListIter (n+2) l3 (k+1):=Y.at λo e=>bZ _ e
  rw[sz] at q I ⊢;show hQ _ ⟨⟨_,_,up _ _ (by ext) (by ext) (by ext) aaN,.inr ⟨T,o,rfl,up _ _ (by ext) (by ext) (by ext) (f _ _ (by ext) hT),Ym⟩⟩,up _ _ (by ext) (by ext) (by ext) (f _ _ (by ext) Cc),⟨a,b,c,up _ _ (by ext) (by ext) (by ext) (f _ _ (by ext) Np)⟩,p1,p2,p3,L.at λo e=>up _ o (by ext) (by ext) (by ext) (f _ o (by ext) e),K.at λo e=>up _ o (by ext) (by ext) (by ext) (f _ o (by ext) e),R.at λo e=>up _ o (by ext) (by ext) (by ext) (f _ o (by ext) e)⟩ q I λc o M e=>up c o (by ext) (by ext) (by ext) (f c o (by ext) e)
 show ag (g7 (Q:=λa J=>a=false/\∃(h₀:ay)(g:aa),J={ s with heap:=h₀ }/\h₀.objs.size=s.heap.objs.size/\Zp h₀ n (rawInt T) g/\∀(c:Nat) o,c≠n+5->s.heap.get? c=some o->h₀.get? c=some o) ?_ (λa J hz=>?_) λ_ _ z=>z)
 .refine ag (jL hz rfl (x:=rawInt T) rfl ?_);show ag (Wu ?_);rw[jJ,hT];show ag (jL hz rfl (x:=f1) rfl ?_);show wpAny_ite ?_;split
  .exact ag (wpAny_setField_rec hz (by simp) λS B t=>az ⟨rfl,S,_,rfl,t.1,B,λc o M e=>t.extBut _ _ M e⟩)
  show az ⟨rfl,s.heap,f1,rfl,rfl,hz,λ_ _ _ e=>e⟩
 obtain⟨rfl,h₀,g,rfl,q1,q2,q3⟩:=hz;show ag (ag (ag (fQ ?_)));show ag (g7 (ez h₀ g q1 q2 q3) (λx' s1 D=>?_) λ_ _ z=>z);obtain⟨e1,r1⟩:=D;show az ?_;subst e1;show az (ag (ag (fQ ?_)));show ag (g7 r1 (λy' s2 D=>?_) λ_ _ z=>z);obtain⟨e2,r2⟩:=D;show az ?_;subst e2;show az (ag (ag (fQ ?_)));show ag (g7 r2 (λv' s3 D=>?_) λ_ _ z=>z);obtain⟨e3,r3⟩:=D;show az ?_;subst e3;show az (az ?_);show ag (g7 r3 (λ_ _ z=>az ⟨_,rfl,z⟩) λ_ _ z=>z)
theorem zpP(y:A.handled=none)(O:l1<n)(N:l2<n)(M:l3<n)(st:Z3 n l1 l2 l3 xs ys zs k s.heap)(v:xs[k]?=none)
  (B:∀h' e,(∀c o,c<n\/n+5<c->s.heap.get? c=some o->h'.get? c=some o)->(∃o,h'.get? e=some o/\o.cls=.type "StopIteration")->E (.ref e) { s with heap:=h' }) :
  wpAny (model prog w) A (Builtin.«zip.__next__» ⟨[.ref (n+5)],[]⟩) Q E s:=by
 obtain⟨⟨f0,f1,hz,hf⟩,J,⟨a,b,c,R⟩,C,L,h3,u,K,S⟩:=st;show wpAny _ _ (field (.ref (n+5)) 2 >>= _) _ _ _;show ag (jL hz rfl (x:=.bool false) rfl ?_);show ag (jL hz rfl (x:=.ref (n+3)) rfl ?_);show ag (m7 J rfl ?_);rcases hf with rfl | ⟨T,o,rfl,I,P⟩
 .refine ag ?_;show ag (jL hz rfl (x:=.none) rfl (az ?_));show ag (tj ?_);show ag (jL hz rfl (x:=.ref (n+4)) rfl ?_);show ag (wpAny_setField_rec hz (by simp) λp f g=>?_);replace f:Zp p n .ellipsis f1:=f
  show ag ?_;have i:=g.extBut;show ag (ag (CU ?_));show ag (Qx y (C.extBut i (dn (by ext))) (u.extBut i (dn (by ext))) v λj e d he=>?_);obtain⟨H,q,D⟩:=he;have F:Zp j n .ellipsis f1:=d _ _ (dn (by ext)) f;have l:e≠n+5:=λx=>by subst x;rw[F] at q;cases q;simp at D
  show wpAny_setField_rec F (by simp) λG _ r=>B G e (λc o m x=>r.extBut _ _ (dn (by ext)) (d _ _ (dn (by ext)) (i _ _ (dn (by ext)) x))) ⟨H,r.extBut _ _ l q,D⟩
 show ag (g7 (Q:=λa t=>a=false/\∃(h₀:ay),t={ s with heap:=h₀ }/\∀(c:Nat) o,c≠n+5->s.heap.get? c=some o->h₀.get? c=some o) ?_ (λa t hz=>?_) λ_ _ z=>z)
 .refine ag (jL hz rfl (x:=rawInt T) rfl ?_);show ag (Wu ?_);rw[jJ,I];show ag (jL hz rfl (x:=f1) rfl ?_);show wpAny_ite ?_;split
  .exact ag (wpAny_setField_rec hz (by simp) λp f g=>az ⟨rfl,p,rfl,λc o m e=>g.extBut _ _ m e⟩)
  show az ⟨rfl,s.heap,rfl,λ_ _ _ e=>e⟩
 obtain⟨rfl,h₀,rfl,h⟩:=hz;show ag (ag (ag (fQ ?_)));show ag (Qx y (C.at λo e=>h _ o (by ext) e) (u.at λo e=>h _ o (by ext) e) v λj e d he=>B j e (λc o m x=>d _ _ (dn (by ext)) (h _ _ (by ext) x)) he)
theorem zlD(h:l1<n)(g:l2<n)(f:l3<n)(hsz:n+6<s.heap.objs.size)(st:Z3 n l1 l2 l3 xs ys zs k s.heap)(d:xs[k]?=some x)(b:ys[k]?=some y)(hv:zs[k]?=some v)
  (e:∀h',Z3 n l1 l2 l3 xs ys zs (k+1) h'->jZ h' s.heap.objs.size x y v->h'.objs.size=s.heap.objs.size+1->(∀c o,c<n\/n+5<c->s.heap.get? c=some o->h'.get? c=some o)->Q (some (.ref s.heap.objs.size)) { s with heap:=h' }) :
  wpAny (model prog w) A (pyNext (.ref (n+5))) Q E s:=by
 obtain⟨f0,f1,hz,_⟩:=id st.z;have a:s.TypeIs (.ref (n+5)) "zip":=⟨_,hz,rfl⟩
 show ag (u7 (vv (name:=fI "__next__") a C6
  (m9 C6 a PH (znA h g f hsz st d b hv λh' a1 a2 a3 i=>az (e h' a1 a2 a3 i)) (PU _))))
theorem znB(h:A.handled=none)(p:l1<n)(m:l2<n)(l:l3<n)(st:Z3 n l1 l2 l3 xs ys zs k s.heap)(d:xs[k]?=none)
  (j:∀h',(∀c o,c<n\/n+5<c->s.heap.get? c=some o->h'.get? c=some o)->Q none { s with heap:=h' }):wpAny (model prog w) A (pyNext (.ref (n+5))) Q E s:=by
 obtain⟨f0,f1,hz,_⟩:=id st.z;have a:s.TypeIs (.ref (n+5)) "zip":=⟨_,hz,rfl⟩
 show ag (u7 (vv (name:=fI "__next__") a C6
  (m9 C6 a PH (zpP h p m l st d λh' e g he=>?_) (PU _))))
 obtain⟨o,f,i⟩:=he;show ag (Dh (T:="StopIteration") (b:=true) ⟨o,f,i⟩ HH (az (j _ g)))
structure sZ(n:Nat)(xs ys zs:Array aa)(acc:Array aa)(k:Nat)(h:ay):Prop where
 size:acc.size=k
 at_:∀(j:Nat) v,acc[j]?=some v->∃(T:Nat)(x y z:aa),v=.ref T/\n+6<T/\xs[j]?=some x/\ys[j]?=some y/\zs[j]?=some z/\jZ h T x y z
 inj:∀(i j T:Nat),acc[i]?=some (.ref T)->acc[j]?=some (.ref T)->i=j
section
variable{prog:aG}{w:aF}{A:br}{E:aa->ai->Prop}{s:ai}{R:Result->ai->Prop}{n l1 l2 l3:Nat}{xs ys zs:Array aa}
theorem sZ.keep(a:sZ n xs ys zs acc k h)(kk:∀c o,n+6<c->h.get? c=some o->h'.get? c=some o):sZ n xs ys zs acc k h':=
 ⟨a.size,λj v g=>let⟨T,x,y,z,e,l,f,d,b,q⟩:=a.at_ j v g;⟨T,x,y,z,e,l,f,d,b,kk T _ l q⟩,a.inj⟩
theorem ZU(O:A.handled=none)(E:l1<n)(D:l2<n)(C:l3<n)(X:xs.size<=sizeLine)(W:ys.size=xs.size)(hz:zs.size=xs.size)(res):
  ∀j k s acc c,xs.size-k=j->k<=xs.size->Z3 n l1 l2 l3 xs ys zs k s.heap->n+6<s.heap.objs.size->s.heap.get? (n+6)=some { cls:=.type "list",dict:=none,data:=.seq acc c,slots:=#[] }->sZ n xs ys zs acc k s.heap->
  (∀h' h B,(∀c o,c<n\/n+6<c->s.heap.get? c=some o->h'.get? c=some o)->h'.get? (n+6)=some { cls:=.type "list",dict:=none,data:=.seq h B,slots:=#[] }->sZ n xs ys zs h xs.size h'->R (.ok (.ret res)) { s with heap:=h' })->
  codeAny (model prog w) A (.builtin "list.extend.loop" ⟨[.ref (n+6),.ref (n+5),res],[]⟩) R s:=by
 intro j;induction j with
 | zero=>
  intro k s acc c N p st hsz t d u;have S:k=xs.size:=by lia
  subst S;show pB Qk ?_;show ag (znB (A:=A.in1) O E D C st (IA (bx _)) λh' kk=>?_);show az (u h' acc c (λc o a e=>kk c o (by lia) e) (kk (n+6) _ (by simp_all) t) (d.keep λc o a e=>kk c o (by lia) e))
 | succ j M=>
  intro k s acc c N p st hsz t d u;have L:k<xs.size:=by lia
  show pB Qk ?_;have J:xs[k]?=some xs[k]:=mW L;have I:ys[k]?=some (ys[k]'(by simp_all)):=mW (by simp_all);have H:zs[k]?=some (zs[k]'(by simp_all)):=mW (by simp_all);show ag (zlD E D C hsz st J I H λh' Q P F kk=>?_);have K:=kk (n+6) _ (by simp_all) t;have G:=d.size;have g:∀(c:Nat) o,c≠n+6->h'.get? c=some o->(h'.update (n+6) (gZ (·.push (.ref s.heap.objs.size)))).get? c=some o:=λc o a e=>(lM _ _ (dn (Ne.symm a))).trans e
  show ag (qU K rfl (az ⟨mZ Io _,M (k+1) _ (acc.push (.ref s.heap.objs.size)) _ (by lia) L (Q.at E D C g) ?_ (mT _ K rfl) ?_ λb h B m U r=>?_⟩) (by lia) (by rw[Pu,G];lia))
  .rw[ve,F];lia
  .have a2:=(d.keep λc o a e=>kk c o (by lia) e).keep λc o a e=>g c o (by show kT ‹_›) e
   have old:∀(i T:Nat),acc[i]?=some (.ref T)->T≠s.heap.objs.size:=λi T p z=>by
    obtain⟨T',x,y,V,e,l,_,_,_,q⟩:=d.at_ i _ p;cases e;show absurd (z▸bX q) (iM _)
   show⟨by rw[Pu,G],λi v hv=>?_,λi j T f b=>?_⟩
   .rw[Qj] at hv;split at hv
    .rename_i e;cases hv;rw[G] at e;subst e;show⟨_,_,_,_,rfl,hsz,J,I,H,g _ _ (by show kT ‹_›) P⟩
    show a2.at_ i v hv
   rw[Qj] at f b;split at f<;>split at b
   .rename_i Z Y;simp_all
   .cases f;show absurd rfl (old _ _ b)
   .cases b;show absurd rfl (old _ _ f)
   show d.inj i j T f b
  show u b h B (λc o a e=>m c o a (g c o (by lia) (kk c o (by lia) e))) U r
theorem zrW(E:A.handled=none)(z:l1<n)(y:l2<n)(x:l3<n)(D:xs.size<=sizeLine)(C:ys.size=xs.size)(hz:zs.size=xs.size)(res:aa)(d:Nat)(q:Zp s.heap n .none (.bool false))(st:Z3 n l1 l2 l3 xs ys zs 0 s.heap)(hsz:n+6<s.heap.objs.size)
  (u:s.heap.get? (n+6)=some { cls:=.type "list",data:=.seq #[] d })
  (H:∀h' k a,(∀(c:Nat) o,c<n\/n+6<c->s.heap.get? c=some o->h'.get? c=some o)->h'.get? (n+6)=some { cls:=.type "list",dict:=none,data:=.seq k a,slots:=#[] }->sZ n xs ys zs k xs.size h'->R (.ok (.ret res)) { s with heap:=h' }) :
  wpAny (model prog w) A.in1 (Rf (.ref (n+6)) (.ref (n+5)) res)
   (λfin g=>match fin with | .done f=>R (.ok f) g | .again a=>a.quiet=true/\codeAny (model prog w) A a R g) (λe g=>R (.error e) g) s:=by
 have l:s.TypeIs (.ref (n+5)) "zip":=⟨_,q,rfl⟩
 show ag (zj (T:="zip") l ?_);have J:IF (.ref (n+6)) (.ref (n+5))=false:=by simp[IF]
 have I:(mY "zip"==mY "list")=false:=by rfl
 have h3:(mY "zip"==mY "tuple")=false:=by assumption
 simp only[J,I,h3,Pa,dW,cM];show ag (HY q ?_);show ag (fQ ?_);show ag (u9 (T:="zip") l zlC ?_);show ag (u9 (T:="zip") l zjc ?_);show az ?_;show ag (tj ?_);show ag ?_;show ag (qU u rfl ?_);have p:=mT (gZ (·.push j9)) u rfl;show qU p rfl ?_;have m:=mT (gZ (·.pop)) p rfl;have r:∀(b:Nat) o,b≠n+6->s.heap.get? b=some o->((s.heap.update (n+6) (gZ (·.push j9))).update (n+6) (gZ (·.pop))).get? b=some o:=
  λb o t e=>(lM _ _ (dn (Ne.symm t))).trans ((lM _ _ (dn (Ne.symm t))).trans e)
 show az ⟨mZ Io _,ZU E z y x D C hz res xs.size 0 _ _ _ rfl (cG _) (st.at z y x r) ?_ m ⟨rfl,λj v h=>?_,λi j T h=>?_⟩ λh' k a kk B G=>H h' k a (λc o F e=>kk c o F (r c o (by lia) e)) B G⟩
 .rw[ve,ve];show hsz
 .trivial
 trivial
theorem zlE(y:A.handled=none)(m:l1<n)(l:l2<n)(k:l3<n)(v:xs.size<=sizeLine)(u:ys.size=xs.size)(hz:zs.size=xs.size)(q:Zp s.heap n .none (.bool false))(st:Z3 n l1 l2 l3 xs ys zs 0 s.heap)(hsz:n+6<s.heap.objs.size)
  (j:s.heap.get? (n+6)=some { cls:=.type "list",data:=.seq #[] })
  (z:∀h' g a,(∀(c:Nat) o,c<n\/n+6<c->s.heap.get? c=some o->h'.get? c=some o)->h'.get? (n+6)=some { cls:=.type "list",dict:=none,data:=.seq g a,slots:=#[] }->sZ n xs ys zs g xs.size h'->R (.ok (.ret .none)) { s with heap:=h' }) :
  wpAny (model prog w) A.in1 (Builtin.«list.__init__» ⟨[.ref (n+6),.ref (n+5)],[]⟩)
   (λfin d=>match fin with | .done f=>R (.ok f) d | .again a=>a.quiet=true/\codeAny (model prog w) A a R d) (λe d=>R (.error e) d) s:=by
 show ag ?_;show ag (m7 j rfl (az ?_));show ag (qU j rfl ?_);have p:=mT (gZ (λ_=>(#[]:Array aa))) j rfl;have h:∀(b:Nat) o,b≠n+6->s.heap.get? b=some o->(s.heap.update (n+6) (gZ (λ_=>(#[]:Array aa)))).get? b=some o:=λb o i e=>(lM _ _ (dn (Ne.symm i))).trans e
 show ag (qR ?_);show zrW y m l k v u hz .none _ (h _ _ (by simp_all) q) (st.at m l k h) ?_ p λh' g a x t r=>z h' g a (λb o i e=>x b o i (h b o (by lia) e)) t r
 rw[ve];show hsz
theorem zlF(m:A.handled=none)(h:l1<n)(g:l2<n)(f:l3<n)(l:xs.size<=sizeLine)(k:ys.size=xs.size)(hz:zs.size=xs.size)(i:Zp s.heap n .none (.bool false))(st:Z3 n l1 l2 l3 xs ys zs 0 s.heap)(hsz:s.heap.objs.size=n+6)
  (r:∀h' acc c,(∀b o,b<n->s.heap.get? b=some o->h'.get? b=some o)->h'.get? (n+6)=some { cls:=.type "list",dict:=none,data:=.seq acc c,slots:=#[] }->sZ n xs ys zs acc xs.size h'->Q (.ref (n+6)) { s with heap:=h' }) :
  wpAny (model prog w) A (call (.type "list") [.ref (n+5)]) Q E s:=by
 show HG (Q₁:=λobj d=>obj=.ref (n+6)/\d={ s with heap:=s.heap.push { cls:=.type "list",data:=.seq #[] } }) O9 (PY _) PV
  (O8 _ ⟨by rw[hsz],rfl⟩) λobj d t=>?_
 obtain⟨rfl,rfl⟩:=t;have a:(s.heap.push { cls:=.type "list",data:=.seq #[] }).get? (n+6)=some { cls:=.type "list",data:=.seq #[] }:=by rw[<-hsz];show c8 _ rfl
 show⟨⟨_,a,rfl⟩,P9 _ _,zlE (A:=A.in1) m h g f l k hz (bZ _ i) (st.at h g f λc o _ e=>bZ _ e) (by rw[jm,hsz];simp_all) a λh' acc c kk j q=>?_⟩;show⟨rfl,r h' acc c (λb o p e=>kk b o (.inl p) (bZ _ e)) j q⟩
theorem zgg(a b c):checkTypeCall "zip" ⟨[a,b,c],[]⟩=pure ():=by kernel_rfl
theorem zhr(a b c):checkBuiltinCall "zip.__new__" ⟨[.type "zip",a,b,c],[]⟩=pure ():=by kernel_rfl
open PySem.F in
theorem zjd(a b c d:aa):argsOk "object.__init__" ⟨[a,b,c,d],[]⟩:=by
 kernel_rfl
noncomputable abbrev gn(h:ay)(a:ab):ay:=h.push { cls:=.type "list_iterator",data:=.fields #[.ref a,.int 0 0] }
noncomputable abbrev Fy(h:ay)(a b c:ab):ay:=(gn (gn (gn h a) b) c).push { cls:=.type "tuple",data:=.seq #[.ref h.objs.size,.ref (gn h a).objs.size,.ref (gn (gn h a) b).objs.size] }
noncomputable abbrev Fx(h:ay)(a b c:ab):ay:=(Fy h a b c).push { cls:=.type "tuple",data:=.seq #[.none,.none,.none] }
noncomputable abbrev rS(h:ay)(a b c:ab):ay:=(Fx h a b c).push { cls:=.type "zip",data:=.fields #[.none,.bool false,.bool false,.ref (gn (gn (gn h a) b) c).objs.size,.ref (Fy h a b c).objs.size] }
theorem zlG(a b c xs ys zs) :
  Meets (Builtin.«zip.__new__» ⟨[.type "zip",.ref a,.ref b,.ref c],[]⟩) (λ_ R s=>s.heap.IsList a xs/\s.heap.IsList b ys/\s.heap.IsList c zs/\
   R (.ok (.ret (.ref (Fx s.heap a b c).objs.size))) { s with heap:=rS s.heap a b c }):=
 .of_wp λprog w A R s h=>by
  obtain⟨e,g,d,tk,os⟩:=s;obtain⟨m,l,k,h⟩:=h;have n:=sub_zip;have j:Ho (Hn ⟨e,g,d,tk,os⟩) a xs:=m;have i:Ho (Hn ⟨gn e a,g,d,tk,os⟩) b ys:=PF l _;have f:Ho (Hn ⟨gn (gn e a) b,g,d,tk,os⟩) c zs:=(PF k _).push _;wp_walk using tG j,tG i,tG f
  show⟨_,rfl,h⟩
theorem znC(n:s.heap.IsList a xs)(m:s.heap.IsList b ys)(l:s.heap.IsList c zs)
  (h:∀h',Zp h' s.heap.objs.size .none (.bool false)->Z3 s.heap.objs.size a b c xs ys zs 0 h'->h'.objs.size=s.heap.objs.size+6->(∀c o,s.heap.get? c=some o->h'.get? c=some o)->Q (.ref (s.heap.objs.size+5)) { s with heap:=h' }) :
  wpAny (model prog w) A (call (.type "zip") [.ref a,.ref b,.ref c]) Q E s:=by
 show callType_new F.called_zip (by rfl) (zgg _ _ _) (zhr _ _ _) (λobj=>zjd obj _ _ _) F.entry_zip_new (zlG a b c xs ys zs) ⟨n,m,l,?_⟩;have k:(gn s.heap a).objs.size=s.heap.objs.size+1:=jm ..;have j:(gn (gn s.heap a) b).objs.size=s.heap.objs.size+2:=by rw[jm,k]
 have i:(gn (gn (gn s.heap a) b) c).objs.size=s.heap.objs.size+3:=by rw[jm,j]
 have g:(Fy s.heap a b c).objs.size=s.heap.objs.size+4:=by rw[jm,i]
 have f:(Fx s.heap a b c).objs.size=s.heap.objs.size+5:=by rw[jm,g]
 have t:(rS s.heap a b c).objs.size=s.heap.objs.size+6:=by rw[jm,f]
 have u:∀{h:ay}{x:ab}{o o':aT},h.get? x=some o->(h.push o').get? x=some o:=λe=>bZ _ e
 have d:(rS s.heap a b c).get? (Fx s.heap a b c).objs.size=some _:=c8 _ rfl;have p:(rS s.heap a b c).get? (Fy s.heap a b c).objs.size=some _:=u (c8 _ rfl);have q:(rS s.heap a b c).get? (gn (gn (gn s.heap a) b) c).objs.size=some _:=u (u (c8 _ rfl));have g3:(rS s.heap a b c).get? (gn (gn s.heap a) b).objs.size=some _:=u (u (u (c8 _ rfl)));have g2:(rS s.heap a b c).get? (gn s.heap a).objs.size=some _:=u (u (u (u (c8 _ rfl))));have g1:(rS s.heap a b c).get? s.heap.objs.size=some _:=u (u (u (u (u (c8 _ rfl)))));have kk:∀r o,s.heap.get? r=some o->(rS s.heap a b c).get? r=some o:=λc o e=>u (u (u (u (u (u e)))))
 rw[i,g,f] at d;rw[k,j,i] at q;rw[g] at p;rw[j] at g3;rw[k] at g2;rw[f];show⟨⟨_,d,rfl⟩,h _ d ⟨⟨_,_,d,.inl rfl⟩,q,⟨_,_,_,p⟩,⟨_,g1,rfl,rfl⟩,⟨_,g2,rfl,rfl⟩,⟨_,g3,rfl,rfl⟩,n.at λo e=>kk _ o e,m.at λo e=>kk _ o e,l.at λo e=>kk _ o e⟩ t kk⟩
end
noncomputable def tS:Hp->List ab->List V->List V->List V->Hp
 | H,T::Ts,x::xs,y::ys,z::zs=>tS (upd H T (.tup [x,y,z])) Ts xs ys zs
 | H,_,_,_,_=>H
theorem ztP(r:Vals [v,w,u] d):∃a b c,d=[a,b,c]/\RelV v a/\RelV w b/\RelV u c:=by
 cases r with
 | cons g t=>cases t with
  | cons f t=>cases t with
   | cons e t=>cases t;show⟨_,_,_,rfl,g,f,e⟩
noncomputable def Ab:List D->List D->List D->List D
 | a::as,b::bs,c::cs=>.tup [a,b,c]::Ab as bs cs
 | _,_,_=>[]
section
variable{σ:St}
theorem RY(g:Inv X J' σ H0 s0):∀{Ts xs ys zs H},Inv X J' σ H s->Ts.Nodup->(∀T∈Ts,H T=none/\s0.heap.get? T=none)->
  (∀(i:Nat)(T:ab) x y z,Ts[i]?=some T->xs[i]?=some x->ys[i]?=some y->zs[i]?=some z->∃a b c,jZ s.heap T a b c/\Vals [x,y,z] [a,b,c])->Inv X J' σ (tS H Ts xs ys zs) s
 | [],_,_,_,H,I,_,_,_=>by show I
 | T::Ts,[],_,_,H,I,_,_,_=>I
 | T::Ts,_::_,[],_,H,I,_,_,_=>I
 | T::Ts,_::_,_::_,[],H,I,_,_,_=>I
 | T::Ts,x::xs,y::ys,z::zs,H,I,nd,h0,f=>by
  rw[gu] at nd;obtain⟨a,b,c,q,v⟩:=f 0 T x y z rfl rfl rfl rfl;show Inv X J' σ (tS (upd H T (.tup [x,y,z])) Ts xs ys zs) s;show RY g (I.tell g (h0 T cT).1 (h0 T cT).2 ⟨by show 3<=sizeLine;decide,[a,b,c],v,⟨_,q,rfl,_,rfl⟩⟩) nd.2 (λd h=>⟨?_,(h0 d (cK _ h)).2⟩) λi d l k j o n h3 m=>f (i+1) d l k j o n h3 m
  rw[bA (λe:d=T=>nd.1 (by rw[<-e];show h))];show(h0 d (cK _ h)).1
theorem KW:∀{Ts xs ys zs H p},p∉Ts->H p=none->tS H Ts xs ys zs p=none
 | [],_,_,_,H,p,_,h=>by show h
 | T::Ts,[],_,_,H,p,_,h=>h
 | T::Ts,_::_,[],_,H,p,_,h=>h
 | T::Ts,_::_,_::_,[],H,p,_,h=>h
 | T::Ts,x::xs,y::ys,z::zs,H,p,a,h=>KW (H:=upd H T (.tup [x,y,z])) (λz=>a (cK _ z)) (by rw[bA (λe:p=T=>a (by rw[e];show cT))];show h)
theorem RX{K:aj}:∀{Ts xs ys zs as bs cs G H},aZ G H->ao K G xs as->ao K G ys bs->ao K G zs cs->ys.length=xs.length->zs.length=xs.length->Ts.length=xs.length->Ts.Nodup->(∀T∈Ts,H T=none)->
  Ext G H (tS G Ts xs ys zs) (tS H Ts xs ys zs)/\ao K (tS G Ts xs ys zs) (Ts.map V.ref) (Ab as bs cs)
 | [],[],[],[],as,bs,cs,G,H,s,f,rb,rc,_,_,_,_,_=>by
  cases as with
  | cons a r=>simp only[ao] at f
  | nil=>show⟨.refl s,by trivial⟩
 | T::Ts,x::xs,y::ys,z::zs,as,bs,cs,G,H,s,f,rb,rc,k,j,i,nd,m=>by
  cases as with
  | nil=>simp only[ao] at f
  | cons a as=>
  cases bs with
  | nil=>simp only[ao] at rb
  | cons b bs=>
  cases cs with
  | nil=>simp only[ao] at rc
  | cons c cs=>
  rw[gu] at nd;have d:Ext G H (upd G T (.tup [x,y,z])) (upd H T (.tup [x,y,z])):=.new s (m T cT);obtain⟨l,o⟩:=RX (K:=K) (Ts:=Ts) (xs:=xs) (ys:=ys) (zs:=zs) (as:=as) (bs:=bs) (cs:=cs) d.s (f.2.mono d.g) (rb.2.mono d.g) (rc.2.mono d.g) (by simpa using k) (by simpa using j) (by simpa using i) nd.2 λn h=>by
   rw[bA (λe:n=T=>nd.1 (by rw[<-e];show h))];show m n (cK _ h)
  show⟨d.trans l,?_⟩;show⟨?_,o⟩;have:Rep K (upd G T (.tup [x,y,z])) (.ref T) (.tup [a,b,c]):=by
   show⟨T,_,rfl,dQ,by show⟨f.1.mono d.g,rb.1.mono d.g,rc.1.mono d.g,trivial⟩⟩
  show this.mono l.g
 | [],_::_,_,_,_,_,_,_,_,_,_,_,_,_,_,i,_,_=>by trivial
 | _::_,[],_,_,_,_,_,_,_,_,_,_,_,_,_,i,_,_=>by trivial
 | [],[],_::_,_,_,_,_,_,_,_,_,_,_,k,_,_,_,_=>by trivial
 | [],[],[],_::_,_,_,_,_,_,_,_,_,_,_,j,_,_,_=>by trivial
 | _::_,_::_,[],_,_,_,_,_,_,_,_,_,_,k,_,_,_,_=>by trivial
 | _::_,_::_,_::_,[],_,_,_,_,_,_,_,_,_,_,j,_,_,_=>by trivial
end
section
variable{p p2 pos ic:aI}{a b c:av}
def ztS(K:aj)(b:TA):TE:=λσ H Q=>b σ H λa H1=>∃p q r xs ys zs,a=[.ref p,.ref q,.ref r]/\bP K H1 p xs/\bP K H1 q ys/\bP K H1 r zs/\ys.length=xs.length/\zs.length=xs.length/\
 ∀Ts l,Ts.length=xs.length->Ts.Nodup->(∀T∈Ts,H1 T=none)->l∉Ts->H1 l=none->Q (.ref l) (upd (tS H1 Ts xs ys zs) l (.lst (Ts.map V.ref)))
theorem zrX(d:sZ n xs ys zs acc k h):∃Ts:List ab,acc.toList=Ts.map fi:=by
 have:∀l:List aa,(∀v∈l,∃T,v=fi T)->∃Ts:List ab,l=Ts.map fi:=λl=>by
  induction l with
  | nil=>show λ_=>⟨[],rfl⟩
  | cons v r a=>
   intro hv;obtain⟨T,rfl⟩:=hv v cT;obtain⟨Ts,rfl⟩:=a λu b=>hv u (cK _ b)
   show⟨T::Ts,rfl⟩
 show this _ λv hv=>?_
 obtain⟨i,c⟩:=gL hv;obtain⟨T,_,_,_,e,_⟩:=d.at_ i v (by simpa using c);show⟨T,e⟩
theorem VM:∀Ts:List ab,Vals (Ts.map V.ref) (Ts.map fi)
 | []=>.nil
 | T::Ts=>.cons rfl (VM Ts)
theorem zpQ(hc:X.calm=true)(v:X.mg "list"=none)(mD:X.mg "zip"=none)(g:PA X [a,b,c] G)(hg:Gl X "list")(lH:Gl X "zip")(di:starEach [a,b,c] X.env=(false,eval a X.env)::starEach [b,c] X.env)(eV:(backTo ic (starEach [b,c] X.env)).any (·.1)=false)
  (S:starEach [CK (.Name "zip" p2) [a,b,c] [] ic] X.env=(false,eval (.Call (.Name "zip" p2) [a,b,c] [] ic) X.env)::starEach [] X.env):PE X (.Call (.Name "list" p) [.Call (.Name "zip" p2) [a,b,c] [] ic] [] pos) (ztS X.K G):=by
 intro M s σ H Q I h;show vm (l7 I hg v CJ (n6 ?_ S rfl));show vn (vm (l7 I lH mD boot_zip (n6 (aR (g ic M s σ H _ I h) λus s1 B=>?_) di eV)));obtain⟨vs,H1,f,Z,n⟩:=B;obtain⟨x,y,z,xs,ys,zs,rfl,hx,hy,hz,l1,l2,kq⟩:=n;obtain⟨u1,u2,u3,rfl,Y,W,U⟩:=ztP Z;cases Y;cases W;cases U;obtain⟨u,v1,L,z1⟩:=f.list hx;obtain⟨t,v2,p2,z2⟩:=f.list hy;obtain⟨r,F,J,z3⟩:=f.list hz;have e1:=v1.length;have e2:=v2.length;have e3:=F.length;have lt:∀{l:ab}{is:Array aa},s1.heap.IsList l is->l<s1.heap.objs.size:=λB=>by obtain⟨o,ho,_⟩:=B;show bX ho
 show znC L.isList p2.isList J.isList λh' R st hsz kk=>?_
 show zC ?_;show zlF (I.ok.hd hc) (lt L.isList) (lt p2.isList) (lt J.isList) (by simp;simp_all) (by simp;simp_all) (by simp;simp_all) R st hsz λk acc c k2 hS g=>?_
 obtain⟨Ts,Nk⟩:=zrX g;have oU:acc=(Ts.map fi).toArray:=by rw[<-Nk]
 subst oU;have k3:∀b o,s1.heap.get? b=some o->k.get? b=some o:=λb o e=>k2 b o (bX e) (kk b o e)
 have new:∀{T:ab},s1.heap.objs.size<=T->H1 T=none/\s1.heap.get? T=none:=λ{T} h=>⟨f.aW.fresh h,by
  cases q:s1.heap.get? T with
  | none=>rfl
  | some o=>show absurd (iN (bX q) h) (iM _)⟩
 have m:Ts.length=xs.length:=by
  have:=g.size;simp only[cS,ax] at this;simp_all
 have at_:∀(i:Nat) T,Ts[i]?=some T->∃(x y z:aa),s1.heap.objs.size+6<T/\u[i]?=some x/\t[i]?=some y/\r[i]?=some z/\jZ k T x y z:=λi T d=>by
  obtain⟨T',x,y,z,e,l,a1,a2,a3,q⟩:=g.at_ i (.ref T) (by simp[d]);cases e;show⟨x,y,z,l,by simpa using a1,by simpa using a2,by simpa using a3,q⟩
 have big:∀T∈Ts,s1.heap.objs.size+6<T:=λT d=>by
  obtain⟨i,A⟩:=gL d;obtain⟨_,_,_,l,_⟩:=at_ i T A;show l
 have nd:Ts.Nodup:=by
  rw[j7,xi];intro i j A hj dB e;have:=g.inj i j Ts[i] (by simp[A]) (by simp[hj,<-e]);simp_all
 have I2:Inv X M σ H1 { s1 with heap:=k }:=f.kept (t':=s1.toks) k3;have I3:=RY (xs:=xs) (ys:=ys) (zs:=zs) f I2 nd (λT d=>new (bU (qV _ 6) (cP (big T d)))) λi T x y z d n q2 q3=>by
  obtain⟨x',y',z',_,a1,a2,a3,q⟩:=at_ i T d;obtain⟨y1,E,P⟩:=v1.get n;obtain⟨y2,D,O⟩:=v2.get q2;obtain⟨y3,C,N⟩:=F.get q3;rw[a1] at E;rw[a2] at D;rw[a3] at C;cases E;cases D;cases C;show⟨_,_,_,q,.cons P (.cons O (.cons N .nil))⟩
 have ln:s1.heap.objs.size+6∉Ts:=λv=>absurd (big _ v) (iM _)
 have nl:=new (qV s1.heap.objs.size 6);show⟨.ref _,_,I3.tell f (KW ln nl.1) nl.2 (show fP X.prog X.w _ k _ (.lst (Ts.map V.ref)) from⟨by simp;simp_all,Ts.map fi,c,VM Ts,hS⟩),rfl,kq Ts _ m nd (λT d=>(new (bU (qV _ 6) (cP (big T d)))).1) ln nl.1⟩
def JS(a:fh):TD:=λρ Q=>a ρ λds=>match ds with
 | [.lst as,.lst bs,.lst cs]=>bs.length=as.length/\cs.length=as.length/\Q (.ow (Ab as bs cs))
 | _=>False
theorem zpR(K:X.calm=true)(F:X.mg "list"=none)(A:X.mg "zip"=none)(L:jk X [a,b,c] g)(J:Gl X "list":=by rfl)(B:Gl X "zip":=by rfl)(R:starEach [a,b,c] X.env=(false,eval a X.env)::starEach [b,c] X.env:=by rfl)(O:(backTo ic (starEach [b,c] X.env)).any (·.1)=false:=by rfl)
  (m:starEach [CK (.Name "zip" p2) [a,b,c] [] ic] X.env=(false,eval (.Call (.Name "zip" p2) [a,b,c] [] ic) X.env)::starEach [] X.env:=by rfl):PD X (.Call (.Name "list" p) [.Call (.Name "zip" p2) [a,b,c] [] ic] [] pos) (JS g):=by
 obtain⟨t,pp,q⟩:=L;show⟨_,zpQ K F A pp J B R O m,λρ σ V T G H Q P E h k=>q ρ σ V T G H _ _ E h λW H' ds G' x rs f=>?_⟩;split at f
 .obtain⟨u1,Z,Y,rfl,u,e,o⟩:=R3 rs;obtain⟨z,xs,rfl,N,i⟩:=u;obtain⟨p2,ys,rfl,M,rb⟩:=e;obtain⟨y,zs,rfl,h3,rc⟩:=o;have g1:=i.length;have g2:=rb.length;have g3:=rc.length;show⟨z,p2,y,xs,ys,zs,rfl,(x.s.cH N).sq,(x.s.cH M).sq,(x.s.cH h3).sq,by simp_all,by simp_all,λTs l tl nd D I C=>?_⟩;obtain⟨d,e⟩:=RX x.s i rb rc (by simp_all) (by simp_all) tl nd D;show Ay d.s e f.2.2 (λv S r U j n w=>k v S r U ((x.trans d).trans j) (n.qj (x.h.trans d.h)) w) l (KW I C)
 show f.elim
end
end L2
section
namespace Wc
open PySem PySem.Spec PyProof.Rows L2
theorem nt{x:ae}:[x].Nodup:=mU _ _
def top(i:Nat):cQ:=PySem.Challenge.pw_wirechannel_k72_piles_traced.main.body.getD i (.Pass ⟨0,0,0,0⟩)
structure Txt(K:aj)(mg:ae->Option aa):Prop where
 b_all:mg "all"=none
 b_bool:mg "bool"=none
 b_dict:mg "dict"=none
 b_enumerate:mg "enumerate"=none
 b_int:mg "int"=none
 b_isinstance:mg "isinstance"=none
 b_len:mg "len"=none
 b_list:mg "list"=none
 b_max:mg "max"=none
 b_min:mg "min"=none
 b_range:mg "range"=none
 b_reversed:mg "reversed"=none
 b_set:mg "set"=none
 b_sorted:mg "sorted"=none
 b_sum:mg "sum"=none
 b_tuple:mg "tuple"=none
 b_zip:mg "zip"=none
 qM:∃t,mg "BORDER"=some (.str "=" t)
 o6:∃t,mg "CROSSINGS"=some (.str "+#" t)
 uO:∃t,mg "JOINT"=some (.str "|" t)
 nT:∃t,mg "STRETCH"=some (.str "-" t)
 nR:∃t,mg "UPRIGHT"=some (.str "|" t)
theorem AJ(i)(h:jj X a t):jj X a (vx i t):=Ax i h
noncomputable def aE(l:List Nat):ae:=⟨l.toArray⟩
theorem As(l):(aE l).cps.toList=l:=by simp[aE]
theorem t6(l):(aE l).length=l.length:=by rfl
theorem zrY(a b):aE a++aE b=aE (a++b):=by
 show(⟨(aE a).cps++(aE b).cps⟩:ae)=_;simp[aE]
theorem Ar:aE a=aE b↔a=b:=by
 constructor
 .intro h;have:(aE a).cps.toList=(aE b).cps.toList:=by rw[h]
  simpa[aE] using this
 rintro rfl;rfl
theorem Em(w):aE w.cps.toList=w:=by cases w;simp[aE]
theorem BK(c):(⟨#[c]⟩:ae)=aE [c]:=rfl
theorem pZ(f:α->β)(l i):bF (l.map f) i=(bF l i).map f:=by
 unfold bF;rw[ax];cases jy l.length i with
 | none=>rfl
 | some j=>simp
theorem ztT{α β:Type}{f:α->β}{o:Option α}{p:β->Prop}:(∃d,o.map f=some d/\p d)↔∃x,o=some x/\p (f x):=by
 cases o with
 | none=>simp
 | some x=>simp
theorem ztU{l:List α}{p:β->Prop}:(∃d,bF (l.map f) i=some d/\p d)↔∃x,bF l i=some x/\p (f x):=by rw[pZ];show ztT
theorem AF{l:List α}{i:Int}(b:0<=i)(a:i<l.length):∃h:i.toNat<l.length,bF l i=some (l[i.toNat]'h):=by
 show⟨by simp_all,?_⟩;unfold bF jy;rw[if_pos b,if_pos a];show aX _
theorem oE{l:List α}(h:j<l.length):bF l (j:Int)=some l[j]:=by
 obtain⟨h',e⟩:=AF (l:=l) (i:=(j:Int)) (by walk_at"sb") (by simp_all);simpa using e
theorem EJ(h:0<=j):HT.bN n d (some j)=min j.toNat n:=by show(if j<0 then _ else _)=_;rw[if_neg (by simp_all)]
theorem TV(l:List α)(h:0<=j):fK l none (some j)=l.take j.toNat:=by
 unfold fK;rw[EJ h];show((l.drop 0).take (min j.toNat l.length-0))=_;simp_all
theorem ztV(l:List α)(h:0<=j):fK l (some j) none=l.drop j.toNat:=by
 unfold fK;rw[EJ h];show((l.drop (min j.toNat l.length)).take (l.length-_))=_;by_cases a:l.length<=j.toNat
 .simp_all
 rw[pC (by lia),rg (by simp)]
theorem UM(l:List α)(c:0<=i)(h:0<=j):fK l (some i) (some j)=(l.drop i.toNat).take (j.toNat-i.toNat):=by
 unfold fK;rw[EJ h,EJ c];by_cases d:l.length<=i.toNat
 .simp_all
 rw[pC (a:=i.toNat) (by lia)];by_cases b:l.length<=j.toNat
 .rw[Nat.min_eq_right b,rg (by simp),rg (by simp;lia)]
 rw[pC (by lia)]
theorem zpS(l)(a:0<=i)(h:0<=j):tP (aE l) (some i) (some j)=aE ((l.drop i.toNat).take (j.toNat-i.toNat)):=by unfold tP;rw[As,UM _ a h];rfl
theorem zpT(f:α->β)(l lo a):fK (l.map f) lo a=(fK l lo a).map f:=by unfold fK;rw[ax,List.map_take,List.map_drop]
theorem Kh(n i):cF n (.int i)=True:=by cases n<;>show eq_true trivial
theorem Kg(n i):cF n (.str i)=True:=by cases n<;>show eq_true trivial
theorem ztW(n i):cF n (.bl i)=True:=by cases n<;>show eq_true trivial
theorem zrZ(n):cF n .non=True:=by cases n<;>show eq_true trivial
theorem xJ(a b):b9 (.str a) (.str b)=decide (a=b):=by rfl
theorem zr0(a b):b9 (.int a) (.int b)=decide (a=b):=by rfl
theorem dP:sizeLine=16777216:=by rfl
def lW(u:TX)(D:DE):Ev->Prop:=u D
theorem ztX(t u D ρ):gM t u D ρ=t { nx:=lW u D,rt:=D.rt,bk:=D.bk,ct:=D.ct } ρ:=rfl
end Wc
open PySem PyProof.Rows L2 Wc
local macro_rules | `(tactic| walk_at"b")=>`(tactic| first | dsimp only[$[$(qn "ztX nz zY xu GR gN JV dC ztr xF zuZ zu0 kL aM cq aV wM kX zu List.set gt vz jw oI bR lZ DU nj rC rJ pP gx iB zW fm kh fk pN tR rD oEq Ms gR yD yc xA ki Jg Jh xr YL D3 RH dM lY Jt DT vx ig Ji Ed tQ vE EA RV Jr xq Jp zu1 vF CG Int.reduceAdd Int.reduceSub Int.reduceMul Int.reduceNeg Int.reducePow Int.reduceToNat cC om Nat.reduceAdd RS JA"):ident],*] | simp only[$[$(qn "zts ztt p24 p30 Int.reduceLT Int.reduceLE iR gc true_and and_true and_self or_true true_or Kh Kg ztW zrZ ztU dW cM cO zo HK gJ zr0 xJ zpT Wq Fm"):ident],*])
local macro_rules | `(tactic| walk_at"all")=>`(tactic| ((try walk_at"px");repeat(dsimp only[lW];try walk_at"px")))
local macro_rules | `(tactic| walk_at"px")=>`(tactic| (repeat(first | walk_at"b" | dsimp only[$[$(qn "S6 DZ Jo zV"):ident],*] | simp only[t6])))
local macro_rules | `(tactic| walk_at"go")=>`(tactic| (dsimp only[lW];walk_at"px"))
local macro_rules | `(tactic| walk_at"nm")=>`(tactic| show⟨rfl,by first | show Or.inl rfl | show Or.inr (Or.inl rfl) | show Or.inr (Or.inr rfl),by decide,by decide⟩)
namespace Wc
open PySem PyProof.Rows L2
noncomputable def pM(c k:Int):Int:=(c%1000000000000000000000000000000*(k*k+48271)+7919*k*k*k+11)%2147483647/7
theorem SX(c k):0<=pM c k:=Int.ediv_nonneg (C5 _ (by decide)) (by simp_all)
def qf:cg:=λds Q=>∃c k:Int,ds=[.int c,.int k]/\0<=k/\k<=1000000/\Q (.fz (.int (pM c k)))
noncomputable def Ou:(T:TX) ×' ∀{P w K mg base},Txt K mg->eF P w K mg base 0 "_law_mix" ["_law_cell","_law_k"] (top 32) T:=
 ⟨_,λT nd f c A outer s H E a=>have b:=a.units;
 (aU (eB (aP vL (aP gz (aP cN (aP cN (aP nr (aP gz (af 0) (aP zuR aw aw)) (aP cN (aP nr (af 1) (af 1)) aw)) (aP nr (aP nr (aP nr aw (af 1)) (af 1)) (af 1))) aw) aw) aw)))⟩
def Lm:TX:=Ou.1
abbrev dX(n:Nat)(b:cg)(T:TX)(N:List ae):Prop:=∀ds a,ds.length=n->b ds a->T { nx:=λ_=>a (.fz .non),rt:=a } (tW N ds)
theorem zht:dX 2 qf Lm ["_law_cell","_law_k"]:=by
 intro ds f hl h;obtain⟨c,k,rfl,h0,b,q⟩:=h;show Lm _ [.fz (.int c),.fz (.int k)];unfold Lm Ou;dsimp only;walk_at"all";have e:k*k<=1000000*1000000:=Int.mul_le_mul b b h0 (by simp_all);have d:0<=k*k:=Int.mul_nonneg h0 h0;show⟨.inl ⟨by lia,by walk_at"sb"⟩,.inr ⟨by lia,by lia⟩,.inr ⟨by lia,by walk_at"sb"⟩,.inr ⟨by lia,by walk_at"sb"⟩,?_⟩;show q
noncomputable def dI(l:List Int):D:=.lst (l.map .int)
noncomputable def dKp(p:Int×Int×Int):D:=.tup [.int p.1,.int p.2.1,.int p.2.2]
noncomputable def dK(l:List (Int×Int×Int)):D:=.lst (l.map dKp)
theorem KU{α:Type}{D:DE}(L:List α)(b)(hw:∀h:List L2.D->Prop,h (iC (L.map b))->e ρ h)(a:Nat->Ev->Prop)(j:a 0 ρ)
  (turn:∀i x ρ',L[i]?=some x->a i ρ'->g (.tup [.int i,b x]) ρ' λk=>f { D with nx:=a (i+1),ct:=a (i+1),bk:=D.nx } k) (fin:∀ρ',a L.length ρ'->D.nx ρ'):oA e g f D ρ:=by
 show Vs (iC (L.map b)) hw a j (λi d ρ' hd iv=>?_) (λρ' iv=>fin ρ' (by simpa[iC] using iv));unfold iC at hd;rw[zI,bE] at hd;cases c:L[i]? with
 | none=>rw[c] at hd;cases hd
 | some x=>rw[c] at hd;cases hd;show turn i x ρ' c iv
def D5(g:eh)(b:TX)(D:DE)(ρ:Ev)(ds:List L2.D):Prop:=∃a:Nat->Ev->Prop,a 0 ρ/\
 (∀i d ρ',ds[i]?=some d->a i ρ'->g d ρ' λc=>b { D with nx:=a (i+1),ct:=a (i+1),bk:=D.nx } c)/\∀ρ',a ds.length ρ'->D.nx ρ'
theorem zpV{D:DE}(P:List L2.D->Prop)(hw:∀c:List L2.D->Prop,(∀ds,P ds->c ds)->a ρ c)(h:∀ds,P ds->D5 g b D ρ ds):oA a g b D ρ:=hw _ h
theorem zlI{α:Type}{D:DE}(L:List α)(c)(a:Nat->Ev->Prop)(f:a 0 ρ)
  (turn:∀i x ρ',L[i]?=some x->a i ρ'->g (c x) ρ' λh=>e { D with nx:=a (i+1),ct:=a (i+1),bk:=D.nx } h) (fin:∀ρ',a L.length ρ'->D.nx ρ'):D5 g e D ρ (L.map c):=by
 show⟨a,f,λi d ρ' hd iv=>?_,λρ' iv=>fin ρ' (by simpa using iv)⟩;rw[bE] at hd;cases b:L[i]? with
 | none=>rw[b] at hd;cases hd
 | some x=>rw[b] at hd;cases hd;show turn i x ρ' b iv
theorem zlJ{α:Type}{D:DE}(L:List α)(c)(a:Nat->Ev->Prop)(f:a 0 ρ)
  (turn:∀i x ρ',L[i]?=some x->a i ρ'->g (.tup [.int i,c x]) ρ' λh=>e { D with nx:=a (i+1),ct:=a (i+1),bk:=D.nx } h) (fin:∀ρ',a L.length ρ'->D.nx ρ'):D5 g e D ρ (iC (L.map c)):=by
 show⟨a,f,λi d ρ' hd iv=>?_,λρ' iv=>fin ρ' (by simpa[iC] using iv)⟩;unfold iC at hd;rw[zI,bE] at hd;cases b:L[i]? with
 | none=>rw[b] at hd;cases hd
 | some x=>rw[b] at hd;cases hd;show turn i x ρ' b iv
theorem TU{α:Type}(f)(l:List α)(h:∀x∈l,cF n (f x)):cF (n+1) (.lst (l.map f)):=by
 intro d hd;rw[aB] at hd;obtain⟨x,a,rfl⟩:=hd;show h x a
theorem JR(l):rq (ju (.tup l)) "tuple"=true:=by show rq "tuple" "tuple"=true;decide
theorem JQ(l):rq (ju (.lst l)) "list"=true:=by show rq "list" "list"=true;decide
theorem Ej(z):rq (ju (.int z)) "bool"=false:=by rfl
theorem UL{α:Type}(l:List α)(a):iC (l.map a)=l.zipIdx.map λp=>.tup [.int (p.2:Nat),a p.1]:=by
 unfold iC;apply Dk
 .simp
 intro i c b;simp
theorem zpW(a)(r:List α):bF (a::r) 0=some a:=by
 unfold bF jy;rw[if_pos (by decide),if_pos (by simp_all)];rfl
theorem JB(o):(R.ov o).sl=.ov o:=rfl
theorem JP(o):(R.ov o).val=o.val:=rfl
inductive Cn{α:Type}(E:List (α×α)):α->α->Prop
 | refl (a:α):Cn E a a
 | step {a b c:α}:Cn E a b->(b,c)∈E\/(c,b)∈E->Cn E a c
section
variable{α β:Type}{E:List (α×α)}
theorem Cn.one(h:(a,b)∈E):Cn E a b:=.step (.refl a) (.inl h)
theorem Cn.NH(h:(a,b)∈E):Cn E b a:=.step (.refl b) (.inr h)
theorem Cn.trans(h:Cn E a b)(k:Cn E b c):Cn E a c:=by
 induction k with
 | refl=>show h
 | step _ e d=>show .step d e
theorem Cn.symm(h:Cn E a b):Cn E b a:=by
 induction h with
 | refl=>show .refl _
 | step _ e c=>show(Cn.step (.refl _) e.symm).trans c
theorem Cn.to{f:α->β}(h:∀x y,(x,y)∈E->Cn F (f x) (f y))(k:Cn E a b):Cn F (f a) (f b):=by
 induction k with
 | refl=>show .refl _
 | step _ e c=>
  show c.trans ?_;rcases e with e | e
  .exact h _ _ e
  show(h _ _ e).symm
theorem Cn.mono{c:List (α×α)}(h:∀p∈E,p∈c)(k:Cn E a b):Cn c a b:=Cn.to (f:=id) (λx y e=>.one (h _ e)) k
theorem SW{lab:α->α}(d:∀x y,(x,y)∈E->lab x=lab y)(c:∀x,Cn E x (lab x)):lab a=lab b↔Cn E a b:=by
 constructor
 .intro h;show(c a).trans ?_;rw[h];show(c b).symm
 intro h;induction h with
 | refl=>rfl
 | step _ e f=>
  rw[f];rcases e with e | e
  .exact d _ _ e
  show(d _ _ e).symm
theorem ztY{f:α->β}{g:β->α}(i:∀x y,(x,y)∈E->Cn F (f x) (f y))(e:∀x y,(x,y)∈F->Cn E (g x) (g y))(d:Cn E a (g (f a)))(c:Cn E b (g (f b))):Cn E a b↔Cn F (f a) (f b):=
 ⟨λh=>h.to i,λh=>(d.trans (h.to e)).trans c.symm⟩
end
structure dS{κ α:Type}[DecidableEq κ](l:List (κ×α))(kvs:List (κ×List α)):Prop where
 nd:(kvs.map (·.1)).Nodup
 is:∀p∈kvs,p.2=(l.filter λq=>decide (q.1=p.1)).map (·.2)
 all:∀p∈l,∃g,(p.1,g)∈kvs
 ex:∀p∈kvs,∃q∈l,q.1=p.1
section
variable{κ uY α:Type}[DecidableEq κ][DecidableEq uY]{l:List (κ×α)}{kvs:List (κ×List α)}{m:List (uY×α)}{qr:List (uY×List α)}
theorem dS.nil:dS (κ:=κ) (α:=α) [] []:=⟨by show .nil,by simp,by simp,by simp⟩
theorem Ei{p q:κ×List α}(nd:(kvs.map (·.1)).Nodup)(c:p∈kvs)(b:q∈kvs)(e:p.1=q.1):p=q:=by
 induction kvs with
 | nil=>cases c
 | cons a r d=>
  rw[bD,gu] at nd;rcases bG.mp c with rfl | c
  .rcases bG.mp b with rfl | b
   .rfl
   show absurd (aB.mpr ⟨q,b,e.symm⟩) nd.1
  rcases bG.mp b with z | b
  .exact absurd (aB.mpr ⟨p,c,by rw[e,z]⟩) nd.1
  show d nd.2 c b
theorem dS.fresh(G:dS l kvs){k:κ}{e:α}(h:∀p∈kvs,p.1≠k):dS (l++[(k,e)]) (kvs++[(k,[e])]):=by
 have i:∀p∈l,p.1≠k:=λp a z=>by
  obtain⟨g,c⟩:=G.all p a;show h _ c z
 show⟨?_,λp a=>?_,λp a=>?_,λp a=>?_⟩
 .rw[bY,pG];show⟨G.nd,by show mU _ _,λx f y d z=>?_⟩;obtain⟨p,a,rfl⟩:=aB.mp f;simp at d;show h p a (z.trans d)
 .rw[P8,bY];rcases cj.mp a with a | a
  .rw[<-G.is p a];have:decide (k=p.1)=false:=iw λz=>h p a z.symm
   simp[HU,this]
  simp at a;subst a;have:(l.filter λq=>decide (q.1=k))=[]:=List.filter_eq_nil_iff.mpr λq b=>by simpa using i q b
  simp[this]
 .rcases cj.mp a with a | a
  .obtain⟨g,c⟩:=G.all p a;show⟨g,iy _ c⟩
  simp at a;subst a;show⟨[e],by show eK _ (.head _)⟩
 rcases cj.mp a with a | a
 .obtain⟨q,b,j⟩:=G.ex p a;show⟨q,iy _ b,j⟩
 simp at a;subst a;show⟨(k,e),by show eK _ (.head _),rfl⟩
theorem dS.more(G:dS l kvs){k:κ}{e:α}{n:Nat}{g:List α}(h:kvs[n]?=some (k,g)):dS (l++[(k,e)]) (kvs.set n (k,g++[e])):=by
 have j:n<kvs.length:=(cD.mp h).1;have f:(k,g)∈kvs:=cJ h;have keys:(kvs.set n (k,g++[e])).map (·.1)=kvs.map (·.1):=by
  rw[u6];apply pF;intro i;rw[zB];split
  .rename_i z;subst z;rw[if_pos (by simpa using j),bE,h];rfl
  rfl
 have other:∀p∈kvs.set n (k,g++[e]),p=(k,g++[e])\/(p∈kvs/\p.1≠k):=λp a=>by
  obtain⟨i,b⟩:=gL a;rw[zB] at b;split at b
  .rename_i z;subst z;simp[j] at b;show .inl b.symm
  rename_i z;show .inr ⟨cJ b,λr=>z ?_⟩;have c:(kvs.map (·.1))[i]?=some k:=by rw[bE,b];simp[r]
  have o:(kvs.map (·.1))[n]?=some k:=by rw[bE,h];rfl
  have t:n<(kvs.map (·.1)).length:=(cD.mp o).1;show(wW t G.nd).mp (by rw[c,o])
 show⟨by rw[keys];show G.nd,λp a=>?_,λp a=>?_,λp a=>?_⟩
 .rw[P8,bY];rcases other p a with rfl | ⟨a,m⟩
  .have:=G.is _ f;simp only at this;simp[<-this]
  rw[<-G.is p a];have:decide (k=p.1)=false:=iw λz=>m z.symm
  simp[HU,this]
 .have:p.1∈(kvs.set n (k,g++[e])).map (·.1):=by
   rw[keys];rcases cj.mp a with a | a
   .obtain⟨g,s⟩:=G.all p a;show aB.mpr ⟨_,s,rfl⟩
   simp at a;subst a;show aB.mpr ⟨_,f,rfl⟩
  obtain⟨q,d,c⟩:=aB.mp this;show⟨q.2,by rw[<-c];show d⟩
 rcases other p a with rfl | ⟨a,m⟩
 .exact⟨(k,e),by show eK _ (.head _),rfl⟩
 obtain⟨q,d,c⟩:=G.ex p a;show⟨q,iy _ d,c⟩
theorem TR(G:dS l kvs)(M:dS m qr)(f:(l.map (·.2)).Perm (m.map (·.2)))(nd:(l.map (·.2)).Nodup)
  (same:∀p∈l,∀q∈l,∀n∈m,∀a∈m,p.2=n.2->q.2=a.2->(p.1=q.1↔n.1=a.1)) {p:κ×List α} (o:p∈kvs):∃q∈qr,q.2.Perm p.2:=by
 obtain⟨x,j,ex⟩:=G.ex p o;obtain⟨y,i,s⟩:=aB.mp (f.subset (aB.mpr ⟨x,j,rfl⟩));obtain⟨g,r⟩:=M.all y i;show⟨_,r,?_⟩;have v:(m.map (·.2)).Nodup:=f.nodup_iff.mp nd;rw[G.is p o,M.is _ r];have u:((m.filter λq=>decide (q.1=y.1)).map (·.2)).Nodup:=v.sublist ((Im).map _);have t:((l.filter λq=>decide (q.1=p.1)).map (·.2)).Nodup:=nd.sublist ((Im).map _);show(IM u t).mpr λe=>?_
 constructor
 .intro h;obtain⟨a,b,rfl⟩:=aB.mp h;obtain⟨b,k⟩:=eY.mp b;obtain⟨q,c,d⟩:=aB.mp (f.symm.subset (aB.mpr ⟨a,b,rfl⟩));show aB.mpr ⟨q,eY.mpr ⟨c,?_⟩,d⟩;have:=(same q c x j a b y i d s.symm).mpr (by simpa using k);rw[ex] at this;show if_pos ‹_›
 intro h;obtain⟨q,c,rfl⟩:=aB.mp h;obtain⟨c,k⟩:=eY.mp c;obtain⟨a,b,d⟩:=aB.mp (f.subset (aB.mpr ⟨q,c,rfl⟩));show aB.mpr ⟨a,eY.mpr ⟨b,?_⟩,d⟩;have:=(same q c x j a b y i d.symm s.symm).mp (by rw[ex];simpa using k);show if_pos ‹_›
theorem ztZ(G:dS l kvs)(nd:(l.map (·.2)).Nodup){p q:κ×List α}(b:p∈kvs)(e:q∈kvs)(h:p.2.Perm q.2):p=q:=by
 obtain⟨x,d,ex⟩:=G.ex p b;have m:x.2∈p.2:=by rw[G.is p b];show aB.mpr ⟨x,eY.mpr ⟨d,by show if_pos ‹_›⟩,rfl⟩
 have g:=h.subset m;rw[G.is q e] at g;obtain⟨y,a,n⟩:=aB.mp g;obtain⟨a,o⟩:=eY.mp a;have:x=y:=by
  obtain⟨i,f⟩:=gL d;obtain⟨j,c⟩:=gL a;have k:(l.map (·.2))[i]?=some x.2:=by rw[bE,f];rfl
  have e3:(l.map (·.2))[j]?=some x.2:=by rw[bE,c];simp[n]
  have:i=j:=(wW (cD.mp k).1 nd).mp (by rw[k,e3]);subst this;rw[f] at c;show fT c
 subst this;show Ei G.nd b e (by rw[<-ex];simpa using o)
theorem zr2(G:dS l kvs)(M:dS m qr)(d:(l.map (·.2)).Perm (m.map (·.2)))(nd:(l.map (·.2)).Nodup)
  (same:∀p∈l,∀q∈l,∀o∈m,∀n∈m,p.2=o.2->q.2=n.2->(p.1=q.1↔o.1=n.1))
  {f:List α->List α} (t:∀g,(f g).Perm g) (s:∀g g',g.Perm g'->f g=f g'):(kvs.map λp=>f p.2).Perm (qr.map λp=>f p.2):=by
 have r:(m.map (·.2)).Nodup:=d.nodup_iff.mp nd;have u:∀{κ:Type}[DecidableEq κ]{l:List (κ×α)}{kvs:List (κ×List α)},dS l kvs->(l.map (·.2)).Nodup->(kvs.map λp=>f p.2).Nodup:=λ{κ} _ {l kvs} G nd=>by
  have w:kvs.Pairwise (·≠·):=by
   have:=G.nd;rw[j7,jI] at this;show this.imp λh z=>h (by rw[z])
  rw[j7,jI];show w.imp_of_mem λ{a b} j i y z=>y (ztZ G nd j i ?_)
  show((t a.2).symm.trans (qT z)).trans (t b.2)
 show(IM (u G nd) (u M r)).mpr λg=>?_
 constructor
 .intro h;obtain⟨p,k,rfl⟩:=aB.mp h;obtain⟨q,c,e⟩:=TR G M d nd same k;show aB.mpr ⟨q,c,s _ _ e⟩
 intro h;obtain⟨p,k,rfl⟩:=aB.mp h;obtain⟨q,c,e⟩:=TR M G d.symm r (λa j b i D v C x B A=>(same D v C x a j b i B.symm A.symm).symm) k;show aB.mpr ⟨q,c,s _ _ e⟩
end
section
variable{κ:Type}{E:List (κ×κ)}{nb:κ->List κ}{F F0:κ->Option κ}{ef:κ}{wt:List κ}
def Eh(E:List (κ×κ))(nb:κ->List κ)(F:κ->Option κ):Prop:=∀x a,F x=some a->Cn E x a/\∀y∈nb x,F y=some a
structure nY(E:List (κ×κ))(nb:κ->List κ)(F0 F:κ->Option κ)(ef:κ)(wt:List κ):Prop where
 old:∀x,F0 x≠none->F x=F0 x
 new:∀x y,F x=some y->F0 x=none->y=ef/\Cn E ef x
 sP:∀x y,F x≠none->F0 x=none->y∈nb x->F y≠none\/y∈wt
 wait:∀x∈wt,Cn E ef x
 fst:F ef≠none\/ef∈wt
theorem nY.start:nY E nb F F ef [ef]:=⟨λ_ _=>rfl,λx y b a=>(by rw[b] at a;cases a),λx y b a=>absurd a b,λx c=>by
 have:x=ef:=by simpa using c
 rw[this]
 show .refl _,.inr (by show .head _)⟩
theorem nY.skip(D:nY E nb F0 F ef (wt++[x]))(h:F x≠none):nY E nb F0 F ef wt:=by
 show⟨D.old,D.new,λa b e d h3=>?_,λa c=>D.wait a (iy _ c),?_⟩
 .rcases D.sP a b e d h3 with z | z
  .exact .inl z
  rcases cj.mp z with z | z
  .exact .inr z
  have:b=x:=by simpa using z
  rw[this];show .inl h
 rcases D.fst with z | z
 .exact .inl z
 rcases cj.mp z with z | z
 .exact .inr z
 have:ef=x:=by simpa using z
 rw[this];show .inl h
theorem nY.take[DecidableEq κ]{x:κ}(k:∀x y,y∈nb x->(x,y)∈E\/(y,x)∈E)(D:nY E nb F0 F ef (wt++[x]))(h:F x=none):nY E nb F0 (λy=>if y=x then some ef else F y) ef (wt++nb x):=by
 have h0:F0 x=none:=by
  cases e:F0 x with
  | none=>rfl
  | some a=>
   have:=D.old x (by rw[e];show nofun);rw[h,e] at this;cases this
 have j:Cn E ef x:=D.wait x (by show eK _ (.head _));show⟨λy f=>?_,λy z c g=>?_,λa b c g h3=>?_,λa d=>?_,?_⟩
 .have:y≠x:=λz=>by rw[z,h0] at f;show f rfl
  simp only[if_neg this];show D.old y f
 .by_cases e:y=x
  .subst e;simp only[cO,gK] at c;show⟨c.symm,j⟩
  simp only[if_neg e] at c;show D.new y z c g
 .by_cases e:b=x
  .simp only[if_pos e];show .inl nofun
  simp only[if_neg e];by_cases i:a=x
  .subst i;show .inr (eK _ h3)
  simp only[if_neg i] at c;rcases D.sP a b c g h3 with z | z
  .exact .inl z
  rcases cj.mp z with z | z
  .exact .inr (iy _ z)
  show absurd (by simpa using z) e
 .rcases cj.mp d with d | d
  .exact D.wait a (iy _ d)
  show .step j (k _ _ d)
 by_cases e:ef=x
 .simp only[if_pos e];show .inl nofun
 simp only[if_neg e];rcases D.fst with z | z
 .exact .inl z
 rcases cj.mp z with z | z
 .exact .inr (iy _ z)
 show absurd (by simpa using z) e
theorem nY.done(j:∀x y,y∈nb x->x∈nb y)(C:Eh E nb F0)(D:nY E nb F0 F ef []):Eh E nb F/\F ef≠none/\∀x,F0 x≠none->F x≠none:=by
 show⟨λx a h=>?_,?_,λx h=>by rw[D.old x h];show h⟩
 .cases d:F0 x with
  | some b=>
   have:=D.old x (by rw[d];show nofun);rw[h,d] at this;cases this;obtain⟨l,i⟩:=C x a d;show⟨l,λy e=>?_⟩;rw[D.old y (by rw[i y e];show nofun)];show i y e
  | none=>
   obtain⟨rfl,k⟩:=D.new x a h d;show⟨k.symm,λy e=>?_⟩;rcases D.sP x y (by rw[h];show nofun) d e with z | z
   .cases g:F y with
    | none=>show absurd g z
    | some c=>
     cases f:F0 y with
     | none=>rw[(D.new y c g f).1]
     | some b=>
      have:=(C y b f).2 x (j _ _ e);rw[d] at this;cases this
   cases z
 rcases D.fst with z | z
 .exact z
 cases z
theorem zlK(C:Eh E nb F)(d:∀x y,(x,y)∈E->F x≠none/\y∈nb x):((F a).getD a=(F b).getD b)↔Cn E a b:=by
 show SW (lab:=λx=>(F x).getD x) (λx y h=>?_) λx=>?_
 .obtain⟨g,f⟩:=d x y h;cases e:F x with
  | none=>show absurd e g
  | some c=>simp only[(C x c e).2 y f,gW]
 cases e:F x with
 | none=>show .refl _
 | some c=>show(C x c e).1
end
section
variable{κ:Type}
theorem zt0{l:List κ}{g h:κ->Nat}(H:∀k∈l,g k<=h k):(l.map g).sum<=(l.map h).sum:=by
 induction l with
 | nil=>show bx _
 | cons a r b=>
  simp only[bD,lQ];have:=b λk c=>H k (cK _ c)
  have:=H a cT;lia
theorem SV{l:List κ}{g h:κ->Nat}(H:∀k∈l,g k<=h k)(b:x∈l)(i:g x<h x):(l.map g).sum<(l.map h).sum:=by
 induction l with
 | nil=>cases b
 | cons a r d=>
  simp only[bD,lQ];have f:=zt0 λk c=>H k (cK _ c)
  have e:=H a cT;rcases bG.mp b with z | b
  .lia
  have:=d (λk c=>H k (cK _ c)) b;lia
variable[DecidableEq κ]{E:List (κ×κ)}{ks:List κ}{code:κ->Nat}{f f0:κ->κ}
noncomputable def lV(f:κ->κ)(x a:κ):κ->κ:=λk=>if k=x then a else f k
noncomputable def mu(code:κ->Nat)(ks:List κ)(f:κ->κ):Nat:=(ks.map λk=>code (f k)).sum
structure Pass(E:List (κ×κ))(code:κ->Nat)(ks:List κ)(f0 f:κ->κ)(moved:Bool)(l:List (κ×κ)):Prop where
 cn:∀x,Cn E x (f x)
 le:mu code ks f<=mu code ks f0
 lt:moved=true->mu code ks f<mu code ks f0
 eq:moved=false->f=f0/\∀p∈l,f p.1=f p.2
theorem Pass.start(h:∀x,Cn E x (f x)):Pass E code ks f f false []:=⟨h,bx _,nofun,λ_=>⟨rfl,λp a=>by cases a⟩⟩
theorem Pass.same{b:Bool}{l:List (κ×κ)}{p:κ×κ}(P:Pass E code ks f0 f b l)(h:f p.1=f p.2):Pass E code ks f0 f b (l++[p]):=
 ⟨P.cn,P.le,P.lt,λz=>⟨(P.eq z).1,λq a=>by
  rcases cj.mp a with a | a
  .exact(P.eq z).2 q a
  .have:q=p:=by simpa using a
   rw[this];show h⟩⟩
theorem Pass.change{b:Bool}{l:List (κ×κ)}{p:κ×κ}{low:κ}(P:Pass E code ks f0 f b l)(j:p∈E\/(p.2,p.1)∈E)(i:p.1∈ks)(g:p.2∈ks)(m:low=f p.1\/low=f p.2)
  (o:code low<=code (f p.1)) (n:code low<=code (f p.2)) (q:code low<code (f p.1)\/code low<code (f p.2)):Pass E code ks f0 (lV (lV f p.1 low) p.2 low) true (l++[p]):=by
 have e:Cn E p.1 p.2:=by
  rcases j with h | h
  .exact .one h
  show .NH h
 have le:∀k,code (lV (lV f p.1 low) p.2 low k)<=code (f k):=λk=>by
  unfold lV;by_cases a:k=p.2
  .rw[if_pos a,a];show n
  rw[if_neg a];by_cases c:k=p.1
  .rw[if_pos c,c];show o
  rw[if_neg c];show bx _
 have lt:mu code ks (lV (lV f p.1 low) p.2 low)<mu code ks f:=by
  rcases q with h | h
  .refine SV (λk _=>le k) i ?_;unfold lV;by_cases a:p.1=p.2
   .rw[if_pos a];show h
   rw[if_neg a,if_pos rfl];show h
  show SV (λk _=>le k) g ?_;unfold lV;rw[if_pos rfl];show h
 show⟨λx=>?_,by have:=P.le;lia,λ_=>by have:=P.le;show bU ‹_› ‹_›,nofun⟩;have d:Cn E p.1 low/\Cn E p.2 low:=by
  rcases m with h | h
  .rw[h];show⟨P.cn _,e.symm.trans (P.cn _)⟩
  rw[h];show⟨e.trans (P.cn _),P.cn _⟩
 unfold lV;by_cases a:x=p.2
 .rw[if_pos a,a];show d.2
 rw[if_neg a];by_cases c:x=p.1
 .rw[if_pos c,c];show d.1
 rw[if_neg c];show P.cn x
end
noncomputable def dO(p:Nat->Bool):Nat->Nat
 | 0=>0
 | s+1=>if p s=true then dO p s else s+1
theorem Ke{n:Nat->α}(h:∀s,s+1<S->p s=true->p (s+1)=true->(n s,n (s+1))∈E):∀{s},s<S->p s=true->Cn E (n s) (n (dO p s))
 | 0,_,_=>.refl _
 | s+1,a,b=>by
  unfold dO;split
  .rename_i e;show(Cn.NH (h s a e b)).trans (Ke h (by show cP ‹_›) e)
  show .refl _
noncomputable abbrev N3:=Nat×Nat×Nat
noncomputable abbrev Sd:=Bool×Nat×Nat
noncomputable def dJ(c:Nat):Bool:=decide (c=45\/c=43\/c=35)
noncomputable def dY(c:Nat):Bool:=decide (c=124\/c=43\/c=35)
noncomputable def uw(g:Nat->Nat->Nat)(r:Nat):Nat->Bool:=λs=>dJ (g r s)
noncomputable def rT(g:Nat->Nat->Nat)(s:Nat):Nat->Bool:=λr=>dY (g r s)
noncomputable def rA(g:Nat->Nat->Nat)(r s:Nat):Sd:=(false,r,dO (uw g r) s)
noncomputable def jr(g:Nat->Nat->Nat)(r s:Nat):Sd:=(true,s,dO (rT g s) r)
def JO(R S:Nat)(g:Nat->Nat->Nat)(r s:Nat)(p:N3×N3):Prop:=
 (dJ (g r s)=true/\s+1<S/\dJ (g r (s+1))=true/\p=((r,s,0),(r,s+1,0)))\/(dY (g r s)=true/\r+1<R/\dY (g (r+1) s)=true/\p=((r,s,1),(r+1,s,1)))\/(g r s=43/\p=((r,s,0),(r,s,1)))
def lU(R S:Nat)(g:Nat->Nat->Nat)(E:List (N3×N3)):Prop:=∀p,p∈E↔∃r s,r<R/\s<S/\JO R S g r s p
def R9(R S:Nat)(g:Nat->Nat->Nat)(F:List (Sd×Sd)):Prop:=∀p,p∈F↔∃r s,r<R/\s<S/\g r s=43/\p=(rA g r s,jr g r s)
noncomputable def ph(g:Nat->Nat->Nat)(x:N3):Sd:=if x.2.2=0 then rA g x.1 x.2.1 else jr g x.1 x.2.1
noncomputable def ps(y:Sd):N3:=if y.1=true then(y.2.2,y.2.1,1) else(y.2.1,y.2.2,0)
def yN(R S:Nat)(g:Nat->Nat->Nat)(x:N3):Prop:=x.1<R/\x.2.1<S/\((x.2.2=0/\dJ (g x.1 x.2.1)=true)\/(x.2.2=1/\dY (g x.1 x.2.1)=true))
theorem TM:dJ 43=true:=by rfl
theorem TL:dY 43=true:=by rfl
section
variable{R S:Nat}
theorem Rx(h:lU R S g E)(c:r<R)(b:s<S)(d:dJ (g r s)=true):Cn E (r,s,0) (ps (rA g r s)):=
 Ke (n:=λs=>((r,s,0):N3)) (p:=uw g r) (S:=S) (λa f e h3=>(h _).mpr ⟨r,a,c,by show cP ‹_›,.inl ⟨e,f,h3,rfl⟩⟩) b d
theorem DQ(h:lU R S g E)(c:r<R)(b:s<S)(d:dY (g r s)=true):Cn E (r,s,1) (ps (jr g r s)):=
 Ke (n:=λr=>((r,s,1):N3)) (p:=rT g s) (S:=R) (λa f e h3=>(h _).mpr ⟨a,s,by show cP ‹_›,b,.inr (.inl ⟨e,f,h3,rfl⟩)⟩) c d
theorem Ku(h:p s=true):dO p (s+1)=dO p s:=by
 show(if p s=true then dO p s else s+1)=_;rw[if_pos h]
theorem R8(h:lU R S g E)(d:yN R S g x):Cn E x (ps (ph g x)):=by
 obtain⟨r,s,k⟩:=x;obtain⟨c,b,e⟩:=d;rcases e with⟨rfl,a⟩ | ⟨rfl,a⟩
 .exact Rx h c b a
 show DQ h c b a
end
theorem KS{α:Type}[DecidableEq α]{l ws:List α}(nd:l.Nodup)(h:∀w∈l,w∈ws):l.length<=ws.length:=by
 induction l generalizing ws with
 | nil=>simp
 | cons a r c=>
  rw[gu] at nd;have b:a∈ws:=h a (by show .head _);have:=c (ws:=ws.erase a) nd.2 λw hw=>(List.mem_erase_of_ne λ(z:w=a)=>nd.1 (z▸hw)).mpr (h w (by show .tail _ ‹_›))
  rw[List.length_erase_of_mem b] at this;have d:0<ws.length:=List.length_pos_of_mem b;simp only[cC];lia
section
variable{κ α:Type}[DecidableEq κ]{l:List (κ×α)}{B:List (κ×List α)}{kk:κ->List Key}{dv:α->D}
theorem dS.len(G:dS l B):B.length<=l.length:=by
 have:=KS G.nd (ws:=l.map (·.1)) λw hw=>by
  obtain⟨p,b,rfl⟩:=aB.mp hw;obtain⟨q,a,e⟩:=G.ex p b;show aB.mpr ⟨q,a,e⟩
 simp_all
theorem dS.Nt(G:dS l B){p:κ×List α}(a:p∈B):p.2.length<=l.length:=by
 rw[G.is p a,ax];show xc _ _
noncomputable def dR(kk:κ->List Key)(dv:α->D)(B:List (κ×List α)):List (List Key×List D):=B.map λp=>(kk p.1,p.2.map dv)
theorem SU(inj:∀a b,kk a=kk b->a=b)(x:κ):((dR kk dv B).any λkv=>decide (kv.1=kk x))=B.any λp=>decide (p.1=x):=by
 unfold dR;rw[Hv];congr 1
 funext p
 simp only[wZ];by_cases h:p.1=x
 .simp[h]
 rw[iw h,iw λz=>h (inj _ _ z)]
theorem EH(inj:∀a b,kk a=kk b->a=b)(G:dS l B)(x:κ)(e:α):∃n ds s,(gQ (dR kk dv B) (kk x))[n]?=some (kk x,ds)/\(∀f<n,∀p,(gQ (dR kk dv B) (kk x))[f]?=some p->p.1≠kk x)/\
  (gQ (dR kk dv B) (kk x)).set n (kk x,ds++[dv e])=dR kk dv s/\dS (l++[(x,e)]) s/\ds.length<=l.length:=by
 by_cases h:∃p∈B,p.1=x
 .obtain⟨⟨y,g⟩,d,rfl⟩:=h;have m:((dR kk dv B).any λkv=>decide (kv.1=kk y))=true:=by
   rw[SU inj];show Dd.mpr ⟨_,d,by simp⟩
  obtain⟨n,k⟩:=gL d;have i:gQ (dR kk dv B) (kk y)=dR kk dv B:=by unfold gQ;rw[if_pos m]
  rw[i];show⟨n,g.map dv,B.set n (y,g++[e]),?_,λf t p c z=>?_,?_,G.more k,?_⟩
  .unfold dR;rw[bE,k];rfl
  .unfold dR at c;rw[bE] at c;obtain⟨q,j,rfl⟩:=i4.mp c;have u:q.1=y:=inj _ _ z;have i1:(B.map (·.1))[f]?=some y:=by rw[bE,j];simp[u]
   have i2:(B.map (·.1))[n]?=some y:=by rw[bE,k];rfl
   have:f=n:=(wW (cD.mp i1).1 G.nd).mp (i1.trans i2.symm);simp_all
  .unfold dR;rw[u6,bY];rfl
  rw[ax];show G.Nt d
 have o:∀p∈B,p.1≠x:=λp d z=>h ⟨p,d,z⟩
 have m:¬((dR kk dv B).any λkv=>decide (kv.1=kk x))=true:=by
  rw[SU inj,Dd];rintro⟨p,d,z⟩;show o p d (by simpa using z)
 have i:gQ (dR kk dv B) (kk x)=dR kk dv B++[(kk x,[])]:=by unfold gQ;rw[if_neg m]
 have r:(dR kk dv B).length=B.length:=by show ax ..
 rw[i];show⟨B.length,[],B++[(x,[e])],by rw[<-r];simp,λf t p c z=>?_,?_,G.fresh o,cG _⟩
 .rw[DI (by simp_all)] at c;unfold dR at c;rw[bE] at c;obtain⟨q,j,rfl⟩:=i4.mp c;show o q (cJ j) (inj _ _ z)
 rw[<-r,Qy _ _ (bx _),O1];unfold dR;rw[bY];rfl
end
section
variable{κ α:Type}[DecidableEq κ]{F:List (κ×α)}{kk:κ->List Key}{dv:α->D}
noncomputable def a9(F:List (κ×α))(x:κ):Option α:=(F.find? λp=>decide (p.1=x)).map (·.2)
noncomputable def cL(kk:κ->List Key)(dv:α->D)(F:List (κ×α)):List (List Key×D):=F.map λp=>(kk p.1,dv p.2)
theorem vO(inj:∀a b,kk a=kk b->a=b)(x:κ):iS (cL kk dv F) (kk x)=(a9 F x).map dv:=by
 unfold iS cL a9;induction F with
 | nil=>rfl
 | cons p r c=>
  rw[bD,kU,kU];by_cases h:p.1=x
  .simp[h]
  rw[iw h,iw λz=>h (inj _ _ z)];show c
theorem AE(x y:κ)(a:α)(h:a9 F x=none):a9 (F++[(x,a)]) y=if y=x then some a else a9 F y:=by
 unfold a9 at h ⊢;rw[PZ];by_cases e:y=x
 .subst e;rw[zM] at h;rw[h,if_pos rfl];simp
 rw[if_neg e];have:[(x,a)].find? (λp=>decide (p.1=y))=none:=by simp[Ne.symm e]
 rw[this,Option.or_none]
theorem Ks(inj:∀a b,kk a=kk b->a=b)(x:κ)(a:α)(h:a9 F x=none):oz (cL kk dv F) (kk x) (dv a)=cL kk dv (F++[(x,a)]):=by
 have e:¬((cL kk dv F).any λkv=>decide (kv.1=kk x))=true:=by
  rw[Dd];rintro⟨p,d,z⟩;obtain⟨q,c,rfl⟩:=aB.mp d;have f:q.1=x:=inj _ _ (by simpa using z);unfold a9 at h;rw[zM,Du] at h;show h q c (by show if_pos ‹_›)
 unfold oz;rw[if_neg e];unfold cL;rw[bY];rfl
end
noncomputable def g9(x y:EK):Bool:=!Ts.dH y x
theorem UK(a b c)(f:g9 a b=true)(d:g9 b c=true):g9 a c=true:=by
 unfold g9 at *;simp only[oq] at *;cases h:Ts.dH c a with
 | false=>rfl
 | true=>
  by_cases e:a=b
  .subst e;rw[d] at h;cases h
  rcases Ts.sO.dF _ _ e with z | z
  .rw[Ts.sO.tr _ _ _ h z] at d;cases d
  rw[z] at f;cases f
theorem VL(a b):(g9 a b||g9 b a)=true:=by
 unfold g9;cases d:Ts.dH b a<;>cases c:Ts.dH a b<;>simp
 have:=Ts.sO.tr _ _ _ d c;rw[Ts.sO.ir] at this;cases this
theorem Ll(a b)(d:g9 a b=true)(c:g9 b a=true):a=b:=by
 unfold g9 at *;show Zq λe=>?_
 rcases Ts.sO.dF _ _ e with z | z
 .rw[z] at c;cases c
 rw[z] at d;cases d
noncomputable def sK(g:List EK):List EK:=g.mergeSort g9
theorem i9(g):(sK g).Perm g:=Qi _ _
theorem Bf{α:Type}{le:α->α->Prop}:∀{l m:List α},(∀a∈l,∀b∈l,le a b->le b a->a=b)->l.Perm m->l.Pairwise le->m.Pairwise le->l=m
 | [],m,_,p,_,_=>p.nil_eq
 | a::l,[],_,p,_,_=>absurd p.length_eq (by simp_all)
 | a::l,b::m,an,p,o,n=>by
  have h:b∈a::l:=p.symm.subset cT;have k:a∈b::m:=p.subset cT;obtain⟨g,f⟩:=Ii.mp o;obtain⟨d,c⟩:=Ii.mp n;have e:a=b:=by
   rcases bG.mp h with z | z
   .exact z.symm
   rcases bG.mp k with y | y
   .exact y
   show an _ cT _ h (g _ z) (d _ y)
  subst e;rw[Bf (λx j y i=>an x (cK _ j) y (cK _ i)) ((List.perm_cons a).mp p) f c]
theorem JN(g):(sK g).Pairwise (λx y=>g9 x y=true):=QW UK VL g
theorem zt3(h:g.Perm g'):sK g=sK g':=Bf (λa _ b _=>Ll a b) (((i9 g).trans h).trans (i9 g').symm) (JN g) (JN g')
theorem R7(h:s.Perm g)(p:s.Pairwise (λx y=>Ts.dH y x=false)):s=sK g:=
 Bf (le:=λx y=>g9 x y=true) (λa _ b _=>Ll a b) (h.trans (i9 g).symm) (p.imp λh=>by unfold g9;rw[h];rfl) (JN g)
theorem TK(h:g≠[]):dr (sK g)∈g:=by
 cases e:sK g with
 | nil=>show absurd (HE.mp ((i9 g).symm.trans (qT e))) h
 | cons a r=>show(i9 g).subset (by rw[e];show cT)
noncomputable def jV(a:List (List EK)):List (List EK):=a.mergeSort λx y=>g9 (dr x) (dr y)
theorem p9(g):(jV g).Perm g:=Qi _ _
theorem Kd(g):(jV g).Pairwise (λx y=>g9 (dr x) (dr y)=true):=QW (le:=λx y=>g9 (dr x) (dr y)) (λa b c=>UK (dr a) (dr b) (dr c)) (λa b=>VL (dr a) (dr b)) g
theorem SS{c:List (List EK)}(nd:(c.map dr).Nodup):∀a∈c,∀b∈c,g9 (dr a) (dr b)=true->g9 (dr b) (dr a)=true->a=b:=λa k b h m l=>by
 have e:=Ll _ _ m l;obtain⟨i,f⟩:=gL k;obtain⟨j,d⟩:=gL h;have g:(c.map dr)[i]?=some (dr a):=by rw[bE,f];rfl
 have n:(c.map dr)[j]?=some (dr a):=by rw[bE,d,e];rfl
 have:i=j:=(wW (cD.mp g).1 nd).mp (g.trans n.symm);subst this;rw[f] at d;show fT d
theorem SR(nd:(c.map dr).Nodup)(h:s.Perm c)(p:s.Pairwise (λx y=>Ts.dH (dr y) (dr x)=false)):s=jV c:=by
 show Bf (le:=λx y=>g9 (dr x) (dr y)=true) (λa e b d=>SS nd a (h.subset e) b (h.subset d)) (h.trans (p9 c).symm) (p.imp λh=>?_) (Kd c);unfold g9;rw[h];rfl
theorem zr3(nd:(c.map dr).Nodup)(h:c.Perm d):jV c=jV d:=
 Bf (λa f b e=>SS nd a ((p9 c).subset f) b ((p9 c).subset e)) (((p9 c).trans h).trans (p9 d).symm) (Kd c) (Kd d)
section
variable{κ uY:Type}[DecidableEq κ][DecidableEq uY]{l:List (κ×EK)}{kvs:List (κ×List EK)}{m:List (uY×EK)}{qr:List (uY×List EK)}
theorem dS.FZ(G:dS l kvs){p:κ×List EK}(h:p∈kvs):p.2≠[]:=by
 obtain⟨q,b,e⟩:=G.ex p h;rw[G.is p h];show List.ne_nil_of_mem (a:=q.2) (aB.mpr ⟨q,eY.mpr ⟨b,by simpa using e⟩,rfl⟩)
theorem dS.atK(G:dS l kvs)(nd:(l.map (·.2)).Nodup){p q:κ×List EK}(f:p∈kvs)(d:q∈kvs){e:EK}(k:e∈p.2)(h:e∈q.2):p=q:=by
 rw[G.is p f] at k;rw[G.is q d] at h;obtain⟨x,b,ex⟩:=aB.mp k;obtain⟨y,a,m⟩:=aB.mp h;obtain⟨b,r⟩:=eY.mp b;obtain⟨a,o⟩:=eY.mp a;have:x=y:=by
  obtain⟨i,g⟩:=gL b;obtain⟨j,c⟩:=gL a;have e3:(l.map (·.2))[i]?=some e:=by rw[bE,g];simp[ex]
  have n:(l.map (·.2))[j]?=some e:=by rw[bE,c];simp[m]
  have:i=j:=(wW (cD.mp e3).1 nd).mp (e3.trans n.symm);subst this;rw[g] at c;show fT c
 subst this;show Ei G.nd f d ?_;have a1:x.1=p.1:=by simpa using r
 have a2:x.1=q.1:=by simpa using o
 rw[<-a1,a2]
theorem dS.B8(G:dS l kvs)(nd:(l.map (·.2)).Nodup):((kvs.map λp=>sK p.2).map dr).Nodup:=by
 have e:kvs.Pairwise (·≠·):=by
  have:=G.nd;rw[j7,jI] at this;show this.imp λh z=>h (by rw[z])
 rw[bp,j7,jI];show e.imp_of_mem λ{a b} d c f z=>f (G.atK nd d c (TK (G.FZ d)) ?_)
 have z:dr (sK a.2)=dr (sK b.2):=z;rw[z];show TK (G.FZ c)
theorem zpY(G:dS l kvs)(M:dS m qr)(c:(l.map (·.2)).Perm (m.map (·.2)))(nd:(l.map (·.2)).Nodup)
  (same:∀p∈l,∀q∈l,∀b∈m,∀a∈m,p.2=b.2->q.2=a.2->(p.1=q.1↔b.1=a.1)):jV (kvs.map λp=>sK p.2)=jV (qr.map λp=>sK p.2):=
 zr3 (G.B8 nd) (zr2 G M c nd same i9 λ_ _=>zt3)
end
noncomputable def cW(rows:List (List Nat)):D:=.lst (rows.map λl=>.str (aE l))
noncomputable def dh:List Nat:=[32,45,124,43,35,61,120,46]
noncomputable def jd(S:ae)(c:Nat):Bool:=!(mV S ⟨#[c]⟩ 0 S.length 1).isEmpty
theorem D4:∀c∈dh,jd "-+#" c=dJ c:=by decide +kernel
theorem D8:∀c∈dh,jd "|+#" c=dY c:=by decide +kernel
noncomputable def iX(r p:Nat)(c:Nat):Bool:=decide (c=32)||(decide (r%2=1)&&decide (c=45))||(decide (p%2=1)&&decide (c=124))||(decide (r%2=1)&&decide (p%2=1)&&(decide (c=43)||decide (c=35)))
noncomputable def Ai(r p:Nat):ae:=if r%2=1 then(if p%2=1 then " -|+#" else " -") else(if p%2=1 then " |" else " ")
theorem MM:∀c∈dh,jd " " c=iX 0 0 c:=by decide +kernel
theorem in1:∀c∈dh,jd " -" c=iX 1 0 c:=by decide +kernel
theorem in2:∀c∈dh,jd " |" c=iX 0 1 c:=by decide +kernel
theorem in3:∀c∈dh,jd " -|+#" c=iX 1 1 c:=by decide +kernel
theorem zp1(r p c)(h:c∈dh):jd (Ai r p) c=iX r p c:=by
 unfold Ai;by_cases b:r%2=1
 .by_cases a:p%2=1
  .rw[if_pos b,if_pos a,in3 c h];simp[iX,b,a]
  rw[if_pos b,if_neg a,in1 c h];simp[iX,b,a]
 by_cases a:p%2=1
 .rw[if_neg b,if_pos a,in2 c h];simp[iX,b,a]
 rw[if_neg b,if_neg a,MM c h];simp[iX,b,a]
structure RB(rows:List (List Nat)):Prop where
 len:rows.length<=100
 bQ:∀l∈rows,l.length<=100
 dh:∀l∈rows,∀c∈l,c∈Wc.dh
noncomputable def wd(rows:List (List Nat)):Nat:=(rows.headD []).length
noncomputable def pS(rows:List (List Nat)):Bool:=decide (rows.length%2=1)&&decide (wd rows%2=1)&&decide (3<=wd rows)&&rows.all λl=>decide (l.length=wd rows)
noncomputable def rO(rows:List (List Nat)):Bool:=rows.zipIdx.all λp=>p.1.zipIdx.all λq=>iX p.2 q.2 q.1
theorem VJ(l):rH (l.map D.bl)=some l:=by
 induction l with
 | nil=>rfl
 | cons a r b=>simp[rH,b]
theorem vN{α:Type}(L:List α)(f)(q:Q (.fz (.bl (L.all f)))):vy [R.val (.ow (L.map λa=>D.bl (f a)))] Q:=by
 show match rH _ with | some bs=>Q (.fz (.bl (bs.all id))) | none=>False
 have e:(L.map λa=>D.bl (f a))=(L.map f).map D.bl:=by simp
 rw[e,VJ];simp_all
theorem Rw{rows:List (List Nat)}(h:rows≠[]):bF rows 0=some (rows.headD []):=by
 cases rows with
 | nil=>show absurd rfl h
 | cons a r=>simp[zpW]
theorem AI{rows:List (List Nat)}(h:rows≠[]):rows.headD []∈rows:=by
 cases rows with
 | nil=>show absurd rfl h
 | cons a r=>show .head _
def Bn:cg:=λds Q=>∃rows,ds=[cW rows]/\rows≠[]/\RB rows/\Q (.fz (.bl (pS rows)))
theorem zgi:(["row","length"]:List ae).Nodup:=by decide +kernel
noncomputable def Of:(T:TX) ×' ∀{P w K mg base},Txt K mg->eF P w K mg base 0 "have_form" ["rows","length","is_odd"] (top 9) T:=
 ⟨_,λT nd f d A outer s H E c=>have a:=c.units;
 (aJ (cV 1 (cR gO T.b_len gi (ah (bV (af 0) aw) aq)) nd)
   (aJ (cV 2 (rM (nu (fj a) (aP gz (cR gO T.b_len gi (ah (af 0) aq)) aw) aw) (vK (nu (fj a) (aP gz (af 1) aw) aw))) nd)
   (aU (eB (rM (af 2) (rM (nu ZM (af 1) aw) (vK (cR (rG rfl) T.b_all qP (ah (fW rfl (.of (N':=["row","length"]) (m:=[none,some 1]) (by kernel_rfl)) fb (fB (af 0)) (λs3 b ex=>(aY 0 zgi)) (λs3 b ex=>fL) (λs3 b ex=>(nu (fj a) (cR gO T.b_len gi (ah (af 0) aq)) (af 1)))) aq)))))))))⟩
def Lx:TX:=Of.1
theorem zgj:dX 1 Bn Lx ["rows","length","is_odd"]:=by
 intro ds r hl h;obtain⟨rows,rfl,i,b,q⟩:=h;show Lx _ [.fz (cW rows),.un,.un];unfold Lx Of;dsimp only;unfold cW;have big:=dP;have t:=b.len;have n:=Rw i;have hw:(rows.headD []).length=wd rows:=rfl;have s:=b.bQ _ (AI i);walk_at"px";show⟨_,n,by lia,?_⟩;rw[hw];walk_at"go";generalize m:wd rows=W at *;have d:r (.fz (.bl (decide (rows.length%2=1)&&decide (W%2=1)&&decide (3<=W)&&rows.all λl=>decide (l.length=W)))):=by rw[<-m];show q
 rw[ax];have p:((rows.length:Int)%2=1)↔rows.length%2=1:=by lia
 have o:((W:Int)%2=1)↔W%2=1:=by lia
 have g:((3:Int)<=(W:Int))↔3<=W:=by lia
 simp only[p,o];by_cases e:rows.length%2=1
 .by_cases f:W%2=1
  .simp only[e,f,iR,wO] at d ⊢;walk_at"go";by_cases h3:3<=W
   .simp only[h3,iR,wO] at d;simp only[g,h3,iR,cO];show gP rows (λl=>.str (aE l)) (λl=>.bl (decide (l.length=W))) (λu h=>?_) (by lia) (λl hm v j=>?_) (vN rows _ d)
    .walk_at"px";show h
    have:=b.bQ l hm;walk_at"px";simp only[show((l.length:Int)=(W:Int))↔l.length=W by lia];show⟨by lia,j⟩
   simp only[h3,gc,zt] at d;simp only[g,h3,gc,dW,cM];show d
  simp only[e,f,iR,gc,wO,zt] at d ⊢;walk_at"go";show d
 rw[if_neg e];simp only[e,gc,zt] at d;walk_at"go";show d
def Be:cg:=λds Q=>∃r p:Nat,ds=[.int r,.int p]/\Q (.fz (.str (Ai r p)))
noncomputable def N5:(T:TX) ×' ∀{P w K mg base},Txt K mg->eF P w K mg base 0 "signs_at" ["row","place","signs"] (top 11) T:=
 ⟨_,λT nd f c A outer s H E b=>have a:=b.units;have ⟨d,o6⟩:=T.o6;have ⟨e,nT⟩:=T.nT;have ⟨g,nR⟩:=T.nR;
 (aJ (cV 2 df nd)
   (aJ (eM (dA (fj a) (aP gz (af 0) aw) aw) (aU (cV 2 (aP cN (af 2) (jt nT)) nd)) eQ)
   (aJ (eM (dA (fj a) (aP gz (af 1) aw) aw) (aU (cV 2 (aP cN (af 2) (jt nR)) nd)) eQ)
   (aJ (eM (ny (dA (fj a) (aP gz (af 0) aw) aw) (vR (dA (fj a) (aP gz (af 1) aw) aw))).pb (aU (cV 2 (aP cN (af 2) (jt o6)) nd)) eQ)
   (aU (eB (af 2)))))))⟩
def Lk:TX:=N5.1
theorem zhx:dX 2 Be Lk ["row","place","signs"]:=by
 intro ds g hl h;obtain⟨r,p,rfl,q⟩:=h;show Lk _ [.fz (.int r),.fz (.int p),.un];unfold Lk N5;dsimp only;have s2:(" ":ae)++"|"=" |":=by rfl
 have s4:(" -|":ae)++"+#"=" -|+#":=by rfl
 unfold Ai at q;by_cases f:r%2=1
 .have e:((r:Int)%2=1)=True:=eq_true (by lia);rw[if_pos f] at q;by_cases d:p%2=1
  .have b:((p:Int)%2=1)=True:=eq_true (by lia);rw[if_pos d] at q;walk_at"px";walk_at"go";walk_at"go";walk_at"go";simp only[e,b,cO,s4];walk_at"go";show⟨by decide +kernel,by decide +kernel,by decide +kernel,q⟩
  have b:((p:Int)%2=1)=False:=eq_false (by lia);rw[if_neg d] at q;walk_at"px";walk_at"go";walk_at"go";walk_at"go";simp only[e,b,cO,cM];walk_at"go";show⟨by decide +kernel,q⟩
 have e:((r:Int)%2=1)=False:=eq_false (by lia);rw[if_neg f] at q;by_cases d:p%2=1
 .have b:((p:Int)%2=1)=True:=eq_true (by lia);rw[if_pos d] at q;walk_at"px";walk_at"go";walk_at"go";simp only[b,cO,s2];walk_at"go";simp only[e,cM];walk_at"go";show⟨by decide +kernel,q⟩
 have b:((p:Int)%2=1)=False:=eq_false (by lia);rw[if_neg d] at q;walk_at"px";walk_at"go";walk_at"go";simp only[b,cM];walk_at"go";simp only[e,cM];walk_at"go";show q
theorem vV{α:Type}(f)(l:List α):iC (l.map f)=l.zipIdx.map λp=>.tup [.int (p.2:Nat),f p.1]:=by
 unfold iC;apply pF;intro i;simp only[zI,bE,zH];cases l[i]?<;>simp
theorem mem_zipIdx{α:Type}{l:List α}{a:α}(h:(a,i)∈l.zipIdx):a∈l:=(HP h).2.2▸eZ _
def Bb:cg:=λds Q=>∃rows,ds=[cW rows]/\RB rows/\Q (.fz (.bl (rO rows)))
theorem WK:(["place","sign","number"]:List ae).Nodup:=by decide +kernel
noncomputable def Oe:(T:TX) ×' ∀{P w K mg base},Txt K mg->Known P w K mg base 1 "signs_at" 2 Be->eF P w K mg base 1 "have_signs" ["rows","number","row"] (top 10) T:=
 ⟨_,λT yS nd f d A outer s H E a=>have c:=a.units;
 (aJ (fA eH rfl (qd T.b_enumerate (ah (af 0) aq)) (gC (n:=2) rfl (cf (aY 1 nd) (cf (aY 2 nd) fU)))
    (aU (eM (rN (jQ (cR (rG rfl) T.b_all qP (ah (fW rfl (.of (N':=["place","sign","number"]) (m:=[none,none,some 1]) (by kernel_rfl)) vU (KZ T.b_enumerate (ah (af 2) aq)) (λs3 b ex=>(gC (n:=2) rfl (cf (aY 0 WK) (cf (aY 1 WK) fU)))) (λs3 b ex=>fL) (λs3 b ex=>(nu (xv c) (af 1) (cE yS a (ah (af 2) (ah (af 0) aq)))))) aq)))) (aU (eB l5)) eQ)))
   (aU (eB l5)))⟩
def LQ:TX:=Oe.1
theorem zfC:dX 1 Bb LQ ["rows","number","row"]:=by
 intro ds s hl h;obtain⟨rows,rfl,b,q⟩:=h;show LQ _ [.fz (cW rows),.un,.un];unfold LQ Oe;dsimp only;unfold cW;have big:=dP;walk_at"px";show jS rows.zipIdx (λp=>.tup [.int (p.2:Nat),.str (aE p.1)]) (λn h=>?_) (λi ρ=>((rows.zipIdx.take i).all λp=>p.1.zipIdx.all λq=>iX p.2 q.2 q.1)=true/\∃a c:Sl,ρ=[.fz (.lst (rows.map λl=>D.str (aE l))),a,c]) ⟨rfl,_,_,rfl⟩ ?_ ?_
 .walk_at"px";rw[vV];show h
 .rintro i ⟨l,r⟩ ρ e ⟨d,a,c,rfl⟩;have hm:l∈rows:=mem_zipIdx (cJ e);have hw:=b.bQ l hm;walk_at"px";show gP l.zipIdx (λp=>.tup [.int (p.2:Nat),.str ⟨#[p.1]⟩]) (λp=>.bl (iX r p.2 p.1)) (λn h=>?_) (by rw[ot];lia) (λp m o j=>?_) (vN _ _ ?_)
  .walk_at"px";rw[As,vV];show h
  .obtain⟨f,pp⟩:=p;walk_at"px";show⟨r,pp,rfl,?_⟩;show o (.bl (jd (Ai r pp) f));rw[zp1 r pp f (b.dh l hm f (mem_zipIdx m))];show j
  have tk:((rows.zipIdx.take (i+1)).all λp=>p.1.zipIdx.all λq=>iX p.2 q.2 q.1)=(l.zipIdx.all λq=>iX r q.2 q.1):=by
   rw[gf,e,HN,d];simp
  cases g:l.zipIdx.all λq=>iX r q.2 q.1 with
  | true=>
   show⟨by rw[tk];show g,_,_,rfl⟩
  | false=>
   have:rO rows=false:=by
    unfold rO;rw[PR];show⟨(l,r),cJ e,by simp only[g];show eJ⟩
   rw[this] at q;show q
 rintro ρ ⟨d,a,c,rfl⟩;walk_at"go";rw[gw] at d;rw[show rO rows=true from d] at q;show q
structure Mk(mk:ae)(m:Nat)(p:Nat->Bool):Prop where
 is:mk=aE [m]
 qu:∀c∈dh,jd (mk++"+#") c=p c
theorem R6:Mk "-" 45 dJ:=⟨by rfl,λc h=>by show D4 c h⟩
theorem R5:Mk "|" 124 dY:=⟨by rfl,λc h=>by show D8 c h⟩
noncomputable def jP(l:List Nat)(k:Nat):List Nat:=(l.drop (k-1)).take (k+2-(k-1))
noncomputable def kj(m:Nat)(p:Nat->Bool)(l:List Nat):Bool:=(aN ((l.length+1)/2)).all λj=>!decide (l[2*j]?=some m)||(jP l (2*j)).all p
def Bq:cg:=λds Q=>∃l mk m p,ds=[.str (aE l),.str mk]/\Mk mk m p/\l.length<=100/\(∀c∈l,c∈dh)/\Q (.fz (.bl (kj m p l)))
theorem zhy:(["sign","mark"]:List ae).Nodup:=by decide +kernel
noncomputable def Od:(T:TX) ×' ∀{P w K mg base},Txt K mg->eF P w K mg base 0 "holds_on" ["line","mark","place","around"] (top 12) T:=
 ⟨_,λT nd f d A outer s H E c=>have a:=c.units;have ⟨e,o6⟩:=T.o6;
 (aJ (fA eH rfl (Lo T.b_range (ah aw (ah (cR gO T.b_len gi (ah (af 0) aq)) (ah aw aq)))) (aY 2 nd)
    (aJ (cV 3 (oF (af 0) (lp (cR (zu5 rfl) T.b_max boot_max (ah (aP tV (af 2) aw) (ah aw aq)))) (lp (aP cN (af 2) aw))) nd)
   (aU (eM (ny (dA (fj a) (bV (af 0) (af 2)) (af 1)) (vR (rN (jQ (cR (rG rfl) T.b_all qP (ah (fW rfl (.of (N':=["sign","mark"]) (m:=[none,some 1]) (by kernel_rfl)) fb (fB (af 3)) (λs3 b ex=>(aY 0 zhy)) (λs3 b ex=>fL) (λs3 b ex=>(nu (xv a) (af 0) (aP cN (af 1) (jt o6))))) aq)))))).pb (aU (eB l5)) eQ))))
   (aU (eB l5)))⟩
def Lj:TX:=Od.1
theorem zhz:dX 2 Bq Lj ["line","mark","place","around"]:=by
 intro ds y hl h;obtain⟨l,mk,m,p,rfl,M,w,t,q⟩:=h;show Lj _ [.fz (.str (aE l)),.fz (.str mk),.un,.un];unfold Lj Od;dsimp only;have big:=dP;walk_at"px";show jS (aN ((l.length+1)/2)) (λj=>.int (0+(j:Nat)*2)) (λv h=>?_) (λi ρ=>(((aN ((l.length+1)/2)).take i).all λj=>!decide (l[2*j]?=some m)||(jP l (2*j)).all p)=true/\∃a c:Sl,ρ=[.fz (.str (aE l)),.fz (.str mk),a,c]) ⟨rfl,_,_,rfl⟩ ?_ ?_
 .walk_at"px";show⟨by lia,by lia,h⟩
 .rintro i j ρ d ⟨b,a,c,rfl⟩;have x:j<(l.length+1)/2:=by simpa using cJ d
  have o:2*j<l.length:=by lia
  have g:tP (aE l) (some (if (0:Int)>0+(j:Int)*2-1 then 0 else 0+(j:Int)*2-1)) (some (0+(j:Int)*2+2))=aE (jP l (2*j)):=by
   rw[show(if (0:Int)>0+(j:Int)*2-1 then(0:Int) else 0+(j:Int)*2-1)=((2*j-1:Nat):Int) by split<;>ext,show(0:Int)+(j:Int)*2+2=((2*j+2:Nat):Int) by lia,zpS l (by simp_all) (by show Ih _)];rfl
  have f:∀c∈jP l (2*j),c∈l:=λc e=>w8 (tK e)
  have u:(jP l (2*j)).length<=100:=by unfold jP;rw[eP,oo];ext
  have tk:(((aN ((l.length+1)/2)).take (i+1)).all λj=>!decide (l[2*j]?=some m)||(jP l (2*j)).all p)=(!decide (l[2*j]?=some m)||(jP l (2*j)).all p):=by
   rw[gf,d,HN,b];simp
  have bad:(!decide (l[2*j]?=some m)||(jP l (2*j)).all p)=false->kj m p l=false:=λh=>by
   unfold kj;rw[PR];show⟨j,cJ d,by rw[h];show eJ⟩
  have r:bF l (0+(j:Int)*2)=some l[2*j]:=by rw[show(0:Int)+(j:Int)*2=((2*j:Nat):Int) by lia];show oE o
  walk_at"px";show⟨by lia,?_⟩;rw[g,M.is];walk_at"go";show⟨by lia,_,r,?_⟩;rw[aX o] at tk bad;simp only[BK,Ar,lN.injEq,and_true,gK] at tk bad ⊢;by_cases hm:l[2*j]=m
  .simp only[hm,iR,zo,Pd,cO] at tk bad ⊢;show gP (jP l (2*j)) (λc=>.str ⟨#[c]⟩) (λc=>.bl (p c)) (λv h=>?_) (by lia) (λc e z s=>?_) (vN _ _ ?_)
   .walk_at"px";show h
   .walk_at"px";show⟨by decide +kernel,?_⟩;have:=M.qu c (t c (f c e));rw[M.is] at this;unfold jd at this;rw[this];show s
   cases n:(jP l (2*j)).all p with
   | true=>
    show⟨tk.trans n,_,_,trivial,trivial,rfl,rfl⟩
   | false=>
    rw[bad n] at q;show q
  simp only[hm,gc,HK,O6,dW,cM] at tk ⊢;show⟨tk,_,_,trivial,trivial,rfl,rfl⟩
 rintro ρ ⟨b,a,c,rfl⟩;walk_at"go";rw[gw] at b;rw[show kj m p l=true from b] at q;show q
noncomputable def cX(rows:List (List Nat))(k:Nat):List Nat:=rows.map λl=>l.getD k 0
noncomputable def fq(rows:List (List Nat)):List (List Nat):=(aN (wd rows)).map (cX rows)
structure uR(rows:List (List Nat)):Prop where
 b:RB rows
 ne:rows≠[]
 w:∀l∈rows,l.length=wd rows
theorem uR.WM(h:uR rows):wd rows<=100:=h.b.bQ _ (AI h.ne)
theorem VI(z):∀(l:List ae)(a:Array Nat),(l.foldl (λacc p=>acc++z++p.cps) a).toList=a.toList++(l.map λp=>z.toList++p.cps.toList).flatten
 | [],a=>by simp
 | x::l,a=>by
  rw[vc,VI z l];simp
theorem Fj(x a l):(iQ x (a::l)).cps.toList=a.cps.toList++(l.map λp=>x.cps.toList++p.cps.toList).flatten:=by
 show VI _ l a.cps
theorem JM(h:a.cps.toList=l):a=aE l:=by rw[<-h,Em]
theorem Wi(L):iQ "" (L.map λc=>(⟨#[c]⟩:ae))=aE L:=by
 show JM ?_;cases L with
 | nil=>rfl
 | cons a L=>
  rw[bD,Fj];rw[bp];have:∀L:List Nat,(L.map ((λp:ae=>(("":ae).cps.toList++p.cps.toList))∘λc=>(⟨#[c]⟩:ae))).flatten=L:=λL=>by
   induction L with
   | nil=>rfl
   | cons b r d=>rw[bD,qX,d];rfl
  rw[this];rfl
def Ba:cg:=λds Q=>∃(rows:List (List Nat))(k:Nat),ds=[cW rows,.int k]/\uR rows/\k<wd rows/\Q (.fz (.str (aE (cX rows k))))
theorem zfD:(["row","place"]:List ae).Nodup:=by decide +kernel
noncomputable def N4:(T:TX) ×' ∀{P w K mg base},Txt K mg->eF P w K mg base 0 "signs_down" ["rows","place"] (top 14) T:=
 ⟨_,λT nd f d A outer s H E b=>have c:=b.units;
 (aU (eB (t7 Am (.inr rfl) tM zK zJ df (ah (fW rfl (.of (N':=["row","place"]) (m:=[none,some 1]) (by kernel_rfl)) fb (fB (af 0)) (λs3 a ex=>(aY 0 zfD)) (λs3 a ex=>fL) (λs3 a ex=>(bV (af 0) (af 1)))) aq))))⟩
def LP:TX:=N4.1
theorem zfE:dX 2 Ba LP ["rows","place"]:=by
 intro ds n hl h;obtain⟨rows,k,rfl,b,i,q⟩:=h;show LP _ [.fz (cW rows),.fz (.int k)];unfold LP N4;dsimp only;unfold cW;have big:=dP;have m:=b.b.len;walk_at"px";show⟨rfl,?_⟩;show gP rows (λl=>.str (aE l)) (λl=>.str ⟨#[l.getD k 0]⟩) (λo h=>?_) (by lia) (λl hm p d=>?_) ?_
 .walk_at"px";show h
 .have hw:=b.b.bQ l hm;have f:k<l.length:=by rw[b.w l hm];show i
  walk_at"px";show⟨by lia,_,oE f,?_⟩;rw[bK,aX f] at d;show d
 have e:(rows.map λl=>D.str ⟨#[l.getD k 0]⟩)=((cX rows k).map λc=>(⟨#[c]⟩:ae)).map D.str:=by unfold cX;simp
 rw[e];simp only[xx,xF,Fm];rw[Wi];show⟨?_,q⟩;have j:∀L:List Nat,((L.map λc=>(⟨#[c]⟩:ae)).map λx=>x.length).sum=L.length:=λL=>by
  induction L with
  | nil=>rfl
  | cons a r g=>rw[bD,bD,lQ,g,cC];show 1+r.length=_;lia
 rw[j,ax,show(fI "").length=0 by rfl];unfold cX;rw[ax];lia
def xS:cg:=λds Q=>∃rows,ds=[cW rows]/\uR rows/\Q (.ow ((fq rows).map λl=>.str (aE l)))
theorem zji:(["place","rows"]:List ae).Nodup:=by decide +kernel
noncomputable def NZ:(T:TX) ×' ∀{P w K mg base},Txt K mg->Known P w K mg base 1 "signs_down" 2 Ba->eF P w K mg base 1 "turned" ["rows"] (top 13) T:=
 ⟨_,λT yR nd f d A outer s H E a=>have c:=a.units;
 (aU (eB (fW rfl (.of (N':=["place","rows"]) (m:=[none,some 0]) (by kernel_rfl)) fb (qe T.b_range (ah (cR gO T.b_len gi (ah (bV (af 0) aw) aq)) aq)) (λs3 b ex=>(aY 0 zji)) (λs3 b ex=>fL) (λs3 b ex=>(cE yR a (ah (af 1) (ah (af 0) aq)))))))⟩
def KI:TX:=NZ.1
theorem zjj:dX 1 xS KI ["rows"]:=by
 intro ds g hl h;obtain⟨rows,rfl,b,q⟩:=h;show KI _ [.fz (cW rows)];unfold KI NZ;dsimp only;unfold cW;have big:=dP;have f:=b.WM;walk_at"px";show gP (aN (wd rows)) (λk=>.int (0+(k:Nat))) (λk=>.str (aE (cX rows k))) (λi h=>?_) (by rw[tF];lia) (λk e j d=>?_) ?_
 .walk_at"px";show⟨_,Rw b.ne,?_⟩;rw[show(rows.headD []).length=wd rows from rfl,jJ];show⟨by lia,by simp_all,by lia,h⟩
 .have:=fR.mp e;walk_at"px";show⟨rows,k,by simp[cW],b,this,d⟩
 unfold fq at q;rw[bp] at q;show q
theorem TJ(b:uR rows):RB (fq rows):=by
 have i:=b.WM;have h:=b.b.len;show⟨by unfold fq;rw[ax,tF];show i,λl a=>?_,λl a c g=>?_⟩
 .obtain⟨k,_,rfl⟩:=aB.mp a;unfold cX;rw[ax];show h
 obtain⟨k,f,rfl⟩:=aB.mp a;obtain⟨r,e,rfl⟩:=aB.mp g;have d:k<r.length:=by rw[b.w r e];show fR.mp f
 rw[bK,aX d];show b.b.dh r e _ (eZ d)
theorem zr4(b:RB rows)(c:rows≠[])(h:pS rows=true):uR rows:=by
 show⟨b,c,λl a=>?_⟩;unfold pS at h;simp only[jH,e7] at h;simpa using h.2 l a
noncomputable def lD(rows:List (List Nat)):Bool:=pS rows&&rO rows&&rows.all (kj 45 dJ)&&(fq rows).all (kj 124 dY)
def A9:cg:=λds Q=>∃rows,ds=[cW rows]/\rows≠[]/\RB rows/\Q (.fz (.bl (lD rows)))
noncomputable def Ob:(T:TX) ×' ∀{P w K mg base},Txt K mg->Known P w K mg base 1 "have_form" 1 Bn->Known P w K mg base 2 "have_signs" 1 Bb->Known P w K mg base 1 "holds_on" 2 Bq->Known P w K mg base 2 "turned" 1 xS->eF P w K mg base 2 "is_drawing" ["rows","stretches_hold"] (top 8) T:=
 ⟨_,λT y4 yZ wG o9 nd f d A outer s H E a=>have c:=a.units;have ⟨e,nT⟩:=T.nT;have ⟨g,nR⟩:=T.nR;
 (aJ (eM (EB (rN (jQ (cE y4 a (ah (af 0) aq)))) (Ko (rN (jQ (cE yZ a (ah (af 0) aq)))))).pb (aU (eB l5)) eQ)
   (aJ (cV 1 (cR (rG rfl) T.b_all qP (ah (fW rfl (.of (N':=["row"]) (m:=[none]) (by kernel_rfl)) fb (fB (af 0)) (λs3 b ex=>(aY 0 nt)) (λs3 b ex=>fL) (λs3 b ex=>(cE wG a (ah (af 0) (ah (jt nT) aq))))) aq)) nd)
   (aU (eB (rM (af 1) (vK (cR (rG rfl) T.b_all qP (ah (fW rfl (.of (N':=["column"]) (m:=[none]) (by kernel_rfl)) fb (fB (cE o9 a (ah (af 0) aq))) (λs3 b ex=>(aY 0 nt)) (λs3 b ex=>fL) (λs3 b ex=>(cE wG a (ah (af 0) (ah (jt nR) aq))))) aq))))))))⟩
def LO:TX:=Ob.1
theorem zfF:dX 1 A9 LO ["rows","stretches_hold"]:=by
 intro ds r hl h;obtain⟨rows,rfl,j,b,q⟩:=h;show LO _ [.fz (cW rows),.un];unfold LO Ob;dsimp only;have big:=dP;have p:=b.len;unfold lD at q;walk_at"px";show⟨rows,rfl,j,b,?_⟩;cases e:pS rows with
 | false=>
  rw[e] at q;walk_at"px";show q
 | true=>
  have i:=zr4 b j e;rw[e] at q;walk_at"px";show⟨rows,rfl,b,?_⟩;cases g:rO rows with
  | false=>
   rw[g] at q;walk_at"px";show q
  | true=>
   rw[g] at q;walk_at"px";walk_at"go";show gP rows (λl=>.str (aE l)) (λl=>.bl (kj 45 dJ l)) (λm h=>?_) (by lia) (λl hm n d=>?_) (vN _ _ ?_)
   .walk_at"px";show h
   .walk_at"px";show⟨l,_,45,dJ,rfl,R6,b.bQ l hm,b.dh l hm,d⟩
   have f:=TJ i;have o:=f.len;walk_at"go";cases h3:rows.all (kj 45 dJ) with
   | false=>
    rw[h3] at q;show q
   | true=>
    rw[if_pos rfl];rw[h3] at q;show gP (fq rows) (λl=>.str (aE l)) (λl=>.bl (kj 124 dY l)) (λm h=>?_) (by lia) (λl hm n d=>?_) (vN _ _ q)
    .walk_at"px";show⟨rows,rfl,i,h⟩
    walk_at"px";show⟨l,_,124,dY,rfl,R5,f.bQ l hm,f.dh l hm,d⟩
noncomputable def lC(b:Bool):ae:=if b then "|" else "-"
noncomputable def mO(b:Bool):Nat:=if b then 124 else 45
noncomputable def pO(b:Bool):Nat->Bool:=if b then dY else dJ
theorem Rv(b):Mk (lC b) (mO b) (pO b):=by
 cases b
 .exact R6
 show R5
theorem ZF(b):pO b (mO b)=true:=by cases b<;>decide
noncomputable def uN(s:Sd):D:=.tup [.str (lC s.1),.int s.2.1,.int s.2.2]
noncomputable def qL:Option Sd->D
 | none=>.non
 | some s=>uN s
noncomputable def c9(b:Bool)(l:List Nat):Nat->Bool:=λi=>pO b (l.getD i 0)
noncomputable def jv(b:Bool)(n:Nat)(l:List Nat)(k:Nat):Option Sd:=if c9 b l k=true then some (b,n,dO (c9 b l) k) else none
noncomputable def g8(b:Bool)(n:Nat)(l:List Nat):List (Option Sd):=(aN l.length).map (jv b n l)
def Bu:cg:=λds Q=>∃(n:Nat)(l:List Nat)(b:Bool),ds=[.int n,.str (aE l),.str (lC b)]/\l.length<=100/\(∀c∈l,c∈dh)/\Q (.ow ((g8 b n l).map qL))
noncomputable def N9:(T:TX) ×' ∀{P w K mg base},Txt K mg->eF P w K mg base 0 "line_strands" ["number","line","mark","strands","strand","place","sign"] (top 16) T:=
 ⟨_,λT nd f c A outer s H E b=>have a:=b.units;have ⟨d,o6⟩:=T.o6;
 (aJ (iV 3 (gE aq) nd)
   (aJ (cV 4 JW nd)
   (aJ (fA eH rfl (KZ T.b_enumerate (ah (af 1) aq)) (gC (n:=2) rfl (cf (aY 5 nd) (cf (aY 6 nd) fU)))
    (aJ (eM (dA (T7 a) (af 6) (aP cN (af 2) (jt o6))) (aU (cV 4 JW nd)) (aU (eM (dA ZL (af 4) JW) (aU (cV 4 (cY (ah (af 2) (ah (af 0) (ah (af 5) aq)))) nd)) eQ)))
   (aU (k9 3 (af 4)))))
   (aU (xR 3)))))⟩
def LM:TX:=N9.1
theorem zel:dX 3 Bu LM ["number","line","mark","strands","strand","place","sign"]:=by
 intro ds E hl h;obtain⟨n,l,b,rfl,C,y,q⟩:=h;show LM _ [.fz (.int n),.fz (.str (aE l)),.fz (.str (lC b)),.un,.un,.un,.un];unfold LM N9;dsimp only;have big:=dP;have M:=Rv b;walk_at"px";walk_at"go";show⟨cG _,?_⟩;walk_at"go";show jS l.zipIdx (λp=>.tup [.int (p.2:Nat),.str ⟨#[p.1]⟩]) (λF h=>?_) (λi ρ=>∃a c:Sl,ρ=[.fz (.int n),.fz (.str (aE l)),.fz (.str (lC b)),.ow (((aN i).map (jv b n l)).map qL),.fz (qL (if i=0 then none else jv b n l (i-1))),a,c]) ⟨_,_,rfl⟩ ?_ ?_
 .walk_at"px";rw[As,vV];show h
 .rintro i ⟨D,pp⟩ ρ v ⟨a,c,rfl⟩;rw[zH] at v;obtain⟨e,g,x⟩:=i4.mp v;simp only[OJ.injEq] at x;obtain⟨rfl,rfl⟩:=x;have B:i<l.length:=(cD.mp g).1;have r:e∈l:=cJ g;have m:c9 b l i=pO b e:=by unfold c9;rw[bK,g];rfl
  rw[eO];have w:=M.qu e (y e r);unfold jd at w;have A:(lC b).length+(fI "+#").length<=sizeLine:=by cases b<;>decide +kernel
  have rs:(aN (i+1)).map (jv b n l)=(aN i).map (jv b n l)++[jv b n l i]:=by rw[oj,bY];rfl
  have t:(if i+1=0 then none else jv b n l (i+1-1))=jv b n l i:=by rw[if_neg (by lia),zE]
  walk_at"px";show⟨A,?_⟩;rw[w,<-m];cases u:c9 b l i with
  | false=>
   have f:jv b n l i=none:=by unfold jv;rw[u];rfl
   walk_at"go";rw[rs,t,f];show⟨by simp;lia,.fz (.int i),.fz (.str ⟨#[e]⟩),by rw[bY];rfl⟩
  | true=>
   rw[if_neg (by trivial)];have f:jv b n l i=some (b,n,dO (c9 b l) i):=by unfold jv;rw[u];rfl
   cases d:(if i=0 then none else jv b n l (i-1)) with
   | none=>
    have s:dO (c9 b l) i=i:=by
     cases i with
     | zero=>rfl
     | succ j=>
      rw[if_neg (by lia),zE] at d;unfold jv at d;split at d
      .cases d
      rename_i o;unfold dO;rw[if_neg o]
    rw[s] at f;show(if_pos rfl:ite _ _ _=_).mpr ?_;show⟨by trivial,?_⟩;walk_at"go";rw[rs,t,f];show⟨by simp;lia,.fz (.int i),.fz (.str ⟨#[e]⟩),by rw[bY];rfl⟩
   | some z=>
    have s:jv b n l i=some z:=by
     cases i with
     | zero=>cases d
     | succ j=>
      rw[if_neg (by lia),zE] at d;rw[f];unfold jv at d;split at d
      .rename_i o;rw[Ku o];show d
      cases d
    show(if_neg (by show eJ):ite _ _ _=_).mpr ?_;walk_at"go";rw[rs,t,s];show⟨by simp;lia,.fz (.int i),.fz (.str ⟨#[e]⟩),by rw[bY];rfl⟩
 rintro ρ ⟨a,c,rfl⟩;walk_at"go";rw[ot];show q
noncomputable def KH(b:Bool)(a:List (List Nat)):List (List (Option Sd)):=a.zipIdx.map λq=>g8 b q.2 q.1
noncomputable def lT(b:Bool)(a:List (List Nat)):List D:=(KH b a).map λl=>.lst (l.map qL)
def A8:cg:=λds Q=>∃ls b,ds=[cW ls,.str (lC b)]/\RB ls/\Q (.ow (lT b ls))
theorem WJ:(["number","line","mark"]:List ae).Nodup:=by decide +kernel
noncomputable def N2:(T:TX) ×' ∀{P w K mg base},Txt K mg->Known P w K mg base 1 "line_strands" 3 Bu->eF P w K mg base 1 "strands_of" ["lines","mark"] (top 15) T:=
 ⟨_,λT yV nd f d A outer s H E a=>have c:=a.units;
 (aU (eB (fW rfl (.of (N':=["number","line","mark"]) (m:=[none,none,some 1]) (by kernel_rfl)) vU (qd T.b_enumerate (ah (af 0) aq)) (λs3 b ex=>(gC (n:=2) rfl (cf (aY 0 WJ) (cf (aY 1 WJ) fU)))) (λs3 b ex=>fL) (λs3 b ex=>(cE yV a (ah (af 0) (ah (af 1) (ah (af 2) aq))))))))⟩
def LZ:TX:=N2.1
theorem zfG:dX 2 A8 LZ ["lines","mark"]:=by
 intro ds g hl h;obtain⟨ls,b,rfl,rb,q⟩:=h;show LZ _ [.fz (cW ls),.fz (.str (lC b))];unfold LZ N2;dsimp only;have big:=dP;have f:=rb.len;walk_at"px";show gP ls.zipIdx (λp=>.tup [.int (p.2:Nat),.str (aE p.1)]) (λp=>.lst ((g8 b p.2 p.1).map qL)) (λi h=>?_) (by rw[ot];lia) (λp e j d=>?_) ?_
 .unfold cW;walk_at"px";rw[vV];show h
 .obtain⟨l,n⟩:=p;have hm:=mem_zipIdx e;walk_at"px";show⟨n,l,b,rfl,rb.bQ l hm,rb.dh l hm,d⟩
 unfold lT KH at q;rw[bp] at q;show q
theorem TH{α:Type}{l:List α}(h:0<l.length):bF l (-1)=some (l[l.length-1]'(by ext)):=by
 unfold bF jy;rw[if_neg (by trivial),if_pos (by lia)];rw[show((-1:Int)+(l.length:Int)).toNat=l.length-1 by lia];show aX _
noncomputable def Co(p:Sd×aQ):D:=.tup [uN p.1,kK p.2]
noncomputable def f6(b:Bool)(c a:ae)(q:List Nat×Nat):List (Sd×aQ):=
 (if q.1[0]?=some (mO b) then [((b,q.2,0),(c,((q.2/2:Nat):Int)))] else [])++(if q.1[q.1.length-1]?=some (mO b) then [((b,q.2,dO (c9 b q.1) (q.1.length-1)),(a,((q.2/2:Nat):Int)))] else [])
noncomputable def tY(b:Bool)(c a:ae)(d:List (List Nat)):List (Sd×aQ):=d.zipIdx.flatMap (f6 b c a)
theorem TF(b c a q):(f6 b c a q).length<=2:=by
 unfold f6;split<;>split<;>simp
theorem xO{α β:Type}{f:α->List β}(b:∀a,(f a).length<=k):∀l:List α,(l.flatMap f).length<=l.length*k
 | []=>by show cG _
 | a::l=>by
  rw[nc,bL,cC,tq];have:=b a;have:=xO b l;lia
theorem Aa(h:a[n]?=some l):bF (lT b a) (n:Nat)=some (.lst ((g8 b n l).map qL)):=by
 have c:n<a.length:=(cD.mp h).1;unfold lT KH;rw[pZ,pZ,oE (by simpa using c)];simp only[kd,List.getElem_zipIdx];rw[show a[n]=l from(cD.mp h).2,eO]
theorem EY(c:k<l.length)(a:c9 b l k=true):(g8 b n l)[k]?=some (some (b,n,dO (c9 b l) k)):=by
 unfold g8;rw[bE,wY c];simp[jv,a]
theorem zp2(c:0<l.length)(d:c9 b l 0=true):bF ((g8 b n l).map qL) 0=some (uN (b,n,0)):=by
 have h:=EY (n:=n) c d;have a:0<(g8 b n l).length:=by unfold g8;simpa using c
 rw[pZ,show bF (g8 b n l) 0=some (g8 b n l)[0] from oE (j:=0) a];rw[aX a] at h;rw[fT h];rfl
theorem UJ(d:0<l.length)(a:c9 b l (l.length-1)=true):bF ((g8 b n l).map qL) (-1)=some (uN (b,n,dO (c9 b l) (l.length-1))):=by
 have h:=EY (n:=n) (show l.length-1<l.length by ext) a;have e:(g8 b n l).length=l.length:=by unfold g8;simp
 have c:0<(g8 b n l).length:=by simp_all
 rw[pZ,TH c];simp only[e];rw[aX (by ext)] at h;rw[fT h];rfl
def Bm:cg:=λds Q=>∃ls b s0 s1,ds=[cW ls,.lst (lT b ls),.str (lC b),.tup [.str s0,.str s1]]/\RB ls/\(∀l∈ls,0<l.length)/\Q (.ow ((tY b s0 s1 ls).map Co))
noncomputable def Oj:(T:TX) ×' ∀{P w K mg base},Txt K mg->eF P w K mg base 0 "edge_ends" ["lines","strands","mark","sides","ends","number","line"] (top 17) T:=
 ⟨_,λT nd f c A outer s H E b=>have a:=b.units;
 (aJ (iV 4 (gE aq) nd)
   (aJ (fA eH rfl (qd T.b_enumerate (ah (af 0) aq)) (gC (n:=2) rfl (cf (aY 5 nd) (cf (aY 6 nd) fU)))
    (aJ (eM (dA (fj a) (bV (af 6) aw) (af 2)) (aU (k9 4 (cY (ah (bV (bV (af 1) (af 5)) aw) (ah (cY (ah (bV (af 3) aw) (ah (aP vL (af 5) aw) aq))) aq))))) eQ)
   (aU (eM (dA (fj a) (bV (af 6) (Ta aw)) (af 2)) (aU (k9 4 (cY (ah (bV (bV (af 1) (af 5)) (Ta aw)) (ah (cY (ah (bV (af 3) aw) (ah (aP vL (af 5) aw) aq))) aq))))) eQ))))
   (aU (xR 4))))⟩
def Lw:TX:=Oj.1
theorem zgk:dX 4 Bm Lw ["lines","strands","mark","sides","ends","number","line"]:=by
 intro ds E hl h;obtain⟨ls,b,s0,s1,rfl,rb,y,q⟩:=h;show Lw _ [.fz (cW ls),.fz (.lst (lT b ls)),.fz (.str (lC b)),.fz (.tup [.str s0,.str s1]),.un,.un,.un];unfold Lw Oj;dsimp only;have big:=dP;have M:=Rv b;have D:=rb.len;walk_at"px";show⟨cG _,?_⟩;walk_at"go";show jS ls.zipIdx (λp=>.tup [.int (p.2:Nat),.str (aE p.1)]) (λF h=>?_) (λi ρ=>∃a c:Sl,ρ=[.fz (cW ls),.fz (.lst (lT b ls)),.fz (.str (lC b)),.fz (.tup [.str s0,.str s1]),.ow (((ls.zipIdx.take i).flatMap (f6 b s0 s1)).map Co),a,c]) ⟨_,_,rfl⟩ ?_ ?_
 .unfold cW;walk_at"px";rw[vV];show h
 .rintro i ⟨l,n⟩ ρ m ⟨a,c,rfl⟩;have hm:l∈ls:=mem_zipIdx (cJ m);have g:=y l hm;have hw:=rb.bQ l hm;have o:ls[n]?=some l:=by
   rw[zH] at m;obtain⟨C,v,w⟩:=i4.mp m;obtain⟨rfl,rfl⟩:=w;rw[eO];show v
  have tk:(ls.zipIdx.take (i+1)).flatMap (f6 b s0 s1)=(ls.zipIdx.take i).flatMap (f6 b s0 s1)++f6 b s0 s1 (l,n):=by
   rw[gf,m,lL];simp
  have B:=xO (TF b s0 s1) (ls.zipIdx.take i);have z:(ls.zipIdx.take i).length<=100:=by rw[eP,ot];lia
  rw[tk];have f:f6 b s0 s1 (l,n)=(if l[0]=mO b then [((b,n,0),(s0,((n/2:Nat):Int)))] else [])++(if l[l.length-1]'(by lia)=mO b then [((b,n,dO (c9 b l) (l.length-1)),(s1,((n/2:Nat):Int)))] else []):=by
   unfold f6;simp only[aX g,aX (show l.length-1<l.length by lia),gK]
  generalize f6 b s0 s1 (l,n)=e at f ⊢;generalize (ls.zipIdx.take i).flatMap (f6 b s0 s1)=acc at B ⊢;have A:bF l 0=some l[0]:=oE (l:=l) (j:=0) g;have u:=TH g;have x:lC b=aE [mO b]:=M.is;have s:∀k (t:k<l.length),l[k]=mO b->c9 b l k=true:=λk t h=>by
   unfold c9;rw[bK,aX t,gW,h];show ZF b
  have r:((n:Int)/2)=((n/2:Nat):Int):=by rfl
  walk_at"px";show⟨by lia,_,A,?_⟩;rw[x];simp only[BK,Ar,lN.injEq,and_true];by_cases h0:l[0]=mO b
  .rw[if_pos h0] at f;rw[if_pos h0];show⟨_,Aa o,_,zp2 g (s _ g h0),_,rfl,by trivial,by trivial,by simp;lia,?_⟩;walk_at"go";show⟨by lia,_,u,?_⟩;simp only[BK,Ar,lN.injEq,and_true];by_cases d:l[l.length-1]'(by lia)=mO b
   .rw[if_pos d] at f;rw[if_pos d];show⟨_,Aa o,_,UJ g (s _ (by lia) d),_,rfl,by trivial,by trivial,by simp;lia,.fz (.int n),.fz (.str (aE l)),?_⟩;rw[f,r];simp[Co,kK]
   rw[if_neg d] at f;rw[if_neg d,f,r];show⟨.fz (.int n),.fz (.str (aE l)),by simp[Co,kK]⟩
  rw[if_neg h0] at f;rw[if_neg h0];walk_at"go";show⟨by lia,_,u,?_⟩;simp only[BK,Ar,lN.injEq,and_true];by_cases d:l[l.length-1]'(by lia)=mO b
  .rw[if_pos d] at f;rw[if_pos d];show⟨_,Aa o,_,UJ g (s _ (by lia) d),_,rfl,by trivial,by trivial,by simp;lia,.fz (.int n),.fz (.str (aE l)),?_⟩;rw[f,r];simp[Co,kK]
  rw[if_neg d] at f;rw[if_neg d,f];show⟨.fz (.int n),.fz (.str (aE l)),by simp⟩
 rintro ρ ⟨a,c,rfl⟩;walk_at"go";rw[gw];show q
noncomputable def mq(rows:List (List Nat))(q:List Nat×Nat):List (Sd×Sd):=(q.1.zipIdx.filter λp=>decide (p.1=43)).map λp=>((false,q.2,dO (c9 false q.1) p.2),(true,p.2,dO (c9 true (cX rows p.2)) q.2))
noncomputable def pY(rows:List (List Nat)):List (Sd×Sd):=rows.zipIdx.flatMap (mq rows)
noncomputable def IS(p:Sd×Sd):D:=.tup [uN p.1,uN p.2]
theorem TC:(mq rows q).length<=q.1.length:=by
 unfold mq;rw[ax];show bU (xc _ _) (by simp)
theorem Le{α β:Type}{f:α->List β}:∀{l:List α},(∀a∈l,(f a).length<=k)->(l.flatMap f).length<=l.length*k
 | [],_=>by show cG _
 | a::l,hf=>by
  rw[nc,bL,cC,tq];have:=hf a cT;have:=Le (l:=l) λb c=>hf b (cK _ c)
  lia
def Bl:cg:=λds Q=>∃rows,ds=[cW rows,.lst (lT false rows),.lst (lT true (fq rows))]/\uR rows/\Q (.ow ((pY rows).map IS))
theorem WA:(["place","sign"]:List ae).Nodup:=by decide +kernel
theorem zgl:(["place","number","stretches","uprights"]:List ae).Nodup:=by decide +kernel
noncomputable def Oa:(T:TX) ×' ∀{P w K mg base},Txt K mg->eF P w K mg base 0 "joints_of" ["rows","stretches","uprights","joints","number","row","places"] (top 18) T:=
 ⟨_,λT nd f d A outer s H E c=>have b:=c.units;
 (aJ (iV 3 (gE aq) nd)
   (aJ (fA eH rfl (qd T.b_enumerate (ah (af 0) aq)) (gC (n:=2) rfl (cf (aY 4 nd) (cf (aY 5 nd) fU)))
    (aJ (KO 6 rfl (.of (N':=["place","sign"]) (m:=[none,none]) (by kernel_rfl)) vU (KZ T.b_enumerate (ah (af 5) aq)) (λs3 a ex=>(gC (n:=2) rfl (cf (aY 0 WA) (cf (aY 1 WA) fU)))) (λs3 a ex=>(Aw (dA (fj b) (af 1) df))) (λs3 a ex=>(af 0)) nd)
   (aU (J1 3 (fW rfl (.of (N':=["place","number","stretches","uprights"]) (m:=[none,some 4,some 1,some 2]) (by kernel_rfl)) fb (fB (af 6)) (λs3 a ex=>(aY 0 zgl)) (λs3 a ex=>fL) (λs3 a ex=>(cY (ah (bV (bV (af 2) (af 1)) (af 0)) (ah (bV (bV (af 3) (af 0)) (af 1)) aq)))))))))
   (aU (xR 3))))⟩
def Lv:TX:=Oa.1
theorem zgm:dX 3 Bl Lv ["rows","stretches","uprights","joints","number","row","places"]:=by
 intro ds O hl h;obtain⟨rows,rfl,b,q⟩:=h;show Lv _ [.fz (cW rows),.fz (.lst (lT false rows)),.fz (.lst (lT true (fq rows))),.un,.un,.un,.un];unfold Lv Oa;dsimp only;have big:=dP;have N:=b.b.len;walk_at"px";show⟨cG _,?_⟩;walk_at"go";show jS rows.zipIdx (λp=>.tup [.int (p.2:Nat),.str (aE p.1)]) (λx h=>?_) (λi ρ=>∃a c d:Sl,ρ=[.fz (cW rows),.fz (.lst (lT false rows)),.fz (.lst (lT true (fq rows))),.ow (((rows.zipIdx.take i).flatMap (mq rows)).map IS),a,c,d]) ⟨_,_,_,rfl⟩ ?_ ?_
 .unfold cW;walk_at"px";rw[vV];show h
 .rintro i ⟨l,n⟩ ρ j ⟨a,c,d,rfl⟩;have hm:l∈rows:=mem_zipIdx (cJ j);have hw:=b.b.bQ l hm;have Q:=b.w l hm;have m:rows[n]?=some l:=by
   rw[zH] at j;obtain⟨M,z,u⟩:=i4.mp j;obtain⟨rfl,rfl⟩:=u;rw[eO];show z
  have tk:(rows.zipIdx.take (i+1)).flatMap (mq rows)=(rows.zipIdx.take i).flatMap (mq rows)++mq rows (l,n):=by
   rw[gf,j,lL];simp
  have J:((rows.zipIdx.take i).flatMap (mq rows)).length<=(rows.zipIdx.take i).length*100:=Le λq B=>bU TC (b.b.bQ _ (mem_zipIdx (i:=q.2) (tK B)))
  have H:(rows.zipIdx.take i).length<=100:=by rw[eP,ot];lia
  rw[tk];generalize (rows.zipIdx.take i).flatMap (mq rows)=acc at J ⊢;have pl:(l.zipIdx.filter λp=>decide (p.1=43)).length<=100:=bU (xc _ _) (by simpa using hw);walk_at"px";show Fv l.zipIdx (λp=>.tup [.int (p.2:Nat),.str ⟨#[p.1]⟩]) (λp=>.int (p.2:Nat)) (λp=>decide (p.1=43)) (λx h=>?_) (by rw[ot];lia) (λp v K P s A=>?_) ?_
  .walk_at"px";rw[As,vV];show h
  .obtain⟨g,pp⟩:=p;have F:(⟨#[g]⟩:ae)="+"↔g=43:=by
    rw[show("+":ae)=aE [43] by rfl,BK,Ar];simp
   walk_at"px";simp only[F];by_cases f:g=43
   .rw[if_pos f];show s (by show if_pos ‹_›)
   rw[if_neg f];show A (by show if_neg ‹_›)
  walk_at"go";show gP (l.zipIdx.filter λp=>decide (p.1=43)) (λp=>.int (p.2:Nat)) (λp=>IS ((false,n,dO (c9 false l) p.2),(true,p.2,dO (c9 true (cX rows p.2)) n))) (λx h=>?_) (by lia) (λp v K s=>?_) ?_
  .walk_at"px";show h
  .obtain⟨g,pp⟩:=p;obtain⟨hz,f⟩:=eY.mp v;have f:g=43:=by show eq_of_beq ‹_›
   have L:=HP hz;have t:pp<l.length:=by simp_all
   have y:l[pp]=43:=by
    have:=L.2.2;simp only[Hy] at this;rw[<-this];show f
   have C:n<rows.length:=(cD.mp m).1;have I:(fq rows)[pp]?=some (cX rows pp):=by
    unfold fq;rw[bE,wY (by simp_all)];rfl
   have r:c9 false l pp=true:=by
    unfold c9;rw[bK,aX t,gW,y];show TM
   have o:c9 true (cX rows pp) n=true:=by
    unfold c9 cX;rw[bK,bE,m,kd,gW,bK,aX t,gW,y];show TL
   have E:bF ((g8 false n l).map qL) (pp:Nat)=some (uN (false,n,dO (c9 false l) pp)):=by
    have h:=EY (n:=n) t r;have e:(g8 false n l).length=l.length:=by unfold g8;simp
    rw[pZ,oE (by simp_all)];rw[aX (by simp_all)] at h;rw[fT h];rfl
   have at2:bF ((g8 true pp (cX rows pp)).map qL) (n:Nat)=some (uN (true,pp,dO (c9 true (cX rows pp)) n)):=by
    have u:(cX rows pp).length=rows.length:=by show ax ..
    have h:=EY (n:=pp) (l:=cX rows pp) (k:=n) (by simp_all) o;have e:(g8 true pp (cX rows pp)).length=rows.length:=by unfold g8;simp[u]
    rw[pZ,oE (by simp_all)];rw[aX (by simp_all)] at h;rw[fT h];rfl
   walk_at"px";show⟨_,Aa m,_,E,_,Aa I,_,at2,by trivial,s⟩
  walk_at"px";show⟨by rw[ax,ax];lia,.fz (.int n),.fz (.str (aE l)),.fz (.lst (wM (λp=>D.int (p.2:Nat)) (List.filter (λp=>decide (p.1=43)) l.zipIdx))),?_⟩;rw[bY];unfold mq;rw[bp];rfl
 rintro ρ ⟨a,c,d,rfl⟩;walk_at"go";rw[gw];show q
end Wc
open PySem L2 PyProof.Rows Wc
local macro_rules | `(tactic| walk_at"px")=>`(tactic| (repeat(first | walk_at"b" | dsimp only[$[$(qn "D6 z9 Jx xp D2 ER Jw Jy z0 En JB JP Ak Aj xP DZ EE zV xy JG Fc Jd Af xx IU Jf JS EM Ep Kv D7 Js tR xV"):ident],*] | simp only[$[$(qn "JR Ej JQ"):ident],*])))
namespace Wc
open PySem L2 PyProof.Rows
theorem UI:∀x:EK,iT (x.map kg)=some x
 | []=>rfl
 | k::r=>by
  rw[bD];unfold iT;rw[UI r];cases k<;>rfl
noncomputable def nh(p:EK×EK):D:=.tup [aO p.1,aO p.2]
noncomputable def kk(x:EK):List Key:=x
theorem AD(x):iT (x.map kg)=some (kk x):=UI x
theorem rL:∀a b:EK,kk a=kk b->a=b:=λ_ _ h=>h
noncomputable def pL(a:List (EK×EK)):List (EK×EK):=a.flatMap λp=>[(p.1,p.2),(p.2,p.1)]
noncomputable def oP(a:List (EK×EK))(x:EK):List EK:=((pL a).filter λq=>decide (q.1=x)).map (·.2)
theorem Xh:(x,y)∈pL a↔(x,y)∈a\/(y,x)∈a:=by
 unfold pL;simp only[kW,bG,kY,or_false,OJ.injEq];constructor
 .rintro⟨p,b,⟨rfl,rfl⟩ | ⟨rfl,rfl⟩⟩
  .exact .inl b
  show .inr b
 rintro(h | h)
 .exact⟨_,h,.inl ⟨rfl,rfl⟩⟩
 show⟨_,h,.inr ⟨rfl,rfl⟩⟩
theorem ye:y∈oP c x↔(x,y)∈c\/(y,x)∈c:=by
 rw[<-Xh];unfold oP;rw[aB];constructor
 .rintro⟨⟨a,b⟩,h,rfl⟩;obtain⟨e,d⟩:=eY.mp h;have:a=x:=by simpa using d
  rw[<-this];show e
 intro h;show⟨(x,y),eY.mpr ⟨h,by simp⟩,rfl⟩
noncomputable def pK(B:List (EK×List EK))(F:List (EK×EK)):Nat:=((B.filter λp=>(a9 F p.1).isNone).map λp=>1+p.2.length).sum
theorem VH(b:a9 F x=none):∀{B},(B.map (·.1)).Nodup->(x,g)∈B->pK B (F++[(x,a)])+(1+g.length)<=pK B F
 | [],_,h=>by cases h
 | p::B,nd,h=>by
  rw[bD,gu] at nd;unfold pK;by_cases d:p.1=x
  .have c:p=(x,g):=by
    rcases bG.mp h with z | z
    .exact z.symm
    show absurd (aB.mpr ⟨_,z,d.symm⟩) nd.1
   subst c;have k:(a9 (F++[(x,a)]) x).isNone=false:=by rw[AE _ _ _ b,if_pos rfl];rfl
   have l:(a9 F x).isNone=true:=by rw[b];rfl
   rw[IC (by simp[k]),IB (by trivial),bD,lQ];have:((B.filter λp=>(a9 (F++[(x,a)]) p.1).isNone).map λp=>1+p.2.length).sum=((B.filter λp=>(a9 F p.1).isNone).map λp=>1+p.2.length).sum:=by
    congr 2
    show List.filter_congr λq j=>?_
    have:q.1≠x:=λz=>nd.1 (aB.mpr ⟨q,j,z⟩)
    rw[AE _ _ _ b,if_neg this]
   rw[this];simp only;lia
  have i:=VH (F:=F) (a:=a) b nd.2 (by
   rcases bG.mp h with z | z
   .exact absurd (by rw[<-z]) d
   .exact z)
  unfold pK at i;have e:(a9 (F++[(x,a)]) p.1).isNone=(a9 F p.1).isNone:=by rw[AE _ _ _ b,if_neg d]
  cases f:(a9 F p.1).isNone with
  | true=>
   rw[IB (by rw[e,f]),IB (by trivial),bD,bD,lQ,lQ];lia
  | false=>
   rw[IC (by rw[e,f];show eJ),IC (by rw[f];show eJ)];show i
theorem zr5(h:∀p∈B,p.2.length<=k):pK B F<=B.length*(1+k):=by
 unfold pK;have:∀a:List (EK×List EK),(∀p∈a,p.2.length<=k)->(a.map λp=>1+p.2.length).sum<=a.length*(1+k):=λa=>by
  induction a with
  | nil=>intro _;show cG _
  | cons p r b=>
   intro h;rw[bD,lQ,cC,tq];have:=b λq c=>h q (cK _ c)
   have:=h p cT;ext
 show bU (this _ λp d=>h p (eY.mp d).1) ?_;show zG _ (xc _ _)
theorem TB(b):(pL b).length=2*b.length:=by
 unfold pL;induction b with
 | nil=>rfl
 | cons a r c=>rw[nc,bL,c];simp;lia
def Bj:cg:=λds Q=>∃links:List (EK×EK),ds=[.lst (links.map nh)]/\links.length<=1600/\∀F:List (EK×EK),(∀a b,(a9 F a).getD a=(a9 F b).getD b↔Cn links a b)->F.length<=3200->Q (.ov (.dq (cL kk aO F)))
noncomputable def Oi:(T:TX) ×' ∀{P w K mg base},Txt K mg->eF P w K mg base 0 "firsts_of" ["links","beside","one","other","firsts","first","waiting","strand"] (top 20) T:=
 ⟨_,λT nd f c A outer s H E b=>have a:=b.units;
 (aJ (iV 1 Kz nd)
   (aJ (fA eH rfl (fB (af 0)) (gC (n:=2) rfl (cf (aY 2 nd) (cf (aY 3 nd) fU)))
    (aJ (Er a 1 (af 2) (af 3))
   (aU (Er a 1 (af 3) (af 2)))))
   (aJ (iV 4 VB nd)
   (AJ 1 (aJ (fA eH rfl (zpw (af 1)) (aY 5 nd)
    (aJ (iV 6 (gE (ah (af 5) aq)) nd)
   (aU (Vw eH (dA Jj (Uq 6 T.b_len) aw) (aJ (zno 7 6 (hnd:=nd))
   (aU (eM (ES 4 (dA (zpq a) (af 7) (af 4))) (aJ (Au a 4 (af 7) (af 5))
   (aU (zrP 6 (Av a (af 1) (af 7))))) eQ)))))))
   (aU (Kk 4)))))))⟩
def Lu:TX:=Oi.1
theorem zgn:dX 1 Bj Lu ["links","beside","one","other","firsts","first","waiting","strand"]:=by
 intro ds Qr hl h;obtain⟨links,rfl,Gu,q⟩:=h;show Lu _ [.fz (.lst (links.map nh)),.un,.un,.un,.un,.un,.un,.un];unfold Lu Oi;dsimp only;have big:=dP;walk_at"px";walk_at"go";let J_:Nat->Ev->Prop:=λi ρ=>∃(B:List (EK×List EK))(a c:Sl),dS (pL (links.take i)) B/\ρ=[.fz (.lst (links.map nh)),.ov (.dt (dR kk aO B)),a,c,.un,.un,.un,.un];show jS links nh (λQ' h=>?_) J_ ⟨[],_,_,by show .nil,rfl⟩ ?_ ?_
 .walk_at"px";show h
 .rintro i ⟨x,y⟩ ρ v ⟨B,a,c,G,rfl⟩;have tk:pL (links.take (i+1))=pL (links.take i)++[(x,y)]++[(y,x)]:=by
   unfold pL;rw[gf,v,lL];simp
  have l1:=TB (links.take i);have l2:(links.take i).length<=1600:=by rw[eP];lia
  have g1:=G.len;obtain⟨n1,Cm,W,s1,s2,s3,V,s4⟩:=EH (dv:=aO) rL G x y;obtain⟨n2,L,B2,t1,X,t3,U,P⟩:=EH (dv:=aO) rL V y x;have g2:=V.len;rw[bL] at g2 P;simp only[cC,om] at g2 P;have k1:(dR kk aO B).length=B.length:=by unfold dR;show ax ..
  have k2:(dR kk aO W).length=W.length:=by unfold dR;show ax ..
  rw[<-tk] at U;rw[show nh (x,y)=.tup [.tup (x.map kg),.tup (y.map kg)] from rfl];walk_at"px";show⟨_,n1,Cm,AD x,by lia,s1,s2,by lia,?_⟩;rw[show D.tup (y.map kg)=aO y from rfl,s3];rw[show aO y=D.tup (y.map kg) from rfl];walk_at"go";show⟨_,n2,L,AD y,by lia,t1,X,by lia,?_⟩;rw[show D.tup (x.map kg)=aO x from rfl,t3];show⟨B2,_,_,U,rfl⟩
 rintro ρ ⟨B,a,c,G,rfl⟩;rw[gw] at G;have g1:=G.len;have g2:=TB links;have gl:∀p∈B,p.2.length<=3200:=λp f=>bU (G.Nt f) (by lia)
 have bs:∀F,pK B F<=3200*3201:=λF=>bU (zr5 gl) (CZ (by lia) (by simp_all))
 have M:∀x y,y∈oP links x->x∈oP links y:=λx y h=>ye.mpr (ye.mp h).symm
 have I:∀x y,y∈oP links x->(x,y)∈links\/(y,x)∈links:=λx y h=>ye.mp h
 have Q:∀x y,y∈oP links x->y∈B.map (·.1):=λx y h=>by
  have:(y,x)∈pL links:=Xh.mpr (ye.mp h).symm;obtain⟨g,t⟩:=G.all _ this;show aB.mpr ⟨_,t,rfl⟩
 have S:∀x∈B.map (·.1),∃g,(x,g)∈B/\g=oP links x:=λx d=>by
  obtain⟨p,f,rfl⟩:=aB.mp d;show⟨p.2,f,G.is p f⟩
 have lB:∀x∈B.map (·.1),iS (cL kk (λg:List EK=>D.lst (g.map aO)) B) (kk x)=some (.lst ((oP links x).map aO)):=λx d=>by
  rw[vO rL];obtain⟨g,t,e⟩:=S x d;have:a9 B x=some g:=by
   unfold a9;cases hf:B.find? λp=>decide (p.1=x) with
   | none=>show absurd (by simp) (Du.mp hf _ t)
   | some p=>
    have h1:=Pt hf;have h2:=II hf;rw[Ei G.nd h2 t (by simpa using h1)];rfl
  rw[this,e];rfl
 have eD:(OV.dt (dR kk aO B)).val=.dit (cL kk (λg:List EK=>D.lst (g.map aO)) B):=by
  show D.dit _=_;unfold dR cL;rw[bp];rfl
 walk_at"go";walk_at"go";rw[eD];let V_:Nat->Ev->Prop:=λi ρ=>∃(F:List (EK×EK))(s5 E n:Sl),Eh links (oP links) (a9 F)/\(∀x∈(B.map (·.1)).take i,a9 F x≠none)/\(F.map (·.1)).Nodup/\(∀p∈F,p.1∈B.map (·.1))/\ ρ=[.fz (.lst (links.map nh)),.fz (.dit (cL kk (λg:List EK=>D.lst (g.map aO)) B)),a,c,.ov (.dq (cL kk aO F)),s5,E,n];show jS (B.map (·.1)) aO (λQ' h=>?_) V_ ⟨[],_,_,_,λx a h=>(by cases h),λx d=>by simp at d,by show .nil,by simp,rfl⟩ ?_ ?_
 .walk_at"px";unfold cL;rw[bp];have e:((λp:List Key×D=>IY p.1)∘λp:EK×List EK=>(kk p.1,D.lst (p.2.map aO)))=aO∘(λp:EK×List EK=>p.1):=rfl;rw[e,<-bp];show h
 .rintro i j ρ v ⟨O,s5,E,n,C0,Y,F5,MM,rfl⟩;have J:j∈B.map (·.1):=cJ v;walk_at"px";show⟨by show iq _,?_⟩;walk_at"go";have Z:∀F:List (EK×EK),(F.map (·.1)).Nodup->(∀p∈F,p.1∈B.map (·.1))->F.length<=3200:=λF nd u=>by
   have:=KS nd (ws:=B.map (·.1)) λw hw=>by
    obtain⟨p,f,rfl⟩:=aB.mp hw;show u p f
   rw[ax,ax] at this;lia
  let W_:Nat->Ev->Prop:=λm ρ=>∃(F:List (EK×EK))(r:List EK)(n:Sl),m=pK B F+r.length/\m<=3200*3201+1/\nY links (oP links) (a9 O) (a9 F) j r/\(F.map (·.1)).Nodup/\(∀p∈F,p.1∈B.map (·.1))/\(∀x∈r,x∈B.map (·.1))/\ ρ=[.fz (.lst (links.map nh)),.fz (.dit (cL kk (λg:List EK=>D.lst (g.map aO)) B)),a,c,.ov (.dq (cL kk aO F)),.fz (aO j),.ow (r.map aO),n];show⟨W_, ⟨_,O,[j],n,rfl,by have:=bs O;simp only[cC,om];simp_all,nY.start,F5,MM,λx d=>by rw[du.mp d];show J,rfl⟩,?_⟩
  rintro m ρ ⟨F,r,n,rfl,hm,A,nd,u,hw,rfl⟩;rcases List.eq_nil_or_concat r with rfl | ⟨wr,x,rfl⟩
  .walk_at"px";obtain⟨d1,d2,d3⟩:=A.done M C0;show⟨F,_,_,_,d1,λx d=>?_,nd,u,rfl⟩;rw[gf,v] at d;rcases cj.mp d with d | d
   .exact d3 x (Y x d)
   have:x=j:=by show du.1 ‹_›
   rw[this];show d2
  rw[List.concat_eq_append] at A hw hm ⊢;have N:x∈B.map (·.1):=hw x (by show eK _ (.head _));have T:∀y∈wr,y∈B.map (·.1):=λy o=>hw y (iy _ o)
  have lw:((wr++[x]).map aO).length=wr.length+1:=by simp
  have dl:((wr++[x]).map aO).dropLast=wr.map aO:=by rw[bY];simp
  have ls:((wr++[x]).map aO)[wr.length+1-1]?=some (aO x):=by rw[bY];simp
  have lc:pK B F+(wr++[x]).length=pK B F+wr.length+1:=by simp;rfl
  obtain⟨K,he,s⟩:∃K,aO x=.tup K/\iT K=some (kk x):=⟨_,rfl,AD x⟩
  walk_at"px";rw[lw,if_pos (by simp_all)];show⟨_,ls,?_⟩;rw[dl,he];walk_at"go";show⟨_,s,?_⟩;show(if (!(iS (cL kk aO F) (kk x)).isSome)=true then _ else _);rw[vO rL];cases d:a9 F x with
  | some y=>
   rw[if_neg (by show eJ)];show⟨_,?_,F,wr,_,rfl,?_,A.skip (by rw[d];show nofun),nd,u,T,rfl⟩
   .simp_all
   lia
  | none=>
   rw[if_pos (by rfl)];walk_at"px";have R:=Z F nd u;have kq:(cL kk aO F).length=F.length:=by unfold cL;show ax ..
   show⟨_,s,by lia,?_⟩;rw[Ks rL x j d];walk_at"go";show⟨_,_,s,lB x N,?_⟩;obtain⟨g,t,rfl⟩:=S x N;have tt:=VH (a:=j) d G.nd t;have b0:=bs F;show⟨by simp only[ax];lia,?_⟩;show⟨_,?_,F++[(x,j)],wr++oP links x,_,rfl,?_,?_,?_,?_,?_,by rw[bY]⟩
   .simp only[bL] at *;lia
   .simp only[bL] at *;lia
   .have:=A.take I d;have e:(λy=>if y=x then some j else a9 F y)=a9 (F++[(x,j)]):=funext λy=>(AE x y j d).symm
    rw[<-e];show this
   .rw[bY];show pG.mpr ⟨nd,by show mU _ _,λa ha b hb z=>?_⟩;have ee:b=x:=by show du.1 ‹_›
    subst ee;subst z;obtain⟨p,f,e⟩:=aB.mp ha;unfold a9 at d;rw[zM,Du] at d;show d p f (by simpa using e)
   .intro p f;rcases cj.mp f with f | f
    .exact u p f
    have:p=(x,j):=by simpa using f
    rw[this];show N
   intro y o;rcases cj.mp o with o | o
   .exact T y o
   show Q x y o
 rintro ρ ⟨F,s5,E,n,C,s,nd,H,rfl⟩;rw[gw] at s;have R:F.length<=3200:=by
  have:=KS nd (ws:=B.map (·.1)) λw hw=>by
   obtain⟨p,f,rfl⟩:=aB.mp hw;show H p f
  rw[ax,ax] at this;lia
 have:=q F (λa b=>zlK C λx y h=>⟨s x (Q y x (ye.mpr (.inr h))),ye.mpr (.inl h)⟩) R;simp only[lW,Af,gt];show this
theorem Li{α:Type}{j:fG}{m:List (Option Nat)}{g:eh}{te:TD}{ρ:Ev}{Q:R->Prop}(L:List α)(e:α->D)(f:α->List D)(hw:∀k:List D->Prop,k (L.map e)->j ρ k)(o:L.length<=sizeLine)
  (h:∀x∈L,∀(l:List D->Prop),l (f x)->g (e x) (iB m ρ) λn=>te n λr=>match r with | .ow c=>l c | _=>False) (q:Q (.ov (.ll (L.map f)))):Al j m g tQ te ρ Q:=by
 show hw _ ⟨λi acc=>acc=(L.take i).map f,by rfl,λi d acc hd b=>?_,λacc b=>?_⟩
 .subst b;rw[bE] at hd;cases a:L[i]? with
  | none=>rw[a] at hd;cases hd
  | some x=>
   rw[a] at hd;cases hd;have p:i<L.length:=(cD.mp a).1;have:=h x (cJ a) (λc=>((L.take i).map f).length<sizeLine/\(L.take i).map f++[c]=(L.take (i+1)).map f) ⟨by simp;lia,by rw[gf,a];simp⟩;show this
 subst b;simpa using q
noncomputable def ng(p:EK×EK):D:=.tup [aO p.1,aO p.2]
def Gd(d:List (EK×EK))(c:List (EK×EK))(gss:List (List EK)):Prop:=∃(lab:EK->EK)(kvs:List (EK×List EK)),(∀a b,lab a=lab b↔Cn c a b)/\dS (d.map λp=>(lab p.1,p.2)) kvs/\gss=jV (kvs.map λp=>sK p.2)
def xW:cg:=λds Q=>∃a sh ends links,ds=[.lst (ends.map ng),.lst (links.map nh)]/\links.length<=1600/\ends.length<=20000/\(∀p∈ends,me p.2=a::sh)/\(ends.map (·.2)).Nodup/\∀gss,Gd ends links gss->Q (.ov (.ll (gss.map λg=>g.map aO)))
noncomputable def Oh:(T:TX) ×' ∀{P w K mg base},Txt K mg->Known P w K mg base 1 "firsts_of" 1 Bj->eF P w K mg base 1 "grouped" ["ends","links","firsts","groups","strand","end"] (top 19) T:=
 ⟨_,λT y8 nd f d A outer s H E b=>have a:=b.units;
 (aJ (cV 2 (cE y8 b (ah (af 1) aq)) nd)
   (aJ (iV 3 Kz nd)
   (aJ (fA eH rfl (fB (af 0)) (gC (n:=2) rfl (cf (aY 4 nd) (cf (aY 5 nd) fU)))
    (aU (Er a 3 (VA a (af 2) (af 4) (af 4)) (af 5))))
   (AJ 3 (aU (eB (Wj (C:=(λ_=>True)) (λn _ _=>Ts.FR n) a T.b_sorted (Vl rfl (.of (N':=["group"]) (m:=[none]) (by kernel_rfl)) fb (VO (af 3)) (λs3 c ex=>(aY 0 nt)) (λs3 c ex=>fL) (λs3 c ex=>(cR (Tu (C:=(λ_=>True)) (λn _ _=>Ts.FR n) rfl) T.b_sorted Hq (ah (af 0) aq)))))))))))⟩
def Ld:TX:=Oh.1
theorem ziy:dX 2 xW Ld ["ends","links","firsts","groups","strand","end"]:=by
 intro ds V hl h;obtain⟨r,sh,ends,links,rfl,Q,hle,C,nd,q⟩:=h;show Ld _ [.fz (.lst (ends.map ng)),.fz (.lst (links.map nh)),.un,.un,.un,.un];unfold Ld Oh;dsimp only;have big:=dP;walk_at"px";show⟨links,rfl,Q,λF M _=>?_⟩;walk_at"go";walk_at"go";have s:∀k,(((ends.take k).map λp:EK×EK=>(((a9 F p.1).getD p.1,p.2):EK×EK))).length<=20000:=λk=>by
  rw[ax,eP];lia
 show jS ends ng (λP h=>?_) (λi ρ=>∃(B:List (EK×List EK))(a c:Sl),dS ((ends.take i).map λp=>((a9 F p.1).getD p.1,p.2)) B/\ρ=[.fz (.lst (ends.map ng)),.fz (.lst (links.map nh)),.fz (.dit (cL kk aO F)),.ov (.dt (dR kk aO B)),a,c]) ⟨[],_,_,by show .nil,rfl⟩ ?_ ?_
 .walk_at"px";show h
 .rintro i ⟨x,f⟩ ρ L ⟨B,a,c,G,rfl⟩;obtain⟨H,R,S,s1,s2,s3,w,s4⟩:=EH (dv:=aO) rL G ((a9 F x).getD x) f;have g1:=G.len;have g2:=s i;have u:(dR kk aO B).length=B.length:=by show ax ..
  obtain⟨d,he,K⟩:∃d,aO x=.tup d/\iT d=some (kk x):=⟨_,rfl,AD x⟩
  have O:((iS (cL kk aO F) (kk x)).getD (.tup d))=aO ((a9 F x).getD x):=by
   rw[vO rL,<-he];cases a9 F x<;>rfl
  obtain⟨j,A,E⟩:∃j,aO ((a9 F x).getD x)=.tup j/\iT j=some (kk ((a9 F x).getD x)):=⟨_,rfl,AD _⟩
  have tk:(ends.take (i+1)).map (λp=>((a9 F p.1).getD p.1,p.2))=(ends.take i).map (λp=>((a9 F p.1).getD p.1,p.2))++[((a9 F x).getD x,f)]:=by
   rw[gf,L,bY];rfl
  rw[<-tk] at w;rw[show ng (x,f)=.tup [aO x,aO f] from rfl,he];walk_at"px";show⟨_,K,?_⟩;rw[O,A];walk_at"px";show⟨_,H,R,E,by lia,s1,s2,by lia,?_⟩;rw[s3];show⟨S,_,_,w,rfl⟩
 rintro ρ ⟨B,a,c,G,rfl⟩;rw[gw] at G;have g1:=G.len;rw[ax] at g1;have v:((ends.map λp=>((a9 F p.1).getD p.1,p.2)).map (·.2)).Nodup:=by
  rw[bp];show nd
 have t:∀p∈B,∀e∈p.2,me e=r::sh:=λp b e he=>by
  rw[G.is p b] at he;obtain⟨x,J,rfl⟩:=aB.mp he;obtain⟨y,I,rfl⟩:=aB.mp (eY.mp J).1;show C y I
 have N:(OV.dt (dR kk aO B)).val=.dit (cL kk (λg:List EK=>D.lst (g.map aO)) B):=by
  show D.dit _=_;unfold dR cL;rw[bp];rfl
 walk_at"go";rw[N];show Li B (λp=>D.lst (p.2.map aO)) (λp=>(sK p.2).map aO) (λP h=>?_) (by lia) (λp b W u=>?_) ?_
 .walk_at"px";unfold cL;rw[bp];show h
 .walk_at"px";show⟨r,sh,p.2,rfl,t p b,λT o n=>?_⟩;rw[R7 o n];show u
 show⟨r::sh,B.map λp=>sK p.2,by rw[bp];rfl,λg m e he=>?_,λg m=>?_,G.B8 v,λU o n=>?_⟩
 .obtain⟨p,b,rfl⟩:=aB.mp m;show t p b e ((i9 p.2).subset he)
 .obtain⟨p,b,rfl⟩:=aB.mp m;show λz=>G.FZ b (HE.mp ((i9 p.2).symm.trans (qT z)))
 rw[SR (G.B8 v) o n];show q _ ⟨_,B,M,G,rfl⟩
noncomputable def endsF(rows:List (List Nat)):List (Sd×aQ):=tY false "left" "right" rows++tY true "top" "bottom" (fq rows)
theorem UH(h:lD rows=true):pS rows=true/\rO rows=true/\rows.all (kj 45 dJ)=true/\(fq rows).all (kj 124 dY)=true:=by
 unfold lD at h;simp only[jH] at h;show⟨h.1.1.1,h.1.1.2,h.1.2,h.2⟩
theorem SQ(h:pS rows=true):3<=wd rows/\∀l∈rows,l.length=wd rows:=by
 unfold pS at h;simp only[jH,gJ,e7] at h;show⟨h.1.2,h.2⟩
structure Dwk(rows:List (List Nat))(t:ae):Prop where
 ne:rows≠[]
 rb:RB rows
 txt:og t "\n"=rows.map aE
 len:t.length<10000
 h40:rows.length<=40
 w40:wd rows<=40
 NL:lD rows=true
 lK:(endsF rows).length<=1000/\((endsF rows).map (·.2)).Nodup
noncomputable def gV(e:aQ):EK:=[.inr e.1,.inl e.2]
noncomputable def fE(s:Sd):EK:=[.inr (lC s.1),.inl (s.2.1:Int),.inl (s.2.2:Int)]
noncomputable def rV:EK->aQ
 | [.inr s,.inl i]=>(s,i)
 | _=>("",0)
theorem R4(e):rV (gV e)=e:=rfl
theorem zp3{κ:Type}[DecidableEq κ]{l:List (κ×EK)}{kvs:List (κ×List EK)}(G:dS l kvs)(nd:(l.map (·.2)).Nodup):(kvs.map λp=>sK p.2).flatten.Perm (l.map (·.2)):=by
 show(IM ?_ nd).mpr λe=>?_
 .rw[j7,Qw];show⟨λg d=>?_,?_⟩
  .obtain⟨p,f,rfl⟩:=aB.mp d;show j7.mp ((i9 p.2).nodup_iff.mpr ?_);rw[G.is p f];show Y7 (Y3 _ Im) nd
  rw[jI];have m:kvs.Pairwise (·≠·):=by
   have:=G.nd;rw[j7,jI] at this;show this.imp λh z=>h (by rw[z])
  show m.imp_of_mem λ{a b} k j n=>?_
  intro x c y i z;subst z;show n (G.atK nd k j ((i9 _).subset c) ((i9 _).subset i))
 rw[HS];constructor
 .rintro⟨g,d,he⟩;obtain⟨p,f,rfl⟩:=aB.mp d;have:=(i9 p.2).subset he;rw[G.is p f] at this;obtain⟨x,c,rfl⟩:=aB.mp this;show aB.mpr ⟨x,(eY.mp c).1,rfl⟩
 intro he;obtain⟨x,c,rfl⟩:=aB.mp he;obtain⟨g,d⟩:=G.all x c;show⟨sK g,aB.mpr ⟨_,d,rfl⟩,(i9 g).symm.subset ?_⟩;have e:=G.is _ d;simp only at e;rw[e];show aB.mpr ⟨x,eY.mpr ⟨c,by simp⟩,rfl⟩
theorem zr6{c:List (Sd×aQ)}(nd:(c.map (·.2)).Nodup)(h:Gd (c.map λp=>(fE p.1,gV p.2)) d gss):∃g2:List (List aQ),gss=g2.map (λg=>g.map gV)/\g2.flatten.Perm (c.map (·.2)):=by
 obtain⟨lab,kvs,_,G,rfl⟩:=h;rw[bp] at G;have i:(c.map ((λp:EK×EK=>(lab p.1,p.2))∘λp=>(fE p.1,gV p.2))).map (·.2)=(c.map (·.2)).map gV:=by rw[bp,bp];rfl
 have inj:∀a b:aQ,gV a=gV b->a=b:=λa b h=>by have:=dN rV h;rwa [R4,R4] at this
 have j:((c.map ((λp:EK×EK=>(lab p.1,p.2))∘λp=>(fE p.1,gV p.2))).map (·.2)).Nodup:=by
  rw[i,j7,jI];show nd.imp λh z=>h (inj _ _ z)
 have P:=((p9 (kvs.map λp=>sK p.2)).flatten).trans (zp3 G j);rw[i] at P;generalize jV (kvs.map λp=>sK p.2)=gss at P ⊢;have un:∀g∈gss,∀e∈g,gV (rV e)=e:=λg f e he=>by
  obtain⟨x,_,rfl⟩:=aB.mp (P.subset (HS.mpr ⟨g,f,he⟩));rfl
 show⟨gss.map λg=>g.map rV,?_,?_⟩
 .rw[bp];conv=>lhs;rw[<-qQ gss]
  show tI λg f=>?_
  show g=(g.map rV).map gV;rw[bp];conv=>lhs;rw[<-qQ g]
  show tI λe he=>(un g f e he).symm
 rw[<-List.map_flatten];have:=P.map rV;rwa [bp,show rV∘gV=id from rfl,qQ] at this
def wD(rows:List (List Nat))(gss:List (List aQ)):Prop:=Gd ((endsF rows).map λp=>(fE p.1,gV p.2)) ((pY rows).map λp=>(fE p.1,fE p.2)) (gss.map λg=>g.map gV)/\gss.flatten.Perm ((endsF rows).map (·.2))
def A0:cg:=λds Q=>∃t rows,ds=[.str t]/\Dwk rows t/\∀gss:List (List aQ),wD rows gss->Q (.ov (.ll (gss.map λg=>g.map kK)))
noncomputable def N1:(T:TX) ×' ∀{P w K mg base},Txt K mg->Known P w K mg base 3 "is_drawing" 1 A9->Known P w K mg base 2 "turned" 1 xS->Known P w K mg base 2 "strands_of" 2 A8->Known P w K mg base 1 "edge_ends" 4 Bm->Known P w K mg base 2 "grouped" 2 xW->Known P w K mg base 1 "joints_of" 3 Bl->eF P w K mg base 3 "traced" ["text","rows","columns","stretches","uprights","ends"] (top 7) T:=
 ⟨_,λT yX o9 wF wH pd yW nd f c A outer s H E a=>have b:=a.units;have ⟨d,nT⟩:=T.nT;have ⟨e,nR⟩:=T.nR;
 (aJ (cV 1 (t7 Tw (.inr rfl) tM zL QI (af 0) (ah df aq)) nd)
   (aJ (eM (rN (jQ (cE yX a (ah (af 1) aq)))) (aU Vp) eQ)
   (aJ (cV 2 (cE o9 a (ah (af 1) aq)) nd)
   (aJ (cV 3 (cE wF a (ah (af 1) (ah (jt nT) aq))) nd)
   (aJ (cV 4 (cE wF a (ah (af 2) (ah (jt nR) aq))) nd)
   (aJ (iV 5 (cE wH a (ah (af 1) (ah (af 3) (ah (jt nT) (ah (cY (ah df (ah df aq))) aq))))) nd)
   (aJ (J1 5 (cE wH a (ah (af 2) (ah (af 4) (ah (jt nR) (ah (cY (ah df (ah df aq))) aq))))))
   (AJ 5 (aU (eB (cE pd a (ah (af 5) (ah (cE yW a (ah (af 1) (ah (af 3) (ah (af 4) aq)))) aq)))))))))))))⟩
def KG:TX:=N1.1
theorem zjk:dX 1 A0 KG ["text","rows","columns","stretches","uprights","ends"]:=by
 intro ds C hl h;obtain⟨t,rows,rfl,W,q⟩:=h;show KG _ [.fz (.str t),.un,.un,.un,.un,.un];unfold KG N1;dsimp only;have big:=dP;have hlen:=W.len;have v:D.lst ((rows.map aE).map D.str)=cW rows:=by rw[bp];rfl
 walk_at"px";show⟨rfl,by decide,by lia,?_⟩;rw[W.txt,v];walk_at"go";show⟨rows,rfl,W.ne,W.rb,?_⟩;have n:=W.NL;rw[n];have lK:=W.lK;have u:=SQ (UH n).1;have d:uR rows:=⟨W.rb,W.ne,u.2⟩
 have rc:=TJ d;have wl:=W.w40;have r:=W.h40;have cl:(fq rows).length=wd rows:=by unfold fq;simp
 have j:∀b s0 s1 (ls:List (List Nat)),(tY b s0 s1 ls).length<=ls.length*2:=λb s0 s1 ls=>by
  have:=xO (TF b s0 s1) ls.zipIdx;rw[ot] at this;show this
 have o:(pY rows).length<=1600:=by
  have:=Le (f:=mq rows) (k:=40) (l:=rows.zipIdx) λa s=>by
   show bU TC ?_;have:=HP s;rw[this.2.2,d.w _ (eZ _)];show wl
  rw[ot] at this;show bU this ?_;lia
 walk_at"go";show⟨rows,rfl,d,?_⟩;walk_at"go";show⟨rows,false,rfl,W.rb,?_⟩;walk_at"go";show⟨fq rows,true,rfl,rc,?_⟩;walk_at"go";show⟨by trivial,?_⟩;show⟨rows,false,"left","right",rfl,W.rb,λl hl=>by rw[d.w l hl];lia,?_⟩;walk_at"go";show⟨by trivial,?_⟩;show⟨fq rows,true,"top","bottom",rfl,rc,λl hl=>?_,?_⟩
 .unfold fq cX at hl;obtain⟨k,B,rfl⟩:=aB.mp hl;rw[ax];show Qh.mpr W.ne
 have A:=j false "left" "right" rows;have y:=j true "top" "bottom" (fq rows);show⟨by simp only[ax];lia,?_⟩;walk_at"go";rw[<-bY];show⟨rows,rfl,d,?_⟩;walk_at"px";show⟨true,[false],(endsF rows).map λp=>(fE p.1,gV p.2),(pY rows).map λp=>(fE p.1,fE p.2),?_,by rw[ax];show o,by rw[ax];lia,λp i=>?_,?_,λgss m=>?_⟩
 .rw[bp,bp];rfl
 .obtain⟨x,_,rfl⟩:=aB.mp i;rfl
 .rw[bp];have:=lK.2;rw[j7,jI] at this ⊢;show this.imp λ{a b} h z=>h (show a.2=b.2 from dN rV (show gV a.2=gV b.2 from z))
 obtain⟨g2,rfl,i⟩:=zr6 lK.2 m;have:=q g2 ⟨m,i⟩;rw[bp];have e:((λg=>g.map aO)∘λg:List aQ=>g.map gV)=λg:List aQ=>g.map kK:=funext λg=>by
  simp only[wZ,bp];rfl
 rw[e];show this
local macro_rules | `(tactic| walk_at"px")=>`(tactic| (repeat(first | walk_at"b" | dsimp only[$[$(qn "D6 z9 Jx xp D2 ER Jw Jy z0 En JB JP Ak Aj xP DZ EE zV xy JG Fc Jd Af xx IU Jf JS EM Ep Kv D7 Js tR xV OV.val"):ident],*] | simp only[$[$(qn "JR Ej JQ"):ident],*])))
noncomputable def e3(n:Nat)(e:aQ):EK:=[.inl (n:Int),.inr e.1,.inl e.2]
noncomputable def pk(n pl:Nat):EK:=[.inl (n:Int),.inl (pl:Int)]
noncomputable def sR(gss:List (List aQ)):D:=.lst (gss.map λg=>.lst (g.map kK))
noncomputable def sQ(a:List Bool):D:=.lst (a.map .bl)
noncomputable def gm(n:Nat):Nat->List (List aQ)->List (EK×EK)
 | _,[]=>[]
 | p,g::r=>(g.map λe=>(pk n p,e3 n e))++gm n (p+1) r
noncomputable def cv:Nat->List (List (List aQ))->List (EK×EK)
 | _,[]=>[]
 | n,gss::r=>gm n 0 gss++cv (n+1) r
theorem Lc(n):∀p a b,gm n p (a++b)=gm n p a++gm n (p+a.length) b
 | p,[],b=>rfl
 | p,g::a,b=>by
  rw[kX,gm,gm,Lc n (p+1) a b,gh,cC,show p+1+a.length=p+(a.length+1) by lia]
theorem Lb:∀n a b,cv n (a++b)=cv n a++cv (n+a.length) b
 | n,[],b=>rfl
 | n,g::a,b=>by
  rw[kX,cv,cv,Lb (n+1) a b,gh,cC,show n+1+a.length=n+(a.length+1) by lia]
theorem zlO{gss:List (List aQ)}(h:gss[i]?=some g):gm n 0 (gss.take (i+1))=gm n 0 (gss.take i)++g.map λe=>(pk n i,e3 n e):=by
 have a:=(cD.mp h).1;rw[gf,h,Lc,eP,pC (by show cP ‹_›),eO];simp[gm]
theorem zlP{gsl:List (List (List aQ))}(h:gsl[i]?=some gss):cv 0 (gsl.take (i+1))=cv 0 (gsl.take i)++gm i 0 gss:=by
 have a:=(cD.mp h).1;rw[gf,h,Lb,eP,pC (by show cP ‹_›),eO];simp[cv]
theorem zp4(i gsl):(cv 0 (gsl.take i)).length<=(cv 0 gsl).length:=by
 have:=Lb 0 (gsl.take i) (gsl.drop i);simp_all
theorem zp5(n i gss):(gm n 0 (gss.take i)).length<=(gm n 0 gss).length:=by
 have:=Lc n 0 (gss.take i) (gss.drop i);simp_all
noncomputable def jq(a:List Bool):List Nat:=(a.zipIdx.filter (·.1)).map (·.2)
noncomputable def hU(P:EK->EK):Nat->List (List Bool)->List (EK×EK)
 | _,[]=>[]
 | n,a::r=>((jq a).map λ(c:Nat)=>(P (e3 n ("bottom",(c:Int))),P (e3 (n+1) ("top",(c:Int)))))++hU P (n+1) r
theorem Lh(P):∀n a b,hU P n (a++b)=hU P n a++hU P (n+a.length) b
 | n,[],b=>rfl
 | n,g::a,b=>by
  rw[kX,hU,hU,Lh P (n+1) a b,gh,cC,show n+1+a.length=n+(a.length+1) by lia]
theorem zjl{bS:List (List Bool)}(h:bS[i]?=some a):hU P 0 (bS.take (i+1))=hU P 0 (bS.take i)++(jq a).map λ(c:Nat)=>(P (e3 i ("bottom",(c:Int))),P (e3 (i+1) ("top",(c:Int)))):=by
 have b:=(cD.mp h).1;rw[gf,h,Lh,eP,pC (by show cP ‹_›),eO];simp[hU]
theorem znX(P i bS):(hU P 0 (bS.take i)).length<=(hU P 0 bS).length:=by
 have:=Lh P 0 (bS.take i) (bS.drop i);simp_all
noncomputable def kx(a:List (EK×EK)):List (EK×EK):=a.map λp=>(p.2,p.1)
noncomputable def ie(a:List (EK×EK))(e:EK):EK:=(a9 (kx a) e).getD []
theorem VZ:∀r acc,((acc++r).map (·.1)).Nodup->(r.map λp=>(p.1,aO p.2)).foldl (λa p=>oz a p.1 p.2) (cL kk aO acc)=cL kk aO (acc++r)
 | [],acc,_=>by rw[gI];rfl
 | p::r,acc,nd=>by
  have c:a9 acc p.1=none:=by
   unfold a9;rw[zM,Du];intro q b z;have z:q.1=p.1:=by simpa using z
   rw[bY,pG] at nd;show nd.2.2 q.1 (qY b) p.1 (by show .head _) z
  rw[bD,vc];have e:=Ks (dv:=aO) rL p.1 p.2 c;rw[show oz (cL kk aO acc) p.1 (aO p.2)=cL kk aO (acc++[p]) from e,VZ r (acc++[p]) (by rw[gh];show nd),gh];rfl
theorem SN(nd:(F.map (·.1)).Nodup){x a:EK}(h:(x,a)∈F):a9 F x=some a:=by
 induction F with
 | nil=>cases h
 | cons p r b=>
  rw[bD,gu] at nd;unfold a9 at *;rw[kU];rcases bG.mp h with e | e
  .subst e;simp
  have:p.1≠x:=λz=>nd.1 (z▸qY (f:=(·.1)) e)
  simp only[this,gc];show b nd.2 e
def Bt:cg:=λds Q=>∃gsl bS,ds=[.lst (gsl.map sR),.lst (bS.map sQ)]/\(∀gss∈gsl,∀g∈gss,g.length<=1000)/\(cv 0 gsl).length<=20000/\((cv 0 gsl).map (·.2)).Nodup/\(∀b∈bS,b.length<=1000)/\(hU (ie (cv 0 gsl)) 0 bS).length<=1600/\
 (∀n b,bS[n]?=some b->∀c∈jq b,(∃a,(a,e3 n ("bottom",(c:Int)))∈cv 0 gsl)/\∃a,(a,e3 (n+1) ("top",(c:Int)))∈cv 0 gsl)/\∀gss,Gd (cv 0 gsl) (hU (ie (cv 0 gsl)) 0 bS) gss->Q (.ov (.ll (gss.map λg=>g.map aO)))
theorem Tz:∀n gsl,∀p∈cv n gsl,me p.2=[false,true,false]
 | _,[],p,h=>by cases h
 | n,gss::r,p,h=>by
  rcases cj.mp h with h | h
  .have:∀(k:Nat)(l:List (List aQ)),∀p∈gm n k l,me p.2=[false,true,false]:=λk l=>by
    induction l generalizing k with
    | nil=>intro p h;cases h
    | cons g l a=>
     intro p h;rcases cj.mp h with h | h
     .obtain⟨e,_,rfl⟩:=aB.mp h;rfl
     show a _ p h
   show this 0 gss p h
  show Tz (n+1) r p h
theorem zt8(h:te ρ λr=>EA r.val λds=>D5 g a b ρ ds):oA (vE te) g a b ρ:=h
theorem zeo:(["end","number","place"]:List ae).Nodup:=by decide +kernel
theorem WI:(["place","end"]:List ae).Nodup:=by decide +kernel
theorem WH:(["column","joined"]:List ae).Nodup:=by decide +kernel
noncomputable def N7:(T:TX) ×' ∀{P w K mg base},Txt K mg->Known P w K mg base 2 "grouped" 2 xW->eF P w K mg base 2 "pile_grouped" ["groups","borders","ends","number","layout_groups","place","group","places","links","joints","column"] (top 25) T:=
 ⟨_,λT pd nd f d A outer s H E c=>have b:=c.units;
 (aJ (iV 2 (gE aq) nd)
   (aJ (fA eH rfl (qd T.b_enumerate (ah (af 0) aq)) (gC (n:=2) rfl (cf (aY 3 nd) (cf (aY 4 nd) fU)))
    (aU (fA eH rfl (qd T.b_enumerate (ah (af 4) aq)) (gC (n:=2) rfl (cf (aY 5 nd) (cf (aY 6 nd) fU)))
    (aU (J1 2 (fW rfl (.of (N':=["end","number","place"]) (m:=[none,some 3,some 5]) (by kernel_rfl)) fb (fB (af 6)) (λs3 a ex=>(aY 0 zeo)) (λs3 a ex=>fL) (λs3 a ex=>(cY (ah (cY (ah (af 1) (ah (af 2) aq))) (ah (aP S0 (cY (ah (af 1) aq)) (af 0)) aq))))))))))
   (AJ 2 (aJ (cV 7 (V9 (zrT rfl b) T.b_dict (by decide +kernel) (ah (fW rfl (.of (N':=["place","end"]) (m:=[none,none]) (by kernel_rfl)) vU (fB (af 2)) (λs3 a ex=>(gC (n:=2) rfl (cf (aY 0 WI) (cf (aY 1 WI) fU)))) (λs3 a ex=>fL) (λs3 a ex=>(cY (ah (af 1) (ah (af 0) aq))))) aq)) nd)
   (aJ (iV 8 (gE aq) nd)
   (aJ (fA eH rfl (qd T.b_enumerate (ah (af 1) aq)) (gC (n:=2) rfl (cf (aY 3 nd) (cf (aY 9 nd) fU)))
    (aU (fA eH rfl (fB (fW rfl (.of (N':=["column","joined"]) (m:=[none,none]) (by kernel_rfl)) vU (qd T.b_enumerate (ah (af 9) aq)) (λs3 a ex=>(gC (n:=2) rfl (cf (aY 0 WH) (cf (aY 1 WH) fU)))) (λs3 a ex=>(Aw (jQ (af 1)))) (λs3 a ex=>(af 0)))) (aY 10 nd)
    (aU (k9 8 (cY (ah (Av b (af 7) (cY (ah (af 3) (ah df (ah (af 10) aq))))) (ah (Av b (af 7) (cY (ah (aP cN (af 3) aw) (ah df (ah (af 10) aq))))) aq))))))))
   (AJ 8 (aU (eB (cE pd c (ah (af 2) (ah (af 8) aq))))))))))))⟩
def LK:TX:=N7.1
theorem zep:dX 2 Bt LK ["groups","borders","ends","number","layout_groups","place","group","places","links","joints","column"]:=by
 intro ds U hl h;obtain⟨gsl,bS,rfl,T,hle,nd,I,R,M,q⟩:=h;show LK _ [.fz (.lst (gsl.map sR)),.fz (.lst (bS.map sQ)),.un,.un,.un,.un,.un,.un,.un,.un,.un];unfold LK N7;dsimp only;have big:=dP;walk_at"px";show⟨cG _,?_⟩;walk_at"go";show KU gsl sR (λs h=>?_) (λi ρ=>∃a b c d:Sl,ρ=[.fz (.lst (gsl.map sR)),.fz (.lst (bS.map sQ)),.ow ((cv 0 (gsl.take i)).map ng),a,b,c,d,.un,.un,.un,.un]) ⟨_,_,_,_,rfl⟩ ?_ ?_
 .walk_at"px";show h
 .rintro i gss ρ o ⟨a,b,c,d,rfl⟩;have s1:=zlP o;have u:=zp4 (i+1) gsl;rw[s1,bL] at u;rw[show sR gss=.lst (gss.map λg=>.lst (g.map kK)) from rfl];walk_at"px";show KU gss (λg=>.lst (g.map kK)) (λs h=>?_) (λj ρ=>∃c d:Sl,ρ=[.fz (.lst (gsl.map sR)),.fz (.lst (bS.map sQ)),.ow ((cv 0 (gsl.take i)++gm i 0 (gss.take j)).map ng),.fz (.int (i:Nat)),.fz (.lst (gss.map λg=>.lst (g.map kK))),c,d,.un,.un,.un,.un]) ⟨c,d,by simp[gm]⟩ ?_ ?_
  .walk_at"px";show h
  .rintro j g ρ Q ⟨c,d,rfl⟩;have s2:=zlO (n:=i) Q;have B:=zp5 i (j+1) gss;rw[s2,bL,ax] at B;walk_at"px";show gP g kK (λe=>ng (pk i j,e3 i e)) (λs h=>?_) (by lia) (λe he z k=>?_) ?_
   .walk_at"px";show h
   .rw[show kK e=.tup [.str e.1,.int e.2] from rfl];walk_at"px";show⟨by trivial,by show iq _,by simp,by simp,by trivial,by trivial,?_⟩;show k
   show⟨by simp only[ax,bL];lia,.fz (.int (j:Nat)),.fz (.lst (g.map kK)),?_⟩;rw[s2,<-gh,bY (l₁:=cv 0 (gsl.take i)++gm i 0 (gss.take j)),bp];rfl
  rintro ρ ⟨c,d,rfl⟩;rw[gw,<-s1];show⟨_,_,_,_,rfl⟩
 rintro ρ ⟨a,b,c,d,rfl⟩;rw[gw];have sh:=Tz 0 gsl;have A:((([]:List (EK×EK))++kx (cv 0 gsl)).map (·.1)).Nodup:=by
  rw[zu];unfold kx;rw[bp];show nd
 have O:((kx (cv 0 gsl)).map (·.1)).Nodup:=A;have at_:∀{x:EK},(∃a,(a,x)∈cv 0 gsl)->a9 (kx (cv 0 gsl)) x=some (ie (cv 0 gsl) x):=λ{x} ⟨a,J⟩=>by
  have:=SN O (x:=x) (a:=a) (by show aB.mpr ⟨_,J,rfl⟩);unfold ie;rw[this];rfl
 generalize cv 0 gsl=ends at *;walk_at"go";show gP ends ng (λp=>.tup [aO p.2,aO p.1]) (λs h=>?_) (by lia) (λp H z k=>?_) ?_
 .walk_at"px";show h
 .rw[show ng p=.tup [aO p.1,aO p.2] from rfl];walk_at"px";show⟨by trivial,k⟩
 show⟨(kx ends).map λp=>(p.1,aO p.2),by unfold kx;simp only[xF,bp];rfl,?_⟩;rw[show Ki ((kx ends).map λp=>(p.1,aO p.2))=cL kk aO (kx ends) from VZ (kx ends) [] A];have look:∀{x:EK},(∃a,(a,x)∈ends)->iS (cL kk aO (kx ends)) x=some (aO (ie ends x)):=λ{x} h=>by
  have:=vO (dv:=aO) (F:=kx ends) rL x;rw[at_ h] at this;show this
 generalize cL kk aO (kx ends)=v at look;walk_at"go";show⟨cG _,?_⟩;walk_at"go";show KU bS sQ (λs h=>?_) (λi ρ=>∃s3 t m:Sl,ρ=[.fz (.lst (gsl.map sR)),.fz (.lst (bS.map sQ)),.fz (.lst (ends.map ng)),s3,b,c,d,.fz (.dit v),.ow ((hU (ie ends) 0 (bS.take i)).map nh),t,m]) ⟨_,_,_,rfl⟩ ?_ ?_
 .walk_at"px";show h
 .rintro i f ρ o ⟨s3,t,m,rfl⟩;have s1:=zjl (P:=ie ends) o;have u:=znX (ie ends) (i+1) bS;rw[s1,bL,ax] at u;have S:=I _ (cJ o);rw[show sQ f=.lst (f.map .bl) from rfl];walk_at"px";show zt8 ?_;show Fv f.zipIdx (λp=>.tup [.int (p.2:Nat),.bl p.1]) (λp=>.int (p.2:Nat)) (·.1) (λs h=>?_) (by rw[ot];lia) (λp H z V C E=>?_) ?_
  .walk_at"px";rw[UL];show h
  .walk_at"px";cases y:p.1 with
   | true=>show C y
   | false=>show E y
  rw[show((f.zipIdx.filter (·.1)).map λp=>D.int (p.2:Nat))=(jq f).map λ(c:Nat)=>D.int (c:Int) by unfold jq;rw[bp];rfl];show zlI (jq f) (λ(c:Nat)=>D.int (c:Int)) (λj ρ=>∃m:Sl,ρ=[.fz (.lst (gsl.map sR)),.fz (.lst (bS.map sQ)),.fz (.lst (ends.map ng)),.fz (.int (i:Nat)),b,c,d,.fz (.dit v),.ow ((hU (ie ends) 0 (bS.take i)++((jq f).take j).map λ(c:Nat)=>(ie ends (e3 i ("bottom",(c:Int))),ie ends (e3 (i+1) ("top",(c:Int))))).map nh),.fz (.lst (f.map .bl)),m]) ⟨m,by simp⟩ ?_ ?_
  .rintro j r ρ w ⟨m,rfl⟩;have N:=cJ w;obtain⟨L,K⟩:=M i f o r N;walk_at"px";show⟨by trivial,e3 i ("bottom",(r:Int)),_,rfl,look L,by trivial,e3 (i+1) ("top",(r:Int)),_,rfl,look K,by trivial,by simp only[ax,bL,eP];lia,.fz (.int (r:Nat)),?_⟩;rw[gf,w,Option.toList_some,bY (l₁:=(jq f).take j),<-gh,bY (l₂:=[r].map _)];rfl
  rintro ρ ⟨m,rfl⟩;rw[gw,<-s1];show⟨_,_,_,rfl⟩
 rintro ρ ⟨s3,t,m,rfl⟩;rw[gw];walk_at"go";show⟨_,_,ends,_,rfl,R,hle,sh,nd,q⟩
section
variable{α β γ:Type}{J M:List (α×α)}
theorem zt9{lab:α->β}(j:∀a b,lab a=lab b↔Cn J a b):Cn (J++M) a b↔Cn (M.map λp=>(lab p.1,lab p.2)) (lab a) (lab b):=by
 constructor
 .refine Cn.to λx y e=>?_
  rcases cj.mp e with e | e
  .rw[(j x y).mpr (.one e)];show .refl _
  show .one (aB.mpr ⟨_,e,rfl⟩)
 have gen:∀{p q:β},Cn (M.map λp=>(lab p.1,lab p.2)) p q->∀a b,lab a=p->lab b=q->Cn (J++M) a b:=λh=>by
  have in1:∀{x y:α},lab x=lab y->Cn (J++M) x y:=λe=>((j _ _).mp e).mono λp k=>iy _ k
  induction h with
  | refl=>show λa b d c=>in1 (d.trans c.symm)
  | step _ e i=>
   intro a b d c;rcases e with e | e
   .obtain⟨m,hm,e⟩:=aB.mp e;obtain⟨g,f⟩:=kc e;show((i a m.1 d g).trans (.one (eK _ hm))).trans (in1 (f.trans c.symm))
   obtain⟨m,hm,e⟩:=aB.mp e;obtain⟨g,f⟩:=kc e;show((i a m.2 d f).trans (.NH (eK _ hm))).trans (in1 (g.trans c.symm))
 show λh=>gen h a b rfl rfl
theorem SM{lab:α->β}{pl:α->γ}{X:α->Prop}(j:∀a b,X a->X b->lab a=lab b->pl a=pl b)(o:∀p∈M,X p.1/\X p.2)(s:X a)(r:X b)(h:Cn (M.map λp=>(lab p.1,lab p.2)) (lab a) (lab b)):Cn (M.map λp=>(pl p.1,pl p.2)) (pl a) (pl b):=by
 have gen:∀{p q:β},Cn (M.map λp=>(lab p.1,lab p.2)) p q->∀a b,X a->X b->lab a=p->lab b=q->Cn (M.map λp=>(pl p.1,pl p.2)) (pl a) (pl b):=λh=>by
  induction h with
  | refl=>show λa b f d i g=>by rw[j a b f d (i.trans g.symm)];show .refl _
  | step _ e n=>
   intro a b f d i g;rcases e with e | e
   .obtain⟨m,hm,e⟩:=aB.mp e;obtain⟨l,k⟩:=kc e;have c:=o m hm;rw[<-j m.2 b c.2 d (k.trans g.symm)];show .step (n a m.1 f c.1 i l) (.inl (aB.mpr ⟨m,hm,rfl⟩))
   obtain⟨m,hm,e⟩:=aB.mp e;obtain⟨l,k⟩:=kc e;have c:=o m hm;rw[<-j m.1 b c.1 d (l.trans g.symm)];show .step (n a m.2 f c.2 i k) (.inr (aB.mpr ⟨m,hm,rfl⟩))
 show gen h a b s r rfl rfl
end
noncomputable def aH:List Nat->Nat->Nat
 | [],_=>0
 | _::_,0=>0
 | h::t,k+1=>h+1+aH t k
noncomputable def ff:List Nat->Nat->Nat×Nat
 | [],r=>(0,r)
 | h::t,r=>if r<=h then(0,r) else((ff t (r-h-1)).1+1,(ff t (r-h-1)).2)
noncomputable def dF:List Nat->Nat
 | []=>0
 | [h]=>h
 | h::i::t=>h+1+dF (i::t)
theorem JL:∀a k r,k<a.length->r<=a.getD k 0->ff a (aH a k+r)=(k,r)
 | [],k,r,c,_=>absurd c (tD _)
 | h::t,0,r,_,b=>by
  rw[show aH (h::t) 0+r=r from eO r];show if_pos (show r<=h from b)
 | h::t,k+1,r,c,b=>by
  rw[show aH (h::t) (k+1)+r=h+1+(aH t k+r) from zm _ _ _];unfold ff;rw[if_neg (by lia),show h+1+(aH t k+r)-h-1=aH t k+r by lia,JL t k r (rf c) b]
theorem Eg:∀a r,r<dF a->(ff a r).1<a.length/\aH a (ff a r).1+(ff a r).2=r/\((ff a r).2<a.getD (ff a r).1 0\/(ff a r).2=a.getD (ff a r).1 0/\(ff a r).1+1<a.length)
 | [],r,h=>absurd h (tD _)
 | [h],r,b=>by
  have b:r<h:=b;unfold ff;rw[if_pos (cP b)];show⟨Nat.zero_lt_one,eO _,.inl b⟩
 | h::i::t,r,b=>by
  have b:r<h+1+dF (i::t):=b;unfold ff;split
  .rename_i hle;show⟨by show iq _,eO _,?_⟩;rcases Nat.lt_or_eq_of_le hle with e | e
   .exact .inl e
   show .inr ⟨e,by simp⟩
  rename_i hle;obtain⟨f,d,h3⟩:=Eg (i::t) (r-h-1) (by ext);show⟨by simp_all,?_,?_⟩
  .show h+1+aH (i::t) (ff (i::t) (r-h-1)).1+(ff (i::t) (r-h-1)).2=r;ext
  rcases h3 with h3 | ⟨h3,c⟩
  .exact .inl h3
  show .inr ⟨h3,by simp_all⟩
theorem xN:∀a k,k+1<a.length->aH a (k+1)=aH a k+a.getD k 0+1
 | h::i::t,0,_=>by show h+1+0=0+h+1;simp_all
 | h::i::t,k+1,b=>by
  have:=xN (i::t) k (rf b);show h+1+aH (i::t) (k+1)=h+1+aH (i::t) k+(i::t).getD k 0+1;lia
theorem pX:∀b k r,k<b.length->(r<b.getD k 0\/r=b.getD k 0/\k+1<b.length)->aH b k+r<dF b
 | [h],0,r,_,a=>by
  rcases a with a | ⟨_,a⟩
  .show 0+r<h;simp at a;simp_all
  show absurd a (iM _)
 | [h],k+1,r,c,_=>absurd (rf c) (tD _)
 | h::i::t,0,r,_,a=>by
  show 0+r<h+1+dF (i::t);simp at a;lia
 | h::i::t,k+1,r,c,a=>by
  have:=pX (i::t) k r (rf c) (a.imp id λz=>⟨z.1,rf z.2⟩);show h+1+aH (i::t) k+r<h+1+dF (i::t);lia
structure Cy(hs:List Nat)(S:Nat)(gk:Nat->Nat->Nat->Nat)(g:Nat->Nat->Nat):Prop where
 pos:∀k,k<hs.length->0<hs.getD k 0
 cw:∀k r s,k<hs.length->r<hs.getD k 0->s<S->g (aH hs k+r) s=gk k r s
 yB:∀k s,k+1<hs.length->s<S->g (aH hs k+hs.getD k 0) s=61\/g (aH hs k+hs.getD k 0) s=124/\gk k (hs.getD k 0-1) s=124/\gk (k+1) 0 s=124
noncomputable abbrev Tg:=Nat×Sd
noncomputable def um(a:List Nat)(gk:Nat->Nat->Nat->Nat)(u:N3):Tg:=((ff a u.1).1,ph (gk (ff a u.1).1) (if (ff a u.1).2<a.getD (ff a u.1).1 0 then(ff a u.1).2 else(ff a u.1).2-1,u.2.1,u.2.2))
noncomputable def W5(a:List Nat)(y:Tg):N3:=(aH a y.1+(ps y.2).1,(ps y.2).2.1,(ps y.2).2.2)
noncomputable def xo(a:List Nat)(F:Nat->List (Sd×Sd)):List (Tg×Tg):=(aN a.length).flatMap λk=>(F k).map λp=>((k,p.1),(k,p.2))
noncomputable def DP(a:List Nat)(S:Nat)(gk:Nat->Nat->Nat->Nat)(g:Nat->Nat->Nat):List (Tg×Tg):=(aN (a.length-1)).flatMap λk=>((aN S).filter λs=>decide (g (aH a k+a.getD k 0) s=124)).map λs=>((k,jr (gk k) (a.getD k 0-1) s),(k+1,jr (gk (k+1)) 0 s))
theorem rF(b:k<hs.length)(a:r<hs.getD k 0):um hs gk (aH hs k+r,s,d)=(k,ph (gk k) (r,s,d)):=by
 unfold um;simp only[JL hs k r b (cP a),if_pos a]
theorem Kb(a:k<hs.length):um hs gk (aH hs k+hs.getD k 0,s,d)=(k,ph (gk k) (hs.getD k 0-1,s,d)):=by
 unfold um;simp only[JL hs k _ a (bx _),iM,cM]
theorem F6:p∈xo hs F↔∃k a b,k<hs.length/\(a,b)∈F k/\p=((k,a),(k,b)):=by
 unfold xo;rw[kW];constructor
 .rintro⟨k,c,h⟩;obtain⟨q,d,rfl⟩:=aB.mp h;show⟨k,q.1,q.2,fR.mp c,d,rfl⟩
 rintro⟨k,a,b,c,h,rfl⟩;show⟨k,fR.mpr c,aB.mpr ⟨_,h,rfl⟩⟩
theorem F7:p∈DP hs S gk g↔∃k s,k+1<hs.length/\s<S/\g (aH hs k+hs.getD k 0) s=124/\p=((k,jr (gk k) (hs.getD k 0-1) s),(k+1,jr (gk (k+1)) 0 s)):=by
 unfold DP;simp only[kW,fR,aB,eY,gJ];show⟨λ⟨k,c,s,⟨b,a⟩,e⟩=>⟨k,s,by ext,b,a,e.symm⟩,λ⟨k,s,c,b,a,e⟩=>⟨k,by ext,s,⟨b,a⟩,e.symm⟩⟩
theorem zr7(P:Cy hs S gk g)(h:lU (dF hs) S g E)(b:k<hs.length)(a:r<hs.getD k 0)(f:s<S)(e:JO (hs.getD k 0) S (gk k) r s p) :
  ((aH hs k+p.1.1,p.1.2),(aH hs k+p.2.1,p.2.2))∈E:=by
 have i:∀{r},r<hs.getD k 0->aH hs k+r<dF hs:=λa=>pX hs k _ b (.inl a)
 show(h _).mpr ⟨aH hs k+r,s,i a,f,?_⟩;rcases e with⟨d,c,h3,rfl⟩ | ⟨d,c,h3,rfl⟩ | ⟨d,rfl⟩
 .exact .inl ⟨by rw[P.cw k r s b a f];show d,c,by rw[P.cw k r _ b a c];show h3,rfl⟩
 .exact .inr (.inl ⟨by rw[P.cw k r s b a f];show d,by have:=i c;ext,by rw[zm,P.cw k _ s b c f];show h3,rfl⟩)
 show .inr (.inr ⟨by rw[P.cw k r s b a f];show d,rfl⟩)
theorem Ad(P:Cy hs S gk g)(h:lU (dF hs) S g E)(d:k<hs.length)(he:lU (hs.getD k 0) S (gk k) a)(c:Cn a u v):Cn E (aH hs k+u.1,u.2) (aH hs k+v.1,v.2):=
 Cn.to (f:=λu:N3=>((aH hs k+u.1,u.2):N3)) (λx y e=>by
  obtain⟨r,s,b,j,i⟩:=(he _).mp e;show .one (zr7 P h d b j i)) c
theorem wb:dJ 61=false/\dJ 124=false/\dY 61=false/\dY 124=true:=by decide
theorem T5(P:Cy hs S gk g)(h:lU (dF hs) S g E)(a:k+1<hs.length)(b:s<S)(e:g (aH hs k+hs.getD k 0) s=124) :
  Cn E (aH hs k+(hs.getD k 0-1),s,1) (aH hs k+hs.getD k 0,s,1)/\Cn E (aH hs k+hs.getD k 0,s,1) (aH hs (k+1)+0,s,1):=by
 have c:=zA a;have l:=P.pos k c;have d:=P.pos (k+1) a;have f:=xN hs k a;have he:gk k (hs.getD k 0-1) s=124/\gk (k+1) 0 s=124:=by
  rcases P.yB k s a b with z | z
  .rw[e] at z;show absurd z (by decide)
  show z.2
 have j:=pX hs k (hs.getD k 0) c (.inr ⟨rfl,a⟩);have i:=pX hs (k+1) 0 a (.inl d);constructor
 .refine .one ((h _).mpr ⟨aH hs k+(hs.getD k 0-1),s,by lia,b,.inr (.inl ⟨?_,?_,?_,?_⟩)⟩)
  .rw[P.cw k _ s c (by lia) b,he.1];show wb.2.2.2
  .lia
  .rw[show aH hs k+(hs.getD k 0-1)+1=aH hs k+hs.getD k 0 by lia,e];show wb.2.2.2
  rw[show aH hs k+(hs.getD k 0-1)+1=aH hs k+hs.getD k 0 by lia]
 show .one ((h _).mpr ⟨aH hs k+hs.getD k 0,s,j,b,.inr (.inl ⟨?_,?_,?_,?_⟩)⟩)
 .rw[e];show wb.2.2.2
 .simp_all
 .rw[<-f,<-CQ (aH hs (k+1)),P.cw (k+1) 0 s a d b,he.2];show wb.2.2.2
 rw[<-f];rfl
theorem zp6(P:Cy hs S gk g)(h:lU (dF hs) S g E)(q:∀k,k<hs.length->∃t,lU (hs.getD k 0) S (gk k) t)(I:∀k,k<hs.length->R9 (hs.getD k 0) S (gk k) (F k))(C:yN (dF hs) S g x)(L:yN (dF hs) S g y) :
  Cn E x y↔Cn (xo hs F++DP hs S gk g) (um hs gk x) (um hs gk y):=by
 have back:∀{x:N3},yN (dF hs) S g x->Cn E x (W5 hs (um hs gk x)):=λ{x} C=>by
  obtain⟨Q,o,h3⟩:=C;obtain⟨r,s,d⟩:=x;obtain⟨t1,n,t3⟩:=Eg hs r Q;obtain⟨t,he⟩:=q _ t1;generalize (ff hs r).1=k at t1 n t3 he;generalize (ff hs r).2=c at n t3;subst n;rcases t3 with t3 | ⟨rfl,m⟩
  .rw[rF t1 t3];show Ad P h t1 he (u:=(c,s,d)) (R8 he ⟨t3,o,?_⟩);have:=P.cw k c s t1 t3 o;simp only at h3 ⊢;rw[this] at h3;show h3
  rw[Kb t1];have hd:d=1/\g (aH hs k+hs.getD k 0) s=124:=by
   simp only at h3;rcases P.yB k s m o with z | z
   .rw[z] at h3;rcases h3 with⟨_,h3⟩ | ⟨_,h3⟩
    .exact absurd h3 (by show eJ)
    show absurd h3 (by show eJ)
   show⟨?_,z.1⟩;rw[z.1] at h3;rcases h3 with⟨_,h3⟩ | ⟨h3,_⟩
   .exact absurd h3 (by show eJ)
   show h3
  obtain⟨rfl,e⟩:=hd;have M:=P.pos k t1;show(T5 P h m o e).1.symm.trans (Ad P h t1 he (u:=(hs.getD k 0-1,s,1)) (R8 he ⟨by simp only;ext,o,.inr ⟨rfl,?_⟩⟩));rcases P.yB k s m o with z | z
  .rw[e] at z;show absurd z (by decide)
  simp only;rw[z.2.1];show wb.2.2.2
 show ztY (g:=W5 hs) (λa b e=>?_) (λa b e=>?_) (back C) (back L)
 .obtain⟨r,s,p,j,i⟩:=(h _).mp e;obtain⟨t1,n,t3⟩:=Eg hs r p;generalize (ff hs r).1=k at t1 n t3;generalize (ff hs r).2=c at n t3;subst n;rcases t3 with t3 | ⟨rfl,m⟩
  .have G:=P.cw k c s t1 t3 j;rcases i with⟨f,B,A,i⟩ | ⟨f,B,A,i⟩ | ⟨f,i⟩
   .obtain⟨rfl,rfl⟩:=kc i;rw[rF t1 t3,rF t1 t3];have:ph (gk k) (c,s+1,0)=ph (gk k) (c,s,0):=by
     show rA (gk k) c (s+1)=rA (gk k) c s;unfold rA;rw[Ku (show uw (gk k) c s=true by show dJ (gk k c s)=true;rw[<-G];show f)]
    rw[this];show .refl _
   .obtain⟨rfl,rfl⟩:=kc i;rw[rF t1 t3];by_cases O:c+1<hs.getD k 0
    .rw[zm,rF t1 O];have:ph (gk k) (c+1,s,1)=ph (gk k) (c,s,1):=by
      show jr (gk k) (c+1) s=jr (gk k) c s;unfold jr;rw[Ku (show rT (gk k) s c=true by show dY (gk k c s)=true;rw[<-G];show f)]
     rw[this];show .refl _
    have N:c+1=hs.getD k 0:=by lia
    rw[zm,N,Kb t1,show hs.getD k 0-1=c by lia];show .refl _
   obtain⟨rfl,rfl⟩:=kc i;rw[rF t1 t3,rF t1 t3];show .one (iy _ (F6.mpr ⟨k,_,_,t1,(I k t1 _).mpr ⟨c,s,t3,j,by rw[<-G];show f,rfl⟩,rfl⟩))
  have D:g (aH hs k+hs.getD k 0) s=61\/g (aH hs k+hs.getD k 0) s=124:=(P.yB k s m j).imp id λz=>z.1
  rcases i with⟨f,B,A,i⟩ | ⟨f,B,A,i⟩ | ⟨f,i⟩
  .rcases D with z | z<;>(rw[z] at f;show absurd f (by decide))
  .obtain⟨rfl,rfl⟩:=kc i;rcases D with z | z
   .rw[z] at f;show absurd f (by show eJ)
   rw[Kb t1,show aH hs k+hs.getD k 0+1=aH hs (k+1)+0 by rw[xN hs k m],rF m (P.pos _ m)];show .one (eK _ (F7.mpr ⟨k,s,m,j,z,rfl⟩))
  rcases D with z | z<;>(rw[z] at f;show absurd f (by decide))
 rcases cj.mp e with e | e
 .obtain⟨k,a,b,l,R,i⟩:=F6.mp e;obtain⟨rfl,rfl⟩:=kc i;obtain⟨t,he⟩:=q k l;obtain⟨r,s,p,j,f,T⟩:=(I k l _).mp R;obtain⟨rfl,rfl⟩:=kc T;show Ad P h l he (u:=ps (rA (gk k) r s)) (v:=ps (jr (gk k) r s)) (((Rx he p j (by rw[f];show TM)).symm.trans (.one ((he _).mpr ⟨r,s,p,j,.inr (.inr ⟨f,rfl⟩)⟩))).trans (DQ he p j (by rw[f];show TL)))
 obtain⟨k,s,l,j,z,i⟩:=F7.mp e;obtain⟨rfl,rfl⟩:=kc i;have w:=zA l;have M:=P.pos k w;have K:=P.pos (k+1) l;have hv:gk k (hs.getD k 0-1) s=124/\gk (k+1) 0 s=124:=by
  rcases P.yB k s l j with y | y
  .rw[z] at y;show absurd y (by decide)
  show y.2
 obtain⟨t,he⟩:=q k w;obtain⟨W,H⟩:=q (k+1) l;have V:=Ad P h w he (DQ he (r:=hs.getD k 0-1) (by ext) j (by rw[hv.1];show wb.2.2.2));have U:=Ad P h l H (DQ H (r:=0) K j (by rw[hv.2];show wb.2.2.2));have J:=T5 P h l j z;show V.symm.trans ((J.1.trans J.2).trans U)
noncomputable def gv(rows:List (List Nat))(r s:Nat):Nat:=(rows.getD r []).getD s 0
def aby(R S:Nat)(g:Nat->Nat->Nat)(r s:Nat):Prop:=
 (r%2=1->s%2=1->g r s∈[32,45,124,43,35])/\(r%2=0->s%2=0->g r s=32)/\
 (r%2=1->s%2=0->g r s=32\/g r s=45/\(0<s->dJ (g r (s-1))=true)/\(s+1<S->dJ (g r (s+1))=true))/\
 (r%2=0->s%2=1->g r s=32\/g r s=124/\(0<r->dY (g (r-1) s)=true)/\(r+1<R->dY (g (r+1) s)=true))
structure c6(R S:Nat)(rows:List (List Nat)):Prop where
 len:rows.length=R
 bQ:∀l∈rows,l.length=S
 ok:∀r s,r<R->s<S->aby R S (gv rows) r s
structure uS(R S:Nat)(rows:List (List Nat)):Prop where
 len:rows.length=R
 bQ:∀l∈rows,l.length=S
 ok:∀r s,r<R->s<S->gv rows r s∈[32,45,124,43,35]/\(¬(r%2=1/\s%2=1)->gv rows r s=32)
section
variable{R S:Nat}{rows:List (List Nat)}
theorem uS.cw(P:uS R S rows):c6 R S rows:=⟨P.len,P.bQ,λr s e d=>by
 obtain⟨f,c⟩:=P.ok r s e d
 show⟨λ_ _=>f,λa b=>c (by simp_all),λa b=>.inl (c (by simp_all)),λa b=>.inl (c (by simp_all))⟩⟩
noncomputable def ke(rows:List (List Nat))(r s c:Nat):List (List Nat):=rows.set r ((rows.getD r []).set s c)
theorem SK(j:rows.length=R)(hw:∀l∈rows,l.length=S)(i:r<R)(h:s<S)(b a):gv (ke rows r s c) b a=if b=r/\a=s then c else gv rows b a:=by
 unfold gv ke;have f:r<rows.length:=by simp_all
 have hm:rows.getD r []∈rows:=by
  rw[bK,aX f,gW];show eZ _
 have g:s<(rows.getD r []).length:=by rw[hw _ hm];show h
 by_cases e:b=r
 .subst e;rw[bK (l:=rows.set _ _),zO f,gW];by_cases d:a=s
  .subst d;rw[if_pos ⟨rfl,rfl⟩,bK,zO g,gW]
  rw[if_neg (λz=>d z.2),bK,vq (Ne.symm d),<-bK]
 rw[if_neg (λz=>e z.1),bK (l:=rows.set _ _),vq (Ne.symm e),<-bK]
theorem T4(a:rows.length=R)(hw:∀l∈rows,l.length=S)(d:r<R):(ke rows r s c).length=R/\∀l∈ke rows r s c,l.length=S:=by
 unfold ke;have b:r<rows.length:=by simp_all
 have hm:rows.getD r []∈rows:=by
  rw[bK,aX b,gW];show eZ _
 show⟨by rw[pD];show a,λl h=>?_⟩;rcases List.mem_or_eq_of_mem_set h with h | rfl
 .exact hw l h
 rw[pD];show hw _ hm
theorem uS.set(P:uS R S rows)(d:r<R)(i:s<S)(o1:r%2=1)(n:s%2=1)(j:c∈[32,45,124,43,35]):uS R S (ke rows r s c):=by
 obtain⟨f,e⟩:=T4 (s:=s) (c:=c) P.len P.bQ d;show⟨f,e,λb a g m=>?_⟩;rw[SK P.len P.bQ d i];obtain⟨l,k⟩:=P.ok b a g m;by_cases h:b=r/\a=s
 .rw[if_pos h];show⟨j,λz=>absurd ⟨by simp_all,by simp_all⟩ z⟩
 rw[if_neg h];show⟨l,k⟩
theorem c6.set(P:c6 R S rows)(l:r<R)(p:s<S)(w:(r+s)%2=1)
  (g:c=32\/(r%2=1/\c=45/\(0<s->dJ (gv rows r (s-1))=true)/\(s+1<S->dJ (gv rows r (s+1))=true))\/(r%2=0/\c=124/\(0<r->dY (gv rows (r-1) s)=true)/\(r+1<R->dY (gv rows (r+1) s)=true))):c6 R S (ke rows r s c):=by
 obtain⟨n,m⟩:=T4 (s:=s) (c:=c) P.len P.bQ l;have k:=λf d=>SK (c:=c) P.len P.bQ l p f d
 show⟨n,m,λf d o v=>?_⟩;obtain⟨u,t,h3,q⟩:=P.ok f d o v;have ne:∀a b,(a+b)%2=0->gv (ke rows r s c) a b=gv rows a b:=λa b e=>by
  rw[k,if_neg (by lia)]
 show⟨λa b=>?_,λa b=>?_,λa b=>?_,λa b=>?_⟩
 .rw[ne _ _ (by lia)];show u a b
 .rw[ne _ _ (by lia)];show t a b
 .have j:0<d->gv (ke rows r s c) f (d-1)=gv rows f (d-1):=λz=>ne _ _ (by lia)
  have i:gv (ke rows r s c) f (d+1)=gv rows f (d+1):=ne _ _ (by lia);by_cases h:f=r/\d=s
  .obtain⟨rfl,rfl⟩:=h;rw[k,if_pos ⟨rfl,rfl⟩,i];rcases g with g | g | g
   .exact .inl g
   .exact .inr ⟨g.2.1,λz=>by rw[j z];show g.2.2.1 z,g.2.2.2⟩
   simp_all
  rw[k f d,if_neg h,i];rcases h3 a b with z | z
  .exact .inl z
  show .inr ⟨z.1,λy=>by rw[j y];show z.2.1 y,z.2.2⟩
 have j:0<f->gv (ke rows r s c) (f-1) d=gv rows (f-1) d:=λz=>ne _ _ (by lia)
 have i:gv (ke rows r s c) (f+1) d=gv rows (f+1) d:=ne _ _ (by lia);by_cases h:f=r/\d=s
 .obtain⟨rfl,rfl⟩:=h;rw[k,if_pos ⟨rfl,rfl⟩,i];rcases g with g | g | g
  .exact .inl g
  .simp_all
  show .inr ⟨g.2.1,λz=>by rw[j z];show g.2.2.1 z,g.2.2.2⟩
 rw[k f d,if_neg h,i];rcases q a b with z | z
 .exact .inl z
 show .inr ⟨z.1,λy=>by rw[j y];show z.2.1 y,z.2.2⟩
theorem c6.sg(P:c6 R S rows)(d:r<R)(c:s<S):gv rows r s∈[32,45,124,43,35]:=by
 obtain⟨g,f,h3,e⟩:=P.ok r s d c;have b:r%2=0\/r%2=1:=by lia
 have a:s%2=0\/s%2=1:=by lia
 rcases b with b | b<;>rcases a with a | a
 .rw[f b a];show .head _
 .rcases e b a with z | z
  .rw[z];show .head _
  rw[z.1];trivial
 .rcases h3 b a with z | z
  .rw[z];show .head _
  rw[z.1];show .tail _ (.head _)
 show g b a
theorem jO(b:rows.length=R)(hw:∀l∈rows,l.length=S)(h:rows[r]?=some l)(a:s<S):l[s]?=some (gv rows r s):=by
 have hm:l∈rows:=cJ h;unfold gv;rw[bK (l:=rows),h,gW,bK,aX (by rw[hw l hm];show a)];rfl
theorem c6.wd(P:c6 R S rows)(b:0<R):wd rows=S:=by
 cases rows with
 | nil=>have:=P.len;simp at this;simp_all
 | cons a r=>show P.bQ a cT
theorem c6.rb(P:c6 R S rows)(h:R<=100)(g:S<=100):RB rows:=by
 show⟨by rw[P.len];show h,λl a=>by rw[P.bQ l a];show g,λl a c f=>?_⟩;obtain⟨r,e⟩:=gL a;obtain⟨s,d⟩:=gL f;have b:s<S:=by rw[<-P.bQ l a];show(cD.mp d).1
 have i:r<R:=by rw[<-P.len];show(cD.mp e).1
 rw[jO P.len P.bQ e b] at d;have:=P.sg i b;revert this
 simp only[dh,bG,kY,or_false];lia
end
theorem zlQ(h:c∈jP l k):∃i,k-1<=i/\i<k+2/\l[i]?=some c:=by
 unfold jP at h;obtain⟨i,a⟩:=gL h;rw[zD] at a;split at a
 .rw[Dv] at a;show⟨k-1+i,by simp_all,by ext,a⟩
 cases a
theorem UG(h:∀j,l[2*j]?=some m->∀i c,2*j-1<=i->i<2*j+2->l[i]?=some c->p c=true):kj m p l=true:=by
 unfold kj;rw[e7];intro j f;rw[C7];by_cases e:l[2*j]?=some m
 .right
  rw[e7];intro c a;obtain⟨i,d,b,h3⟩:=zlQ a;show h j e i c d b h3
 left
 simp[e]
section
variable{R S:Nat}
theorem SJ(b:rows.length=R)(h:(cX rows k)[i]?=some c):i<R/\c=gv rows i k:=by
 unfold cX at h;rw[bE] at h;obtain⟨l,a,d⟩:=i4.mp h;show⟨by rw[<-b];show(cD.mp a).1,?_⟩;unfold gv;rw[bK (l:=rows),a,gW];show d.symm
theorem Ef(d:rows.length=R)(hw:∀l∈rows,l.length=S)(a:rows[r]?=some l)(h:l[i]?=some c):r<R/\i<S/\c=gv rows r i:=by
 have b:=(cD.mp h).1;rw[hw l (cJ a)] at b;show⟨by rw[<-d];show(cD.mp a).1,b,?_⟩;have:=jO d hw a b;rw[h] at this;show fT this
theorem c6.ok1(P:c6 R S rows)(d:r<R)(c:s<S):iX r s (gv rows r s)=true:=by
 obtain⟨g,f,h3,e⟩:=P.ok r s d c;have b:r%2=0\/r%2=1:=by lia
 have a:s%2=0\/s%2=1:=by lia
 unfold iX;rcases b with b | b<;>rcases a with a | a
 .simp[f b a]
 .rcases e b a with z | z
  .lia
  simp_all
 .rcases h3 b a with z | z
  .lia
  simp_all
 have:=g b a;simp only[bG,kY,or_false] at this;rcases this with z | z | z | z | z<;>simp[z,b,a]
theorem c6.NL(P:c6 R S rows)(B:R%2=1)(A:S%2=1)(h3:3<=S):lD rows=true:=by
 have hw:=P.wd (by lia);unfold lD;simp only[jH];show⟨⟨⟨?_,?_⟩,?_⟩,?_⟩
 .unfold pS;simp only[jH,gJ,e7];show⟨⟨⟨by rw[P.len];show B,by rw[hw];show A⟩,by rw[hw];show h3⟩,λl d=>by rw[hw];show P.bQ l d⟩
 .unfold rO;rw[e7];rintro⟨l,r⟩ x;rw[e7];rintro⟨c,s⟩ w;have G:rows[r]?=some l:=by
   have:=pf.mp x;simpa using this
  have F:l[s]?=some c:=by
   have:=pf.mp w;simpa using this
  obtain⟨f,v,rfl⟩:=Ef P.len P.bQ G F;show P.ok1 f v
 .rw[e7];intro l d;obtain⟨r,f⟩:=gL d;show UG λj n i c D C o=>?_
  obtain⟨E,h,e⟩:=Ef P.len P.bQ f n;obtain⟨_,H,rfl⟩:=Ef P.len P.bQ f o;obtain⟨_,g,u,_⟩:=P.ok r (2*j) E h;have b:r%2=0\/r%2=1:=by lia
  rcases b with b | b
  .rw[g b (by simp_all)] at e;trivial
  rcases u b (by simp_all) with z | z
  .simp_all
  have a:i=2*j-1/\0<2*j\/i=2*j\/i=2*j+1:=by lia
  rcases a with a | a | a
  .rw[a.1];show z.2.1 a.2
  .rw[a,z.1];rfl
  rw[a];show z.2.2 (by lia)
 rw[e7];intro l d;unfold fq at d;obtain⟨k,p,rfl⟩:=aB.mp d;have q:k<S:=by rw[hw] at p;simpa using p
 show UG λj n i c D C o=>?_
 obtain⟨m,e⟩:=SJ P.len n;obtain⟨y,rfl⟩:=SJ P.len o;obtain⟨_,g,_,t⟩:=P.ok (2*j) k m q;have b:k%2=0\/k%2=1:=by lia
 rcases b with b | b
 .rw[g (by simp_all) b] at e;trivial
 rcases t (by simp_all) b with z | z
 .simp_all
 have a:i=2*j-1/\0<2*j\/i=2*j\/i=2*j+1:=by lia
 rcases a with a | a | a
 .rw[a.1];show z.2.1 a.2
 .rw[a,z.1];rfl
 rw[a];show z.2.2 (by lia)
theorem c6.link(P:c6 R S rows):R9 R S (gv rows) (pY rows):=by
 intro p;unfold pY;rw[kW];have y:∀k,(λr=>c9 true (cX rows k) r)=λr=>c9 true (cX rows k) r:=λ_=>rfl
 have u:∀r l,rows[r]?=some l->∀s,s<S->c9 false l s=uw (gv rows) r s:=λr l d s e=>by
  unfold c9 uw;have:=jO P.len P.bQ d e;rw[bK,this];rfl
 have t:∀s r,r<R->c9 true (cX rows s) r=rT (gv rows) s r:=λs r d=>by
  have m:r<rows.length:=by rw[P.len];show d
  unfold c9 rT cX gv;rw[bK,bE,aX m,bK (l:=rows),aX m];rfl
 have o:∀(a b:Nat->Bool) n,(∀i,i<n->a i=b i)->dO a n=dO b n:=λa b n=>by
  induction n with
  | zero=>intro _;rfl
  | succ n v=>
   intro h;show(if a n=true then dO a n else n+1)=if b n=true then dO b n else n+1
   rw[h n (Dj n),v λi f=>h i (tH f)]
 constructor
 .rintro⟨⟨l,r⟩,w,q⟩;have g:rows[r]?=some l:=by simpa using pf.mp w
  unfold mq at q;obtain⟨⟨c,s⟩,hz,rfl⟩:=aB.mp q;obtain⟨hz,j⟩:=eY.mp hz;have x:l[s]?=some c:=by simpa using pf.mp hz
  obtain⟨d,e,e3⟩:=Ef P.len P.bQ g x;have j:c=43:=by show eq_of_beq ‹_›
  show⟨r,s,d,e,by rw[<-e3];show j,?_⟩;unfold rA jr;rw[o (c9 false l) (uw (gv rows) r) s λi f=>u r l g i (by lia),o (c9 true (cX rows s)) (rT (gv rows) s) r λi f=>t s i (by lia)]
 rintro⟨r,s,d,e,j,rfl⟩;have m:r<rows.length:=by rw[P.len];show d
 have g:rows[r]?=some rows[r]:=aX m;show⟨(rows[r],r),pf.mpr (by trivial),?_⟩;unfold mq;show aB.mpr ⟨(43,s),eY.mpr ⟨pf.mpr ?_,by rfl⟩,?_⟩
 .have:=jO P.len P.bQ g e;rw[j] at this;trivial
 unfold rA jr;rw[o (c9 false rows[r]) (uw (gv rows) r) s λi f=>u r _ g i (by lia),o (c9 true (cX rows s)) (rT (gv rows) s) r λi f=>t s i (by lia)]
end
noncomputable def cA{α:Type}(b:Prop)[Decidable b](x:α):List α:=if b then [x] else []
noncomputable def iG(R S:Nat)(g:Nat->Nat->Nat):List (N3×aQ):=(aN (R/2)).flatMap λk=>cA (g (2*k+1) 0=45) (((2*k+1,0,0),("left",((k:Nat):Int))):N3×aQ)++cA (g (2*k+1) (S-1)=45) (((2*k+1,S-1,0),("right",((k:Nat):Int))):N3×aQ)
noncomputable def fM(R S:Nat)(g:Nat->Nat->Nat):List (N3×aQ):=(aN (S/2)).flatMap λk=>cA (g 0 (2*k+1)=124) (((0,2*k+1,1),("top",((k:Nat):Int))):N3×aQ)++cA (g (R-1) (2*k+1)=124) (((R-1,2*k+1,1),("bottom",((k:Nat):Int))):N3×aQ)
theorem La{α:Type}(d)(l:List α):l.zipIdx=(aN l.length).map λi=>(l.getD i d,i):=by
 apply pF;intro i;rw[zH,bE];by_cases h:i<l.length
 .simp[h]
 rw[tL (by simp_all),tL (by simpa using h)];rfl
theorem KD{β:Type}(f:Nat->List β)(h:∀k,f (2*k)=[]):∀m,(aN (2*m+1)).flatMap f=(aN m).flatMap λk=>f (2*k+1)
 | 0=>by
  have:=h 0;simp_all
 | m+1=>by
  rw[show 2*(m+1)+1=2*m+1+1+1 by rfl,oj,oj (n:=2*m+1),oj (n:=m),lL,lL,lL,KD f h m];have:=h (m+1);rw[show 2*(m+1)=2*m+1+1 by rfl] at this;simp[this]
theorem AZ{α β:Type}{f g:α->List β}:∀{l:List α},(∀a∈l,f a=g a)->l.flatMap f=l.flatMap g
 | [],_=>rfl
 | a::l,h=>by
  rw[nc,nc,h a cT,AZ λb c=>h b (cK _ c)]
theorem JU{α β:Type}(d c:ae)(f:d≠c)(a b:Nat->Prop)[∀k,Decidable (a k)][∀k,Decidable (b k)](x y:Nat->α):∀n,(((aN n).flatMap λk=>cA (a k) (x k,(d,((k:Nat):Int)))++cA (b k) (y k,(c,((k:Nat):Int)))).map (·.2)).Nodup/\
  ∀e∈((aN n).flatMap λk=>cA (a k) (x k,(d,((k:Nat):Int)))++cA (b k) (y k,(c,((k:Nat):Int)))).map (·.2),(e.1=d\/e.1=c)/\e.2<(n:Int)
 | 0=>by simp
 | n+1=>by
  obtain⟨i,g⟩:=JU (β:=β) d c f a b x y n;have new:∀e∈(cA (a n) (x n,(d,((n:Nat):Int)))++cA (b n) (y n,(c,((n:Nat):Int)))).map (·.2),(e.1=d\/e.1=c)/\e.2=(n:Int):=λe he=>by
   unfold cA at he;split at he<;>split at he<;>simp at he
   .rcases he with rfl | rfl
    .exact⟨.inl rfl,rfl⟩
    show⟨.inr rfl,rfl⟩
   .subst he;show⟨.inl rfl,rfl⟩
   subst he;show⟨.inr rfl,rfl⟩
  rw[oj,lL,bY];show⟨pG.mpr ⟨i,?_,λe he j h z=>?_⟩,λe he=>?_⟩
  .simp only[nc,zz,gI];unfold cA;split<;>split<;>simp[f]
  .simp only[nc,zz,gI] at h;have:=(g e he).2;have:=(new j h).2;lia
  rcases cj.mp he with he | he
  .have:=g e he;show⟨this.1,by lia⟩
  simp only[nc,zz,gI] at he;have:=new e he;show⟨this.1,by lia⟩
theorem AH{α:Type}(a b:Nat->Prop)[∀k,Decidable (a k)][∀k,Decidable (b k)](x y:Nat->α)(n:Nat):((aN n).flatMap λk=>cA (a k) (x k)++cA (b k) (y k)).length<=n*2:=by
 have:=xO (f:=λk=>cA (a k) (x k)++cA (b k) (y k)) (k:=2) (λk=>by unfold cA;split<;>split<;>simp) (aN n);simpa using this
section
variable{R S:Nat}{rows:List (List Nat)}{g:Nat->Nat->Nat}
theorem Ka:((iG R S g++fM R S g).map (·.2)).Nodup:=by
 rw[bY];have d:=JU (α:=N3) (β:=Nat) "left" "right" (by decide +kernel) (λk=>g (2*k+1) 0=45) (λk=>g (2*k+1) (S-1)=45) (λk=>(2*k+1,0,0)) (λk=>(2*k+1,S-1,0)) (R/2);have c:=JU (α:=N3) (β:=Nat) "top" "bottom" (by decide +kernel) (λk=>g 0 (2*k+1)=124) (λk=>g (R-1) (2*k+1)=124) (λk=>(0,2*k+1,1)) (λk=>(R-1,2*k+1,1)) (S/2);show pG.mpr ⟨d.1,c.1,λe he h f z=>?_⟩;subst z;rcases(d.2 e he).1 with a | a<;>rcases(c.2 e f).1 with b | b<;>(rw[a] at b;show absurd b (by decide +kernel))
theorem Fi(h:R/2*2+S/2*2<64):(iG R S g++fM R S g).length<64:=by
 have b:=AH (λk=>g (2*k+1) 0=45) (λk=>g (2*k+1) (S-1)=45) (λk=>(((2*k+1,0,0),("left",((k:Nat):Int))):N3×aQ)) (λk=>((2*k+1,S-1,0),("right",((k:Nat):Int)))) (R/2);have a:=AH (λk=>g 0 (2*k+1)=124) (λk=>g (R-1) (2*k+1)=124) (λk=>(((0,2*k+1,1),("top",((k:Nat):Int))):N3×aQ)) (λk=>((R-1,2*k+1,1),("bottom",((k:Nat):Int)))) (S/2);rw[bL];unfold iG fM;lia
theorem AB{α:Type}{b:Prop}[Decidable b]{x y:α}(h:x∈cA b y):b/\x=y:=by
 unfold cA at h;split at h
 .exact⟨by assumption,by simpa using h⟩
 cases h
theorem zr8(d:R%2=1)(c:S%2=1):∀q∈iG R S g++fM R S g,yN R S g q.1:=λq a=>by
 rcases cj.mp a with a | a
 .obtain⟨k,b,a⟩:=kW.mp a;have b:k<R/2:=by simpa using b
  rcases cj.mp a with a | a
  .obtain⟨e,rfl⟩:=AB a;show⟨by lia,by lia,.inl ⟨rfl,by rw[e];rfl⟩⟩
  obtain⟨e,rfl⟩:=AB a;show⟨by lia,by show S-1<S;ext,.inl ⟨rfl,by rw[e];rfl⟩⟩
 obtain⟨k,b,a⟩:=kW.mp a;have b:k<S/2:=by simpa using b
 rcases cj.mp a with a | a
 .obtain⟨e,rfl⟩:=AB a;show⟨by lia,by lia,.inr ⟨rfl,by rw[e];rfl⟩⟩
 obtain⟨e,rfl⟩:=AB a;show⟨by show R-1<R;ext,by lia,.inr ⟨rfl,by rw[e];rfl⟩⟩
theorem JT(a b):∀n,(∀i,i<n->a i=b i)->dO a n=dO b n
 | 0,_=>rfl
 | n+1,h=>by
  show(if a n=true then dO a n else n+1)=if b n=true then dO b n else n+1
  rw[h n (Dj n),JT a b n λi c=>h i (tH c)]
theorem EX{α β:Type}{b:Prop}[Decidable b](f:α->β)(x:α):(cA b x).map f=cA b (f x):=by
 unfold cA;split<;>rfl
theorem oD{α:Type}{b:Prop}[Decidable b](x:α)(h:¬b):cA b x=[]:=if_neg h
theorem zr9(P:c6 R S rows)(h:S%2=1)(a:r<R)(c:r%2=0):f6 false "left" "right" (rows.getD r [],r)=[]:=by
 have g:r<rows.length:=by rw[P.len];show a
 have b:rows[r]?=some (rows.getD r []):=by rw[bK,aX g];rfl
 have f:(rows.getD r []).length=S:=P.bQ _ (cJ b);have e:gv rows r 0=32:=(P.ok r 0 a (by lia)).2.1 c rfl;have d:gv rows r (S-1)=32:=(P.ok r (S-1) a (by ext)).2.1 c (by lia);unfold f6;rw[f,jO P.len P.bQ b (s:=0) (by lia),jO P.len P.bQ b (s:=S-1) (by ext),e,d,if_neg (by decide),if_neg (by decide)];rfl
theorem zua(P:c6 R S rows)(g:S%2=1)(b:2*k+1<R):f6 false "left" "right" (rows.getD (2*k+1) [],2*k+1) =
  (cA (gv rows (2*k+1) 0=45) (((2*k+1,0,0),("left",((k:Nat):Int))):N3×aQ)++cA (gv rows (2*k+1) (S-1)=45) (((2*k+1,S-1,0),("right",((k:Nat):Int))):N3×aQ)).map λq=>(ph (gv rows) q.1,q.2):=by
 have e:2*k+1<rows.length:=by rw[P.len];show b
 have a:rows[2*k+1]?=some (rows.getD (2*k+1) []):=by rw[bK,aX e];rfl
 have c:(rows.getD (2*k+1) []).length=S:=P.bQ _ (cJ a);have d:(2*k+1)/2=k:=by lia
 unfold f6;rw[c,jO P.len P.bQ a (s:=0) (by lia),jO P.len P.bQ a (s:=S-1) (by ext),bY,EX,EX];simp only[d];have h:dO (c9 false (rows.getD (2*k+1) [])) (S-1)=dO (uw (gv rows) (2*k+1)) (S-1):=JT _ _ _ λi f=>by
  rfl
 simp only[gK];rfl
theorem zp7(P:c6 R S rows)(f:R%2=1)(c:S%2=1):tY false "left" "right" rows=(iG R S (gv rows)).map λq=>(ph (gv rows) q.1,q.2):=by
 unfold tY iG;rw[La [] rows,Pz,Dc,P.len];have hm:R=2*(R/2)+1:=by lia
 have key:=KD (λr=>if r<R then f6 false "left" "right" (rows.getD r [],r) else []) (λk=>by
  split
  .exact zr9 P c (by assumption) (by lia)
  .rfl) (R/2)
 rw[<-hm] at key;have e:(aN R).flatMap (λa=>f6 false "left" "right" (rows.getD a [],a))=(aN R).flatMap λr=>if r<R then f6 false "left" "right" (rows.getD r [],r) else []:=AZ λr d=>by rw[if_pos (by simpa using d)]
 rw[e,key];show AZ λk b=>?_
 have b:k<R/2:=by simpa using b
 rw[if_pos (by lia)];show zua P c (by lia)
theorem zT(P:c6 R S rows)(b:i<R):(cX rows k)[i]?=some (gv rows i k):=by
 have a:i<rows.length:=by rw[P.len];show b
 unfold cX gv;rw[bE,aX a,bK (l:=rows),aX a];rfl
theorem T1(P:c6 R S rows)(k):(cX rows k).length=R:=by unfold cX;rw[ax,P.len]
theorem zsa(P:c6 R S rows)(e:R%2=1)(a:r<S)(b:r%2=0):f6 true "top" "bottom" (cX rows r,r)=[]:=by
 have d:gv rows 0 r=32:=(P.ok 0 r (by lia) a).2.1 rfl b;have c:gv rows (R-1) r=32:=(P.ok (R-1) r (by ext) a).2.1 (by lia) b;unfold f6;rw[T1 P,zT P (i:=0) (by lia),zT P (i:=R-1) (by ext),d,c,if_neg (by decide),if_neg (by decide)];rfl
theorem zuc(P:c6 R S rows)(e:R%2=1)(c:2*k+1<S):f6 true "top" "bottom" (cX rows (2*k+1),2*k+1) =
  (cA (gv rows 0 (2*k+1)=124) (((0,2*k+1,1),("top",((k:Nat):Int))):N3×aQ)++cA (gv rows (R-1) (2*k+1)=124) (((R-1,2*k+1,1),("bottom",((k:Nat):Int))):N3×aQ)).map λq=>(ph (gv rows) q.1,q.2):=by
 have a:(2*k+1)/2=k:=by lia
 unfold f6;rw[T1 P,zT P (i:=0) (by lia),zT P (i:=R-1) (by ext),bY,EX,EX];simp only[a];have b:dO (c9 true (cX rows (2*k+1))) (R-1)=dO (rT (gv rows) (2*k+1)) (R-1):=JT _ _ _ λi d=>by
  unfold c9 rT;rw[bK,zT P (by ext)];rfl
 rw[b];simp only[gK];rfl
theorem zp8(P:c6 R S rows)(d:R%2=1)(h:S%2=1):tY true "top" "bottom" (fq rows)=(fM R S (gv rows)).map λq=>(ph (gv rows) q.1,q.2):=by
 unfold tY fM;have hw:=P.wd (by lia);have e:(fq rows).length=S:=by unfold fq;simp[hw]
 rw[La [] (fq rows),Pz,Dc,e];have f:∀r,r<S->(fq rows).getD r []=cX rows r:=λr b=>by
  unfold fq;rw[bK,bE,wY (by rw[hw];show b)];rfl
 have hm:S=2*(S/2)+1:=by lia
 have key:=KD (λr=>if r<S then f6 true "top" "bottom" (cX rows r,r) else []) (λk=>by
  split
  .exact zsa P d (by assumption) (by lia)
  .rfl) (S/2)
 rw[<-hm] at key;have g:(aN S).flatMap (λa=>f6 true "top" "bottom" ((fq rows).getD a [],a))=(aN S).flatMap λr=>if r<S then f6 true "top" "bottom" (cX rows r,r) else []:=AZ λr b=>by rw[if_pos (by simpa using b),f r (by simpa using b)]
 rw[g,key];show AZ λk c=>?_
 have c:k<S/2:=by simpa using c
 rw[if_pos (by lia)];show zuc P d (by lia)
theorem xI(P:c6 R S rows)(b:R%2=1)(a:S%2=1):endsF rows=(iG R S (gv rows)++fM R S (gv rows)).map λq=>(ph (gv rows) q.1,q.2):=by
 unfold endsF;rw[zp7 P b a,zp8 P b a,bY]
end
noncomputable def cI(c:Nat):D:=.str (aE [c])
noncomputable def aS(rows:List (List Nat)):List (List D):=rows.map λl=>l.map cI
noncomputable def ij(rows:List (List Nat)):D:=.lst ((aS rows).map .lst)
theorem k7{l:List α}(h:j<l.length):bF l (j:Int)=l[j]?:=by rw[oE h,aX h]
def A7:cg:=λds Q=>∃(ns:List Int)(k m:Nat),ds=[dI ns,.int k,.int m]/\ns.length<=1000/\0<m/\k<=100000/\∀d:Nat,d<m->Q (.fz (.int d))
noncomputable def Oz:(T:TX) ×' ∀{P w K mg base},Txt K mg->Known P w K mg base 1 "_law_mix" 2 qf->eF P w K mg base 1 "_law_digit" ["_law_script","_law_k","_law_many"] (top 33) T:=
 ⟨_,λT gH nd f c A outer s H E a=>have b:=a.units;
 (aJ (eM (dA Jk (aP cN (af 1) aw) (cR gO T.b_len gi (ah (af 0) aq))) (aU (eB (aP gz (cE gH a (ah (bV (af 0) (aP cN (af 1) aw)) (ah (aP gz (af 1) aw) aq))) (af 2)))) eQ)
   (aU (eB (aP gz (cE gH a (ah (cR (vG rfl) T.b_sum uZ (ah (oF (af 0) qc (lp aw)) aq)) (ah (af 1) aq))) (af 2)))))⟩
def LY:TX:=Oz.1
theorem zfO:dX 3 A7 LY ["_law_script","_law_k","_law_many"]:=by
 intro ds d hl h;obtain⟨ns,k,m,rfl,e,hm,f,q⟩:=h;show LY _ [.fz (dI ns),.fz (.int k),.fz (.int m)];unfold LY Oz;dsimp only;unfold dI;have fin:∀x:Int,d (.fz (.int (x%(m:Int)))):=λx=>by
  have b:=C5 x (show(m:Int)≠0 by lia);have g:=Dt x (show(0:Int)<m by simp_all);have:=q (x%(m:Int)).toNat (by simp_all);rw[Il b] at this;show this
 walk_at"px";split
 .rename_i h;rw[ax] at h;show⟨ns[k+2]'(by lia),?_,_,_,rfl,by show Ih _,by lia,by simp_all,fin _⟩;rw[show((k:Int)+2)=((k+2:Nat):Int) by rfl,oE (by lia)]
 walk_at"go";show⟨_,_,rfl,by simp_all,by lia,by simp_all,fin _⟩
noncomputable def yE(p:Int×Int):D:=.tup [.int p.1,.int p.2]
noncomputable def gj(R S:Nat)(g:Nat->Nat->Nat)(p:Nat->Bool)(q:Int×Int):Bool:=!(decide (0<=q.1/\q.1<R)&&decide (0<=q.2/\q.2<S))||p (g q.1.toNat q.2.toNat)
noncomputable def gF(b:Bool)(rows:List (List Nat)):D:=if b then cW rows else ij rows
def Bp:cg:=λds Q=>∃(b:Bool)(R S:Nat)(rows:List (List Nat))(a:List (Int×Int))(w:ae)(p:Nat->Bool),ds=[gF b rows,.lst (a.map yE),.str w]/\rows.length=R/\(∀l∈rows,l.length=S)/\0<R/\S<=1000/\(∀l∈rows,∀c∈l,c∈dh)/\(∀c∈dh,jd w c=p c)/\a.length<=100/\Q (.fz (.bl (a.all (gj R S (gv rows) p))))
noncomputable def Ov:(T:TX) ×' ∀{P w K mg base},Txt K mg->eF P w K mg base 0 "_law_led" ["_law_grid","_law_places","_law_wanted","_law_r","_law_s"] (top 34) T:=
 ⟨_,λT nd f c A outer s H E b=>have a:=b.units;
 (aJ (fA eH rfl (fB (af 1)) (gC (n:=2) rfl (cf (aY 3 nd) (cf (aY 4 nd) fU)))
    (aU (eM (ny (Vx Sb Jv aw (af 3) (cR gO T.b_len gi (ah (af 0) aq))) (ny (Vx Sb Jv aw (af 4) (cR gO T.b_len gi (ah (bV (af 0) aw) aq))) (vR (dA (T7 a) (bV (bV (af 0) (af 3)) (af 4)) (af 2))))).pb (aU (eB l5)) eQ)))
   (aU (eB l5)))⟩
def Lg:TX:=Ov.1
theorem zhH:dX 3 Bp Lg ["_law_grid","_law_places","_law_wanted","_law_r","_law_s"]:=by
 intro ds Q hl h;obtain⟨b,R,S,rows,g,w,p,rfl,z,y,U,M,J,L,P,q⟩:=h;show Lg _ [.fz (gF b rows),.fz (.lst (g.map yE)),.fz (.str w),.un,.un];unfold Lg Ov;dsimp only;have big:=dP;have A:∃t,rows[0]?=some t/\t.length=S:=⟨rows[0]'(by simp_all),aX _,y _ (eZ _)⟩
 obtain⟨t,A,h0⟩:=A;show jS g yE (λT h=>?_) (λi ρ=>∃a c:Sl,(g.take i).all (gj R S (gv rows) p)=true/\ρ=[.fz (gF b rows),.fz (.lst (g.map yE)),.fz (.str w),a,c]) ⟨_,_,by simp,rfl⟩ ?_ ?_
 .walk_at"px";show h
 .rintro i ⟨r,s⟩ ρ K ⟨a,c,f,rfl⟩;have O:((aS rows).map D.lst).length=R:=by unfold aS;simp[z]
  have I:bF (aS rows) 0=some (t.map cI):=by
   rw[show(0:Int)=((0:Nat):Int) from rfl,k7 (by simp_all)];unfold aS;rw[bE,A];rfl
  have tk:(g.take (i+1)).all (gj R S (gv rows) p)=((g.take i).all (gj R S (gv rows) p)&&gj R S (gv rows) p (r,s)):=by
   rw[gf,K,HN];simp
  have bad:gj R S (gv rows) p (r,s)=false->g.all (gj R S (gv rows) p)=false:=λh=>by
   cases e:g.all (gj R S (gv rows) p) with
   | false=>rfl
   | true=>
    rw[e7] at e;rw[e _ (cJ K)] at h;cases h
  have N:(rows.map λl=>D.str (aE l)).length=R:=by rw[ax,z]
  have H:bF rows 0=some t:=by
   rw[show(0:Int)=((0:Nat):Int) from rfl,k7 (by simp_all),A]
  have B:(aE t).length=S:=by rw[t6,h0]
  cases b with
  | false=>
   rw[show yE (r,s)=.tup [.int r,.int s] from rfl,show gF false rows=.lst ((aS rows).map .lst) from rfl];walk_at"px";rw[O];by_cases o:0<=r
   .rw[if_pos o];by_cases m:r<R
    .rw[if_pos m];by_cases h3:0<=s
     .rw[if_pos h3];show⟨_,I,?_⟩;walk_at"px";rw[ax,h0];by_cases j:s<S
      .rw[if_pos j];obtain⟨d,rfl⟩:∃n:Nat,r=n:=⟨r.toNat,by lia⟩
       obtain⟨sn,rfl⟩:∃n:Nat,s=n:=⟨s.toNat,by lia⟩
       have F:d<rows.length:=by simp_all
       have x:rows[d]?=some rows[d]:=aX F;have v:=jO z y x (s:=sn) (by simp_all);have hm:gv rows d sn∈dh:=J _ (eZ _) _ (cJ v);have a1:bF (aS rows) (d:Nat)=some (rows[d].map cI):=by
        rw[k7 (by simp_all)];unfold aS;rw[bE,x];rfl
       have a2:bF rows[d] (sn:Nat)=some (gv rows d sn):=by
        rw[k7 (by simp_all),v]
       show⟨_,a1,?_⟩;walk_at"px";show⟨_,a2,?_⟩;have E:(mV w ⟨#[gv rows d sn]⟩ 0 w.length 1).isEmpty=!(p (gv rows d sn)):=by
        rw[<-L _ hm];unfold jd;rw[tm]
       have lf:gj R S (gv rows) p ((d:Int),(sn:Int))=p (gv rows d sn):=by
        unfold gj;have g1:(0:Int)<=d/\(d:Int)<R:=⟨by ext,by ext⟩
        have g2:(0:Int)<=sn/\(sn:Int)<S:=⟨by ext,by ext⟩
        simp[g1,g2]
       show(if (!!(mV w ⟨#[gv rows d sn]⟩ 0 w.length 1).isEmpty)=true then _ else _);rw[E];cases u:p (gv rows d sn) with
       | false=>
        rw[bad (by rw[lf,u])] at q;show q
       | true=>
        show⟨_,_,by rw[tk,f,lf,u];rfl,rfl⟩
      rw[if_neg j];show⟨_,_,by rw[tk,f];unfold gj;simp[j],rfl⟩
     rw[if_neg h3];show⟨_,_,by rw[tk,f];unfold gj;simp[h3],rfl⟩
    rw[if_neg m];show⟨_,_,by rw[tk,f];unfold gj;simp[m],rfl⟩
   rw[if_neg o];show⟨_,_,by rw[tk,f];unfold gj;simp[o],rfl⟩
  | true=>
   rw[show yE (r,s)=.tup [.int r,.int s] from rfl,show gF true rows=.lst (rows.map λl=>.str (aE l)) from rfl];walk_at"px";rw[N];by_cases o:0<=r
   .rw[if_pos o];by_cases m:r<R
    .rw[if_pos m];by_cases h3:0<=s
     .rw[if_pos h3];show⟨_,H,?_⟩;walk_at"px";rw[B];show⟨by lia,?_⟩;by_cases j:s<S
      .rw[if_pos j];obtain⟨d,rfl⟩:∃n:Nat,r=n:=⟨r.toNat,by lia⟩
       obtain⟨sn,rfl⟩:∃n:Nat,s=n:=⟨s.toNat,by lia⟩
       have F:d<rows.length:=by simp_all
       have x:rows[d]?=some rows[d]:=aX F;have v:=jO z y x (s:=sn) (by simp_all);have hm:gv rows d sn∈dh:=J _ (eZ _) _ (cJ v);have a1:bF rows (d:Nat)=some rows[d]:=by
        rw[k7 (by ext),x]
       have C:rows[d].length=S:=y _ (eZ _);have a2:bF rows[d] (sn:Nat)=some (gv rows d sn):=by
        rw[k7 (by simp_all),v]
       show⟨_,a1,?_⟩;walk_at"px";show⟨by rw[t6,C];lia,_,by show a2,?_⟩;have E:(mV w ⟨#[gv rows d sn]⟩ 0 w.length 1).isEmpty=!(p (gv rows d sn)):=by
        rw[<-L _ hm];unfold jd;rw[tm]
       have lf:gj R S (gv rows) p ((d:Int),(sn:Int))=p (gv rows d sn):=by
        unfold gj;have g1:(0:Int)<=d/\(d:Int)<R:=⟨by ext,by ext⟩
        have g2:(0:Int)<=sn/\(sn:Int)<S:=⟨by ext,by ext⟩
        simp[g1,g2]
       rw[E];cases u:p (gv rows d sn) with
       | false=>
        rw[bad (by rw[lf,u])] at q;show q
       | true=>
        show⟨_,_,by rw[tk,f,lf,u];rfl,rfl⟩
      rw[if_neg j];show⟨_,_,by rw[tk,f];unfold gj;simp[j],rfl⟩
     rw[if_neg h3];show⟨_,_,by rw[tk,f];unfold gj;simp[h3],rfl⟩
    rw[if_neg m];show⟨_,_,by rw[tk,f];unfold gj;simp[m],rfl⟩
   rw[if_neg o];show⟨_,_,by rw[tk,f];unfold gj;simp[o],rfl⟩
 rintro ρ ⟨a,c,f,rfl⟩;rw[gw] at f;walk_at"go";rw[f] at q;show q
noncomputable def qh(a:List Int)(wide:Nat):Nat:=(1+pM (fK a none (some 1)).sum 802%(wide:Int)).toNat
def Bs:cg:=λds Q=>∃(ns:List Int)(high wide:Nat),ds=[dI ns,.int high,.int wide]/\ns.length<=1000/\high<=20/\1<=wide/\wide<=20/\∀t rows,t<=high->1<=qh ns wide->qh ns wide<=wide->c6 (2*t+1) (2*qh ns wide+1) rows->Q (.ov (.ll (aS rows)))
theorem Ee(h:k<n):jy n (k:Int)=some k:=by
 unfold jy;rw[if_pos (by ext),if_pos (by ext),jJ]
theorem J9:(aS rows).set r (((rows.getD r []).map cI).set s (cI c))=aS (ke rows r s c):=by
 unfold aS ke;rw[u6,u6]
theorem xD(h:r<rows.length):(aS rows)[r]?=some ((rows.getD r []).map cI):=by
 unfold aS;rw[bE,bK,aX h];rfl
theorem sg8:∀d,d<8->∃c∈[32,45,124,43,35],bF (" -|+#+#-":ae).cps.toList ((d:Nat):Int)=some c:=by decide +kernel
theorem sgH:∀d,d<3->∃c∈[32,45],bF (" --":ae).cps.toList ((d:Nat):Int)=some c:=by decide +kernel
theorem sgV:∀d,d<3->∃c∈[32,124],bF (" ||":ae).cps.toList ((d:Nat):Int)=some c:=by decide +kernel
theorem Ru{R S:Nat}(h:[a,b].all (gj R S g p)=true):((0<=a.1/\a.1<R)->(0<=a.2/\a.2<S)->p (g a.1.toNat a.2.toNat)=true)/\((0<=b.1/\b.1<R)->(0<=b.2/\b.2<S)->p (g b.1.toNat b.2.toNat)=true):=by
 simp only[Pf,List.all_nil,Bool.and_true,jH] at h;unfold gj at h;show⟨λd c=>?_,λd c=>?_⟩
 .have:=h.1;rw[iu d,iu c] at this;simpa using this
 have:=h.2;rw[iu d,iu c] at this;simpa using this
theorem zes:(["_law_r","_law_width"]:List ae).Nodup:=by decide +kernel
noncomputable def Oo:(T:TX) ×' ∀{P w K mg base},Txt K mg->Known P w K mg base 1 "_law_mix" 2 qf->Known P w K mg base 2 "_law_digit" 3 A7->Known P w K mg base 1 "_law_led" 3 Bp->eF P w K mg base 2 "_law_picture" ["_law_script","_law_high","_law_wide","_law_tracks","_law_width","_law_grid","_law_k","_law_t","_law_c","_law_r","_law_s"] (top 35) T:=
 ⟨_,λT gH uX wI nd f d A outer s H E a=>have b:=a.units;
 (aJ (cV 3 (aP gz (cE gH a (ah (cR (vG rfl) T.b_sum uZ (ah (oF (af 0) qc (lp aw)) aq)) (ah aw aq))) (aP cN (af 1) aw)) nd)
   (aJ (cV 4 (aP cN aw (aP gz (cE gH a (ah (cR (vG rfl) T.b_sum uZ (ah (oF (af 0) qc (lp aw)) aq)) (ah aw aq))) (af 2))) nd)
   (aJ (zpi 5 rfl (.of (N':=["_law_r","_law_width"]) (m:=[none,some 4]) (by kernel_rfl)) fb (qe T.b_range (ah (aP cN (aP nr aw (af 3)) aw) aq)) (λs3 c ex=>(aY 0 zes)) (λs3 c ex=>fL) (λs3 c ex=>(ztA (gE (ah df aq)) (aP cN (aP nr aw (af 1)) aw))) nd)
   (aJ (cV 6 aw nd)
   (aJ (fA eH rfl (qe T.b_range (ah (af 3) aq)) (aY 7 nd)
    (aU (fA eH rfl (qe T.b_range (ah (af 4) aq)) (aY 8 nd)
    (aJ (Ln 5 (aP cN (aP nr aw (af 7)) aw) (aP cN (aP nr aw (af 8)) aw) (bV df (cE uX a (ah (af 0) (ah (af 6) (ah aw aq))))))
   (aU (cV 6 (aP cN (af 6) aw) nd))))))
   (aJ (fA eH rfl (qe T.b_range (ah (aP cN (aP nr aw (af 3)) aw) aq)) (aY 9 nd)
    (aU (fA eH rfl (qe T.b_range (ah (aP cN (aP nr aw (af 4)) aw) aq)) (aY 10 nd)
    (aJ (eM (ny (dA (fj b) (aP gz (af 9) aw) aw) (ny (dA (fj b) (aP gz (af 10) aw) aw) (vR (jQ (Uk 5 (cE wI a (ah (af 5) (ah (gE (ah (cY (ah (af 9) (ah (aP tV (af 10) aw) aq))) (ah (cY (ah (af 9) (ah (aP cN (af 10) aw) aq))) aq))) (ah df aq))))))))).pb (aJ (Ln 5 (af 9) (af 10) (bV df (cE uX a (ah (af 0) (ah (af 6) (ah aw aq))))))
   (aU (cV 6 (aP cN (af 6) aw) nd))) eQ)
   (aU (eM (ny (dA (fj b) (aP gz (af 9) aw) aw) (ny (dA (fj b) (aP gz (af 10) aw) aw) (vR (jQ (Uk 5 (cE wI a (ah (af 5) (ah (gE (ah (cY (ah (aP tV (af 9) aw) (ah (af 10) aq))) (ah (cY (ah (aP cN (af 9) aw) (ah (af 10) aq))) aq))) (ah df aq))))))))).pb (aJ (Ln 5 (af 9) (af 10) (bV df (cE uX a (ah (af 0) (ah (af 6) (ah aw aq))))))
   (aU (cV 6 (aP cN (af 6) aw) nd))) eQ))))))
   (aU (Kk 5))))))))⟩
def LJ:TX:=Oo.1
theorem zet:dX 3 Bs LJ ["_law_script","_law_high","_law_wide","_law_tracks","_law_width","_law_grid","_law_k","_law_t","_law_c","_law_r","_law_s"]:=by
 intro ds Qr hl h;obtain⟨ns,high,wide,rfl,A,hh,XD,XC,q⟩:=h;show LJ _ [.fz (dI ns),.fz (.int high),.fz (.int wide),.un,.un,.un,.un,.un,.un,.un,.un];unfold LJ Oo;dsimp only;unfold dI;have big:=dP;walk_at"px";show⟨_,_,rfl,by decide,by decide,?_⟩;have sn:=SX (fK ns none (some 2)).sum 801;generalize pM (fK ns none (some 2)).sum 801=E at sn ⊢;show⟨by ext,?_⟩;have t0:=C5 E (show(high:Int)+1≠0 by ext);have t1:=Dt E (show(0:Int)<(high:Int)+1 by ext);obtain⟨t,V⟩:∃t:Nat,E%((high:Int)+1)=t:=⟨(E%((high:Int)+1)).toNat,by ext⟩
 rw[V] at t1 ⊢;walk_at"go";show⟨_,_,rfl,by decide,by decide,?_⟩;have F:=SX (fK ns none (some 1)).sum 802;unfold qh at q;generalize pM (fK ns none (some 1)).sum 802=C at F q ⊢;show⟨by ext,?_⟩;have w0:=C5 C (show(wide:Int)≠0 by ext);have w1:=Dt C (show(0:Int)<(wide:Int) by ext);obtain⟨w,hw⟩:∃w:Nat,1+C%(wide:Int)=w:=⟨(1+C%(wide:Int)).toNat,by ext⟩
 have R:1<=w/\w<=wide:=by ext
 rw[hw] at q ⊢;rw[jJ] at q;walk_at"go";have tt:(2*(t:Int)+1)=((2*t+1:Nat):Int):=by ext
 have ww:(2*(w:Int)+1)=((2*w+1:Nat):Int):=by ext
 show Li (aN (2*t+1)) (λi=>D.int (i:Nat)) (λ_=>et (2*w+1) (cI 32)) (λg h=>?_) (by simp;ext) (λ_ _ K1 T=>?_) ?_
 .walk_at"px";rw[tt,jJ];show⟨by ext,by ext,?_⟩;have e:(λi:Nat=>D.int (0+(i:Int)))=λi:Nat=>D.int (i:Int):=funext λi=>by rw[Hx]
  rw[e];show h
 .walk_at"px";rw[ww,jJ];show⟨by ext,by ext,by ext,by ext,?_⟩;have e:(et (2*w+1) [D.str " "]).flatten=et (2*w+1) (cI 32):=by
   rw[show cI 32=D.str " " by unfold cI;congr 1];simp
  rw[e];show T
 have Y:(aN (2*t+1)).map (λ_=>et (2*w+1) (cI 32))=aS (et (2*t+1) (et (2*w+1) 32)):=by
  unfold aS;rw[P7,P7];apply Dk
  .simp
  intro i h1 f;simp
 rw[Y];have S:uS (2*t+1) (2*w+1) (et (2*t+1) (et (2*w+1) 32)):=by
  show⟨by simp,λl hl=>by rw[List.eq_of_mem_replicate hl];simp,λr s m W=>?_⟩;have:gv (et (2*t+1) (et (2*w+1) 32)) r s=32:=by
   unfold gv;rw[bK (l:=et _ _),QV,if_pos m,gW,bK,QV,if_pos W];rfl
  rw[this];show⟨by simp,λ_=>rfl⟩
 generalize et (2*t+1) (et (2*w+1) 32)=rows0 at S ⊢;walk_at"px";walk_at"go";walk_at"go";have x:∀(n:Nat),n<1000->∀g:List D->Prop,g ((aN n).map λ(i:Nat)=>.int (0+i))->-4611686018427387904<=(n:Int)/\(n:Int)<4611686018427387904/\g ((aN (n:Int).toNat).map λ(i:Nat)=>D.int (0+i)):=λn A g h=>⟨by ext,by ext,by rw[jJ];show h⟩
 let Y_:Nat->Ev->Prop:=λi ρ=>∃(rows:List (List Nat))(k:Nat)(a b c d:Sl),uS (2*t+1) (2*w+1) rows/\k<=i*20/\ρ=[.fz (.lst (ns.map D.int)),.fz (.int high),.fz (.int wide),.fz (.int t),.fz (.int w),.ov (.ll (aS rows)),.fz (.int k),a,b,c,d];show vS t (λg h=>?_) Y_ ⟨rows0,0,_,_,_,_,S,cG _,rfl⟩ ?_ ?_
 .walk_at"px";show x t (by ext) g h
 .rintro i ρ K ⟨rows,k,a,b,c,d,P,o,rfl⟩;walk_at"px";let Z_:Nat->Ev->Prop:=λj ρ=>∃(rows:List (List Nat))(k:Nat)(b c d:Sl),uS (2*t+1) (2*w+1) rows/\k<=i*20+j/\ρ=[.fz (.lst (ns.map D.int)),.fz (.int high),.fz (.int wide),.fz (.int t),.fz (.int w),.ov (.ll (aS rows)),.fz (.int k),.fz (.int i),b,c,d];show vS w (λg h=>?_) Z_ ⟨rows,k,_,_,_,P,by ext,rfl⟩ ?_ ?_
  .walk_at"px";show x w (by ext) g h
  .rintro j ρ J ⟨rows,k,b,c,d,P,o,rfl⟩;walk_at"px";show⟨ns,k,8,rfl,A,by decide,by ext,λu hd=>?_⟩;obtain⟨ch,p,v⟩:=sg8 u hd;have X:(aS rows).length=2*t+1:=by unfold aS;rw[ax,P.len]
   have m:2*i+1<rows.length:=by rw[P.len];ext
   have hm:rows.getD (2*i+1) []∈rows:=by
    rw[bK,aX m,gW];show eZ _
   have M:=P.bQ _ hm;show⟨by decide +kernel,ch,v,2*i+1,_,?_,xD m,2*j+1,?_,?_⟩
   .rw[show(2*(i:Int)+1)=((2*i+1:Nat):Int) by ext];show Ee (by ext)
   .rw[show(2*(j:Int)+1)=((2*j+1:Nat):Int) by ext];show Ee (by rw[ax,M];ext)
   rw[show D.str ⟨#[ch]⟩=cI ch from rfl,J9];walk_at"go";show⟨ke rows (2*i+1) (2*j+1) ch,k+1,_,_,_,P.set (by ext) (by ext) (by ext) (by ext) p,by ext,rfl⟩
  rintro ρ ⟨rows,k,b,c,d,P,o,rfl⟩;show⟨rows,k,_,_,_,_,P,by ext,rfl⟩
 rintro ρ ⟨rows,k,a,b,c,d,P,o,rfl⟩;walk_at"go";let U_:Nat->Ev->Prop:=λi ρ=>∃(rows:List (List Nat))(k:Nat)(a b c d:Sl),c6 (2*t+1) (2*w+1) rows/\k<=400+i*82/\ρ=[.fz (.lst (ns.map D.int)),.fz (.int high),.fz (.int wide),.fz (.int t),.fz (.int w),.ov (.ll (aS rows)),.fz (.int k),a,b,c,d];show vS (2*t+1) (λg h=>?_) U_ ⟨rows,k,_,_,_,_,P.cw,by ext,rfl⟩ ?_ ?_
 .walk_at"px";rw[tt];show x _ (by ext) g h
 .rintro i ρ K ⟨rows,k,a,b,c,d,P,o,rfl⟩;walk_at"px";let T_:Nat->Ev->Prop:=λj ρ=>∃(rows:List (List Nat))(k:Nat)(d:Sl),c6 (2*t+1) (2*w+1) rows/\k<=400+i*82+j*2/\ρ=[.fz (.lst (ns.map D.int)),.fz (.int high),.fz (.int wide),.fz (.int t),.fz (.int w),.ov (.ll (aS rows)),.fz (.int k),a,b,.fz (.int i),d];show vS (2*w+1) (λg h=>?_) T_ ⟨rows,k,_,P,by ext,rfl⟩ ?_ ?_
  .walk_at"px";rw[ww];show x _ (by ext) g h
  .rintro j ρ J ⟨rows,k,d,P,o,rfl⟩;have X:(aS rows).length=2*t+1:=by unfold aS;rw[ax,P.len]
   have m:i<rows.length:=by rw[P.len];ext
   have hm:rows.getD i []∈rows:=by
    rw[bK,aX m,gW];show eZ _
   have M:=P.bQ _ hm;have Q:=(P.rb (by ext) (by ext)).dh;have O:jy (aS rows).length (i:Int)=some i:=Ee (by ext);have N:jy ((rows.getD i []).map cI).length (j:Int)=some j:=Ee (by rw[ax,M];ext);walk_at"px";by_cases c1:i%2=1
   .rw[if_pos (by ext)];have skip:∀(B:List (List Nat))(y:Nat),c6 (2*t+1) (2*w+1) B->y<=400+i*82+(j+1)*2->∃(rows:List (List Nat))(k:Nat)(d:Sl),c6 (2*t+1) (2*w+1) rows/\k<=400+i*82+(j+1)*2/\
      [.fz (.lst (ns.map D.int)),.fz (.int high),.fz (.int wide),.fz (.int t),.fz (.int w),.ov (.ll (aS B)),.fz (.int y),a,b,.fz (.int i),.fz (.int j)]=[Sl.fz (.lst (ns.map D.int)),.fz (.int high),.fz (.int wide),.fz (.int t),.fz (.int w),.ov (.ll (aS rows)),.fz (.int k),a,b,.fz (.int i),d]:=
     λB y P' U=>⟨B,y,_,P',U,rfl⟩
    by_cases Z:j%2=0
    .rw[if_pos (by ext)];show⟨by ext,by ext,by ext,false,2*t+1,2*w+1,rows,[((i:Int),(j:Int)-1),((i:Int),(j:Int)+1)],"-+#",dJ,rfl,P.len,P.bQ,by ext,by ext,Q,D4,by simp,rfl,?_⟩;cases L:[((i:Int),(j:Int)-1),((i:Int),(j:Int)+1)].all (gj (2*t+1) (2*w+1) (gv rows) dJ) with
     | true=>
      obtain⟨I,H⟩:=Ru L;walk_at"px";show⟨ns,k,3,rfl,A,by decide,by ext,λu hd=>?_⟩;obtain⟨ch,p,v⟩:=sgH u hd;show⟨by decide +kernel,ch,v,i,_,O,xD m,j,N,?_⟩;rw[show D.str ⟨#[ch]⟩=cI ch from rfl,J9];walk_at"go";walk_at"go";rw[if_neg (by ext)];show skip _ (k+1) (P.set K J (by ext) ?_) (by ext);have f:ch=32\/ch=45:=by simpa using p
      rcases f with f | f
      .exact .inl f
      show .inr (.inl ⟨c1,f,λz=>?_,λz=>?_⟩)
      .have:=I ⟨by ext,by ext⟩ ⟨by ext,by ext⟩;rw[show((i:Int)).toNat=i by ext,show((j:Int)-1).toNat=j-1 by ext] at this;show this
      have:=H ⟨by ext,by ext⟩ ⟨by ext,by ext⟩;rw[show((i:Int)).toNat=i by ext,show((j:Int)+1).toNat=j+1 by ext] at this;show this
     | false=>
      walk_at"px";walk_at"go";rw[if_neg (by ext)];show skip _ k P (by ext)
    rw[if_neg (by ext)];walk_at"go";rw[if_neg (by ext)];show skip _ k P (by ext)
   rw[if_neg (by ext)];walk_at"go";rw[if_pos (by ext)];by_cases Z:j%2=1
   .rw[if_pos (by ext)];show⟨by ext,by ext,by ext,false,2*t+1,2*w+1,rows,[((i:Int)-1,(j:Int)),((i:Int)+1,(j:Int))],"|+#",dY,rfl,P.len,P.bQ,by ext,by ext,Q,D8,by simp,rfl,?_⟩;cases L:[((i:Int)-1,(j:Int)),((i:Int)+1,(j:Int))].all (gj (2*t+1) (2*w+1) (gv rows) dY) with
    | true=>
     obtain⟨I,H⟩:=Ru L;walk_at"px";show⟨ns,k,3,rfl,A,by decide,by ext,λu hd=>?_⟩;obtain⟨ch,p,v⟩:=sgV u hd;show⟨by decide +kernel,ch,v,i,_,O,xD m,j,N,?_⟩;rw[show D.str ⟨#[ch]⟩=cI ch from rfl,J9];walk_at"go";show⟨_,k+1,_,P.set K J (by ext) ?_,by ext,rfl⟩;have f:ch=32\/ch=124:=by simpa using p
     rcases f with f | f
     .exact .inl f
     show .inr (.inr ⟨by ext,f,λz=>?_,λz=>?_⟩)
     .have:=I ⟨by ext,by ext⟩ ⟨by ext,by ext⟩;rw[show((j:Int)).toNat=j by ext,show((i:Int)-1).toNat=i-1 by ext] at this;show this
     have:=H ⟨by ext,by ext⟩ ⟨by ext,by ext⟩;rw[show((j:Int)).toNat=j by ext,show((i:Int)+1).toNat=i+1 by ext] at this;show this
    | false=>
     walk_at"px";show⟨rows,k,_,P,by ext,rfl⟩
   rw[if_neg (by ext)];show⟨rows,k,_,P,by ext,rfl⟩
  rintro ρ ⟨rows,k,d,P,o,rfl⟩;show⟨rows,k,_,_,_,_,P,by ext,rfl⟩
 rintro ρ ⟨rows,k,a,b,c,d,P,o,rfl⟩;walk_at"go";show q t rows (by ext) R.1 R.2 P
noncomputable def jN(c:Nat):List Nat->List (List Nat)
 | []=>[[]]
 | x::r=>if x=c then []::jN c r else match jN c r with
  | []=>[[x]]
  | h::t=>(x::h)::t
theorem zsb(c):∀l,jN c l≠[]
 | []=>by simp[jN]
 | x::r=>by
  unfold jN;split
  .simp
  split<;>simp
theorem UE(c b):∀a:List Nat,jN c (a++c::b)=jN c a++jN c b
 | []=>by simp[jN]
 | x::r=>by
  rw[kX,jN,UE c b r];conv=>rhs;rw[jN]
  by_cases h:x=c
  .simp[h]
  simp only[h,cM];cases e:jN c r with
  | nil=>show absurd e (zsb c r)
  | cons u v=>simp
theorem K9(c):∀a:List Nat,c∉a->jN c a=[a]
 | [],_=>rfl
 | x::r,h=>by
  simp only[bG,not_or] at h;rw[jN,if_neg (λz=>h.1 z.symm),K9 c r h.2]
noncomputable def k6(c:Nat):List (List Nat)->List Nat
 | []=>[]
 | [a]=>a
 | a::b::r=>a++c::k6 c (b::r)
theorem Fp(c):∀l:List (List Nat),l≠[]->(∀a∈l,c∉a)->jN c (k6 c l)=l
 | [],h,_=>absurd rfl h
 | [a],_,h=>K9 c a (h a (by show .head _))
 | a::b::r,_,h=>by
  rw[k6,UE,K9 c a (h a (by show .head _)),Fp c (b::r) (by simp) λz hz=>h z (by show .tail _ ‹_›)];rfl
theorem AY(c):∀l,(iQ ⟨#[c]⟩ l).cps.toList=k6 c (l.map λs=>s.cps.toList)
 | []=>rfl
 | [a]=>by rw[Fj];show gI _
 | a::b::r=>by
  have d:=AY c (b::r);rw[Fj] at d ⊢;simp only[bD,k6];simp only[bD] at d;rw[<-d];simp
theorem VY(x c):(og x ⟨#[c]⟩).map (λs=>s.cps.toList)=jN c x.cps.toList:=by
 have g:iQ ⟨#[c]⟩ (og x ⟨#[c]⟩)=x:=(StrLaws.glued_eq_join _ _).trans (StrLaws.join_split x ⟨#[c]⟩);have f:=StrLaws.split_free x c;have h3:og x ⟨#[c]⟩≠[]:=λz=>by
  have:=Zm x ⟨#[c]⟩;rw[z] at this;trivial
 have e:x.cps.toList=k6 c ((og x ⟨#[c]⟩).map λs=>s.cps.toList):=by
  rw[<-AY];show dN (λs:ae=>s.cps.toList) g.symm
 rw[e,Fp]
 .simpa using h3
 intro a d;obtain⟨s,b,rfl⟩:=aB.mp d;show f s b
theorem K8(c k):∀l:List (List Nat),(∀a∈l,a.length<=k)->(k6 c l).length<=l.length*(k+1)
 | [],_=>by show cG _
 | [a],h=>by have:=h a (by show .head _);simp[k6];lia
 | a::b::r,h=>by
  have e:=h a (by show .head _);have d:=K8 c k (b::r) λz hz=>h z (by show .tail _ ‹_›)
  rw[k6,bL,cC,cC (a:=a),tq];lia
theorem Ac:("\n":ae)=⟨#[10]⟩:=by rfl
def A6:cg:=λds Q=>∃rows,ds=[ij rows]/\rows≠[]/\rows.length<=41/\(∀l∈rows,l.length<=41/\∀c∈l,c∈dh)/\∀t:ae,og t "\n"=rows.map aE->t.length<10000->Q (.fz (.str t))
noncomputable def Om:(T:TX) ×' ∀{P w K mg base},Txt K mg->eF P w K mg base 0 "_law_shown" ["_law_grid"] (top 36) T:=
 ⟨_,λT nd f d A outer s H E b=>have c:=b.units;
 (aU (eB (t7 Am (.inr rfl) tM zK zJ df (ah (fW rfl (.of (N':=["_law_row"]) (m:=[none]) (by kernel_rfl)) fb (fB (af 0)) (λs3 a ex=>(aY 0 nt)) (λs3 a ex=>fL) (λs3 a ex=>(t7 Am (.inr rfl) tM zK zJ df (ah (af 0) aq)))) aq))))⟩
def LX:TX:=Om.1
theorem zfR:dX 1 A6 LX ["_law_grid"]:=by
 intro ds z hl h;obtain⟨rows,rfl,p,u,hw,q⟩:=h;show LX _ [.fz (ij rows)];unfold LX Om;dsimp only;unfold ij;have big:=dP;have o:∀L:List Nat,((L.map λc=>(⟨#[c]⟩:ae)).map λx=>x.length).sum=L.length:=λL=>by
  induction L with
  | nil=>rfl
  | cons a r d=>rw[bD,bD,lQ,d,cC];show 1+r.length=_;lia
 walk_at"px";show⟨rfl,?_⟩;show gP rows (λl=>.lst (l.map cI)) (λl=>.str (aE l)) (λA h=>?_) (by lia) (λl hm B j=>?_) ?_
 .walk_at"px";unfold aS;rw[bp];show h
 .walk_at"px";have e:l.map cI=(l.map λc=>(⟨#[c]⟩:ae)).map D.str:=by rw[bp];rfl
  rw[e];simp only[Fm];rw[Wi,o,ax,show(fI "").length=0 by rfl];have:=(hw l hm).1;show⟨rfl,by lia,j⟩
 have e:rows.map (λl=>D.str (aE l))=(rows.map aE).map D.str:=by rw[bp];rfl
 rw[e];simp only[xx,xF,Fm];have hl:(rows.map aE).map (λs=>s.cps.toList)=rows:=by
  rw[bp];have:(λs:ae=>s.cps.toList)∘aE=id:=funext λl=>by simp[aE]
  rw[this,qQ]
 have g:(iQ "\n" (rows.map aE)).cps.toList=k6 10 rows:=by rw[Ac,AY,hl]
 have hf:∀a∈rows,10∉a:=λa f t=>by
  have:=(hw a f).2 10 t;revert this
  decide
 have i:∀a∈rows,a.length<=41:=λa f=>(hw a f).1
 have y:=K8 10 41 rows i;have w:rows.length*(41+1)<=41*42:=CZ (by ext) (by simp_all);show⟨?_,q _ ?_ ?_⟩
 .have:((rows.map aE).map (·.length)).sum<=rows.length*41:=by
   rw[bp];have:∀l:List (List Nat),(∀a∈l,a.length<=41)->(l.map ((λx:ae=>x.length)∘aE)).sum<=l.length*41:=λl=>by
    induction l with
    | nil=>intro _;show cG _
    | cons a r d=>
     intro h;rw[bD,lQ,cC,tq];have:=d λb m=>h b (cK _ m)
     have v:=h a cT;have:(aE a).length=a.length:=by rfl
     simp only[wZ];lia
   show this rows i
  rw[ax,show(fI "\n").length=1 by rfl];lia
 .have:=VY (iQ "\n" (rows.map aE)) 10;rw[g,Fp 10 rows p hf,<-Ac] at this;have n:aE∘(λs:ae=>s.cps.toList)=id:=funext λs=>Em s
  have:=dN (wM aE) this;rw[bp,n,qQ] at this;show this
 have:(iQ "\n" (rows.map aE)).length=(k6 10 rows).length:=by rw[<-g];rfl
 rw[this];lia
theorem zn7(b:k-1<=i)(a:i<k+2)(h:l[i]?=some c):c∈jP l k:=by
 unfold jP;show cJ (i:=i-(k-1)) ?_;rw[zD,if_pos (by lia),Dv,show k-1+(i-(k-1))=i by simp_all];show h
theorem Fh(h:kj m p l=true)(a:l[2*j]?=some m)(e:2*j-1<=i)(d:i<2*j+2)(b:l[i]?=some c):p c=true:=by
 unfold kj at h;rw[e7] at h;have f:=(cD.mp a).1;have:=h j (by rw[fR];lia);rw[C7] at this;rcases this with z | z
 .rw[a] at z;simp at z
 rw[e7] at z;show z c (zn7 e d b)
theorem J8(hd:lD rows=true):c6 rows.length (wd rows) rows/\rows.length%2=1/\wd rows%2=1/\3<=wd rows:=by
 obtain⟨hf,d,u,hv⟩:=UH hd;have hw:=SQ hf;unfold pS at hf;simp only[jH,gJ] at hf;show⟨⟨rfl,hw.2,λr s c j=>?_⟩,hf.1.1.1,hf.1.1.2,hf.1.2⟩;have h:∀r s,r<rows.length->s<wd rows->(rows.getD r [])[s]?=some (gv rows r s):=λr s c d=>jO rfl hw.2 (by rw[bK,aX c];rfl) d
 have t:∀r,r<rows.length->rows.getD r []∈rows:=λr c=>by
  rw[bK,aX c,gW];show eZ _
 have ok:iX r s (gv rows r s)=true:=by
  unfold rO at d;rw[e7] at d
  have o:=d (rows.getD r [],r) (pf.mpr (by
   rw[bK,aX c];rfl))
  rw[e7] at o;show o (gv rows r s,s) (pf.mpr (h r s c j))
 have m:∀i k,i<rows.length->(cX rows k)[i]?=some (gv rows i k):=λi k n=>by
  unfold cX gv;rw[bE,aX n,bK (l:=rows),aX n];rfl
 unfold iX at ok;show⟨λa b=>?_,λa b=>?_,λa b=>?_,λa b=>?_⟩
 .simp only[bG,kY,or_false];lia
 .simp_all
 .by_cases e:gv rows r s=32
  .exact .inl e
  have q:gv rows r s=45:=by simp_all
  show .inr ⟨q,λz=>?_,λz=>?_⟩;all_goals
   have f:=e7.mp u _ (t r c);have g:(rows.getD r [])[2*(s/2)]?=some 45:=by rw[show 2*(s/2)=s by ext,h r s c j,q]
  .exact Fh f g (i:=s-1) (by lia) (by lia) (h r (s-1) c (by ext))
  show Fh f g (i:=s+1) (by ext) (by lia) (h r (s+1) c (by ext))
 by_cases e:gv rows r s=32
 .exact .inl e
 have p:gv rows r s=124:=by simp_all
 show .inr ⟨p,λz=>?_,λz=>?_⟩;all_goals
  have f:=e7.mp hv (cX rows s) (by show aB.mpr ⟨s,fR.mpr j,rfl⟩);have g:(cX rows s)[2*(r/2)]?=some 124:=by rw[show 2*(r/2)=r by ext,m r s c,p]
 .exact Fh f g (i:=r-1) (by lia) (by lia) (m (r-1) s (by ext))
 show Fh f g (i:=r+1) (by ext) (by lia) (m (r+1) s (by ext))
theorem TZ(hd:lD rows=true)(h:rows.length/2*2+wd rows/2*2<64):(endsF rows).length<64/\((endsF rows).map (·.2)).Nodup:=by
 obtain⟨P,b,a,_⟩:=J8 hd;rw[xI P b a];show⟨by rw[ax];show Fi h,by rw[bp];show Ka⟩
theorem zsc(h:w.cps.toList=[x]):((⟨#[c]⟩:ae)=w)↔c=x:=by
 constructor
 .intro e;have:=dN (λs:ae=>s.cps.toList) e;simp only[h] at this;simpa using this
 rintro rfl;show(JM h).symm
theorem TY(h:¬c)(d:b):@ite Prop c i a b:=by rw[if_neg h];show d
theorem Vb(h:c)(d:a):@ite Prop c i a b:=by rw[if_pos h];show d
noncomputable def xn(l:List Nat):List Nat:=(aN (l.length/2)).map λk=>l.getD (2*k+1) 0
noncomputable def jn(l:List Nat):List Bool:=(xn l).map λc=>decide (c=124)
theorem zp9(l):z8 (aE l) (some 1) none 2=aE (xn l):=by
 have e:sliceRange (max 0 (min (1:Int) (l.length:Int))) (l.length:Int) 2=(aN (l.length/2)).map λk=>2*k+1:=by
  unfold sliceRange;simp only[show((2:Int)>0)=True from eq_true (by decide),cO];by_cases h:l.length<2
  .by_cases f:l.length=0
   .rw[f];rfl
   have:l.length=1:=by lia
   rw[this];rfl
  rw[show max 0 (min (1:Int) (l.length:Int))=1 by lia,if_pos (by ext),show(((l.length:Int)-1+2-1)/2).toNat=l.length/2 by lia];show tI λk _=>?_
  lia
 have g:∀x:List Nat,(∀i∈x,i<l.length)->x.filterMap (λi=>(aE l).cps[i]?)=x.map λi=>l.getD i 0:=λx=>by
  induction x with
  | nil=>intro _;rfl
  | cons i r b=>
   intro h;have a:=h i cT;have:(aE l).cps[i]?=some (l.getD i 0):=by
    unfold aE;rw[Ir,aX a,bK,aX a];rfl
   rw[Dz,this,bD,b λj d=>h j (cK _ d)]
 show(⟨((sliceRange (max 0 (min (1:Int) (l.length:Int))) (l.length:Int) 2).filterMap _).toArray⟩:ae)=_
 rw[e,g _ (λi a=>by
  obtain⟨k,c,rfl⟩:=aB.mp a;have:=fR.mp c;lia),bp]
 rfl
def x9:cg:=λds Q=>∃l:List Nat,ds=[.str (aE l)]/\l.length<=100/\Q (.ow ((jn l).map .bl))
noncomputable def N6:(T:TX) ×' ∀{P w K mg base},Txt K mg->eF P w K mg base 0 "row_joints" ["row"] (top 30) T:=
 ⟨_,λT nd f e A outer s H E c=>have b:=c.units;have ⟨d,uO⟩:=T.uO;
 (aU (eB (fW rfl (.of (N':=["sign"]) (m:=[none]) (by kernel_rfl)) fb (fB (znv (af 0) (lp aw) qc)) (λs3 a ex=>(aY 0 nt)) (λs3 a ex=>fL) (λs3 a ex=>(nu (fj b) (af 0) (jt uO))))))⟩
def LW:TX:=N6.1
theorem Va(l):(xn l).length=l.length/2:=by unfold xn;simp
theorem pV(l):(jn l).length=l.length/2:=by unfold jn;rw[ax,Va]
theorem zfS:dX 1 x9 LW ["row"]:=by
 intro ds e hl h;obtain⟨l,rfl,d,q⟩:=h;show LW _ [.fz (.str (aE l))];unfold LW N6;dsimp only;have big:=dP;have ol:=Va l;walk_at"px";show gP (xn l) (λc=>.str ⟨#[c]⟩) (λc=>.bl (decide (c=124))) (λf h=>?_) (by lia) (λc b g k=>?_) ?_
 .walk_at"px";rw[zp9,t6,As];show⟨by lia,h⟩
 .walk_at"px";have:decide ((⟨#[c]⟩:ae)="|")=decide (c=124):=decide_eq_decide.mpr (zsc (by rfl));rw[<-this] at k;show k
 unfold jn at q;rw[bp] at q;show q
noncomputable def rj(bs:List Bool):List Nat:=61::bs.flatMap λb=>[if b then 124 else 61,61]
noncomputable def Cv(bs:List Bool):ae:=aE (rj bs)
theorem zqb(bs):(rj bs).length=1+2*bs.length:=by
 unfold rj;rw[cC];induction bs with
 | nil=>rfl
 | cons b r a=>rw[nc,bL,cC];simp only[cC,om] at a ⊢;lia
theorem RR:∀l:List ae,(iQ (fI "") l).cps.toList=(l.map λs=>s.cps.toList).flatten
 | []=>rfl
 | a::l=>by
  rw[Fj];rfl
noncomputable def uh(b:Bool):ae:=aE [if b then 124 else 61,61]
theorem zue(bs):fI "="++iQ (fI "") (bs.map uh)=Cv bs:=by
 rw[<-Em (iQ _ _),RR,show fI "="=aE [61] by rfl,zrY];unfold Cv rj;rw[List.singleton_append,bp,List.flatMap];congr 3
def A5:cg:=λds Q=>∃bs:List Bool,ds=[.lst (bs.map .bl)]/\bs.length<=100/\Q (.fz (.str (Cv bs)))
noncomputable def Ol:(T:TX) ×' ∀{P w K mg base},Txt K mg->eF P w K mg base 0 "border_row" ["joints"] (top 24) T:=
 ⟨_,λT nd f g A outer s H E b=>have e:=b.units;have ⟨c,qM⟩:=T.qM;have ⟨d,uO⟩:=T.uO;
 (aU (eB (aP cN (jt qM) (t7 Am (.inr rfl) tM zK zJ df (ah (fW rfl (.of (N':=["joined"]) (m:=[none]) (by kernel_rfl)) fb (fB (af 0)) (λs3 a ex=>(aY 0 nt)) (λs3 a ex=>fL) (λs3 a ex=>(aP cN (zo3 (jQ (af 0)) (jt uO) (jt qM)) (jt qM)))) aq)))))⟩
def LV:TX:=Ol.1
theorem zfT:dX 1 A5 LV ["joints"]:=by
 intro ds m hl h;obtain⟨bs,rfl,d,q⟩:=h;show LV _ [.fz (.lst (bs.map .bl))];unfold LV Ol;dsimp only;have big:=dP;walk_at"px";show⟨rfl,?_⟩;show gP bs D.bl (λb=>.str (uh b)) (λn h=>?_) (by lia) (λb d o k=>?_) ?_
 .walk_at"px";show h
 .walk_at"px";cases b with
  | false=>show⟨by decide +kernel,by show k⟩
  | true=>show⟨by decide +kernel,by show k⟩
 rw[show bs.map (λb=>D.str (uh b))=(bs.map uh).map D.str by rw[bp];rfl];have j:(fI "").length=0:=by rfl
 have i:(fI "=").length=1:=by rfl
 have f:((bs.map uh).map (·.length)).sum=2*bs.length:=by
  rw[bp];clear q d hl;induction bs with
  | nil=>rfl
  | cons b r e=>rw[bD,lQ,e,cC,wZ,uh,t6];simp only[cC,om];lia
 have g:(iQ (fI "") (bs.map uh)).length=2*bs.length:=by
  have:=dN qS (RR (bs.map uh));have e3:(qS∘λs:ae=>s.cps.toList)=λs=>s.length:=funext λs=>by simp[CM]
  rw[List.length_flatten,bp,e3,f] at this;trivial
 walk_at"px";show⟨by lia,by lia,?_⟩;rw[zue];show q
noncomputable def pR(l:List Nat):Bool:=decide (l.head?=some 61)
theorem zoa(l):C1 (aE l) (fI "=")=pR l:=by
 unfold C1 Y6 pR;rw[t6,show(fI "=").length=1 by rfl,show(fI "=").cps=#[61] by rfl];cases l with
 | nil=>rfl
 | cons a r=>
  have e:(aE (a::r)).cps.extract 0 (0+1)=#[a]:=by simp[aE]
  rw[e,List.head?_cons,cC,iu (show 0+1<=r.length+1 by show iq _),wO];by_cases h:a=61
  .subst h;rfl
  rw[iw λz=>h (fT z)];simpa using h
noncomputable def xm(rows:List (List Nat))(i:Nat):Bool:=pR (rows.getD i [])
noncomputable def k8(rows:List (List Nat))(i:Nat):List Nat:=(zh i (rows.length-i)).filter (xm rows)
noncomputable def bS(rows:List (List Nat)):List Nat:=k8 rows 0
theorem zuf(rows):(rows.zipIdx.filter λp=>pR p.1).map (·.2)=bS rows:=by
 rw[La [] rows,List.filter_map,bp];unfold bS k8;rw[Hy,zF];have:((λp:List Nat×Nat=>p.2)∘λi=>(rows.getD i [],i))=id:=rfl;rw[this,qQ];rfl
theorem U9(h:i<rows.length):k8 rows i=if xm rows i=true then i::k8 rows (i+1) else k8 rows (i+1):=by
 unfold k8;rw[show rows.length-i=(rows.length-(i+1))+1 by lia,C9,HU]
theorem zsd(rows):k8 rows rows.length=[]:=by unfold k8;simp
theorem EV(h:b∈k8 rows i):i<=b/\b<rows.length/\xm rows b=true:=by
 obtain⟨a,c⟩:=eY.mp h;rw[List.mem_range'_1] at a;show⟨a.1,by ext,c⟩
noncomputable def fJ(R:Nat):Nat->List Nat->List (Nat×Nat)
 | a,[]=>[(a,R)]
 | a,b::bs=>(a,b)::fJ R (b+1) bs
noncomputable def seg(rows:List (List Nat))(p:Nat×Nat):List (List Nat):=(rows.take p.2).drop p.1
noncomputable def iJ(n:Nat):D:=.int (n:Nat)
theorem U8(R):∀a bs,xt (iJ a::bs.map λb=>iJ (b+1)) (bs.map iJ++[iJ R])=(fJ R a bs).map λp=>.tup [iJ p.1,iJ p.2]
 | a,[]=>rfl
 | a,b::bs=>by
  have:=U8 R (b+1) bs;unfold xt at this ⊢;rw[bD,bD,kX,List.zipWith_cons_cons,this];rfl
theorem Fg(R):∀a bs,(fJ R a bs).length=bs.length+1
 | a,[]=>rfl
 | a,b::bs=>by rw[fJ,cC,Fg R (b+1) bs,cC]
def Bo:cg:=λds Q=>∃rows bs,ds=[cW rows,.lst (bs.map iJ)]/\rows.length<=100/\bs.length<=100/\Q (.ow ((fJ rows.length 0 bs).map λp=>cW (seg rows p)))
theorem WD:(["begin","end","lines"]:List ae).Nodup:=by decide +kernel
noncomputable def N8:(T:TX) ×' ∀{P w K mg base},Txt K mg->eF P w K mg base 0 "parts_of" ["lines","borders","begins","ends"] (top 27) T:=
 ⟨_,λT nd f d A outer s H E b=>have c:=b.units;
 (aJ (cV 2 (aP cN (gE (ah aw aq)) (fW rfl (.of (N':=["border"]) (m:=[none]) (by kernel_rfl)) fb (fB (af 1)) (λs3 a ex=>(aY 0 nt)) (λs3 a ex=>fL) (λs3 a ex=>(aP cN (af 0) aw)))) nd)
   (aJ (cV 3 (aP cN (af 1) (gE (ah (cR gO T.b_len gi (ah (af 0) aq)) aq))) nd)
   (aU (eB (fW rfl (.of (N':=["begin","end","lines"]) (m:=[none,none,some 0]) (by kernel_rfl)) vU (zrs T.b_zip (ah (af 2) (ah (af 3) aq))) (λs3 a ex=>(gC (n:=2) rfl (cf (aY 0 WD) (cf (aY 1 WD) fU)))) (λs3 a ex=>fL) (λs3 a ex=>(oF (af 2) (lp (af 0)) (lp (af 1)))))))))⟩
def Lf:TX:=N8.1
theorem zhJ:dX 2 Bo Lf ["lines","borders","begins","ends"]:=by
 intro ds j hl h;obtain⟨rows,bs,rfl,g,d,q⟩:=h;show Lf _ [.fz (cW rows),.fz (.lst (bs.map iJ)),.un,.un];unfold Lf N8;dsimp only;unfold cW;have big:=dP;walk_at"px";show⟨by show iq _,?_⟩;show gP bs iJ (λb=>iJ (b+1)) (λe h=>?_) (by lia) (λb d f k=>?_) ?_
 .walk_at"px";show h
 .walk_at"px";show k
 walk_at"px";show⟨by simp only[ax,cC,om];lia,?_⟩;walk_at"go";show⟨by show iq _,by simp only[ax,cC,om];lia,?_⟩;rw[ax];walk_at"go";have z:=U8 rows.length 0 bs;show gP (fJ rows.length 0 bs) (λp=>.tup [iJ p.1,iJ p.2]) (λp=>cW (seg rows p)) (λe h=>?_) (by rw[Fg];lia) (λp i f k=>?_) q
 .walk_at"px";rw[<-z] at h;show h
 unfold iJ;walk_at"px";unfold cW seg at k;rw[UM _ (by simp_all) (by simp_all),jJ,jJ];rw[Pn] at k;show k
theorem U7{α:Type}(f):∀(a b c:List α),Ab (a.map f) (b.map f) (c.map f)=(a.zip (b.zip c)).map λp=>.tup [f p.1,f p.2.1,f p.2.2]
 | [],_,_=>rfl
 | _::_,[],_=>rfl
 | _::_,_::_,[]=>rfl
 | x::a,y::b,z::c=>by
  rw[bD,bD,bD,Ab,U7 f a b c];rfl
noncomputable def yH(c b a:List Nat):Bool:=decide (b=rj (jn b))&&(((jn b).zip ((jn c).zip (jn a))).filter (·.1)).all λp=>p.2.1&&p.2.2
def Bi:cg:=λds Q=>∃over row under,ds=[.str (aE over),.str (aE row),.str (aE under)]/\over.length=row.length/\under.length=row.length/\row.length<=100/\Q (.fz (.bl (yH over row under)))
theorem LI:(["joined","has_upper","has_lower"]:List ae).Nodup:=by decide +kernel
noncomputable def Oc:(T:TX) ×' ∀{P w K mg base},Txt K mg->Known P w K mg base 1 "row_joints" 1 x9->Known P w K mg base 1 "border_row" 1 A5->eF P w K mg base 1 "is_border" ["over","row","under","joints","beside"] (top 29) T:=
 ⟨_,λT mN y9 nd f d A outer s H E a=>have c:=a.units;
 (aJ (cV 3 (cE mN a (ah (af 1) aq)) nd)
   (aJ (eM (dA (zZ c) (af 1) (cE y9 a (ah (af 3) aq))) (aU (eB l5)) eQ)
   (aJ (cV 4 (zpR rfl T.b_list T.b_zip (ah (af 3) (ah (cE mN a (ah (af 0) aq)) (ah (cE mN a (ah (af 2) aq)) aq)))) nd)
   (aU (eB (cR (rG rfl) T.b_all qP (ah (fW rfl (.of (N':=["joined","has_upper","has_lower"]) (m:=[none,none,none]) (by kernel_rfl)) ziS (fB (af 4)) (λs3 b ex=>(gC (n:=3) rfl (cf (aY 0 LI) (cf (aY 1 LI) (cf (aY 2 LI) fU))))) (λs3 b ex=>(Aw (jQ (af 0)))) (λs3 b ex=>(rM (af 1) (vK (af 2))))) aq)))))))⟩
def Ls:TX:=Oc.1
theorem zgo:dX 3 Bi Ls ["over","row","under","joints","beside"]:=by
 intro ds j hl h;obtain⟨over,row,under,rfl,u,t,h3,q⟩:=h;show Ls _ [.fz (.str (aE over)),.fz (.str (aE row)),.fz (.str (aE under)),.un,.un];unfold Ls Oc;dsimp only;have big:=dP;have o:=pV row;have n:=pV over;have m:=pV under;walk_at"px";show⟨row,rfl,h3,?_⟩;walk_at"go";show⟨jn row,rfl,by lia,?_⟩;walk_at"px";have e:(aE row=Cv (jn row))↔row=rj (jn row):=by
  unfold Cv;constructor
  .intro z;have:=dN (λs:ae=>s.cps.toList) z;simpa[aE] using this
  intro z;conv=>lhs;rw[z]
 by_cases c:row=rj (jn row)
 .refine TY (λz=>absurd (e.mpr c) (by simpa using z)) ?_;walk_at"go";show⟨over,rfl,by lia,under,rfl,by lia,?_⟩;show⟨by rw[ax,ax];lia,by rw[ax,ax];lia,?_⟩;rw[U7];walk_at"go";have f:j (.fz (.bl ((((jn row).zip ((jn over).zip (jn under))).filter (·.1)).all λp=>p.2.1&&p.2.2))):=by
   unfold yH at q;rw[iu c,wO] at q;show q
  show Fv ((jn row).zip ((jn over).zip (jn under))) (λp=>.tup [.bl p.1,.bl p.2.1,.bl p.2.2]) (λp=>.bl (p.2.1&&p.2.2)) (·.1) (λv h=>?_) (by simp only[HQ];lia) (λp r w x g i=>?_) (vN _ _ f)
  .walk_at"px";show h
  walk_at"px";obtain⟨a,b,d⟩:=p;cases a with
  | false=>show i rfl
  | true=>
   have:=g rfl;cases b<;>cases d<;>show this
 show Vb (by simpa using λz=>c (e.mp z)) ?_;unfold yH at q;rw[iw c] at q;show q
noncomputable def fZ(rows:List (List Nat)):Bool:=rows.all λl=>decide (l.length=wd rows)
theorem zse{l:List Int}(f:rows≠[])(nd:l.Nodup)(h:∀k,k∈l↔k∈rows.map λr=>((r.length:Nat):Int)):l.length=1↔fZ rows=true:=by
 unfold fZ;rw[e7];have hd:((wd rows:Nat):Int)∈l:=(h _).mpr (aB.mpr ⟨rows.headD [],AI f,rfl⟩);constructor
 .intro z r c;obtain⟨a,rfl⟩:=List.length_eq_one_iff.mp z;have e:=(h _).mpr (aB.mpr ⟨r,c,rfl⟩);rw[du] at e hd;have:r.length=wd rows:=by lia
  show if_pos ‹_›
 intro z;have all:∀k∈l,k=((wd rows:Nat):Int):=λk d=>by
  obtain⟨r,c,rfl⟩:=aB.mp ((h k).mp d);have:=z r c;have:r.length=wd rows:=by simpa using this
  rw[this]
 cases l with
 | nil=>cases hd
 | cons a r=>
  cases r with
  | nil=>rfl
  | cons b r=>
   rw[gu] at nd;show absurd (by rw[all a cT,all b (by show .tail _ (.head _))];show .head _) nd.1
noncomputable def zS(rows:List (List Nat))(b:Nat):Bool:=yH (rows.getD (b-1) []) (rows.getD b []) (rows.getD (b+1) [])
def Br:cg:=λds Q=>∃(rows:List (List Nat))(bs:List Nat),ds=[cW rows,.lst (bs.map iJ)]/\rows≠[]/\RB rows/\bs.length<=100/\(∀b∈bs,0<b/\b+1<rows.length)/\Q (.fz (.bl (fZ rows&&bs.all (zS rows))))
theorem zev:(["border","rows"]:List ae).Nodup:=by decide +kernel
noncomputable def Og:(T:TX) ×' ∀{P w K mg base},Txt K mg->Known P w K mg base 2 "is_border" 3 Bi->eF P w K mg base 2 "have_borders" ["rows","borders"] (top 28) T:=
 ⟨_,λT yY nd f d A outer s H E b=>have c:=b.units;
 (aJ (eM (dA (zZ c) (zmS rfl T.b_len T.b_set (ah (fW rfl (.of (N':=["row"]) (m:=[none]) (by kernel_rfl)) fb (fB (af 0)) (λs3 a ex=>(aY 0 nt)) (λs3 a ex=>fL) (λs3 a ex=>(cR gO T.b_len gi (ah (af 0) aq)))) aq)) aw) (aU (eB l5)) eQ)
   (aU (eB (cR (rG rfl) T.b_all qP (ah (fW rfl (.of (N':=["border","rows"]) (m:=[none,some 0]) (by kernel_rfl)) fb (fB (af 1)) (λs3 a ex=>(aY 0 zev)) (λs3 a ex=>fL) (λs3 a ex=>(cE yY b (ah (bV (af 1) (aP tV (af 0) aw)) (ah (bV (af 1) (af 0)) (ah (bV (af 1) (aP cN (af 0) aw)) aq)))))) aq)))))⟩
def LH:TX:=Og.1
theorem zew:dX 2 Br LH ["rows","borders"]:=by
 intro ds y hl h;obtain⟨rows,bs,rfl,m,rb,v,s,q⟩:=h;show LH _ [.fz (cW rows),.fz (.lst (bs.map iJ))];unfold LH Og;dsimp only;unfold cW;have big:=dP;have f:=rb.len;walk_at"px";show gP rows (λl=>.str (aE l)) (λl=>.int ((l.length:Nat):Int)) (λt h=>?_) (by lia) (λl hm u k=>?_) ?_
 .walk_at"px";show h
 .have:=rb.bQ l hm;walk_at"px";rw[t6];show⟨by lia,k⟩
 have e:rows.map (λl=>D.int ((l.length:Nat):Int))=(rows.map λl=>((l.length:Nat):Int)).map D.int:=by rw[bp];rfl
 rw[e];simp only[xF,Kl,Wq];show⟨by rw[ax];lia,λl nd hm=>?_⟩;have o1:=zse m nd hm;walk_at"px";cases g:fZ rows with
 | false=>
  rw[g] at q o1;show Vb ?_ q;have:¬((l.length:Nat):Int)=1:=by lia
  simpa using this
 | true=>
  rw[g,wO] at q;show TY ?_ ?_
  .have:((l.length:Nat):Int)=1:=by simp_all
   simp[this]
  have wl:∀l∈rows,l.length=wd rows:=λl hl=>by
   unfold fZ at g;rw[e7] at g;simpa using g l hl
  have d:∀r,r<rows.length->rows.getD r []∈rows:=λr f=>by
   rw[bK,aX f,gW];show eZ _
  have i:∀r:Nat,r<rows.length->bF rows (r:Int)=some (rows.getD r []):=λr f=>by
   rw[k7 f,bK,aX f];rfl
  have o:wd rows<=100:=rb.bQ _ (AI m);walk_at"go";show gP bs iJ (λb=>.bl (zS rows b)) (λt h=>?_) (by lia) (λb p u k=>?_) (vN bs _ q)
  .walk_at"px";show h
  obtain⟨x,w⟩:=s b p;unfold iJ;walk_at"px";have j:=i (b-1) (by lia);have n:=i (b+1) (by ext);rw[show((b-1:Nat):Int)=(b:Int)-1 by lia] at j;show⟨_,j,_,i b (by show cP ‹_›),_,n,rows.getD (b-1) [],rows.getD b [],rows.getD (b+1) [],rfl,?_,?_,?_,k⟩
  .rw[wl _ (d (b-1) (by lia)),wl _ (d b (by show cP ‹_›))]
  .rw[wl _ (d (b+1) (by ext)),wl _ (d b (by show cP ‹_›))]
  rw[wl _ (d b (by show cP ‹_›))];show o
theorem ZT(bs:List Bool):∀k b,bs[k]?=some b->(bs.flatMap λb=>[if b then 124 else 61,61])[2*k]?=some (if b then 124 else 61)/\(bs.flatMap λb=>[if b then 124 else 61,61])[2*k+1]?=some 61:=by
 induction bs with
 | nil=>intro k b h;trivial
 | cons a r c=>
  intro k b h;cases k with
  | zero=>
   simp only[vt,gK] at h;subst h;show⟨rfl,rfl⟩
  | succ k=>
   obtain⟨e,d⟩:=c k b (by simpa using h);show⟨by trivial,by trivial⟩
theorem rE(h:k<l.length/2):(jn l)[k]?=some (decide (l.getD (2*k+1) 0=124)):=by
 unfold jn xn;rw[bp,bE,wY h];rfl
theorem SH(h:s<1+2*(l.length/2)):(rj (jn l))[s]?=some (if s%2=1/\l.getD s 0=124 then 124 else 61):=by
 unfold rj;cases s with
 | zero=>rfl
 | succ s=>
  rw[zP];obtain⟨b,a⟩:=ZT (jn l) (s/2) _ (rE (by lia));by_cases e:s%2=0
  .rw[show 2*(s/2)=s by lia] at b;rw[b];by_cases c:l.getD (s+1) 0=124
   .rw[if_pos (iu c),if_pos ⟨by lia,c⟩]
   rw[if_neg (λz=>c (of_decide_eq_true z)),if_neg λz=>c z.2]
  rw[show 2*(s/2)+1=s by lia] at a;rw[a,if_neg (by lia)]
def o7(c b a:List Nat)(s:Nat):Prop:=b.getD s 0=61\/(b.getD s 0=124/\s%2=1/\c.getD s 0=124/\a.getD s 0=124)
theorem Tq(C:j.length=f.length)(B:g.length=f.length)(A:f.length%2=1):yH j f g=true↔∀s,s<f.length->o7 j f g s:=by
 have v:∀s,s<f.length->f[s]?=some (f.getD s 0):=λs q=>by rw[bK,aX q];rfl
 unfold yH;rw[jH,gJ,e7];constructor
 .rintro⟨e,z⟩ s q;have x:=SH (l:=f) (s:=s) (by lia);rw[<-e,v s q] at x;have x:=fT x;by_cases c:s%2=1/\f.getD s 0=124
  .have r:s/2<f.length/2:=by lia
   have m:(true,(decide (j.getD s 0=124),decide (g.getD s 0=124)))∈((jn f).zip ((jn j).zip (jn g))).filter (·.1):=by
    show eY.mpr ⟨cJ (i:=s/2) ?_,rfl⟩;rw[vw,vw];have y:2*(s/2)+1=s:=by lia
    have n:=rE (l:=f) r;have p:=rE (l:=j) (k:=s/2) (by lia);have o:=rE (l:=g) (k:=s/2) (by lia);rw[y] at n p o;rw[iu c.2] at n;show⟨n,p,o⟩
   have:=z _ m;simp only[jH,gJ] at this;show .inr ⟨c.2,c.1,this.1,this.2⟩
  rw[if_neg c] at x;show .inl x
 intro h;show⟨?_,?_⟩
 .apply pF;intro s;by_cases q:s<f.length
  .rw[v s q,SH (by lia)];congr 1
   rcases h s q with z | z
   .rw[if_neg (by lia)];show z
   rw[if_pos ⟨z.2.1,z.1⟩];show z.1
  rw[tL (by show vf ‹_›),tL (by rw[zqb,pV];lia)]
 rintro⟨a,b,d⟩ t;obtain⟨t,u⟩:=eY.mp t;obtain⟨k,r⟩:=gL t;rw[vw,vw] at r;obtain⟨n,p,o⟩:=r;simp only at n p o u;have w:k<f.length/2:=by
  have:=(cD.mp n).1;rwa [pV] at this
 rw[rE w] at n;rw[rE (by ext)] at p o;have c:f.getD (2*k+1) 0=124:=by
  have:=fT n;rw[u] at this;show eq_of_beq ‹_›
 rcases h (2*k+1) (by lia) with z | z
 .lia
 rw[<-fT p,<-fT o,iu z.2.2.1,iu z.2.2.2];rfl
theorem J7(R):∀bs a n b,bs[n]?=some b->(∃c,(fJ R a bs)[n]?=some (c,b))/\∃e,(fJ R a bs)[n+1]?=some (b+1,e)
 | [],a,n,b,h=>by trivial
 | x::bs,a,0,b,h=>by
  simp only[vt,gK] at h;subst h;show⟨⟨a,rfl⟩,?_⟩;cases bs with
  | nil=>show⟨R,rfl⟩
  | cons y bs=>show⟨y,rfl⟩
 | x::bs,a,n+1,b,h=>J7 R bs (x+1) n b (by simpa using h)
theorem Tp(R):∀bs a,(∀b∈bs,b<R)->∀p∈fJ R a bs,p.2<=R
 | [],a,_,p,d=>by
  have:p=(a,R):=by show du.1 ‹_›
  rw[this];show bx _
 | b::bs,a,h,p,d=>by
  rcases bG.mp d with rfl | d
  .exact cP (h b cT)
  show Tp R bs (b+1) (λc e=>h c (cK _ e)) p d
theorem EU(h:p.2<=rows.length):(seg rows p).length=p.2-p.1:=by
 unfold seg;rw[oo,eP,pC h]
theorem JF(h:p.2<=rows.length)(a:i<p.2-p.1):(seg rows p).getD i []=rows.getD (p.1+i) []:=by
 unfold seg;rw[bK,Dv,zD,if_pos (by ext),<-bK]
theorem To(h:l∈seg rows p):l∈rows:=tK (w8 h)
theorem JE(h:lD rows=true):rows≠[]:=λz=>by rw[z] at h;show absurd h (by decide)
theorem SG(hd:lD rows=true)(e:2*c+1<wd rows):(gv rows 0 (2*c+1)=124->(("top",(c:Int)):aQ)∈(endsF rows).map (·.2))/\(gv rows (rows.length-1) (2*c+1)=124->(("bottom",(c:Int)):aQ)∈(endsF rows).map (·.2)):=by
 obtain⟨P,d,b,_⟩:=J8 hd;rw[xI P d b,bp,bY];have a:c∈aN (wd rows/2):=fR.mpr (by lia);show⟨λh=>?_,λh=>?_⟩
 .refine eK _ (aB.mpr ⟨((0,2*c+1,1),("top",(c:Int))),?_,rfl⟩);show kW.mpr ⟨c,a,iy _ ?_⟩;unfold cA;rw[if_pos h];show du.mpr rfl
 show eK _ (aB.mpr ⟨((rows.length-1,2*c+1,1),("bottom",(c:Int))),?_,rfl⟩);show kW.mpr ⟨c,a,eK _ ?_⟩;unfold cA;rw[if_pos h];show du.mpr rfl
theorem Ex(h:e3 n a=e3 m b):n=m/\a=b:=by
 unfold e3 at h;simp only[lN.injEq,tf.injEq,wL.injEq,and_true] at h;show⟨by lia,OK h.2.1 h.2.2⟩
theorem AX(n):∀p gss,(gm n p gss).map (·.2)=gss.flatten.map (e3 n)
 | p,[]=>rfl
 | p,g::r=>by
  rw[gm,bY,AX n (p+1) r,bp,qX,bY];rfl
theorem U6:∀k gsl,(∀gss∈gsl,gss.flatten.Nodup)->((cv k gsl).map (·.2)).Nodup/\∀x∈(cv k gsl).map (·.2),∃n e,x=e3 n e/\k<=n
 | k,[],_=>⟨by show .nil,by simp[cv]⟩
 | k,gss::r,h=>by
  obtain⟨i,b⟩:=U6 (k+1) r λg f=>h g (cK _ f)
  rw[cv,bY,AX];show⟨pG.mpr ⟨?_,i,λx a y c z=>?_⟩,λx a=>?_⟩
  .have:=h gss cT;rw[j7] at this ⊢;rw[jI];show this.imp λh z=>h (Ex z).2
  .obtain⟨e,_,rfl⟩:=aB.mp a;obtain⟨n,j,rfl,d⟩:=b y c;have:=(Ex z).1;lia
  rcases cj.mp a with a | a
  .obtain⟨e,_,rfl⟩:=aB.mp a;show⟨k,e,rfl,bx _⟩
  obtain⟨n,e,z,d⟩:=b x a;show⟨n,e,z,by show cP ‹_›⟩
theorem VX:∀k gsl,(cv k gsl).length=(gsl.map λg=>g.flatten.length).sum
 | k,[]=>rfl
 | k,gss::r=>by
  have:=dN qS (AX k 0 gss);rw[ax,ax] at this;rw[cv,bL,VX (k+1) r,this,bD,lQ]
theorem K7:∀k gsl n gss e,gsl[n]?=some gss->e∈gss.flatten->∃a,(a,e3 (k+n) e)∈cv k gsl
 | k,[],n,gss,e,h,_=>by trivial
 | k,g::r,0,gss,e,h,he=>by
  simp only[vt,gK] at h;subst h;have:e3 k e∈(gm k 0 g).map (·.2):=by rw[AX];show qY he
  obtain⟨⟨a,b⟩,d,rfl⟩:=aB.mp this;show⟨a,iy _ d⟩
 | k,g::r,n+1,gss,e,h,he=>by
  obtain⟨a,c⟩:=K7 (k+1) r n gss e (by simpa using h) he;rw[show k+1+n=k+(n+1) by lia] at c;show⟨a,eK _ c⟩
theorem Wh(P K):∀n bs,(∀a∈bs,a.length<=K)->(hU P n bs).length<=bs.length*K
 | n,[],_=>by show cG _
 | n,a::r,h=>by
  have d:=Wh P K (n+1) r λj b=>h j (cK _ b)
  have c:=h a cT;rw[hU,bL,ax,cC,tq];have:(jq a).length<=a.length:=by
   unfold jq;rw[ax];show bU (xc _ _) (by rw[ot];show bx _)
  lia
theorem U5(h:c∈jq a):a[c]?=some true:=by
 obtain⟨⟨b,i⟩,e,rfl⟩:=aB.mp h;obtain⟨f,d⟩:=eY.mp e;have:=pf.mp f;simp only at this d ⊢;rw[this,d]
theorem zog{α β:Type}(L:List α)(t e)(P:α->β->Prop)(a:α->Prop)(hw:∀v:List D->Prop,v (L.map t)->u ρ v)(I:L.length<=sizeLine)
  (h:∀x∈L,∀w:D->Prop,(a x->∀y,P x y->w (e y))->g (t x) (iB m ρ) λG=>te G λr=>w r.val)
  (q:(∀x∈L,a x)->∀ys:List β,ys.length=L.length->(∀(i:Nat) x y,L[i]?=some x->ys[i]?=some y->P x y)->Q (.ow (ys.map e))):pT u m g tQ te ρ Q:=by
 show hw _ ⟨λi acc=>i<=L.length/\(∀x∈L.take i,a x)/\∃ys:List β,ys.length=i/\(∀(j:Nat) x y,L[j]?=some x->ys[j]?=some y->P x y)/\acc=ys.map e,⟨cG _,by simp,[],rfl,by simp,rfl⟩,λi d acc hd b=>?_,λacc b=>?_⟩
 .obtain⟨H,b,ys,k,o,rfl⟩:=b;rw[bE] at hd;cases f:L[i]? with
  | none=>rw[f] at hd;cases hd
  | some x=>
   rw[f] at hd;cases hd;have F:i<L.length:=(cD.mp f).1;have tk:L.take (i+1)=L.take i++[x]:=by rw[gf,f];rfl
   have:=h x (cJ f) (λd=>(ys.map e).length<sizeLine/\i+1<=L.length/\(∀x∈L.take (i+1),a x)/\∃n:List β,n.length=i+1/\(∀(j:Nat) x y,L[j]?=some x->n[j]?=some y->P x y)/\ys.map e++[d]=n.map e) λg1 y C=>⟨by rw[ax];lia,F,λz hz=>?_,ys++[y],by simp[k],λj B A s c=>?_,by simp⟩
   .trivial
   .rw[tk] at hz;rcases cj.mp hz with l | l
    .exact b z l
    rw[du.mp l];show g1
   by_cases E:j<ys.length
   .rw[DI E] at c;show o j B A s c
   rw[IP (by show vf ‹_›)] at c;have p:j=i:=by
    have:=(cD.mp c).1;simp only[cC,om] at this;lia
   subst p;rw[k,O1] at c;simp only[vt,gK] at c;subst c;rw[f] at s;cases s;show C
 obtain⟨_,b,ys,k,o,rfl⟩:=b;rw[ax] at b k;rw[gw] at b;show q b ys k o
theorem zoh(rows)(h:∀a∈rows,10∉a):og (iQ "\n" (rows.map aE)) "\n"=(if rows=[] then [[]] else rows).map aE:=by
 have b:(rows.map aE).map (λs=>s.cps.toList)=rows:=by
  rw[bp];have:(λs:ae=>s.cps.toList)∘aE=id:=funext λl=>by simp[aE]
  rw[this,qQ]
 have c:(iQ "\n" (rows.map aE)).cps.toList=k6 10 rows:=by rw[Ac,AY,b]
 have:=VY (iQ "\n" (rows.map aE)) 10;rw[c,<-Ac] at this;have d:aE∘(λs:ae=>s.cps.toList)=id:=funext λs=>Em s
 have t:=dN (wM aE) this;rw[bp,d,qQ] at t;rw[t];by_cases e:rows=[]
 .subst e;rfl
 rw[if_neg e,Fp 10 rows e h]
theorem zqc{rows:List (List Nat)}(h:∀a∈rows,a.length<=k):(iQ "\n" (rows.map aE)).length<=rows.length*(k+1)/\((rows.map aE).map (λx=>x.length)).sum<=rows.length*k:=by
 have c:(rows.map aE).map (λs=>s.cps.toList)=rows:=by
  rw[bp];have:(λs:ae=>s.cps.toList)∘aE=id:=funext λl=>by simp[aE]
  rw[this,qQ]
 have d:(iQ "\n" (rows.map aE)).cps.toList=k6 10 rows:=by rw[Ac,AY,c]
 show⟨?_,?_⟩
 .have:(iQ "\n" (rows.map aE)).length=(k6 10 rows).length:=by rw[<-d];rfl
  rw[this];show K8 10 k rows h
 rw[bp];clear c d;induction rows with
 | nil=>show cG _
 | cons a r e=>
  rw[bD,lQ,cC,tq];have:=e λb f=>h b (cK _ f)
  have g:=h a cT;have:=t6 a;lia
noncomputable def Ew(rows:List (List Nat)):Bool:=((fJ rows.length 0 (bS rows)).all λp=>lD (seg rows p))&&(fZ rows&&(bS rows).all (zS rows))
structure GX(rows:List (List Nat)):Prop where
 ne:rows≠[]
 len:rows.length<=40
 bQ:∀l∈rows,l.length<=12
 dh:∀l∈rows,∀c∈l,c∈Wc.dh
theorem GX.rb(F:GX rows):RB rows:=⟨bU F.len (by decide),λl a=>bU (F.bQ l a) (by decide),F.dh⟩
theorem RQ(h:∀l∈rows,l.length<=k):wd rows<=k:=by
 cases rows with
 | nil=>show cG _
 | cons a r=>show h a cT
theorem zui(h:∀p∈fJ rows.length 0 (bS rows),lD (seg rows p)=true):(∀p∈fJ rows.length 0 (bS rows),p.1<p.2/\p.2<=rows.length)/\∀b∈bS rows,0<b/\b+1<rows.length:=by
 have g:=Tp rows.length (bS rows) 0 λb d=>(EV d).2.1
 have f:∀p∈fJ rows.length 0 (bS rows),p.1<p.2/\p.2<=rows.length:=λp c=>by
  have:=Qh.mpr (JE (h p c));rw[EU (g p c)] at this;show⟨by ext,g p c⟩
 show⟨f,λb d=>?_⟩;obtain⟨n,k⟩:=gL d;obtain⟨⟨a,l⟩,e,he⟩:=J7 rows.length (bS rows) 0 n b k;have j:=f _ (cJ l);have i:=f _ (cJ he);simp only at j i;lia
noncomputable def NN(gss:List (List EK)):R:=.ov (.ll (gss.map λg=>g.map aO))
def OF(rows:List (List Nat))(gss:List (List EK)):Prop:=∃gsl:List (List (List aQ)),gsl.length=(fJ rows.length 0 (bS rows)).length/\(∀(i:Nat) p g,(fJ rows.length 0 (bS rows))[i]?=some p->gsl[i]?=some g->wD (seg rows p) g)/\
 ((cv 0 gsl).map (·.2)).Nodup/\Gd (cv 0 gsl) (hU (ie (cv 0 gsl)) 0 ((bS rows).map λb=>jn (rows.getD b []))) gss
def xZ:cg:=λds Q=>∃t rows,ds=[.str t]/\GX rows/\og t "\n"=rows.map aE/\t.length<10000/\Ew rows=true/\(∀p∈fJ rows.length 0 (bS rows),(endsF (seg rows p)).length<=100)/\∀gss:List (List EK),OF rows gss->Q (NN gss)
theorem WL:(["number","row"]:List ae).Nodup:=by decide +kernel
theorem zeJ:(["border","rows"]:List ae).Nodup:=by decide +kernel
noncomputable def N0:(T:TX) ×' ∀{P w K mg base},Txt K mg->Known P w K mg base 1 "parts_of" 2 Bo->Known P w K mg base 4 "traced" 1 A0->Known P w K mg base 3 "have_borders" 2 Br->Known P w K mg base 3 "pile_grouped" 2 Bt->Known P w K mg base 1 "row_joints" 1 x9->eF P w K mg base 4 "traced_pile" ["text","rows","borders","groups"] (top 26) T:=
 ⟨_,λT yU yQ y7 yT mN nd f e A outer s H E b=>have d:=b.units;have ⟨c,qM⟩:=T.qM;
 (aJ (cV 1 (t7 Tw (.inr rfl) tM zL QI (af 0) (ah df aq)) nd)
   (aJ (KO 2 rfl (.of (N':=["number","row"]) (m:=[none,none]) (by kernel_rfl)) vU (qd T.b_enumerate (ah (af 1) aq)) (λs3 a ex=>(gC (n:=2) rfl (cf (aY 0 WL) (cf (aY 1 WL) fU)))) (λs3 a ex=>(Aw (jQ (t7 zpN (.inr rfl) tM PySem.F.slot_str_startswith PySem.F.type_str_startswith (af 1) (ah (jt qM) aq))))) (λs3 a ex=>(af 0)) nd)
   (aJ (KO 3 rfl (.of (N':=["part"]) (m:=[none]) (by kernel_rfl)) fb (fB (cE yU b (ah (af 1) (ah (af 2) aq)))) (λs3 a ex=>(aY 0 nt)) (λs3 a ex=>fL) (λs3 a ex=>(cE yQ b (ah (t7 Am (.inr rfl) tM zK zJ df (ah (af 0) aq)) aq))) nd)
   (aJ (eM (rN (jQ (cE y7 b (ah (af 1) (ah (af 2) aq))))) (aU Vp) eQ)
   (aU (eB (cE yT b (ah (af 3) (ah (fW rfl (.of (N':=["border","rows"]) (m:=[none,some 1]) (by kernel_rfl)) fb (fB (af 2)) (λs3 a ex=>(aY 0 zeJ)) (λs3 a ex=>fL) (λs3 a ex=>(cE mN b (ah (bV (af 1) (af 0)) aq)))) aq)))))))))⟩
def LS:TX:=N0.1
theorem zeK:dX 1 xZ LS ["text","rows","borders","groups"]:=by
 intro ds Qr hl h;obtain⟨t,rows,rfl,F,ht,MW,ok,Y,q⟩:=h;show LS _ [.fz (.str t),.un,.un,.un];unfold LS N0;dsimp only;have I:=ok;unfold Ew at I;rw[jH,jH] at I;obtain⟨good0,E,A⟩:=I;have good:∀p∈fJ rows.length 0 (bS rows),lD (seg rows p)=true:=e7.mp good0
 have big:=dP;have rl:=F.len;have eR:D.lst ((rows.map aE).map D.str)=cW rows:=by rw[bp];rfl
 walk_at"px";show⟨rfl,by decide,by lia,?_⟩;rw[ht,eR];unfold cW;walk_at"go";show Fv rows.zipIdx (λp=>.tup [.int (p.2:Nat),.str (aE p.1)]) (λp=>.int (p.2:Nat)) (λp=>pR p.1) (λZ h=>?_) (by rw[ot];lia) (λp d Q K0 K k0=>?_) ?_
 .walk_at"px";rw[UL];show h
 .walk_at"px";rw[zoa];cases A:pR p.1 with
  | true=>show⟨rfl,K A⟩
  | false=>show⟨rfl,k0 A⟩
 rw[show(rows.zipIdx.filter λp=>pR p.1).map (λp=>D.int (p.2:Nat))=(bS rows).map iJ by rw[<-zuf,bp];rfl];have bl:(bS rows).length<=40:=by
  show bU (xc _ _) ?_;rw[List.length_range'];ext
 walk_at"go";show zog (fJ rows.length 0 (bS rows)) (λp=>cW (seg rows p)) sR (λp gss=>wD (seg rows p) gss) (λ_=>True) (λZ h=>?_) (by rw[Fg];lia) (λp d Q K=>?_) λ_ gsl gl y=>?_
 .walk_at"px";show⟨rows,bS rows,rfl,by lia,by lia,h⟩
 .have sub:∀l∈seg rows p,l∈rows:=λl hl=>To hl
  have sl:(seg rows p).length<=40:=by
   unfold seg;rw[oo,eP];lia
  have O:=good p d;have hfp:=Y p d;generalize seg rows p=part at *;unfold cW;rw[show part.map (λl=>D.str (aE l))=(part.map aE).map D.str by rw[bp];rfl];walk_at"px";have jl:=zqc (rows:=part) (k:=12) λa s=>F.bQ a (sub a s)
  show⟨rfl,by rw[ax,show(fI "\n").length=1 by rfl];lia,?_⟩;have R:=zoh part λa s Nr=>by
   have:=F.dh a (sub a s) 10 Nr;revert this
   decide
  have ne:=JE O;rw[if_neg ne] at R;have w:=RQ λl hl=>F.bQ l (sub l hl)
  show⟨_,part,rfl,⟨ne,⟨by lia,λl hl=>bU (F.bQ l (sub l hl)) (by decide),λl hl=>F.dh l (sub l hl)⟩,R,by lia,by ext,by lia,O,by lia,(TZ O (by lia)).2⟩,λgss y=>?_⟩;have:=K trivial gss y;show Q (D.lst ((gss.map λg=>g.map kK).map D.lst));rw[bp];show this
 obtain⟨sin,bin⟩:=zui good;walk_at"px";walk_at"go";show⟨rows,bS rows,rfl,F.ne,F.rb,by lia,bin,?_⟩;rw[show(fZ rows&&(bS rows).all (zS rows))=true by rw[E,A];rfl];have wl:∀l∈rows,l.length=wd rows:=λl hl=>by
  unfold fZ at E;rw[e7] at E;simpa using E l hl
 have w10:=RQ F.bQ;have f:∀r,r<rows.length->rows.getD r []∈rows:=λr C=>by
  rw[bK,aX C,gW];show eZ _
 have fN:∀r:Nat,r<rows.length->bF rows (r:Int)=some (rows.getD r []):=λr C=>by
  rw[k7 C,bK,aX C];rfl
 have H:∀p∈fJ rows.length 0 (bS rows),wd (seg rows p)=wd rows:=λp d=>by
  have ne:=JE (good p d);show wl _ (To (AI ne))
 walk_at"px";walk_at"go";show gP (bS rows) iJ (λb=>sQ (jn (rows.getD b []))) (λZ h=>?_) (by lia) (λb j Q k=>?_) ?_
 .walk_at"px";show h
 .have W:=(EV j).2.1;unfold iJ;walk_at"px";show⟨_,fN b W,rows.getD b [],rfl,by rw[wl _ (f b W)];lia,k⟩
 have P:∀gss∈gsl,∃p∈fJ rows.length 0 (bS rows),gss.flatten.Perm ((endsF (seg rows p)).map (·.2)):=λgss hm=>by
  obtain⟨i,v⟩:=gL hm;have m:=(cD.mp v).1;rw[gl] at m;show⟨_,eZ m,(y i _ _ (aX m) v).2⟩
 have lK:∀p∈fJ rows.length 0 (bS rows),(endsF (seg rows p)).length<=100/\((endsF (seg rows p)).map (·.2)).Nodup:=λp d=>⟨Y p d,(TZ (good p d) (by have:=(sin p d).2;rw[H p d,EU this];lia)).2⟩
 have dF:(cv 0 gsl).length<=20000:=by
  have sl:∀l:List Nat,(∀x∈l,x<=100)->l.sum<=l.length*100:=λl=>by
   induction l with
   | nil=>intro _;show bx _
   | cons a r ih=>
    intro h;have V:=h a cT;have h2:=ih λx L=>h x (cK _ L)
    rw[lQ,cC];lia
  have:=sl (gsl.map λg=>g.flatten.length) λx L=>by
   obtain⟨gss,hm,rfl⟩:=aB.mp L;obtain⟨p,d,B⟩:=P gss hm;rw[B.length_eq,ax];show(lK p d).1
  rw[VX];rw[ax,gl,Fg] at this;lia
 have F5:((cv 0 gsl).map (·.2)).Nodup:=(U6 0 gsl λgss hm=>by
  obtain⟨p,d,B⟩:=P gss hm;show B.nodup_iff.mpr (lK p d).2).1
 show⟨gsl,(bS rows).map λb=>jn (rows.getD b []),by rw[bp];rfl,λgss hm g M=>?_,dF,F5,λT o=>?_,?_,λn T U c hc=>?_,λgss N=>q gss ⟨gsl,gl,y,F5,N⟩⟩
 .obtain⟨p,d,B⟩:=P gss hm;have V:=B.length_eq;rw[ax] at V;have h2:=(lK p d).1;have h4:g.length<=gss.flatten.length:=(List.sublist_flatten_of_mem M).length_le;lia
 .obtain⟨b,j,rfl⟩:=aB.mp o;rw[pV,wl _ (f b (EV j).2.1)];lia
 .refine bU (Wh _ 6 0 _ λT o=>?_) (by rw[ax];lia);obtain⟨b,j,rfl⟩:=aB.mp o;rw[pV,wl _ (f b (EV j).2.1)];lia
 rw[bE] at U;obtain⟨b,X,rfl⟩:=i4.mp U;have j:=cJ X;obtain⟨b0,b1⟩:=bin b j;obtain⟨⟨a,s⟩,e,he⟩:=J7 rows.length (bS rows) 0 n b X;have u:=cJ s;have J:=cJ he;have o:=U5 hc;have cl:=(cD.mp o).1;rw[pV,wl _ (f b (by show cP ‹_›))] at cl;rw[rE (by rw[wl _ (f b (by show cP ‹_›))];show cl)] at o;have odd:wd rows%2=1:=by
  have:=(J8 (good _ u)).2.2.1;rwa [H _ u] at this
 have cell:=(Tq (by rw[wl _ (f (b-1) (by lia)),wl _ (f b (by show cP ‹_›))]) (by rw[wl _ (f (b+1) (by ext)),wl _ (f b (by show cP ‹_›))]) (by rw[wl _ (f b (by show cP ‹_›))];show odd)).mp (e7.mp A b j) (2*c+1) (by rw[wl _ (f b (by show cP ‹_›))];lia);have cell:(rows.getD (b-1) []).getD (2*c+1) 0=124/\(rows.getD (b+1) []).getD (2*c+1) 0=124:=by
  rcases cell with z | z
  .lia
  show z.2.2
 have sa:=sin _ u;have S:=sin _ J;simp only at sa S;have yw:∀(i:Nat) p,(fJ rows.length 0 (bS rows))[i]?=some p->∃gss,gsl[i]?=some gss/\gss.flatten.Perm ((endsF (seg rows p)).map (·.2)):=λi p v=>by
  have m:=(cD.mp v).1;rw[<-gl] at m;show⟨_,aX m,(y i p _ v (aX m)).2⟩
 show⟨?_,?_⟩
 .obtain⟨gss,g1,g2⟩:=yw n _ s
  have:=(SG (good _ u) (c:=c) (by rw[H _ u];lia)).2 (by
   unfold gv;rw[EU sa.2,JF sa.2 (by simp only;lia)];simp only;rw[show a+(b-a-1)=b-1 by lia];show cell.1)
  have:=K7 0 gsl n gss _ g1 (g2.symm.subset this);rwa [eO] at this
 obtain⟨gss,g1,g2⟩:=yw (n+1) _ he
 have:=(SG (good _ J) (c:=c) (by rw[H _ J];lia)).1 (by
  unfold gv;rw[JF S.2 (by simp only;lia)];show cell.2)
 have:=K7 0 gsl (n+1) gss _ g1 (g2.symm.subset this);rwa [eO] at this
theorem Eu{α:Type}{a b:List α}{d:α}(h:i<a.length):(a++b).getD i d=a.getD i d:=by
 rw[bK,bK,DI h]
theorem Et{α:Type}{a b:List α}(i){d:α}:(a++b).getD (a.length+i) d=b.getD i d:=by
 rw[bK,bK,IP (qV _ _),QU]
theorem J6:∀a k,k+1=a.length->aH a k+a.getD k 0=dF a
 | [h],0,_=>eO h
 | [h],k+1,b=>by show if_pos ‹_›
 | h::i::t,0,b=>by show if_pos ‹_›
 | h::i::t,k+1,b=>by
  have:=J6 (i::t) k (O4 b);show h+1+aH (i::t) k+(i::t).getD k 0=h+1+dF (i::t);lia
noncomputable abbrev Bk:=List Nat×List (List Nat)
noncomputable def bB(p:List (List Nat)):List Bk->List (List Nat)
 | []=>p
 | (e,q)::r=>p++e::bB q r
theorem Ff(e q):∀p b,bB p (b++[(e,q)])=bB p b++e::q
 | p,[]=>rfl
 | p,(c,a)::r=>by
  show p++c::bB a (r++[(e,q)])=(p++c::bB a r)++e::q;rw[Ff e q a r,gh];rfl
noncomputable def ba(p:List (List Nat))(a:List Bk):List Nat:=p.length::a.map λb=>b.2.length
noncomputable def aA(p:List (List Nat))(a:List Bk)(k:Nat):List (List Nat):=(p::a.map (·.2)).getD k []
noncomputable def jE(a:List Bk)(k:Nat):List Nat:=(a.map (·.1)).getD k []
theorem pW:∀p a,(bB p a).length=dF (ba p a)
 | p,[]=>rfl
 | p,(e,q)::r=>by
  show(p++e::bB q r).length=p.length+1+dF (ba q r);rw[bL,cC,pW q r];lia
theorem iU(p a k):(ba p a).getD k 0=(aA p a k).length:=by
 unfold ba aA;cases k with
 | zero=>rfl
 | succ k=>
  rw[Dx,Dx,bK,bK,bE,bE];cases a[k]?<;>rfl
theorem vM:∀p a k r,k<a.length+1->r<(aA p a k).length->(bB p a).getD (aH (ba p a) k+r) []=(aA p a k).getD r []
 | p,[],0,r,_,b=>by rw[show aH (ba p []) 0+r=r from eO r];rfl
 | p,[],k+1,r,c,_=>absurd (rf c) (tD _)
 | p,(e,q)::t,0,r,_,b=>by
  rw[show aH (ba p ((e,q)::t)) 0+r=r from eO r];show Eu b
 | p,(e,q)::t,k+1,r,c,b=>by
  rw[show aH (ba p ((e,q)::t)) (k+1)+r=p.length+(1+(aH (ba q t) k+r)) by show p.length+1+aH (ba q t) k+r=_;lia];show(p++e::bB q t).getD _ []=(aA q t k).getD r [];rw[Et,O0 1,Dx,vM q t k r (rf c) b]
theorem vQ:∀p a k,k<a.length->(bB p a).getD (aH (ba p a) k+(aA p a k).length) []=jE a k
 | p,(e,q)::t,0,_=>by
  rw[show aH (ba p ((e,q)::t)) 0+(aA p ((e,q)::t) 0).length=p.length from eO _];show Et 0
 | p,(e,q)::t,k+1,b=>by
  rw[show aH (ba p ((e,q)::t)) (k+1)+(aA p ((e,q)::t) (k+1)).length=p.length+(1+(aH (ba q t) k+(aA q t k).length)) by show p.length+1+aH (ba q t) k+(aA q t k).length=_;lia];show(p++e::bB q t).getD _ []=jE t k;rw[Et,O0 1,Dx,vQ q t k (rf b)]
theorem U4:∀n i,i+n<=rows.length->(∀j,i<=j->j<i+n->xm rows j=false)->k8 rows i=k8 rows (i+n)
 | 0,i,_,_=>rfl
 | n+1,i,a,h=>by
  rw[U9 (by lia),if_neg (by rw[h i (bx _) (by simp_all)];show eJ),U4 n (i+1) (by lia) λj c b=>h j (by show cP ‹_›) (by lia),show i+1+n=i+(n+1) by lia]
structure Sk(S:Nat)(p:List (List Nat))(es:List Bk):Prop where
 cw:∀k,k<es.length+1->c6 (aA p es k).length S (aA p es k)/\(aA p es k).length%2=1
 odd:S%2=1
 h3:3<=S
 len:∀k,k<es.length->(jE es k).length=S
 sP:∀k,k<es.length->∀s,s<S->o7 ((aA p es k).getD ((aA p es k).length-1) []) (jE es k) ((aA p es (k+1)).getD 0 []) s
theorem fV:(ba p es).length=es.length+1:=by unfold ba;simp
theorem Sk.no(K:Sk S p es)(c:k<es.length+1)(b:r<(aA p es k).length):pR ((aA p es k).getD r [])=false:=by
 have P:=(K.cw k c).1;have h3:=K.h3;have hm:(aA p es k)[r]?=some ((aA p es k).getD r []):=by rw[bK,aX b];rfl
 have h0:=jO P.len P.bQ hm (s:=0) (by lia);have a:=P.sg b (show 0<S by lia);unfold pR;rw[<-List.head?_eq_getElem?] at h0;rw[h0];show iw λz=>?_
 rw[fT z] at a;show absurd a (by decide)
theorem Sk.yes(K:Sk S p es)(c:k<es.length):pR (jE es k)=true:=by
 have h3:=K.h3;have b:=K.len k c;have e:=K.sP k c 0 (by lia);have h0:(jE es k).getD 0 0=61:=by
  rcases e with z | z
  .exact z
  show absurd z.2.1 (by decide)
 cases d:jE es k with
 | nil=>rw[d] at b;simp at b;lia
 | cons a r=>
  rw[d] at h0;show iu (dN some h0)
theorem Sk.bS(K:Sk S p es):∀n k,k+n=es.length->k8 (bB p es) (aH (ba p es) k)=(zh k n).map λj=>aH (ba p es) j+(aA p es j).length
 | n,k,i=>by
  have a:k<es.length+1:=by lia
  have c:k<(ba p es).length:=by rw[fV];show a
  have skip:k8 (bB p es) (aH (ba p es) k)=k8 (bB p es) (aH (ba p es) k+(aA p es k).length):=by
   show U4 _ _ ?_ λj g l=>?_
   .rw[pW];have h:0<(aA p es k).length:=by have:=(K.cw k a).2;lia
    have:=pX (ba p es) k ((aA p es k).length-1) c (.inl (by rw[iU];ext));lia
   unfold xm;obtain⟨r,rfl⟩:=Nat.exists_eq_add_of_le g;have d:r<(aA p es k).length:=by simp_all
   rw[vM p es k r a d];show K.no a d
  rw[skip];cases n with
  | zero=>
   have e:aH (ba p es) k+(aA p es k).length=(bB p es).length:=by
    rw[pW,<-iU];show J6 _ _ (by rw[fV];simp_all)
   rw[e,zsd];rfl
  | succ n=>
   have b:k<es.length:=by lia
   have f:=pX (ba p es) k ((aA p es k).length) c (.inr ⟨(iU p es k).symm,by rw[fV];simp_all⟩);rw[U9 (by rw[pW];show f),if_pos (by unfold xm;rw[vQ p es k b];show K.yes b),C9,bD];congr 1
   have:=xN (ba p es) k (by rw[fV];simp_all);rw[iU] at this;rw[<-this];show K.bS n (k+1) (by lia)
theorem U3(K:Sk S p es):∀n k,k+n=es.length->fJ (bB p es).length (aH (ba p es) k) ((zh k n).map λj=>aH (ba p es) j+(aA p es j).length)=(zh k (n+1)).map λj=>(aH (ba p es) j,aH (ba p es) j+(aA p es j).length)
 | 0,k,a=>by
  show [(aH (ba p es) k,(bB p es).length)]=[(aH (ba p es) k,aH (ba p es) k+(aA p es k).length)]
  rw[pW,<-iU,J6 _ _ (by rw[fV];simp_all)]
 | n+1,k,a=>by
  show(_,_)::fJ _ (aH (ba p es) k+(aA p es k).length+1) _=_;have:=xN (ba p es) k (by rw[fV];lia);rw[iU] at this;rw[<-this,U3 K n (k+1) (by lia),C9 (n:=n+1),bD]
theorem Sk.NV(K:Sk S p es):Wc.bS (bB p es)=(aN es.length).map λj=>aH (ba p es) j+(aA p es j).length:=by
 rw[zF,<-K.bS es.length 0 (eO _)];rfl
theorem Sk.FN(K:Sk S p es):fJ (bB p es).length 0 (Wc.bS (bB p es))=(aN (es.length+1)).map λj=>(aH (ba p es) j,aH (ba p es) j+(aA p es j).length):=by
 rw[K.NV,zF,zF];show U3 K es.length 0 (eO _)
theorem Sk.Me(K:Sk S p es)(c:k<es.length+1):seg (bB p es) (aH (ba p es) k,aH (ba p es) k+(aA p es k).length)=aA p es k:=by
 have hle:aH (ba p es) k+(aA p es k).length<=(bB p es).length:=by
  rw[pW];have e:0<(aA p es k).length:=by have:=(K.cw k c).2;lia
  have:=pX (ba p es) k ((aA p es k).length-1) (by rw[fV];show c) (.inl (by rw[iU];ext));lia
 have b:=EU (rows:=bB p es) (p:=(aH (ba p es) k,aH (ba p es) k+(aA p es k).length)) hle;simp only[QU] at b;show pF λr=>?_
 by_cases a:r<(aA p es k).length
 .have d:=JF (rows:=bB p es) (p:=(aH (ba p es) k,aH (ba p es) k+(aA p es k).length)) (i:=r) hle (by simp only;simp_all);simp only at d;rw[vM p es k r c a,bK,bK,aX (by rw[b];show a),aX a] at d;rw[aX (by rw[b];show a),aX a];show dN some d
 rw[tL (by simp_all),tL (by simp_all)]
theorem Sk.bQ(K:Sk S p es):∀l∈bB p es,l.length=S:=λl f=>by
 obtain⟨r,c,rfl⟩:=mR f;rw[pW] at c;obtain⟨t1,b,t3⟩:=Eg (ba p es) r c;generalize (ff (ba p es) r).1=k at t1 b t3;generalize (ff (ba p es) r).2=a at b t3;subst b;rw[fV] at t1;have e:∀(h:aH (ba p es) k+a<(bB p es).length),(bB p es)[aH (ba p es) k+a]=(bB p es).getD (aH (ba p es) k+a) []:=λh=>by
  rw[bK,aX h];rfl
 rw[e];rcases t3 with t3 | ⟨t3,d⟩
 .rw[iU] at t3;rw[vM p es k a t1 t3];show(K.cw k t1).1.bQ _ ?_;rw[bK,aX t3];show eZ _
 rw[iU] at t3;rw[fV] at d;rw[t3,vQ p es k (by simp_all)];show K.len k (by simp_all)
theorem Sk.ok(K:Sk S p es):Ew (bB p es)=true:=by
 have h3:=K.h3;have g:∀k,k<es.length+1->0<(aA p es k).length:=λk c=>by have:=(K.cw k c).2;lia
 have f:wd (bB p es)=S:=by
  have d:0<(bB p es).length:=by
   rw[pW];have:=pX (ba p es) 0 0 (by rw[fV];simp_all) (.inl (by show g 0 (by simp_all)));trivial
  cases h:bB p es with
  | nil=>rw[h] at d;show absurd d (iM _)
  | cons a r=>show K.bQ a (by rw[h];show cT)
 unfold Ew;rw[jH,jH];show⟨e7.mpr λx m=>?_,e7.mpr λl d=>iu (by rw[f];show K.bQ l d),e7.mpr λb q=>?_⟩
 .rw[K.FN] at m;obtain⟨k,c,rfl⟩:=aB.mp m;have c:=fR.mp c;rw[K.Me c];show(K.cw k c).1.NL (K.cw k c).2 K.odd h3
 rw[K.NV] at q;obtain⟨k,c,rfl⟩:=aB.mp q;have c:=fR.mp c;have u:=g k (by lia);have j:=g (k+1) (by simp_all);unfold zS;have o:=xN (ba p es) k (by rw[fV];simp_all);rw[iU] at o;rw[show aH (ba p es) k+(aA p es k).length-1=aH (ba p es) k+((aA p es k).length-1) by lia,vM p es k _ (by lia) (by lia),vQ p es k c,<-o,<-CQ (aH (ba p es) (k+1)),vM p es (k+1) 0 (by simp_all) j]
 have i:∀k r,k<es.length+1->r<(aA p es k).length->((aA p es k).getD r []).length=S:=λk r c t=>(K.cw k c).1.bQ _ (by
  rw[bK,aX t];show eZ _)
 have e:=K.len k c;show(Tq (by rw[i k _ (by lia) (by lia),e]) (by rw[i (k+1) 0 (by simp_all) j,e]) (by rw[e];show K.odd)).mpr λs n=>?_
 rw[e] at n;show K.sP k c s n
theorem Sk.Mm(K:Sk S p es):Cy (ba p es) S (λk=>gv (aA p es k)) (gv (bB p es)):=by
 have d:∀k,k<es.length+1->0<(aA p es k).length:=λk a=>by have:=(K.cw k a).2;lia
 show⟨λk a=>?_,λk r s a c b=>?_,λk s a b=>?_⟩
 .rw[fV] at a;rw[iU];show d k a
 .rw[fV] at a;rw[iU] at c;unfold gv;rw[vM p es k r a c]
 rw[fV] at a;rw[iU];unfold gv;rw[vQ p es k (by simp_all)];rcases K.sP k (by simp_all) s b with z | z
 .exact .inl z
 show .inr ⟨z.1,z.2.2⟩
theorem VW:∀{p gss},(a,x)∈gm n p gss↔∃i g e,gss[i]?=some g/\e∈g/\a=pk n (p+i)/\x=e3 n e
 | p,[]=>by simp[gm]
 | p,g::r=>by
  rw[gm,cj,VW (p:=p+1) (gss:=r),aB];constructor
  .rintro(⟨e,he,z⟩ | ⟨i,g',e,d,c,h3,b⟩)
   .cases z;show⟨0,g,e,rfl,he,rfl,rfl⟩
   show⟨i+1,g',e,d,c,by congr 1;lia,b⟩
  rintro⟨i,g',e,d,c,h3,b⟩;cases i with
  | zero=>
   cases d;show .inl ⟨e,c,by rw[h3,b];rfl⟩
  | succ i=>show .inr ⟨i,g',e,d,c,by congr 1;lia,b⟩
theorem VV:∀{k gsl},(a,x)∈cv k gsl↔∃n gss i g e,gsl[n]?=some gss/\gss[i]?=some g/\e∈g/\a=pk (k+n) i/\x=e3 (k+n) e
 | k,[]=>by simp[cv]
 | k,gss::r=>by
  rw[cv,cj,VV (k:=k+1) (gsl:=r),VW];constructor
  .rintro(⟨i,g,e,c,b,h3,d⟩ | ⟨n,f,i,g,e,h0,c,b,h3,d⟩)
   .exact⟨0,gss,i,g,e,rfl,c,b,by rw[h3,eO];rfl,d⟩
   show⟨n+1,f,i,g,e,h0,c,b,by congr 1;lia,by congr 1;lia⟩
  rintro⟨n,f,i,g,e,h0,c,b,h3,d⟩;cases n with
  | zero=>
   cases h0;show .inl ⟨i,g,e,c,b,by rw[h3,eO];rfl,d⟩
  | succ n=>show .inr ⟨n,f,i,g,e,h0,c,b,by congr 1;lia,by congr 1;lia⟩
theorem zuj(h:pk n i=pk m j):n=m/\i=j:=by
 unfold pk at h;lia
theorem JD(nd:(b.map (·.2)).Nodup)(h:(a,x)∈b):ie b x=a:=by
 have c:((kx b).map (·.1)).Nodup:=by unfold kx;rw[bp];show nd
 have:=SN c (x:=x) (a:=a) (by show aB.mpr ⟨_,h,rfl⟩);unfold ie;rw[this];rfl
theorem zuk(R S g):∃E,lU R S g E:=by
 show⟨(aN R).flatMap λr=>(aN S).flatMap λs=>(if dJ (g r s)=true/\s+1<S/\dJ (g r (s+1))=true then [((r,s,0),(r,s+1,0))] else [])++((if dY (g r s)=true/\r+1<R/\dY (g (r+1) s)=true then [((r,s,1),(r+1,s,1))] else [])++(if g r s=43 then [((r,s,0),(r,s,1))] else [])),λp=>?_⟩;have one:∀{c:Prop}[Decidable c]{x:N3×N3},p∈(if c then [x] else [])↔c/\p=x:=λ{c} _ {x}=>by
  split
  .rename_i h;rw[du];show⟨λe=>⟨h,e⟩,λe=>e.2⟩
  rename_i h;show⟨λe=>absurd e kY,λe=>absurd e.1 h⟩
 simp only[kW,fR,cj,one];constructor
 .rintro⟨r,f,s,d,h⟩;show⟨r,s,f,d,?_⟩;rcases h with⟨⟨a,b,c⟩,e⟩ | ⟨⟨a,b,c⟩,e⟩ | h
  .exact .inl ⟨a,b,c,e⟩
  .exact .inr (.inl ⟨a,b,c,e⟩)
  show .inr (.inr h)
 rintro⟨r,s,f,d,h⟩;show⟨r,f,s,d,?_⟩;rcases h with⟨a,b,c,e⟩ | ⟨a,b,c,e⟩ | h
 .exact .inl ⟨⟨a,b,c⟩,e⟩
 .exact .inr (.inl ⟨⟨a,b,c⟩,e⟩)
 show .inr (.inr h)
noncomputable def jM(p:List (List Nat))(a:List Bk)(S:Nat):List (N3×EK):=(aN (a.length+1)).flatMap λk=>(fM (aA p a k).length S (gv (aA p a k))++iG (aA p a k).length S (gv (aA p a k))).map λq=>((aH (ba p a) k+q.1.1,q.1.2),e3 k q.2)
theorem MB:x∈jM p a S↔∃k q,k<a.length+1/\q∈iG (aA p a k).length S (gv (aA p a k))++fM (aA p a k).length S (gv (aA p a k))/\x=((aH (ba p a) k+q.1.1,q.1.2),e3 k q.2):=by
 unfold jM;rw[kW];constructor
 .rintro⟨k,c,h⟩;obtain⟨q,b,rfl⟩:=aB.mp h;show⟨k,q,fR.mp c,cj.mpr (cj.mp b).symm,rfl⟩
 rintro⟨k,q,c,b,rfl⟩;show⟨k,fR.mpr c,aB.mpr ⟨q,cj.mpr (cj.mp b).symm,rfl⟩⟩
theorem Wg:∀{n bs},x∈hU P n bs↔∃k a c,bs[k]?=some a/\c∈jq a/\x=(P (e3 (n+k) ("bottom",(c:Int))),P (e3 (n+k+1) ("top",(c:Int))))
 | n,[]=>⟨λh=>absurd h kY,λ⟨k,a,c,h,_⟩=>by trivial⟩
 | n,j::r=>by
  show x∈(jq j).map _++hU P (n+1) r↔_;rw[cj,Wg (n:=n+1) (bs:=r)];constructor
  .rintro(h | ⟨k,a,c,d,b,h3⟩)
   .obtain⟨c,e,rfl⟩:=aB.mp h;show⟨0,j,c,rfl,e,rfl⟩
   show⟨k+1,a,c,d,b,by rw[h3,show n+1+k=n+(k+1) by lia]⟩
  rintro⟨k,a,c,d,b,h3⟩;cases k with
  | zero=>
   cases d;show .inl (aB.mpr ⟨c,b,h3.symm⟩)
  | succ k=>show .inr ⟨k,a,c,d,b,by rw[h3,show n+1+k=n+(k+1) by lia]⟩
noncomputable abbrev nX:=Nat×aQ×Sd
noncomputable def yh(p:List (List Nat))(a:List Bk):List (nX×nX):=(aN a.length).flatMap λk=>(jq (jn (jE a k))).map λ(c:Nat)=>((k,(("bottom",(c:Int)):aQ),jr (gv (aA p a k)) ((aA p a k).length-1) (2*c+1)),(k+1,(("top",(c:Int)):aQ),jr (gv (aA p a (k+1))) 0 (2*c+1)))
theorem BL:x∈yh p a↔∃k c:Nat,k<a.length/\c∈jq (jn (jE a k))/\x=((k,(("bottom",(c:Int)):aQ),jr (gv (aA p a k)) ((aA p a k).length-1) (2*c+1)),(k+1,(("top",(c:Int)):aQ),jr (gv (aA p a (k+1))) 0 (2*c+1))):=by
 unfold yh;rw[kW];constructor
 .rintro⟨k,b,h⟩;obtain⟨c,d,rfl⟩:=aB.mp h;show⟨k,c,fR.mp b,d,rfl⟩
 rintro⟨k,c,b,d,rfl⟩;show⟨k,fR.mpr b,aB.mpr ⟨c,d,rfl⟩⟩
theorem GP:c∈jq a↔a[c]?=some true:=by
 show⟨U5,λh=>?_⟩;show aB.mpr ⟨(true,c),eY.mpr ⟨pf.mpr h,rfl⟩,rfl⟩
theorem Sk.col(K:Sk S p es)(a:k<es.length)(b:s<S):gv (bB p es) (aH (ba p es) k+(ba p es).getD k 0) s=124↔∃c,c∈jq (jn (jE es k))/\s=2*c+1:=by
 have f:=K.len k a;have e:gv (bB p es) (aH (ba p es) k+(ba p es).getD k 0) s=(jE es k).getD s 0:=by
  unfold gv;rw[iU,vQ p es k a]
 rw[e];constructor
 .intro h;rcases K.sP k a s b with z | z
  .rw[h] at z;show absurd z (by decide)
  show⟨s/2,GP.mpr ?_,by lia⟩;rw[rE (by lia),show 2*(s/2)+1=s by lia,h];rfl
 rintro⟨c,d,rfl⟩;have:=GP.mp d;rw[rE (by lia)] at this;lia
theorem Tn(h:gV a=gV b):a=b:=by
 have:=dN rV h;show this
theorem zsf{α:Type}{gss:List (List α)}(nd:gss.flatten.Nodup){i j:Nat}{g g':List α}{e:α}(k:gss[i]?=some g)(f:gss[j]?=some g')(d:e∈g)(c:e∈g'):i=j:=by
 obtain⟨i1,rfl⟩:=cD.mp k;obtain⟨b,rfl⟩:=cD.mp f;have a:=(Qw.mp nd).2;rw[xi] at a;rcases Nat.lt_trichotomy i j with h | h | h
 .exact absurd rfl (a i j i1 b h e d e c)
 .exact h
 show absurd rfl (a j i b i1 h e c e d)
theorem zqd(h:wD rows gss)(nd:((endsF rows).map (·.2)).Nodup):∃lab:EK->EK,(∀a b,lab a=lab b↔Cn ((pY rows).map λp=>(fE p.1,fE p.2)) a b)/\
  ∀x∈endsF rows,∀y∈endsF rows,∀(i j:Nat) g g',gss[i]?=some g->gss[j]?=some g'->x.2∈g->y.2∈g'->(i=j↔lab (fE x.1)=lab (fE y.1)):=by
 obtain⟨⟨lab,kvs,r,G,eq⟩,pm⟩:=h;show⟨lab,r,λx A y t i j g g' n d ex C=>?_⟩;have key:∀{g:List aQ},g∈gss->∃q∈kvs,g.map gV=sK q.2/\∀z∈endsF rows,z.2∈g->lab (fE z.1)=q.1:=λ{g} M=>by
  have f:g.map gV∈jV (kvs.map λp=>sK p.2):=by rw[<-eq];show aB.mpr ⟨g,M,rfl⟩
  obtain⟨q,c,e⟩:=aB.mp ((p9 _).mem_iff.mp f);show⟨q,c,e.symm,λz hz m=>?_⟩;have B:gV z.2∈q.2:=(i9 q.2).mem_iff.mp (by rw[e];show aB.mpr ⟨_,m,rfl⟩);rw[G.is q c] at B;obtain⟨u,K,P⟩:=aB.mp B;obtain⟨F,T⟩:=eY.mp K;obtain⟨v,hv,rfl⟩:=aB.mp F;obtain⟨w,hw,rfl⟩:=aB.mp hv;have O:w=z:=by
   have:=Tn P;rw[j7,jI] at nd;have inj:∀(l:List (Sd×aQ)),l.Pairwise (λa b=>a.2≠b.2)->∀a∈l,∀b∈l,a.2=b.2->a=b:=λl L=>by
    induction L with
    | nil=>intro a o;cases o
    | cons f _ J=>
     intro a o b N e;rcases bG.mp o with e3 | s<;>rcases bG.mp N with E | D
     .exact e3.trans E.symm
     .exact absurd (e3▸e) (f b D)
     .exact absurd (E▸e.symm) (f a s)
     show J a s b D e
   show inj _ nd w hw z hz this
  subst O;show of_decide_eq_true T
 obtain⟨q,c,S,k⟩:=key (cJ n);obtain⟨U,H,R,I⟩:=key (cJ d);constructor
 .rintro rfl;rw[n] at d;cases d;rw[k x A ex,k y t C]
 intro e;rw[k x A ex,I y t C] at e;have:=Ei G.nd c H e;subst this;have Q:g=g':=(wX λa b=>Tn).mp (S.trans R.symm);subst Q;show zsf (pm.nodup_iff.mpr nd) n d ex ex
noncomputable def L0:EK->Sd
 | [.inr m,.inl a,.inl b]=>(decide (m=lC true),a.toNat,b.toNat)
 | _=>(false,0,0)
theorem JC(s):L0 (fE s)=s:=by
 obtain⟨b,r,c⟩:=s;cases b<;>rfl
noncomputable def rh(n:Nat)(lk:Nat->EK->EK)(x:Tg):Nat×EK:=(x.1,if x.1<n then lk x.1 (fE x.2) else fE x.2)
theorem zsg(h:∀k,k<d.length->∀a b,lk k a=lk k b↔Cn ((F k).map λp=>(fE p.1,fE p.2)) a b)(x y):rh d.length lk x=rh d.length lk y↔Cn (xo d F) x y:=by
 constructor
 .obtain⟨k,s⟩:=x;obtain⟨l,t⟩:=y;intro e;obtain⟨r,i⟩:=kc e;subst r;by_cases g:k<d.length
  .simp only[if_pos g] at i
   have c:=Cn.to (F:=xo d F) (f:=λa=>(k,L0 a)) (λa b j=>by
    obtain⟨q,o,e⟩:=aB.mp j;obtain⟨rfl,rfl⟩:=kc e;simp only[JC];show .one (F6.mpr ⟨k,q.1,q.2,g,o,rfl⟩)) ((h k g _ _).mp i)
   simpa only[JC] using c
  simp only[if_neg g] at i;have:s=t:=by have:=dN L0 i;simpa only[JC] using this
  rw[this];show .refl _
 intro c;have one:∀a b,(a,b)∈xo d F->rh d.length lk a=rh d.length lk b:=λa b j=>by
  obtain⟨k,u,v,g,n,e⟩:=F6.mp j;obtain⟨rfl,rfl⟩:=kc e;unfold rh;simp only[if_pos g];rw[(h k g _ _).mpr (.one (aB.mpr ⟨_,n,rfl⟩))]
 induction c with
 | refl=>rfl
 | step _ e m=>
  rcases e with e | e
  .exact m.trans (one _ _ e)
  show m.trans (one _ _ e).symm
section
variable{S:Nat}{p:List (List Nat)}
noncomputable def lS(n:Nat)(lk:Nat->EK->EK)(x:nX):Nat×EK:=rh n lk (x.1,x.2.2)
theorem zsh(K:Sk S p es)(A:lU (dF (ba p es)) S (gv (bB p es)) E)(h:∀k,k<es.length+1->∀a b,lk k a=lk k b↔Cn ((pY (aA p es k)).map λp=>(fE p.1,fE p.2)) a b)
   (d:k<es.length+1) (z:l<es.length+1)  (r:q∈iG (aA p es k).length S (gv (aA p es k))++fM (aA p es k).length S (gv (aA p es k))) (y:f∈iG (aA p es l).length S (gv (aA p es l))++fM (aA p es l).length S (gv (aA p es l))) :
  Cn E (aH (ba p es) k+q.1.1,q.1.2) (aH (ba p es) l+f.1.1,f.1.2)↔Cn ((yh p es).map λm=>(lS (es.length+1) lk m.1,lS (es.length+1) lk m.2)) (lS (es.length+1) lk (k,q.2,ph (gv (aA p es k)) q.1)) (lS (es.length+1) lk (l,f.2,ph (gv (aA p es l)) f.1)):=by
 have P:=K.Mm;have on:∀{k:Nat},k<es.length+1->∀{q:N3×aQ},q∈iG (aA p es k).length S (gv (aA p es k))++fM (aA p es k).length S (gv (aA p es k))->
   yN (dF (ba p es)) S (gv (bB p es)) (aH (ba p es) k+q.1.1,q.1.2)/\um (ba p es) (λk=>gv (aA p es k)) (aH (ba p es) k+q.1.1,q.1.2)=(k,ph (gv (aA p es k)) q.1):=λ{k} d {q} r=>by
  obtain⟨o1,t,v⟩:=zr8 (K.cw k d).2 K.odd q r;have j:k<(ba p es).length:=by rw[fV];show d
  have n:q.1.1<(ba p es).getD k 0:=by rw[iU];show o1
  show⟨⟨pX _ k _ j (.inl n),t,?_⟩,rF (gk:=λk=>gv (aA p es k)) j n⟩;have:=P.cw k q.1.1 q.1.2.1 j n t;simp only;rw[this];show v
 have o:=on d r;have o':=on z y
 rw[zp6 (F:=λk=>pY (aA p es k)) P A (λk d=>zuk _ _ _) (λk d=>by rw[iU];show(K.cw k (by rw[fV] at d;show d)).1.link) o.1 o'.1,o.2,o'.2,
  zt9 (zsg (lk:=lk) λk d=>h k (by rw[fV] at d;show d)),fV]
 have same:∀x,x∈(DP (ba p es) S (λk=>gv (aA p es k)) (gv (bB p es))).map (λm=>(rh (es.length+1) lk m.1,rh (es.length+1) lk m.2))↔x∈(yh p es).map λm=>(lS (es.length+1) lk m.1,lS (es.length+1) lk m.2):=λx=>by
  constructor
  .intro e;obtain⟨m,hm,rfl⟩:=aB.mp e;obtain⟨k,s,i,B,h3,rfl⟩:=F7.mp hm;rw[fV] at i;obtain⟨c,g,rfl⟩:=(K.col (by simp_all) B).mp h3;show aB.mpr ⟨_,BL.mpr ⟨k,c,by simp_all,g,rfl⟩,?_⟩;unfold lS;simp only[iU]
  intro e;obtain⟨m,hm,rfl⟩:=aB.mp e;obtain⟨k,c,i,g,rfl⟩:=BL.mp hm;have w:=(cD.mp (GP.mp g)).1;rw[pV,K.len k i] at w;have u:2*c+1<S:=by lia
  show aB.mpr ⟨_,F7.mpr ⟨k,2*c+1,by rw[fV];simp_all,u,(K.col i u).mpr ⟨c,g,rfl⟩,rfl⟩,?_⟩;unfold lS;simp only[iU]
 show⟨Cn.mono λx e=>(same x).mp e,Cn.mono λx e=>(same x).mpr e⟩
end
section
variable{S:Nat}{p:List (List Nat)}{es:List Bk}
def mL(S:Nat)(p:List (List Nat))(es:List Bk)(x:nX):Prop:=x.1<es.length+1/\∃q∈iG (aA p es x.1).length S (gv (aA p es x.1))++fM (aA p es x.1).length S (gv (aA p es x.1)),q.2=x.2.1/\ph (gv (aA p es x.1)) q.1=x.2.2
theorem mL.mem(K:Sk S p es)(h:mL S p es x):(x.2.2,x.2.1)∈endsF (aA p es x.1):=by
 obtain⟨a,q,b,d,c⟩:=h;rw[xI (K.cw _ a).1 (K.cw _ a).2 K.odd];show aB.mpr ⟨q,b,by rw[d,c]⟩
theorem Sk.nd(K:Sk S p es)(a:k<es.length+1):((endsF (aA p es k)).map (·.2)).Nodup:=by
 rw[xI (K.cw k a).1 (K.cw k a).2 K.odd,bp];show Ka
theorem zol(K:Sk S p es)(A:∀k g,k<es.length+1->gsl[k]?=some g->wD (aA p es k) g)(E:gsl.length=es.length+1)(nd:((cv 0 gsl).map (·.2)).Nodup)
   (h:∀k,k<es.length+1->∀g,gsl[k]?=some g->∀x∈endsF (aA p es k),∀y∈endsF (aA p es k),∀(i j:Nat) a b,g[i]?=some a->g[j]?=some b->x.2∈a->y.2∈b->(i=j↔lk k (fE x.1)=lk k (fE y.1)))
   (c:mL S p es x) (f:mL S p es y):lS (es.length+1) lk x=lS (es.length+1) lk y↔ie (cv 0 gsl) (e3 x.1 x.2.1)=ie (cv 0 gsl) (e3 y.1 y.2.1):=by
 have at_:∀{x:nX},mL S p es x->∃(g:List (List aQ))(i:Nat)(a:List aQ),gsl[x.1]?=some g/\g[i]?=some a/\x.2.1∈a/\ie (cv 0 gsl) (e3 x.1 x.2.1)=pk x.1 i:=λ{x} c=>by
  have w:=c.1;have o:gsl[x.1]?=some gsl[x.1]:=aX (by simp_all);have G:=A x.1 _ w o;have hm:x.2.1∈(gsl[x.1]).flatten:=G.2.mem_iff.mpr (aB.mpr ⟨_,c.mem K,rfl⟩);obtain⟨a,B,u⟩:=HS.mp hm;obtain⟨i,t⟩:=gL B;show⟨_,i,a,o,t,u,?_⟩;have:=VV (k:=0) (gsl:=gsl) |>.mpr ⟨x.1,_,i,a,x.2.1,o,t,u,rfl,rfl⟩
  simp only[eO] at this;show JD nd this
 obtain⟨g,i,a,g1,g2,g3,C⟩:=at_ c;obtain⟨g',j,b,d,r,q,v⟩:=at_ f;rw[C,v];obtain⟨k,e,s⟩:=x;obtain⟨l,F,D⟩:=y;unfold lS rh;simp only[if_pos c.1,if_pos f.1];constructor
 .intro z;obtain⟨n,m⟩:=kc z;subst n;have d:=g1.symm.trans d;cases d;rw[(h k c.1 g g1 _ (c.mem K) _ (f.mem K) i j a b g2 r g3 q).mpr m]
 intro z;obtain⟨n,m⟩:=zuj z;subst n;have d:=g1.symm.trans d;cases d;rw[(h k c.1 g g1 _ (c.mem K) _ (f.mem K) i j a b g2 r g3 q).mp m]
end
theorem Wf(f:Nat->List aQ):∀n gsl,(∀(k:Nat) g,gsl[k]?=some g->g.flatten.Perm (f (n+k)))->((cv n gsl).map (·.2)).Perm ((zh n gsl.length).flatMap λk=>(f k).map (e3 k))
 | n,[],_=>.nil
 | n,g::r,h=>by
  show((gm n 0 g++cv (n+1) r).map (·.2)).Perm _;rw[bY,AX,cC,C9,nc];show Y2 ((h 0 g rfl).map _) (Wf f (n+1) r λk g' a=>?_);have:=h (k+1) g' a;rwa [show n+(k+1)=n+1+k by lia] at this
theorem zom(K:Sk S p a)(e:∀k g,k<a.length+1->gsl[k]?=some g->wD (aA p a k) g)(d:gsl.length=a.length+1):((cv 0 gsl).map (·.2)).Perm ((jM p a S).map (·.2)):=by
 have h:=Wf (λk=>(fM (aA p a k).length S (gv (aA p a k))++iG (aA p a k).length S (gv (aA p a k))).map (·.2)) 0 gsl λk g c=>by
  have b:k<a.length+1:=by rw[<-d];show(cD.mp c).1
  rw[eO];show(e k g b c).2.trans ?_;rw[xI (K.cw k b).1 (K.cw k b).2 K.odd,bp];show(List.perm_append_comm.map _)
 rw[d,<-zF] at h;show h.trans (qT ?_);unfold jM;rw[Dc];simp only[bp];rfl
theorem SF(K:Sk S p es):∀m∈yh p es,mL S p es m.1/\mL S p es m.2:=λm hm=>by
 obtain⟨k,c,h,i,rfl⟩:=BL.mp hm;have a:=(cD.mp (GP.mp i)).1;rw[pV,K.len k h] at a;have f:2*c+1<S:=by lia
 have b:=(K.col h f).mpr ⟨c,i,rfl⟩;have he:=K.Mm.yB k (2*c+1) (by rw[fV];simp_all) f;have he:gv (aA p es k) ((ba p es).getD k 0-1) (2*c+1)=124/\gv (aA p es (k+1)) 0 (2*c+1)=124:=by
  rcases he with z | z
  .rw[b] at z;show absurd z (by decide)
  show z.2
 rw[iU] at he;have d:∀{R:Nat}{g:Nat->Nat->Nat},(g 0 (2*c+1)=124->((0,2*c+1,1),(("top",((c:Nat):Int)):aQ))∈fM R S g)/\(g (R-1) (2*c+1)=124->((R-1,2*c+1,1),(("bottom",((c:Nat):Int)):aQ))∈fM R S g):=λ{R g}=>by
  constructor
  .intro e;show kW.mpr ⟨c,fR.mpr a,iy _ (by unfold cA;rw[if_pos e];show cT)⟩
  intro e;show kW.mpr ⟨c,fR.mpr a,eK _ (by unfold cA;rw[if_pos e];show cT)⟩
 show⟨⟨by simp only;lia,_,eK _ (d.2 he.1),rfl,rfl⟩,⟨by simp only;simp_all,_,eK _ (d.1 he.2),rfl,rfl⟩⟩
theorem Tj(K:Sk S p es)(P x):x∈hU P 0 ((bS (bB p es)).map λb=>jn ((bB p es).getD b []))↔x∈(yh p es).map λm=>(P (e3 m.1.1 m.1.2.1),P (e3 m.2.1 m.2.2.1)):=by
 rw[Wg,K.NV];have at_:∀{k:Nat},k<es.length->(((aN es.length).map λj=>aH (ba p es) j+(aA p es j).length).map λb=>jn ((bB p es).getD b []))[k]?=some (jn (jE es k)):=λ{k} a=>by
  rw[bE,bE,wY a];show dN (λl=>some (jn l)) (vQ p es k a)
 constructor
 .rintro⟨k,g,c,d,f,rfl⟩;have a:k<es.length:=by simpa using (cD.mp d).1
  rw[at_ a] at d;cases d;show aB.mpr ⟨_,BL.mpr ⟨k,c,a,f,rfl⟩,?_⟩;simp only[eO]
 intro h;obtain⟨m,hm,rfl⟩:=aB.mp h;obtain⟨k,c,a,e,rfl⟩:=BL.mp hm;show⟨k,_,c,at_ a,e,by simp only[eO]⟩
theorem zqf(K:Sk S p es)(h:OF (bB p es) gss)(T:lU (dF (ba p es)) S (gv (bB p es)) E){lab:N3->N3}(P:∀a b,lab a=lab b↔Cn E a b)(M:dS ((jM p es S).map λq=>(lab q.1,q.2)) w):gss=jV (w.map λp=>sK p.2):=by
 obtain⟨gsl,gl,s,nd,lb,kvs,I,G,rfl⟩:=h;have gl:gsl.length=es.length+1:=by rw[gl,K.FN];simp
 have s:∀(k:Nat) g,k<es.length+1->gsl[k]?=some g->wD (aA p es k) g:=λk g d e=>by
  have:=s k _ g (by rw[K.FN,bE,wY d];rfl) e;rwa [K.Me d] at this
 have ex:∀k,∃lk:EK->EK,k<es.length+1->(∀a b,lk a=lk b↔Cn ((pY (aA p es k)).map λp=>(fE p.1,fE p.2)) a b)/\∀g,gsl[k]?=some g->∀x∈endsF (aA p es k),∀y∈endsF (aA p es k),∀(i j:Nat) a b,g[i]?=some a->g[j]?=some b->x.2∈a->y.2∈b->(i=j↔lk (fE x.1)=lk (fE y.1)):=λk=>by
  by_cases d:k<es.length+1
  .have t:gsl[k]?=some gsl[k]:=aX (by simp_all);obtain⟨lk,V,U⟩:=zqd (s k _ d t) (K.nd d);show⟨lk,λ_=>⟨V,λg e=>?_⟩⟩;cases t.symm.trans e;show U
  show⟨id,λz=>absurd z d⟩
 obtain⟨lk,D⟩:=Zo ex;show zpY G M ?_ ?_ λa R b Q a' L b' W Z Y=>?_
 .simp only[bp];show zom K s gl
 .simp only[bp];show nd
 obtain⟨x,o,rfl⟩:=aB.mp R;obtain⟨y,N,rfl⟩:=aB.mp Q;obtain⟨u,O,rfl⟩:=aB.mp L;obtain⟨v,hv,rfl⟩:=aB.mp W;obtain⟨k,q,d,C,rfl⟩:=MB.mp O;obtain⟨l,r,B,A,rfl⟩:=MB.mp hv;have J:x.1=ie (cv 0 gsl) (e3 k q.2):=by rw[<-show x.2=e3 k q.2 from Z];show(JD nd o).symm
 have py:y.1=ie (cv 0 gsl) (e3 l r.2):=by rw[<-show y.2=e3 l r.2 from Y];show(JD nd N).symm
 have pi:∀{x y:nX},mL S p es x->mL S p es y->_:=λ{x y} n f=>zol K s gl nd (lk:=lk) (λk d=>(D k d).2) n f
 have H:mL S p es (k,q.2,ph (gv (aA p es k)) q.1):=⟨d,q,C,rfl,rfl⟩
 have F:mL S p es (l,r.2,ph (gv (aA p es l)) r.1):=⟨B,r,A,rfl,rfl⟩
 simp only;rw[I,P,zsh K T (lk:=lk) (λk d=>(D k d).1) d B C A,J,py];constructor
 .intro c;have c:=c.mono λx o=>(Tj K _ x).mp o
  show SM (lab:=λm:nX=>ie (cv 0 gsl) (e3 m.1 m.2.1)) (pl:=lS (es.length+1) lk) (X:=mL S p es) (λa b n f=>(pi n f).mpr) (SF K) H F c
 intro c;have c:=SM (lab:=lS (es.length+1) lk) (pl:=λm:nX=>ie (cv 0 gsl) (e3 m.1 m.2.1)) (X:=mL S p es) (λa b n f=>(pi n f).mp) (SF K) H F c;show c.mono λx o=>(Tj K _ x).mpr o
noncomputable def eC(n:N3):D:=.tup [.int (n.1:Nat),.int (n.2.1:Nat),.int (n.2.2:Nat)]
noncomputable def gy(p:N3×N3):D:=.tup [eC p.1,eC p.2]
noncomputable def iF(R S:Nat)(g:Nat->Nat->Nat)(r s:Nat):List (N3×N3):=
 cA (dJ (g r s)=true/\s+1<S/\dJ (g r (s+1))=true) ((r,s,0),(r,s+1,0))++cA (dY (g r s)=true/\r+1<R/\dY (g (r+1) s)=true) ((r,s,1),(r+1,s,1))++cA (g r s=43) ((r,s,0),(r,s,1))
noncomputable def vZ(R S:Nat)(g:Nat->Nat->Nat):List (N3×N3):=(aN R).flatMap λr=>(aN S).flatMap λs=>iF R S g r s
theorem Ti{α:Type}{b:Prop}[Decidable b]{x y:α}:x∈cA b y↔b/\x=y:=⟨AB,λ⟨h,e⟩=>by unfold cA;rw[if_pos h,e];show .head _⟩
theorem Th(R S g):lU R S g (vZ R S g):=by
 intro p;unfold vZ;simp only[kW,fR];constructor
 .rintro⟨r,c,s,b,a⟩;show⟨r,s,c,b,?_⟩;unfold iF at a;simp only[cj,Ti] at a;rcases a with(a | a) | a
  .exact .inl ⟨a.1.1,a.1.2.1,a.1.2.2,a.2⟩
  .exact .inr (.inl ⟨a.1.1,a.1.2.1,a.1.2.2,a.2⟩)
  show .inr (.inr a)
 rintro⟨r,s,c,b,a⟩;show⟨r,c,s,b,?_⟩;unfold iF;simp only[cj,Ti];rcases a with a | a | a
 .exact .inl (.inl ⟨⟨a.1,a.2.1,a.2.2.1⟩,a.2.2.2⟩)
 .exact .inl (.inr ⟨⟨a.1,a.2.1,a.2.2.1⟩,a.2.2.2⟩)
 show .inr a
theorem zsi(R S g r s):(iF R S g r s).length<=3:=by
 unfold iF cA;split<;>split<;>split<;>simp
theorem Tf(R S g r n):((aN n).flatMap λs=>iF R S g r s).length<=n*3:=by
 have:=xO (zsi R S g r) (aN n);simpa using this
theorem U2(R S g n):((aN n).flatMap λr=>(aN S).flatMap λs=>iF R S g r s).length<=n*(S*3):=by
 have:=xO (f:=λr=>(aN S).flatMap λs=>iF R S g r s) (λr=>Tf R S g r S) (aN n);simpa using this
theorem vP{α:Type}{b:Prop}[Decidable b]{x:α}(h:b):cA b x=[x]:=if_pos h
theorem Az{α:Type}(b:Prop)[Decidable b](x:α):(cA b x).length<=1:=by
 unfold cA;split<;>simp
theorem Es{p:Nat->Bool}(h:jd w x=p x):(mV w ⟨#[x]⟩ 0 w.length 1).isEmpty=!(p x):=by
 rw[<-h];unfold jd;rw[tm]
section
variable{R S r s:Nat}{l0 lr:List Nat}
theorem uA(g:gv rows r s∈dh)(n:bF (aS rows) 0=some (l0.map cI))(f:l0.length=S)(m:bF (aS rows) (r:Int)=some (lr.map cI))(h:s+1<S->bF lr ((s+1:Nat):Int)=some (gv rows r (s+1)))(h3:s+1<S->gv rows r (s+1)∈dh)(o:L.length<=9000)
  (q:D0.nx [Sl.fz (D.lst ((aS rows).map D.lst)),Sl.ow ((L++cA (dJ (gv rows r s)=true/\s+1<S/\dJ (gv rows r (s+1))=true) (((r,s,0),(r,s+1,0)):N3×N3)).map gy),Sl.fz (D.int (r:Nat)),Sl.fz (D.int (s:Nat)),Sl.fz (cI (gv rows r s))]) :
  (nz (xu (gN (bR (rD false) (aV 4) (dC (.str "-+#")))) (xu (gN (bR (jw λi j=>.bl (decide (i<j))) (bR lZ (aV 3) (dC (.int 1))) (kL vz (aM (bR gR (aV 0) (dC (.int 0))) cq)))) (gN (bR (rD false) (bR gR (bR gR (aV 0) (aV 2)) (bR lZ (aV 3) (dC (.int 1)))) (dC (.str "-+#")))))) (lY 1 (gx (aM (gx (aM (aV 2) (aM (aV 3) (aM (dC (.int 0)) cq)))) (aM (gx (aM (aV 2) (aM (bR lZ (aV 3) (dC (.int 1))) (aM (dC (.int 0)) cq)))) cq)))) nj) D0 [Sl.fz (D.lst ((aS rows).map D.lst)),Sl.ow (L.map gy),Sl.fz (D.int (r:Nat)),Sl.fz (D.int (s:Nat)),Sl.fz (cI (gv rows r s))]:=by
 have big:=dP;rw[show cI (gv rows r s)=D.str ⟨#[gv rows r s]⟩ from rfl] at q ⊢;walk_at"px";rw[Es (D4 _ g),tm];by_cases e:dJ (gv rows r s)=true
 .rw[if_pos e];show⟨_,n,?_⟩;rw[ax,f];by_cases d:s+1<S
  .rw[if_pos (by lia)];show⟨_,m,D.str ⟨#[gv rows r (s+1)]⟩,?_,?_⟩
   .have:=h d;rw[show((s:Int)+1)=((s+1:Nat):Int) by rfl,pZ,this];rfl
   show(if (!(mV "-+#" ⟨#[gv rows r (s+1)]⟩ 0 ("-+#":ae).length 1).isEmpty)=true then _ else _);rw[Es (D4 _ (h3 d)),tm];by_cases b:dJ (gv rows r (s+1))=true
   .rw[if_pos b];rw[vP ⟨e,d,b⟩,bY] at q;show⟨by trivial,by trivial,by trivial,by rw[ax];lia,q⟩
   rw[if_neg b];rw[oD _ (λz=>b z.2.2),gI] at q;show q
  rw[if_neg (by lia)];rw[oD _ (λz=>d z.2.1),gI] at q;show q
 rw[if_neg e];rw[oD _ (λz=>e z.1),gI] at q;show q
theorem uB(f:((aS rows).map D.lst).length=R)(g:gv rows r s∈dh)(m:r+1<R->bF (aS rows) ((r+1:Nat):Int)=some ((rows.getD (r+1) []).map cI))(h:r+1<R->bF (rows.getD (r+1) []) (s:Int)=some (gv rows (r+1) s))(h3:r+1<R->gv rows (r+1) s∈dh)(n:L.length<=9001)
  (q:D0.nx [Sl.fz (D.lst ((aS rows).map D.lst)),Sl.ow ((L++cA (dY (gv rows r s)=true/\r+1<R/\dY (gv rows (r+1) s)=true) (((r,s,1),(r+1,s,1)):N3×N3)).map gy),Sl.fz (D.int (r:Nat)),Sl.fz (D.int (s:Nat)),Sl.fz (cI (gv rows r s))]) :
  (nz (xu (gN (bR (rD false) (aV 4) (dC (.str "|+#")))) (xu (gN (bR (jw λi j=>.bl (decide (i<j))) (bR lZ (aV 2) (dC (.int 1))) (kL vz (aM (aV 0) cq)))) (gN (bR (rD false) (bR gR (bR gR (aV 0) (bR lZ (aV 2) (dC (.int 1)))) (aV 3)) (dC (.str "|+#")))))) (lY 1 (gx (aM (gx (aM (aV 2) (aM (aV 3) (aM (dC (.int 1)) cq)))) (aM (gx (aM (bR lZ (aV 2) (dC (.int 1))) (aM (aV 3) (aM (dC (.int 1)) cq)))) cq)))) nj) D0 [Sl.fz (D.lst ((aS rows).map D.lst)),Sl.ow (L.map gy),Sl.fz (D.int (r:Nat)),Sl.fz (D.int (s:Nat)),Sl.fz (cI (gv rows r s))]:=by
 have big:=dP;rw[show cI (gv rows r s)=D.str ⟨#[gv rows r s]⟩ from rfl] at q ⊢;walk_at"px";rw[Es (D8 _ g),tm,f];by_cases e:dY (gv rows r s)=true
 .rw[if_pos e];by_cases b:r+1<R
  .rw[if_pos (by lia)];show⟨_,by show m b,D.str ⟨#[gv rows (r+1) s]⟩,?_,?_⟩
   .rw[pZ,h b];rfl
   show(if (!(mV "|+#" ⟨#[gv rows (r+1) s]⟩ 0 ("|+#":ae).length 1).isEmpty)=true then _ else _);rw[Es (D8 _ (h3 b)),tm];by_cases d:dY (gv rows (r+1) s)=true
   .rw[if_pos d];rw[vP ⟨e,b,d⟩,bY] at q;show⟨by trivial,by trivial,by trivial,by rw[ax];lia,q⟩
   rw[if_neg d];rw[oD _ (λz=>d z.2.2),gI] at q;show q
  rw[if_neg (by lia)];rw[oD _ (λz=>b z.2.1),gI] at q;show q
 rw[if_neg e];rw[oD _ (λz=>e z.1),gI] at q;show q
theorem uC(d:L.length<=9002)(q:D0.nx [Sl.fz (D.lst ((aS rows).map D.lst)),Sl.ow ((L++cA (gv rows r s=43) (((r,s,0),(r,s,1)):N3×N3)).map gy),Sl.fz (D.int (r:Nat)),Sl.fz (D.int (s:Nat)),Sl.fz (cI (gv rows r s))]) :
  (nz (gN (bR oEq (aV 4) (dC (.str "+")))) (lY 1 (gx (aM (gx (aM (aV 2) (aM (aV 3) (aM (dC (.int 0)) cq)))) (aM (gx (aM (aV 2) (aM (aV 3) (aM (dC (.int 1)) cq)))) cq)))) nj) D0 [Sl.fz (D.lst ((aS rows).map D.lst)),Sl.ow (L.map gy),Sl.fz (D.int (r:Nat)),Sl.fz (D.int (s:Nat)),Sl.fz (cI (gv rows r s))]:=by
 have big:=dP;rw[show cI (gv rows r s)=D.str ⟨#[gv rows r s]⟩ from rfl] at q ⊢;walk_at"px";by_cases b:gv rows r s=43
 .rw[if_pos (by rw[b];rfl)];rw[vP b,bY] at q;show⟨by trivial,by trivial,by trivial,by rw[ax];lia,q⟩
 rw[if_neg (λz=>b (by
  have:=dN (λx:ae=>x.cps.toList) z;rw[show("+":ae).cps.toList=[43] by rfl] at this;simpa using this))]
 rw[oD _ b,gI] at q;show q
end
def A3:cg:=λds Q=>∃R S rows,ds=[ij rows]/\rows.length=R/\(∀l∈rows,l.length=S)/\(∀l∈rows,∀c∈l,c∈dh)/\0<R/\R<=41/\S<=41/\Q (.ow ((vZ R S (gv rows)).map gy))
noncomputable def Ot:(T:TX) ×' ∀{P w K mg base},Txt K mg->eF P w K mg base 0 "_law_pairs" ["_law_grid","_law_pairs_here","_law_r","_law_s","_law_sign"] (top 38) T:=
 ⟨_,λT nd f c A outer s H E b=>have a:=b.units;
 (aJ (iV 1 (gE aq) nd)
   (aJ (fA eH rfl (qe T.b_range (ah (cR gO T.b_len gi (ah (af 0) aq)) aq)) (aY 2 nd)
    (aU (fA eH rfl (qe T.b_range (ah (cR gO T.b_len gi (ah (bV (af 0) aw) aq)) aq)) (aY 3 nd)
    (aJ (cV 4 (bV (bV (af 0) (af 2)) (af 3)) nd)
   (aJ (eM (ny (dA (xv a) (af 4) df) (ny (dA Jk (aP cN (af 3) aw) (cR gO T.b_len gi (ah (bV (af 0) aw) aq))) (vR (dA (xv a) (bV (bV (af 0) (af 2)) (aP cN (af 3) aw)) df)))).pb (aU (k9 1 (cY (ah (cY (ah (af 2) (ah (af 3) (ah aw aq)))) (ah (cY (ah (af 2) (ah (aP cN (af 3) aw) (ah aw aq)))) aq))))) eQ)
   (aJ (eM (ny (dA (xv a) (af 4) df) (ny (dA Jk (aP cN (af 2) aw) (cR gO T.b_len gi (ah (af 0) aq))) (vR (dA (xv a) (bV (bV (af 0) (aP cN (af 2) aw)) (af 3)) df)))).pb (aU (k9 1 (cY (ah (cY (ah (af 2) (ah (af 3) (ah aw aq)))) (ah (cY (ah (aP cN (af 2) aw) (ah (af 3) (ah aw aq)))) aq))))) eQ)
   (aU (eM (dA (fj a) (af 4) df) (aU (k9 1 (cY (ah (cY (ah (af 2) (ah (af 3) (ah aw aq)))) (ah (cY (ah (af 2) (ah (af 3) (ah aw aq)))) aq))))) eQ))))))))
   (aU (xR 1))))⟩
def LU:TX:=Ot.1
theorem zfY:dX 1 A3 LU ["_law_grid","_law_pairs_here","_law_r","_law_s","_law_sign"]:=by
 intro ds N hl h;obtain⟨R,S,rows,rfl,g,B,A,v,K,J,q⟩:=h;show LU _ [.fz (ij rows),.un,.un,.un,.un];unfold LU Ot;dsimp only;have H:(aS rows).length=R:=by unfold aS;rw[ax,g]
 have E:((aS rows).map D.lst).length=R:=by rw[ax,H]
 have C:∀(n:Nat),n<1000->∀m:List D->Prop,m ((aN n).map λ(i:Nat)=>.int (0+i))->-4611686018427387904<=(n:Int)/\(n:Int)<4611686018427387904/\m ((aN (n:Int).toNat).map λ(i:Nat)=>D.int (0+i)):=λn I m h=>⟨by simp_all,by lia,by show h⟩
 have t:∀r,r<R->bF (aS rows) (r:Int)=some ((rows.getD r []).map cI):=λr d=>by
  rw[k7 (by simp_all),xD (by rw[g];show d)]
 have hlen:∀r,r<R->(rows.getD r []).length=S:=λr d=>by
  have o:r<rows.length:=by rw[g];show d
  have hm:rows.getD r []∈rows:=by
   rw[bK,aX o,gW];show eZ _
  show B _ hm
 have at2:∀r s,r<R->s<S->bF (rows.getD r []) (s:Int)=some (gv rows r s):=λr s d f=>by
  rw[k7 (by rw[hlen r d];show f)];have o:r<rows.length:=by rw[g];show d
  show jO g B (by rw[bK,aX o];rfl) f
 have u:∀r s,r<R->s<S->gv rows r s∈dh:=λr s d f=>by
  have o:r<rows.length:=by rw[g];show d
  have e:rows[r]?=some (rows.getD r []):=by rw[bK,aX o];rfl
  show A _ (cJ e) _ (cJ (jO g B e f))
 unfold ij;walk_at"px";walk_at"go";show⟨by show cG _,?_⟩;show vS R (λm h=>?_) (λi ρ=>∃a b c:Sl,ρ=[.fz (.lst ((aS rows).map .lst)),.ow (((aN i).flatMap λr=>(aN S).flatMap λs=>iF R S (gv rows) r s).map gy),a,b,c]) ⟨_,_,_,rfl⟩ ?_ ?_
 .walk_at"px";rw[E];show C R (by lia) m h
 .rintro r ρ d ⟨a,b,c,rfl⟩;walk_at"px";show vS S (λm h=>?_) (λj ρ=>∃b c:Sl,ρ=[.fz (.lst ((aS rows).map .lst)),.ow ((((aN r).flatMap λr=>(aN S).flatMap λs=>iF R S (gv rows) r s)++(aN j).flatMap λs=>iF R S (gv rows) r s).map gy),.fz (.int r),b,c]) ⟨b,c,by simp⟩ ?_ ?_
  .walk_at"px";show⟨_,t 0 v,?_⟩;walk_at"px";rw[ax,hlen 0 v];show C S (by lia) m h
  .rintro s ρ f ⟨b,c,rfl⟩;walk_at"px";show⟨_,t r d,?_⟩;walk_at"px";show⟨_,at2 r s d f,?_⟩;have y:(((aN r).flatMap λr=>(aN S).flatMap λs=>iF R S (gv rows) r s)++(aN s).flatMap λs=>iF R S (gv rows) r s).length<=9000:=by
    have o:=U2 R S (gv rows) r;have M:=Tf R S (gv rows) r s;have h3:r*(S*3)<=41*123:=CZ (by lia) (by lia);rw[bL];lia
   have fin:∀z:Sl,∃b c:Sl,[Sl.fz (.lst ((aS rows).map .lst)),.ow (((((aN r).flatMap λr=>(aN S).flatMap λs=>iF R S (gv rows) r s)++(aN s).flatMap λs=>iF R S (gv rows) r s)++iF R S (gv rows) r s).map gy),.fz (.int r),.fz (.int s),z] =
     [.fz (.lst ((aS rows).map .lst)),.ow ((((aN r).flatMap λr=>(aN S).flatMap λs=>iF R S (gv rows) r s)++(aN (s+1)).flatMap λs=>iF R S (gv rows) r s).map gy),.fz (.int r),b,c]:=λz=>⟨.fz (.int s),z,by
    rw[oj,lL];simp⟩
   generalize (((aN r).flatMap λr=>(aN S).flatMap λs=>iF R S (gv rows) r s)++(aN s).flatMap λs=>iF R S (gv rows) r s)=L at y fin ⊢;have F:∀(w:ae)(p:Nat->Bool)(x:Nat),jd w x=p x->(mV w ⟨#[x]⟩ 0 w.length 1).isEmpty=!(p x):=λw p x h=>by
    rw[<-h];unfold jd;rw[tm]
   show uA (u r s d f) (t 0 v) (hlen 0 v) (t r d) (λh=>at2 r (s+1) d h) (λh=>u r (s+1) d h) (by ext) ?_;show uB E (u r s d f) (λh=>t (r+1) h) (λh=>at2 (r+1) s h f) (λh=>u (r+1) s h f) (by rw[bL];have:=Az (dJ (gv rows r s)=true/\s+1<S/\dJ (gv rows r (s+1))=true) (((r,s,0),(r,s+1,0)):N3×N3);lia) ?_;show uC (by rw[bL,bL];have:=Az (dJ (gv rows r s)=true/\s+1<S/\dJ (gv rows r (s+1))=true) (((r,s,0),(r,s+1,0)):N3×N3);have:=Az (dY (gv rows r s)=true/\r+1<R/\dY (gv rows (r+1) s)=true) (((r,s,1),(r+1,s,1)):N3×N3);lia) ?_;have:=fin (.fz (cI (gv rows r s)));rw[gh L,gh L];show this
  rintro ρ ⟨b,c,rfl⟩;show⟨.fz (.int r),b,c,?_⟩;rw[oj,lL];simp
 rintro ρ ⟨a,b,c,rfl⟩;walk_at"go";show q
noncomputable def mJ(q:N3×aQ):D:=.lst [kK q.2,eC q.1]
theorem An(h:w.cps.toList=[x]):((⟨#[c]⟩:ae)=w)↔c=x:=by
 constructor
 .intro e;have:=dN (λs:ae=>s.cps.toList) e;simp only[h] at this;simpa using this
 rintro rfl;show(JM h).symm
theorem J5:("|":ae).cps.toList=[124]:=by rfl
theorem U1:("-":ae).cps.toList=[45]:=by rfl
theorem vA{R S k:Nat}(e:bF (aS rows) 0=some l)(d:bF l ((2*k+1:Nat):Int)=some (D.str ⟨#[gv rows 0 (2*k+1)]⟩))(f:L.length<=100)
  (q:b.nx [.fz (.lst ((aS rows).map .lst)),.ow ((L++cA (gv rows 0 (2*k+1)=124) (((0,2*k+1,1),("top",((k:Nat):Int))):N3×aQ)).map mJ),.fz (.int ((R-1:Nat):Int)),.fz (.int ((2*k+1:Nat):Int)),a]):(nz (gN (bR oEq (bR gR (bR gR (aV 0) (dC (.int 0))) (aV 3)) (dC (.str "|")))) (lY 1 (pP (aM (gx (aM (dC (.str "top")) (aM (bR (oI vF λi j=>.int (i/j)) (aV 3) (dC (.int 2))) cq))) (aM (gx (aM (dC (.int 0)) (aM (aV 3) (aM (dC (.int 1)) cq)))) cq)))) nj) b [.fz (.lst ((aS rows).map .lst)),.ow (L.map mJ),.fz (.int ((R-1:Nat):Int)),.fz (.int ((2*k+1:Nat):Int)),a]:=by
 have big:=dP;have dv:((2*k+1:Nat):Int)/2=(k:Int):=by lia
 walk_at"px";show⟨_,e,_,d,?_⟩;show⟨by trivial,?_⟩;simp only[xJ,gJ,An J5];by_cases c:gv rows 0 (2*k+1)=124
 .rw[if_pos c];rw[vP c,bY] at q;rw[dv];show⟨by trivial,by trivial,by trivial,by rw[ax];lia,q⟩
 rw[if_neg c];rw[oD _ c,gI] at q;show q
theorem vB{R S k:Nat}(e:bF (aS rows) ((R-1:Nat):Int)=some l)(d:bF l ((2*k+1:Nat):Int)=some (D.str ⟨#[gv rows (R-1) (2*k+1)]⟩))(f:L.length<=100)
  (q:b.nx [.fz (.lst ((aS rows).map .lst)),.ow ((L++cA (gv rows (R-1) (2*k+1)=124) (((R-1,2*k+1,1),("bottom",((k:Nat):Int))):N3×aQ)).map mJ),.fz (.int ((R-1:Nat):Int)),.fz (.int ((2*k+1:Nat):Int)),a]):(nz (gN (bR oEq (bR gR (bR gR (aV 0) (aV 2)) (aV 3)) (dC (.str "|")))) (lY 1 (pP (aM (gx (aM (dC (.str "bottom")) (aM (bR (oI vF λi j=>.int (i/j)) (aV 3) (dC (.int 2))) cq))) (aM (gx (aM (aV 2) (aM (aV 3) (aM (dC (.int 1)) cq)))) cq)))) nj) b [.fz (.lst ((aS rows).map .lst)),.ow (L.map mJ),.fz (.int ((R-1:Nat):Int)),.fz (.int ((2*k+1:Nat):Int)),a]:=by
 have big:=dP;have dv:((2*k+1:Nat):Int)/2=(k:Int):=by lia
 walk_at"px";show⟨_,e,_,d,?_⟩;show⟨by trivial,?_⟩;simp only[xJ,gJ,An J5];by_cases c:gv rows (R-1) (2*k+1)=124
 .rw[if_pos c];rw[vP c,bY] at q;rw[dv];show⟨by trivial,by trivial,by trivial,by rw[ax];lia,q⟩
 rw[if_neg c];rw[oD _ c,gI] at q;show q
theorem vC{R S k:Nat}(e:bF (aS rows) ((2*k+1:Nat):Int)=some l)(d:bF l 0=some (D.str ⟨#[gv rows (2*k+1) 0]⟩))(f:L.length<=100)
  (q:b.nx [.fz (.lst ((aS rows).map .lst)),.ow ((L++cA (gv rows (2*k+1) 0=45) (((2*k+1,0,0),("left",((k:Nat):Int))):N3×aQ)).map mJ),.fz (.int ((R-1:Nat):Int)),a,.fz (.int ((2*k+1:Nat):Int))]):(nz (gN (bR oEq (bR gR (bR gR (aV 0) (aV 4)) (dC (.int 0))) (dC (.str "-")))) (lY 1 (pP (aM (gx (aM (dC (.str "left")) (aM (bR (oI vF λi j=>.int (i/j)) (aV 4) (dC (.int 2))) cq))) (aM (gx (aM (aV 4) (aM (dC (.int 0)) (aM (dC (.int 0)) cq)))) cq)))) nj) b [.fz (.lst ((aS rows).map .lst)),.ow (L.map mJ),.fz (.int ((R-1:Nat):Int)),a,.fz (.int ((2*k+1:Nat):Int))]:=by
 have big:=dP;have dv:((2*k+1:Nat):Int)/2=(k:Int):=by lia
 walk_at"px";show⟨_,e,_,d,?_⟩;show⟨by trivial,?_⟩;simp only[xJ,gJ,An U1];by_cases c:gv rows (2*k+1) 0=45
 .rw[if_pos c];rw[vP c,bY] at q;rw[dv];show⟨by trivial,by trivial,by trivial,by rw[ax];lia,q⟩
 rw[if_neg c];rw[oD _ c,gI] at q;show q
theorem vD{R S k:Nat}(e:bF (aS rows) 0=some d)(b:((d.length:Int)-1)=((S-1:Nat):Int))(h:bF (aS rows) ((2*k+1:Nat):Int)=some l)(g:bF l ((S-1:Nat):Int)=some (D.str ⟨#[gv rows (2*k+1) (S-1)]⟩))(m:L.length<=100)
  (q:f.nx [.fz (.lst ((aS rows).map .lst)),.ow ((L++cA (gv rows (2*k+1) (S-1)=45) (((2*k+1,S-1,0),("right",((k:Nat):Int))):N3×aQ)).map mJ),.fz (.int ((R-1:Nat):Int)),a,.fz (.int ((2*k+1:Nat):Int))]):(nz (gN (bR oEq (bR gR (bR gR (aV 0) (aV 4)) (bR (jw λi j=>.int (i-j)) (kL vz (aM (bR gR (aV 0) (dC (.int 0))) cq)) (dC (.int 1)))) (dC (.str "-")))) (lY 1 (pP (aM (gx (aM (dC (.str "right")) (aM (bR (oI vF λi j=>.int (i/j)) (aV 4) (dC (.int 2))) cq))) (aM (gx (aM (aV 4) (aM (bR (jw λi j=>.int (i-j)) (kL vz (aM (bR gR (aV 0) (dC (.int 0))) cq)) (dC (.int 1))) (aM (dC (.int 0)) cq)))) cq)))) nj) f [.fz (.lst ((aS rows).map .lst)),.ow (L.map mJ),.fz (.int ((R-1:Nat):Int)),a,.fz (.int ((2*k+1:Nat):Int))]:=by
 have big:=dP;have dv:((2*k+1:Nat):Int)/2=(k:Int):=by lia
 walk_at"px";show⟨_,h,_,e,D.str ⟨#[gv rows (2*k+1) (S-1)]⟩,by rw[b];show g,by trivial,?_⟩;simp only[xJ,gJ,An U1];by_cases c:gv rows (2*k+1) (S-1)=45
 .rw[if_pos c];rw[vP c,bY] at q;show⟨by trivial,_,e,by trivial,by trivial,by rw[ax];lia,?_⟩;rw[dv,b];show q
 rw[if_neg c];rw[oD _ c,gI] at q;show q
def Bh:cg:=λds Q=>∃R S rows,ds=[ij rows]/\c6 R S rows/\R%2=1/\S%2=1/\R<=41/\S<=41/\Q (.ow ((fM R S (gv rows)++iG R S (gv rows)).map mJ))
noncomputable def Ox:(T:TX) ×' ∀{P w K mg base},Txt K mg->eF P w K mg base 0 "_law_ends" ["_law_grid","_law_ends_here","_law_last","_law_s","_law_r"] (top 40) T:=
 ⟨_,λT nd f c A outer s H E b=>have a:=b.units;
 (aJ (iV 1 (gE aq) nd)
   (aJ (cV 2 (aP tV (cR gO T.b_len gi (ah (af 0) aq)) aw) nd)
   (aJ (fA eH rfl (Lo T.b_range (ah aw (ah (cR gO T.b_len gi (ah (bV (af 0) aw) aq)) (ah aw aq)))) (aY 3 nd)
    (aJ (eM (dA (fj a) (bV (bV (af 0) aw) (af 3)) df) (aU (k9 1 (gE (ah (cY (ah df (ah (aP vL (af 3) aw) aq))) (ah (cY (ah aw (ah (af 3) (ah aw aq)))) aq))))) eQ)
   (aU (eM (dA (fj a) (bV (bV (af 0) (af 2)) (af 3)) df) (aU (k9 1 (gE (ah (cY (ah df (ah (aP vL (af 3) aw) aq))) (ah (cY (ah (af 2) (ah (af 3) (ah aw aq)))) aq))))) eQ))))
   (aJ (fA eH rfl (Lo T.b_range (ah aw (ah (cR gO T.b_len gi (ah (af 0) aq)) (ah aw aq)))) (aY 4 nd)
    (aJ (eM (dA (fj a) (bV (bV (af 0) (af 4)) aw) df) (aU (k9 1 (gE (ah (cY (ah df (ah (aP vL (af 4) aw) aq))) (ah (cY (ah (af 4) (ah aw (ah aw aq)))) aq))))) eQ)
   (aU (eM (dA (fj a) (bV (bV (af 0) (af 4)) (aP tV (cR gO T.b_len gi (ah (bV (af 0) aw) aq)) aw)) df) (aU (k9 1 (gE (ah (cY (ah df (ah (aP vL (af 4) aw) aq))) (ah (cY (ah (af 4) (ah (aP tV (cR gO T.b_len gi (ah (bV (af 0) aw) aq)) aw) (ah aw aq)))) aq))))) eQ))))
   (aU (xR 1))))))⟩
def LC:TX:=Ox.1
theorem zgp:dX 1 Bh LC ["_law_grid","_law_ends_here","_law_last","_law_s","_law_r"]:=by
 intro ds I hl h;obtain⟨R,S,rows,rfl,P,A,z,H,F,q⟩:=h;show LC _ [.fz (ij rows),.un,.un,.un,.un];unfold LC Ox;dsimp only;have B:(aS rows).length=R:=by unfold aS;rw[ax,P.len]
 have v:((aS rows).map D.lst).length=R:=by rw[ax,B]
 have f:∀r,r<R->bF (aS rows) (r:Int)=some ((rows.getD r []).map cI):=λr e=>by
  rw[k7 (by simp_all),xD (by rw[P.len];show e)]
 have hlen:∀r,r<R->(rows.getD r []).length=S:=λr e=>by
  have o:r<rows.length:=by rw[P.len];show e
  have hm:rows.getD r []∈rows:=by
   rw[bK,aX o,gW];show eZ _
  show P.bQ _ hm
 have at2:∀r s,r<R->s<S->bF ((rows.getD r []).map cI) (s:Int)=some (D.str ⟨#[gv rows r s]⟩):=λr s e w=>by
  have o:r<rows.length:=by rw[P.len];show e
  have:=jO P.len P.bQ (rows:=rows) (r:=r) (l:=rows.getD r []) (by rw[bK,aX o];rfl) w;rw[pZ,k7 (by rw[hlen r e];show w),this];rfl
 have t:=f 0 (by lia);have lst:((R:Int)-1)=((R-1:Nat):Int):=by ext
 have j:((S:Int)-1)=((S-1:Nat):Int):=by lia
 have u:∀n:Nat,n%2=1->(((n:Int)-1+1)/2).toNat=n/2:=λn E=>by lia
 unfold ij;walk_at"px";walk_at"go";rw[v,lst];walk_at"go";show⟨by show cG _,?_⟩;show jS (aN (S/2)) (λn:Nat=>D.int (1+(n:Int)*2)) (λC h=>?_) (λi ρ=>∃a b:Sl,ρ=[.fz (.lst ((aS rows).map .lst)),.ow (((aN i).flatMap λk=>cA (gv rows 0 (2*k+1)=124) (((0,2*k+1,1),("top",((k:Nat):Int))):N3×aQ)++cA (gv rows (R-1) (2*k+1)=124) (((R-1,2*k+1,1),("bottom",((k:Nat):Int))):N3×aQ)).map mJ),.fz (.int ((R-1:Nat):Int)),a,b]) ⟨_,_,rfl⟩ ?_ ?_
 .walk_at"px";show⟨_,t,?_⟩;walk_at"px";rw[ax,hlen 0 (by lia),u S z];show⟨⟨by simp_all,by lia⟩,h⟩
 .rintro i x ρ m ⟨a,b,rfl⟩;obtain⟨p,d⟩:=cD.mp m;have d:i=x:=by simpa using d
  subst d;have y:i<S/2:=by simpa using p
  have ev:(1+(i:Int)*2)=((2*i+1:Nat):Int):=by lia
  rw[ev];have bl:=AH (λk=>gv rows 0 (2*k+1)=124) (λk=>gv rows (R-1) (2*k+1)=124) (λk=>(((0,2*k+1,1),("top",((k:Nat):Int))):N3×aQ)) (λk=>((R-1,2*k+1,1),("bottom",((k:Nat):Int)))) i;show vA (S:=S) t (at2 0 (2*i+1) (by lia) (by lia)) (by lia) ?_;show vB (S:=S) (f (R-1) (by lia)) (at2 (R-1) (2*i+1) (by lia) (by lia)) (by rw[bL];have:=Az (gv rows 0 (2*i+1)=124) (((0,2*i+1,1),("top",((i:Nat):Int))):N3×aQ);lia) ?_;show⟨.fz (.int ((2*i+1:Nat):Int)),b,?_⟩;rw[oj,lL,nc,zz,gI,gh]
 rintro ρ ⟨a,b,rfl⟩;have g:((aN (S/2)).flatMap λk=>cA (gv rows 0 (2*k+1)=124) (((0,2*k+1,1),("top",((k:Nat):Int))):N3×aQ)++cA (gv rows (R-1) (2*k+1)=124) (((R-1,2*k+1,1),("bottom",((k:Nat):Int))):N3×aQ))=fM R S (gv rows):=rfl;rw[tF,g];have tl:(fM R S (gv rows)).length<=50:=by
  have:=AH (λk=>gv rows 0 (2*k+1)=124) (λk=>gv rows (R-1) (2*k+1)=124) (λk=>(((0,2*k+1,1),("top",((k:Nat):Int))):N3×aQ)) (λk=>((R-1,2*k+1,1),("bottom",((k:Nat):Int)))) (S/2);lia
 walk_at"go";show jS (aN (R/2)) (λn:Nat=>D.int (1+(n:Int)*2)) (λC h=>?_) (λi ρ=>∃a b:Sl,ρ=[.fz (.lst ((aS rows).map .lst)),.ow ((fM R S (gv rows)++(aN i).flatMap λk=>cA (gv rows (2*k+1) 0=45) (((2*k+1,0,0),("left",((k:Nat):Int))):N3×aQ)++cA (gv rows (2*k+1) (S-1)=45) (((2*k+1,S-1,0),("right",((k:Nat):Int))):N3×aQ)).map mJ),.fz (.int ((R-1:Nat):Int)),a,b]) ⟨a,b,by simp⟩ ?_ ?_
 .walk_at"px";rw[v,u R A];show⟨⟨by simp_all,by lia⟩,h⟩
 .rintro i x ρ m ⟨a,b,rfl⟩;obtain⟨p,d⟩:=cD.mp m;have d:i=x:=by simpa using d
  subst d;have y:i<R/2:=by simpa using p
  have ev:(1+(i:Int)*2)=((2*i+1:Nat):Int):=by lia
  rw[ev];have bl:=AH (λk=>gv rows (2*k+1) 0=45) (λk=>gv rows (2*k+1) (S-1)=45) (λk=>(((2*k+1,0,0),("left",((k:Nat):Int))):N3×aQ)) (λk=>((2*k+1,S-1,0),("right",((k:Nat):Int)))) i;show vC (S:=S) (f (2*i+1) (by lia)) (at2 (2*i+1) 0 (by lia) (by lia)) (by rw[bL];lia) ?_;show vD (S:=S) t (by rw[ax,hlen 0 (by lia)];show j) (f (2*i+1) (by lia)) (at2 (2*i+1) (S-1) (by lia) (by lia)) (by rw[bL,bL];have:=Az (gv rows (2*i+1) 0=45) (((2*i+1,0,0),("left",((i:Nat):Int))):N3×aQ);lia) ?_;show⟨a,.fz (.int ((2*i+1:Nat):Int)),?_⟩;rw[oj,lL,nc,zz,gI,gh,gh]
 rintro ρ ⟨a,b,rfl⟩;rw[tF];walk_at"go";show q
section
variable{κ α:Type}[DecidableEq κ]{F:List (κ×α)}{kk:κ->List Key}{dv:α->D}
theorem ET(inj:∀a b,kk a=kk b->a=b)(F:List (κ×α))(x:κ)(a:α):∃g,oz (cL kk dv F) (kk x) (dv a)=cL kk dv g/\(∀y,a9 g y=if y=x then some a else a9 F y)/\g.length<=F.length+1/\(∀p∈g,p.2=a\/p∈F)/\((∃b,a9 F x=some b)->g.map (·.1)=F.map (·.1)):=by
 cases h:a9 F x with
 | none=>
  show⟨F++[(x,a)],Ks inj x a h,λy=>AE x y a h,by simp,λp c=>?_,λ⟨b,e⟩=>by cases e⟩;rcases cj.mp c with c | c
  .exact .inr c
  have:p=(x,a):=by simpa using c
  rw[this];show .inl rfl
 | some b=>
  have i:((cL kk dv F).any λkv=>decide (kv.1=kk x))=true:=by
   obtain⟨p,c,rfl⟩:=i4.mp h;have l:=Pt c;have k:=II c;show Dd.mpr ⟨_,aB.mpr ⟨p,k,rfl⟩,?_⟩;have:p.1=x:=by simpa using l
   simp[this]
  show⟨F.map λp=>if p.1=x then(p.1,a) else p,?_,λy=>?_,by simp,λp c=>?_,λ_=>?_⟩
  .unfold oz;rw[if_pos i];unfold cL;rw[bp,bp];show tI λp _=>?_
   simp only[wZ];by_cases e:p.1=x
   .rw[if_pos (by rw[e]),if_pos e]
   rw[if_neg (λz=>e (inj _ _ z)),if_neg e]
  .have key:∀F:List (κ×α),a9 (F.map λp=>if p.1=x then(p.1,a) else p) y=if y=x then(a9 F x).map λ_=>a else a9 F y:=λF=>by
    induction F with
    | nil=>split<;>rfl
    | cons p r f=>
     unfold a9 at f ⊢;rw[bD,kU,kU];have m:((if p.1=x then(p.1,a) else p:κ×α)).1=p.1:=by split<;>rfl
     rw[m];by_cases e:y=x
     .subst e;rw[if_pos rfl] at f ⊢;by_cases d:p.1=y
      .simp[d]
      simp only[d,gc,cM];show f
     rw[if_neg e] at f ⊢;rw[kU];by_cases d:p.1=y
     .have:p.1≠x:=λz=>e (d.symm.trans z)
      simp[d,this,e]
     simp only[d,gc];show f
   rw[key F];split
   .rw[h];rfl
   rfl
  .obtain⟨q,j,rfl⟩:=aB.mp c;split
   .exact .inl rfl
   show .inr j
  rw[bp];show tI λp _=>?_
  simp only[wZ];split<;>rfl
end
noncomputable def kN(n:N3):List Key:=[.inl (n.1:Nat),.inl (n.2.1:Nat),.inl (n.2.2:Nat)]
theorem tX:∀a b:N3,kN a=kN b->a=b:=by
 rintro⟨a,b,c⟩ ⟨d,e,f⟩ h;unfold kN at h;simp only[lN.injEq,tf.injEq,and_true] at h;obtain⟨i,g,h3⟩:=h;have:a=d:=by lia
 have:b=e:=by lia
 have:c=f:=by lia
 subst_vars
 rfl
def Bd(n:N3):Prop:=n.2.1<200/\n.2.2<2
noncomputable def jh(n:N3):Nat:=n.1*1000+n.2.1*2+n.2.2
noncomputable def ql(n:N3):List Int:=[(n.1:Int),(n.2.1:Int),(n.2.2:Int)]
theorem SE(d:Bd a)(c:Bd b):HT.lexLt (ql a) (ql b)=true↔jh a<jh b:=by
 obtain⟨a1,a2,a3⟩:=a;obtain⟨g,f,e⟩:=b;unfold Bd at d c;simp only at d c;unfold ql jh;simp only[HT.lexLt];by_cases i:(a1:Int)=g
 .by_cases h:(a2:Int)=f
  .by_cases e3:(a3:Int)=e
   .lia
   lia
  lia
 lia
theorem Td(d:Bd a)(c:Bd b)(h:jh a=jh b):a=b:=by
 obtain⟨a1,a2,a3⟩:=a;obtain⟨g,f,e⟩:=b;unfold Bd at d c;unfold jh at h;simp only at d c h;have:a1=g:=by lia
 have:a2=f:=by lia
 have:a3=e:=by simp_all
 subst_vars
 rfl
theorem DY(a b):b9 (eC a) (eC b)=decide (a=b):=by
 obtain⟨a1,a2,a3⟩:=a;obtain⟨e,d,c⟩:=b;unfold eC;simp[b9,k5];lia
theorem DX(n a):cF (n+1) (eC a):=by
 intro d hd;simp only[bG,kY,or_false] at hd;rcases hd with rfl | rfl | rfl<;>(rw[Kh];trivial)
theorem Tc(h:¬c)(d:b):@ite Prop c i a b:=by rw[if_neg h];show d
theorem Te(h:c)(d:a):@ite Prop c i a b:=by rw[if_pos h];show d
def A2:cg:=λds Q=>∃E:List (N3×N3),ds=[.lst (E.map gy)]/\E.length<=10000/\(∀p∈E,Bd p.1/\Bd p.2)/\∀F:List (N3×N3),(∀a b,(a9 F a).getD a=(a9 F b).getD b↔Cn E a b)->Q (.ov (.dq (cL kN eC F)))
noncomputable def Ow:(T:TX) ×' ∀{P w K mg base},Txt K mg->eF P w K mg base 0 "_law_least" ["_law_pairs_here","_law_least_here","_law_one","_law_other","_law_moved","_law_low"] (top 39) T:=
 ⟨_,λT nd f c A outer s H E b=>have a:=b.units;
 (aJ (iV 1 VB nd)
   (aJ (fA eH rfl (fB (af 0)) (gC (n:=2) rfl (cf (aY 2 nd) (cf (aY 3 nd) fU)))
    (aJ (Au a 1 (af 2) (af 2))
   (aU (Au a 1 (af 3) (af 3)))))
   (aJ (cV 4 l5 nd)
   (aJ (Vw eH (jQ (af 4)) (aJ (cV 4 l5 nd)
   (aU (fA eH rfl (fB (aP cN (af 0) (zly rfl T.b_list T.b_reversed (af 0)))) (gC (n:=2) rfl (cf (aY 2 nd) (cf (aY 3 nd) fU)))
    (aJ (cV 5 (cR (ztL a rfl) T.b_min boot_min (ah (US a 1 (af 2)) (ah (US a 1 (af 3)) aq))) nd)
   (aU (eM (EB (ES 1 (dA (zZ a) (Av a (af 1) (af 2)) (af 5))) (Ko (ES 1 (dA (zZ a) (Av a (af 1) (af 3)) (af 5))))).pb (aJ (Au a 1 (af 2) (af 5))
   (aJ (Au a 1 (af 3) (af 5))
   (aU (cV 4 l5 nd)))) eQ)))))))
   (aU (Kk 1))))))⟩
def LA:TX:=Ow.1
theorem zfZ:dX 1 A2 LA ["_law_pairs_here","_law_least_here","_law_one","_law_other","_law_moved","_law_low"]:=by
 intro ds Qr hl h;obtain⟨E,rfl,hE,bd,q⟩:=h;show LA _ [.fz (.lst (E.map gy)),.un,.un,.un,.un,.un];unfold LA Ow;dsimp only;have big:=dP;have tup:∀n:N3,∃es,eC n=.tup es/\iT es=some (kN n)/\es=(ql n).map D.int:=λn=>⟨_,rfl,rfl,rfl⟩
 have A:∀F:List (N3×N3),(cL kN eC F).length=F.length:=λF=>by show ax ..
 walk_at"px";walk_at"go";let S_:Nat->Ev->Prop:=λi ρ=>∃(F:List (N3×N3))(a c:Sl),(∀p∈E.take i,a9 F p.1≠none/\a9 F p.2≠none)/\(∀x y,a9 F x=some y->y=x)/\(∀p∈F,Bd p.2)/\F.length<=2*i/\ρ=[.fz (.lst (E.map gy)),.ov (.dq (cL kN eC F)),a,c,.un,.un];show jS E gy (λQ' h=>?_) S_ ⟨[],_,_,by simp,(λx y h=>by cases h),by simp,by simp,rfl⟩ ?_ ?_
 .walk_at"px";show h
 .rintro i ⟨x,y⟩ ρ I ⟨F,a,c,t,J,h3,h4,rfl⟩;have nI:i<E.length:=(cD.mp I).1;have hm:=cJ I;obtain⟨ex,ND,B,Z⟩:=tup x;obtain⟨ey,NC,w,Y⟩:=tup y;obtain⟨F1,L,s,p3,W,_⟩:=ET (dv:=eC) tX F x x;obtain⟨F2,K,r,q3,V,_⟩:=ET (dv:=eC) tX F1 y y;have l0:=A F;have l1:=A F1;rw[show gy (x,y)=.tup [eC x,eC y] from rfl];rw[ND] at L ⊢;rw[NC] at K ⊢;walk_at"px";show⟨_,B,by lia,?_⟩;rw[L];walk_at"go";show⟨_,w,by lia,?_⟩;rw[K];show⟨F2,_,_,λp f=>?_,λu v C=>?_,λp f=>?_,by lia,rfl⟩
  .have t1:∀z,a9 F z≠none->a9 F2 z≠none:=λz hz=>by
    rw[r,s];split
    .exact nofun
    split
    .exact nofun
    show hz
   rw[gf,I] at f;rcases cj.mp f with f | f
   .exact⟨t1 _ (t p f).1,t1 _ (t p f).2⟩
   have:p=(x,y):=by show du.1 ‹_›
   subst this;show⟨?_,?_⟩
   .rw[r,s,if_pos rfl];split<;>show nofun
   rw[r,if_pos rfl];show nofun
  .rw[r,s] at C;split at C
   .cases C;rename_i e;show e.symm
   split at C
   .cases C;rename_i e;show e.symm
   show J u v C
  rcases V p f with e | f
  .rw[e];show(bd _ hm).2
  rcases W p f with e | f
  .rw[e];show(bd _ hm).1
  show h3 p f
 rintro ρ ⟨U,a,c,k1,k2,k3,k4,rfl⟩;rw[gw] at k1;walk_at"go";walk_at"go";let g:List (N3×N3)->N3->N3:=λF x=>(a9 F x).getD x
 let H:List N3:=E.map (·.1)++E.map (·.2)
 have Xg:∀p∈E,p.1∈H/\p.2∈H:=λp f=>⟨iy _ (aB.mpr ⟨p,f,rfl⟩),eK _ (aB.mpr ⟨p,f,rfl⟩)⟩
 have X:∀x,g U x=x:=λx=>by
  show(a9 U x).getD x=x;cases h:a9 U x with
  | none=>rfl
  | some y=>show k2 x y h
 have YQ:∀(F:List (N3×N3)),(∀p∈F,Bd p.2)->∀x y,a9 F x=some y->Bd y:=λF hB x y h=>by
  obtain⟨p,f,rfl⟩:=i4.mp h;show hB p (II f)
 let R_:Nat->Ev->Prop:=λm ρ=>∃(F:List (N3×N3))(j:Bool)(a c d:Sl),m=(if j=true then mu jh H (g F)+1 else 0)/\(∀p∈E,a9 F p.1≠none/\a9 F p.2≠none)/\(∀p∈F,Bd p.2)/\F.length<=2*E.length/\(∀x,Cn E x (g F x))/\(j=false->∀p∈E,g F p.1=g F p.2)/\ρ=[.fz (.lst (E.map gy)),.ov (.dq (cL kN eC F)),a,c,.fz (.bl j),d];show⟨R_, ⟨_,U,true,a,c,_,rfl,k1,k3,k4,λx=>by rw[X];show .refl _,nofun,rfl⟩,?_⟩
 rintro m ρ ⟨F,j,a,c,d,rfl,w1,w2,w3,w4,w5,rfl⟩;cases j with
 | false=>
  walk_at"px";walk_at"go";show q F λa b=>SW (lab:=g F) (λx y h=>w5 rfl _ h) w4
 | true=>
  walk_at"px";walk_at"go";have eL:E.map gy++(E.map gy).reverse=(E++E.reverse).map gy:=by rw[bY,List.map_reverse]
  let P_:Nat->Ev->Prop:=λi ρ=>∃(G:List (N3×N3))(j:Bool)(a c d:Sl),(∀p∈E,a9 G p.1≠none/\a9 G p.2≠none)/\(∀p∈G,Bd p.2)/\G.length<=2*E.length/\Pass E jh H (g F) (g G) j ((E++E.reverse).take i)/\ρ=[.fz (.lst (E.map gy)),.ov (.dq (cL kN eC G)),a,c,.fz (.bl j),d];show jS (E++E.reverse) gy (λQ' h=>?_) P_ ⟨F,false,a,c,d,w1,w2,w3,by show Pass.start w4,rfl⟩ ?_ ?_
  .walk_at"px";rw[eL];show⟨by simp only[ax,bL,Qo];lia,h⟩
  .rintro i ⟨x,y⟩ ρ I ⟨G,j,a,c,d,g1,g2,g3,Ps,rfl⟩;have hm:(x,y)∈E:=by
    rcases cj.mp (cJ I) with h | h
    .exact h
    show Di.mp h
   have tk:(E++E.reverse).take (i+1)=(E++E.reverse).take i++[(x,y)]:=by rw[gf,I];rfl
   obtain⟨u,O⟩:∃u,a9 G x=some u:=Ra.mp (g1 _ hm).1
   obtain⟨v,hv⟩:∃v,a9 G y=some v:=Ra.mp (g1 _ hm).2
   have bu:=YQ G g2 x u O;have bv:=YQ G g2 y v hv;have Q:g G x=u:=by show(a9 G x).getD x=u;rw[O];rfl
   have P:g G y=v:=by show(a9 G y).getD y=v;rw[hv];rfl
   obtain⟨ex,ND,B,Z⟩:=tup x;obtain⟨ey,NC,w,Y⟩:=tup y;obtain⟨eu,M,eu2,eu3⟩:=tup u;obtain⟨ev,N,ev2,ev3⟩:=tup v;have lu:iS (cL kN eC G) (kN x)=some (.tup eu):=by rw[vO tX,O,<-M];rfl
   have lv:iS (cL kN eC G) (kN y)=some (.tup ev):=by rw[vO tX,hv,<-N];rfl
   obtain⟨low,XY,c1,c2,abq⟩:∃low:N3,(low=u\/low=v)/\jh low<=jh u/\jh low<=jh v/\(if HT.lexLt (ql v) (ql u)=true then D.tup ev else D.tup eu)=eC low:=by
    by_cases h:HT.lexLt (ql v) (ql u)=true
    .refine⟨v,.inr rfl,?_,bx _,by rw[if_pos h,N]⟩;have:=(SE bv bu).mp h;show cP ‹_›
    show⟨u,.inl rfl,bx _,?_,by rw[if_neg h,M]⟩;have:=mt (SE bv bu).mpr h;show vf ‹_›
   have T:Bd low:=by rcases XY with h | h<;>rw[h]<;>assumption
   rw[show gy (x,y)=.tup [eC x,eC y] from rfl,ND,NC];walk_at"px";show⟨_,_,B,lu,_,_,w,lv,?_⟩;show⟨ql u,ql v,eu3,ev3,?_⟩;rw[abq];walk_at"go";obtain⟨G1,L,s,p3,W,p5⟩:=ET (dv:=eC) tX G x low;obtain⟨o,K,r,q3,V,q5⟩:=ET (dv:=eC) tX G1 y low;have t1:∀z,a9 G z≠none->a9 o z≠none:=λz hz=>by
    rw[r,s];split
    .exact nofun
    split
    .exact nofun
    show hz
   have n1:∀p∈E,a9 o p.1≠none/\a9 o p.2≠none:=λp f=>⟨t1 _ (g1 p f).1,t1 _ (g1 p f).2⟩
   have n2:∀p∈o,Bd p.2:=λp f=>by
    rcases V p f with e | f
    .rw[e];show T
    rcases W p f with e | f
    .rw[e];show T
    show g2 p f
   have e1:=dN qS (p5 ⟨u,O⟩);have e2:=dN qS (q5 (by rw[s];split;show⟨_,rfl⟩;show⟨v,hv⟩));simp only[ax] at e1 e2;have n3:o.length<=2*E.length:=by lia
   have Xa:(u≠low\/v≠low)->Pass E jh H (g F) (g o) true ((E++E.reverse).take (i+1)):=λh=>by
    have bz:jh low<jh u\/jh low<jh v:=by
     rcases h with h | h
     .refine .inl (P6 c1 λz=>h (Td bu T z.symm))
     show .inr (P6 c2 λz=>h (Td bv T z.symm))
    have:=Ps.change (p:=(x,y)) (low:=low) (.inl hm) (Xg _ hm).1 (Xg _ hm).2 (by rw[Q,P];show XY) (by rw[Q];show c1) (by rw[P];show c2) (by rw[Q,P];show bz);rw[tk];have e:g o=lV (lV (g G) x low) y low:=funext λz=>by
     show(a9 o z).getD z=_;unfold lV;rw[r,s];by_cases t:z=y
     .rw[if_pos t,if_pos t];rfl
     rw[if_neg t,if_neg t];by_cases J:z=x
     .rw[if_pos J,if_pos J];rfl
     rw[if_neg J,if_neg J]
    rw[e];show this
   show⟨_,_,B,lu,by rw[<-M];show DX 8 u,DX 8 low,?_⟩;by_cases R:u=low
   .refine Tc (by rw[<-M,DY,iu R];trivial) ?_;show⟨_,_,w,lv,by rw[<-N];show DX 8 v,DX 8 low,?_⟩;by_cases S:v=low
    .refine Tc (by rw[<-N,DY,iu S];trivial) ?_;show⟨G,j,_,_,_,g1,g2,g3,by rw[tk];show Ps.same (by rw[Q,P,R,S]),rfl⟩
    show Te (by rw[<-N,DY,iw S];rfl) ?_;show⟨_,B,by rw[A];lia,?_⟩;rw[L];walk_at"go";show⟨_,w,by rw[A];lia,?_⟩;rw[K];walk_at"go";show⟨o,true,_,_,_,n1,n2,n3,Xa (.inr S),rfl⟩
   show Te (by rw[<-M,DY,iw R];rfl) ?_;show⟨_,B,by rw[A];lia,?_⟩;rw[L];walk_at"go";show⟨_,w,by rw[A];lia,?_⟩;rw[K];walk_at"go";show⟨o,true,_,_,_,n1,n2,n3,Xa (.inl R),rfl⟩
  rintro ρ ⟨G,j,a,c,d,g1,g2,g3,Ps,rfl⟩;rw[gw] at Ps;show⟨if j=true then mu jh H (g G)+1 else 0,?_,G,j,a,c,d,rfl,g1,g2,g3,Ps.cn,λh p f=>?_,rfl⟩
  .cases j with
   | false=>show iq _
   | true=>
    have:=Ps.lt rfl;lia
  show(Ps.eq h).2 p (iy _ f)
noncomputable def nq(b:List Int)(a k:Nat):List Int:=b.take 1++(aN (b.length-1)).filterMap λj=>if (1+j)%a=k then b[1+j]? else none
theorem U0(b a k):(nq b a k).length<=1+b.length:=by
 unfold nq;have:=Q6 (λj=>if (1+j)%a=k then b[1+j]? else none) (aN (b.length-1));rw[tF] at this;simp only[bL,eP];ext
theorem zsj(b a k w):qh (nq b a k) w=qh b w:=by
 cases b<;>rfl
def A1:cg:=λds Q=>∃(ns:List Int)(many:Nat),ds=[dI ns,.int many]/\ns.length<=63/\1<=many/\many<=8/\Q (.ow ((aN many).map λk=>dI (nq ns many k)))
theorem zf0:(["_law_k","_law_script","_law_many"]:List ae).Nodup:=by decide +kernel
theorem zf1:(["_law_j","_law_script","_law_k","_law_many"]:List ae).Nodup:=by decide +kernel
noncomputable def Oq:(T:TX) ×' ∀{P w K mg base},Txt K mg->eF P w K mg base 0 "_law_parts" ["_law_script","_law_many"] (top 37) T:=
 ⟨_,λT nd f d A outer s H E c=>have b:=c.units;
 (aU (eB (fW rfl (.of (N':=["_law_k","_law_script","_law_many"]) (m:=[none,some 0,some 1]) (by kernel_rfl)) fb (qe T.b_range (ah (af 1) aq)) (λs3 a ex=>(aY 0 zf0)) (λs3 a ex=>fL) (λs3 a ex=>(aP cN (oF (af 1) qc (lp aw)) (fW rfl (.of (N':=["_law_j","_law_script","_law_k","_law_many"]) (m:=[none,some 1,some 0,some 2]) (by kernel_rfl)) fb (zk6 T.b_range (ah aw (ah (cR gO T.b_len gi (ah (af 1) aq)) aq))) (λs3 a ex=>(aY 0 zf1)) (λs3 a ex=>(Aw (dA (fj b) (aP gz (af 0) (af 3)) (af 2)))) (λs3 a ex=>(bV (af 1) (af 0)))))))))⟩
def Lz:TX:=Oq.1
theorem zf2:dX 2 A1 Lz ["_law_script","_law_many"]:=by
 intro ds t hl h;obtain⟨ns,many,rfl,r,p,o,q⟩:=h;show Lz _ [.fz (dI ns),.fz (.int many)];unfold Lz Oq;dsimp only;have big:=dP;unfold dI at q ⊢;walk_at"px";show gP (aN many) (λ(k:Nat)=>.int (0+k)) (λk=>.lst ((nq ns many k).map .int)) (λn h=>?_) (by simp;lia) (λk s v kk=>?_) q
 .walk_at"px";show⟨by simp_all,by lia,by trivial⟩
 rw[Hx];walk_at"px";rw[TV _ (by simp_all)];show Km (aN (ns.length-1)) (λ(j:Nat)=>.int (1+j)) (λj=>(if (1+j)%many=k then ns[1+j]? else none).map .int) (λn h=>?_) (by simp;lia) (λj m u w g i=>?_) ?_
 .walk_at"px";rw[ax,show((ns.length:Int)-1).toNat=ns.length-1 by simp_all];show⟨⟨by simp_all,by lia⟩,h⟩
 .have x:=fR.mp m;have f:1+j<ns.length:=by ext
  walk_at"px";show⟨by lia,?_⟩;by_cases b:(1+j)%many=k
  .have d:((1:Int)+j)%many=k:=by
    have:(((1+j)%many:Nat):Int)=(k:Int):=by rw[b]
    simpa using this
   rw[if_pos d];show⟨ns[1+j],?_,g _ ?_⟩
   .have:=oE f;simpa using this
   rw[if_pos b,aX f];rfl
  have d:¬((1:Int)+j)%many=k:=λz=>b (by
   lia)
  rw[if_neg d];show i (by rw[if_neg b];rfl)
 have pl:=U0 ns many k;unfold nq at pl kk;have e:(aN (ns.length-1)).filterMap (λj=>(if (1+j)%many=k then ns[1+j]? else none).map D.int)=((aN (ns.length-1)).filterMap λj=>if (1+j)%many=k then ns[1+j]? else none).map D.int:=by
  rw[List.map_filterMap]
 rw[e];rw[bY] at kk;rw[bL] at pl;show⟨?_,kk⟩;simp only[ax,eP] at pl ⊢;lia
theorem yw{R S:Nat}(P:c6 R S rows)(r s)(c:r<R)(b:s<S):bF (aS rows) (r:Int)=some ((rows.getD r []).map cI)/\bF ((rows.getD r []).map cI) (s:Int)=some (cI (gv rows r s))/\(rows.getD r []).length=S:=by
 have a:r<rows.length:=by rw[P.len];show c
 have hm:rows.getD r []∈rows:=by
  rw[bK,aX a,gW];show eZ _
 have hw:=P.bQ _ hm;show⟨?_,?_,hw⟩
 .rw[k7 (by simp only[ax,aS];show a),xD a]
 rw[k7 (by rw[ax,hw];show b),bE,jO P.len P.bQ (by rw[bK,aX a];rfl) b];rfl
def Bg:cg:=λds Q=>∃(a R2 S:Nat)(up lo:List (List Nat))(ns:List Int)(k:Nat),ds=[ij up,ij lo,dI ns,.int k]/\c6 a S up/\c6 R2 S lo/\0<a/\a<=41/\0<R2/\0<S/\S<=41/\ns.length<=63/\k<=100/\∀e:List Nat,e.length=S->(∀s,s<S->o7 (up.getD (a-1) []) e (lo.getD 0 []) s)->Q (.ow (e.map cI))
noncomputable def Oy:(T:TX) ×' ∀{P w K mg base},Txt K mg->Known P w K mg base 1 "_law_mix" 2 qf->eF P w K mg base 1 "_law_edge" ["_law_upper","_law_lower","_law_script","_law_turn","_law_signs","_law_s","_law_both"] (top 41) T:=
 ⟨_,λT gH nd f c A outer s H E b=>have a:=b.units;
 (aJ (iV 4 (gE aq) nd)
   (aJ (fA eH rfl (qe T.b_range (ah (cR gO T.b_len gi (ah (bV (af 0) aw) aq)) aq)) (aY 5 nd)
    (aJ (cV 6 (rM (nu (fj a) (aP gz (af 5) aw) aw) (rM (nu (fj a) (bV (bV (af 0) (aP tV (cR gO T.b_len gi (ah (af 0) aq)) aw)) (af 5)) df) (vK (nu (fj a) (bV (bV (af 1) aw) (af 5)) df)))) nd)
   (aU (k9 4 (bV (gE (ah df (ah df aq))) (V9 zu3 T.b_int boot_int (ah (rM (af 6) (vK (nu Jj (aP gz (cE gH b (ah (cR (vG rfl) T.b_sum uZ (ah (oF (af 2) qc (lp aw)) aq)) (ah (aP cN (aP cN aw (aP nr aw (af 3))) (af 5)) aq))) aw) aw))) aq)))))))
   (aU (xR 4))))⟩
def LB:TX:=Oy.1
theorem zgq:dX 4 Bg LB ["_law_upper","_law_lower","_law_script","_law_turn","_law_signs","_law_s","_law_both"]:=by
 intro ds O hl h;obtain⟨d,R2,S,up,lo,ns,k,rfl,P,L,H,E,F,B,R,M,N,q⟩:=h;show LB _ [.fz (ij up),.fz (ij lo),.fz (dI ns),.fz (.int k),.un,.un,.un];unfold LB Oy;dsimp only;have big:=dP;have gl:((aS up).map D.lst).length=d:=by rw[ax];unfold aS;rw[ax,P.len]
 unfold ij dI;walk_at"px";show⟨cG _,?_⟩;walk_at"go";show vS S (λQ h=>?_) (λi ρ=>∃(e:List Nat)(a b:Sl),e.length=i/\(∀s,s<i->o7 (up.getD (d-1) []) e (lo.getD 0 []) s)/\ρ=[.fz (.lst ((aS up).map .lst)),.fz (.lst ((aS lo).map .lst)),.fz (.lst (ns.map .int)),.fz (.int k),.ow (e.map cI),a,b]) ⟨[],_,_,rfl,λs t=>absurd t (tD _),rfl⟩ ?_ ?_
 .walk_at"px";obtain⟨g1,_,g3⟩:=yw P 0 0 H B;show⟨_,g1,?_⟩;rw[ax,g3];show⟨by simp_all,by lia,?_⟩;rw[jJ];show h
 .rintro i ρ v ⟨e,a,b,sl,ss,rfl⟩;have lt:(e.map cI).length<sizeLine:=by rw[ax];lia
  walk_at"px";generalize C:lW (lY _ _)=K;have key:∀(p:DE)(b:Bool),(∀x,x=61\/x=124/\b=true->p.nx [.fz (.lst ((aS up).map .lst)),.fz (.lst ((aS lo).map .lst)),.fz (.lst (ns.map .int)),.fz (.int k),.ow ((e++[x]).map cI),.fz (.int i),.fz (.bl b)])->K p [.fz (.lst ((aS up).map .lst)),.fz (.lst ((aS lo).map .lst)),.fz (.lst (ns.map .int)),.fz (.int k),.ow (e.map cI),.fz (.int i),.fz (.bl b)]:=by
   subst C;intro p b q;have j:=q 61 (.inl rfl);have r:=λh=>q 124 (.inr ⟨rfl,h⟩)
   rw[bY] at j;simp only[bY] at r;rw[show fI "="=aE [61] by rfl,show fI "|"=aE [124] by rfl];walk_at"go";show⟨by trivial,?_⟩;cases b with
   | false=>show⟨_,rfl,lt,j⟩
   | true=>
    show⟨_,_,rfl,by show Ih _,by lia,by decide,?_⟩;generalize pM _ _%4=one;by_cases u:0<one
    .rw[if_pos u];show⟨_,rfl,lt,r rfl⟩
    rw[if_neg u];show⟨_,rfl,lt,j⟩
  have tl:∀(b:Bool)(x:Nat),(b=true->i%2=1/\(up.getD (d-1) []).getD i 0=124/\(lo.getD 0 []).getD i 0=124)->x=61\/x=124/\b=true->∀s,s<i+1->o7 (up.getD (d-1) []) (e++[x]) (lo.getD 0 []) s:=λb x g f s t=>by
   by_cases h:s<i
   .have:=ss s h;unfold o7 at this ⊢;rw[Eu (by simp_all)];show this
   have:s=i:=by lia
   subst this;unfold o7;have I:(e++[x]).getD s 0=x:=by rw[<-sl];show Et 0
   rw[I];rcases f with f | ⟨f,m⟩
   .exact .inl f
   show .inr ⟨f,(g m).1,(g m).2.1,(g m).2.2⟩
  have go:∀(b:Bool),(b=true->i%2=1/\(up.getD (d-1) []).getD i 0=124/\(lo.getD 0 []).getD i 0=124)->∀x,x=61\/x=124/\b=true->∃(n:List Nat)(a1 J:Sl),n.length=i+1/\(∀s,s<i+1->o7 (up.getD (d-1) []) n (lo.getD 0 []) s)/\[.fz (.lst ((aS up).map .lst)),.fz (.lst ((aS lo).map .lst)),.fz (.lst (ns.map .int)),.fz (.int k),.ow ((e++[x]).map cI),.fz (.int i),.fz (.bl b)]=[.fz (.lst ((aS up).map .lst)),.fz (.lst ((aS lo).map .lst)),.fz (.lst (ns.map .int)),.fz (.int k),.ow (n.map cI),a1,J]:=λb g x f=>⟨e++[x],_,_,by simp[sl],tl b x g f,rfl⟩
  obtain⟨g1,g2,_⟩:=yw P (d-1) i (by lia) v;obtain⟨A,y,_⟩:=yw L 0 i F v;have ch:∀c:Nat,b9 (cI c) (D.str (fI "|"))=decide (c=124):=λc=>by
   show b9 (D.str ⟨#[c]⟩) _=_;rw[xJ,decide_eq_decide];show An J5
  have ok:∀c,cF 9 (cI c):=λc=>by unfold cI;rw[Kg];trivial
  by_cases w:(i:Int)%2=1
  .rw[if_pos w,gl,show(d:Int)-1=((d-1:Nat):Int) by lia];show⟨_,g1,_,g2,ok _,?_⟩;rw[ch];by_cases o:gv up (d-1) i=124
   .rw[if_pos (iu o)];show⟨_,A,_,y,ok _,?_⟩;rw[ch];show key _ _ (go _ λz=>⟨by lia,o,of_decide_eq_true z⟩)
   rw[if_neg (by simp[o])];show key _ _ (go _ nofun)
  rw[if_neg w];show key _ _ (go _ nofun)
 rintro ρ ⟨e,a,b,sl,ss,rfl⟩;walk_at"go";show q e sl ss
theorem UZ(x):∀a k,k<a.length->aH (a++[x]) k=aH a k
 | h::t,0,_=>rfl
 | h::t,k+1,b=>by
  show h+1+aH (t++[x]) k=h+1+aH t k;rw[UZ x t k (rf b)]
theorem UY(x):∀a,a≠[]->aH (a++[x]) a.length=dF a+1
 | [],h=>absurd rfl h
 | [h],_=>rfl
 | h::i::t,_=>by
  have:=UY x (i::t) nofun;show h+1+aH (i::t++[x]) (i::t).length=h+1+dF (i::t)+1;lia
theorem zqi:ba p (es++[b])=ba p es++[b.2.length]:=by unfold ba;simp
theorem xM(h:k<es.length+1):aA p (es++[b]) k=aA p es k:=by
 unfold aA;rw[bY,<-kX];show Eu (by simpa using h)
theorem AS:aA p (es++[b]) (es.length+1)=b.2:=by
 unfold aA;simpa using this
theorem UX(h:k<es.length):jE (es++[b]) k=jE es k:=by
 unfold jE;rw[bY];show Eu (by simpa using h)
theorem UW:jE (es++[b]) es.length=b.1:=by
 unfold jE;simpa using this
theorem zos:jM p (es++[b]) S=jM p es S++(fM b.2.length S (gv b.2)++iG b.2.length S (gv b.2)).map λq=>(((bB p es).length+1+q.1.1,q.1.2),e3 (es.length+1) q.2):=by
 unfold jM;rw[bL,pJ,oj,lL,Iz,AS,zqi,pW];have:=UY b.2.length (ba p es) (λz=>by cases z);rw[fV] at this;rw[this];congr 1
 show dN List.flatten (tI λk a=>?_);have a:=fR.mp a;rw[xM a,UZ _ _ _ (by rw[fV];show a)]
theorem Sk.one{R:Nat}(P:c6 R S p)(c:R%2=1)(b:S%2=1)(h3:3<=S):Sk S p []:=
 ⟨λk a=>by
  have:k=0:=by simpa using a
  subst this;have e:(aA p [] 0).length=R:=P.len;rw[e];show⟨P,c⟩,b,h3,λk a=>absurd a (tD _),λk a=>absurd a (tD _)⟩
theorem Sk.snoc(K:Sk S p es){R:Nat}(P:c6 R S b.2)(e:R%2=1)(he:b.1.length=S)(d:∀s,s<S->o7 ((aA p es es.length).getD ((aA p es es.length).length-1) []) b.1 (b.2.getD 0 []) s):Sk S p (es++[b]):=by
 show⟨λk a=>?_,K.odd,K.h3,λk a=>?_,λk a s c=>?_⟩
 .by_cases h:k<es.length+1
  .rw[xM h];show K.cw k h
  rw[bL,pJ] at a;have:k=es.length+1:=by lia
  subst this;rw[AS,P.len];show⟨P,e⟩
 .rw[bL,pJ] at a;by_cases h:k<es.length
  .rw[UX h];show K.len k h
  have:k=es.length:=by lia
  subst this;rw[UW];show he
 rw[bL,pJ] at a;by_cases h:k<es.length
 .rw[UX h,xM (by ext),xM (by simp_all)];show K.sP k h s c
 have:k=es.length:=by lia
 subst this;rw[UW,xM (by ext),AS];show d s c
structure uV(S hi n:Nat)(p:List (List Nat))(es:List Bk):Prop where
 sk:Sk S p es
 num:es.length+1=n
 len:(bB p es).length+1<=n*(2*hi+2)
 sg:∀l∈bB p es,∀c∈l,c∈dh
 high:∀k,k<n->(aA p es k).length<=2*hi+1
theorem uV.first(P:c6 (2*t+1) S p)(c:t<=a)(b:S%2=1)(h3:3<=S)(f:a<=20)(g:S<=41):uV S a 1 p []:=by
 have d:=P.len;show⟨.one P (by simp_all) b h3,rfl,?_,(P.rb (by lia) (by lia)).dh,λk e=>?_⟩
 .show p.length+1<=_;lia
 have:k=0:=by simp_all
 subst this;show p.length<=_;lia
theorem uV.next(M:uV S d n p a)(P:c6 (2*t+1) S q)(r:t<=d)(v:d<=20)(w:S<=41)(he:e.length=S)
  (g:∀s,s<S->o7 ((aA p a a.length).getD ((aA p a a.length).length-1) []) e (q.getD 0 []) s):uV S d (n+1) p (a++[(e,q)]):=by
 have m:=P.len;have j:=M.num;show⟨M.sk.snoc (b:=(e,q)) P (by simp_all) he g,by rw[bL,pJ,j],?_,?_,λk u=>?_⟩
 .rw[Ff,bL,cC,m];have:=M.len;lia
 .intro l hm c f;rw[Ff] at hm;rcases cj.mp hm with h | h
  .exact M.sg l h c f
  rcases bG.mp h with h | h
  .subst h;obtain⟨s,i,rfl⟩:=mR f;have:=g s (by lia);have o:l.getD s 0=l[s]:=by rw[bK,aX i];rfl
   unfold o7 at this;rw[o] at this;rcases this with z | z
   .rw[z];decide
   rw[z.1];decide
  show(P.rb (by lia) (by lia)).dh l h c f
 by_cases h:k<a.length+1
 .rw[xM h];show M.high k (by simp_all)
 have:k=a.length+1:=by lia
 subst this;rw[AS];lia
theorem UU(M:uV S b n p a)(d:b*2+S/2*2<63):(jM p a S).length<=n*64:=by
 unfold jM;rw[M.num];have:∀m,m<=n->((aN m).flatMap λk=>(fM (aA p a k).length S (gv (aA p a k))++iG (aA p a k).length S (gv (aA p a k))).map λq=>(((aH (ba p a) k+q.1.1,q.1.2),e3 k q.2):N3×EK)).length<=m*64:=λm=>by
  induction m with
  | zero=>intro _;show cG _
  | succ m c=>
   intro hm;have e:=M.high m (by trivial);have h3:=Fi (R:=(aA p a m).length) (S:=S) (g:=gv (aA p a m)) (by lia);rw[oj,lL,Iz,bL,ax,bL,tq];rw[bL] at h3;lia
 show this n (bx _)
theorem zsk:((jM p c S).map (·.2)).Nodup:=by
 unfold jM;rw[Dc,j7,List.pairwise_flatMap];show⟨λk _=>?_,List.Pairwise.imp (λ{a b} i x f y d z=>?_) (j7.mp List.nodup_range)⟩
 .have:=(YY (·.2) (xf (l₁:=fM (aA p c k).length S (gv (aA p c k))))).nodup_iff.mpr (Ka (R:=(aA p c k).length) (S:=S) (g:=gv (aA p c k)));rw[j7,jI] at this;rw[bp,jI];show this.imp λh z=>h (Ex z).2
 rw[bp] at f d;obtain⟨u,_,rfl⟩:=aB.mp f;obtain⟨v,_,e⟩:=aB.mp d;show i (Ex (z.trans e.symm)).1
theorem zul(a)(h:1<=w):qh a w<=w:=by
 unfold qh;have:=Dt (pM (fK a none (some 1)).sum 802) (show(0:Int)<w by lia);lia
theorem zsl:∀q∈jM p b S,me q.2=[false,true,false]:=λq a=>by
 obtain⟨k,r,_,_,rfl⟩:=MB.mp a;rfl
end Wc
open PySem L2 PyProof.Rows Wc
local macro_rules | `(tactic| walk_at"px")=>`(tactic| (repeat(first | walk_at"b" | dsimp only[$[$(qn "xy JB JP z9 xp Ak Aj xP tR xV OV.val"):ident],*] | simp only[$[$(qn "JR Ej JQ"):ident],*])))
namespace Wc
open PySem L2 PyProof.Rows
theorem ZS{R S:Nat}(e:R<=41)(d:S<=41):∀p∈vZ R S g,Bd p.1/\Bd p.2:=λp a=>by
 obtain⟨r,s,c,b,h⟩:=(Th R S g p).mp a;unfold JO at h;unfold Bd;rcases h with h | h | h
 .rw[h.2.2.2];show⟨⟨by show s<200;lia,by show 0<2;simp_all⟩,⟨by show s+1<200;lia,by show 0<2;simp_all⟩⟩
 .rw[h.2.2.2];show⟨⟨by show s<200;lia,by show 1<2;simp_all⟩,⟨by show s<200;lia,by show 1<2;simp_all⟩⟩
 rw[h.2];show⟨⟨by show s<200;lia,by show 0<2;simp_all⟩,⟨by show s<200;lia,by show 1<2;simp_all⟩⟩
noncomputable def wx(q:N3×EK):D:=.lst [aO q.2,eC q.1]
theorem xH(n)(gss:List (List EK)):cF (n+3) (.lst (gss.map yF)):=TU yF gss λg _=>TU aO g λe _=>by
 intro d hd;obtain⟨k,_,rfl⟩:=aB.mp hd;cases k with
 | inl i=>show cF n (.int i);rw[Kh];trivial
 | inr x=>show cF n (.str x);rw[Kg];trivial
theorem Tb{α:Type}(l:List α)(h:Q (.fz (.bl true))):vy [.lst (l.map λ_=>D.bl true)] Q:=by
 unfold vy;dsimp only;have e:rH (l.map λ_=>D.bl true)=some (l.map λ_=>true):=by rw[<-VJ,bp];rfl
 rw[e];dsimp only;rw[show(l.map λ_=>true).all id=true by simp];show h
def z7:TX:=(gM (DT (gx (aM (bR lZ (dC (.int 1)) (bR (oI (λ_ j=>0<j) λi j=>.int (i%j)) (ki 2 qf (aM (kL xq (aM (yD (aV 0) yc (xA (dC (.int 1)))) cq)) (aM (dC (.int 803)) cq))) (dC (.int 3)))) (aM (dC (.int 3)) (aM (dC (.int 3)) (aM (dC (.int 5)) cq))))) (pN 4 (fk (fm 1) (fk (fm 2) (fk (fm 3) (fk (fm 4) kh))))))
 (gM (nz (gN (bR oEq (bR (oI (λ_ j=>0<j) λi j=>.int (i%j)) (ki 2 qf (aM (kL xq (aM (yD (aV 0) yc (xA (dC (.int 1)))) cq)) (aM (dC (.int 804)) cq))) (dC (.int 8))) (dC (.int 2)))) (DT (gx (aM (bR lZ (dC (.int 4)) (bR (oI (λ_ j=>0<j) λi j=>.int (i%j)) (ki 2 qf (aM (kL xq (aM (yD (aV 0) yc (xA (dC (.int 1)))) cq)) (aM (dC (.int 805)) cq))) (dC (.int 5)))) (aM (dC (.int 8)) (aM (dC (.int 1)) (aM (dC (.int 3)) cq))))) (pN 4 (fk (fm 1) (fk (fm 2) (fk (fm 3) (fk (fm 4) kh)))))) nj)
 (gM (rC 5 (pP cq))
 (gM (rC 6 (pP cq))
 (gM (rJ 7 (pP cq))
 (gM (oA (Jr (aM (yD (ki 2 A1 (aM (aV 0) (aM (aV 2) cq))) yc (xA (aV 1))) cq)) (pN 2 (fk (fm 8) (fk (fm 9) kh))) (gM (rJ 10 (ki 3 Bs (aM (aV 9) (aM (aV 3) (aM (aV 4) cq)))))
 (gM (nz (gN (bR (jw λi j=>.bl (decide (j<i))) (aV 8) (dC (.int 0)))) (lY 5 (ki 4 Bg (aM (aV 7) (aM (aV 10) (aM (aV 0) (aM (aV 8) cq)))))) nj)
 (gM (oA (vE (ki 1 Bh (aM (aV 10) cq))) (tR 2 (fk (fm 11) (fk (fm 12) kh))) (lY 6 (pP (aM (bR xy (gx (aM (aV 8) cq)) (aV 11)) (aM (gx (aM (bR lZ (bR gR (aV 12) (dC (.int 0))) (D3 5)) (aM (bR gR (aV 12) (dC (.int 1))) (aM (bR gR (aV 12) (dC (.int 2))) cq)))) cq)))))
 (vx 5 (gM (rC 5 (bR lZ (aV 5) (aV 10)))
 (rJ 7 (aV 10))))))))
 (vx 5 (gM (rJ 13 (ki 1 A2 (aM (ki 1 A3 (aM (aV 5) cq)) cq)))
 (gM (rC 14 z9)
 (vx 6 (gM (oA (vE (aV 6)) (tR 2 (fk (fm 11) (fk (fm 12) kh))) (xp 14 (Ak (aV 13) (aV 12) (aV 12)) (aV 11)))
 (vx 14 (gM (rJ 15 (xP (λ_=>True) (Al (Aj (aV 14)) [none] (fm 0) tQ (kL (En (λ_=>True)) (aM (aV 0) cq)))))
 (gM (rJ 16 (ki 1 A6 (aM (aV 5) cq)))
 (gM (rC 17 (ki 1 xZ (aM (aV 16) cq)))
 (gM (nz (JA 17 (GR (zY (gN (xr "list" (aV 17)))) (GR (zY (gN (kL vy (aM (pT (vE (aV 17)) [none] (fm 0) tQ (xr "list" (aV 0))) cq)))) (gN (bR Ms (aV 17) (aV 15)))))) (DU (dC (.bl false))) nj)
 (gM (xV 17 18 (zY (gN (kL vy (aM (pT (vE (aV 18)) [none] (fm 0) tQ (Jg (xr "tuple" (aV 0)) (Jh (xr "bool" (bR gR (aV 0) (dC (.int 0))))))) cq)))))
 (DU (bR oEq (ki 1 xZ (aM (aV 16) cq)) (aV 15))))))))))))))))))))
theorem zqj:dX 1 (Jq 63) z7 ["_law_script","_law_many","_law_share","_law_high","_law_wide","_law_grid","_law_ends_here","_law_ahead","_law_k","_law_part","_law_picture_here","_law_end","_law_strand","_law_least_here","_law_groups","_law_due","_law_text","_law_found","_law_group"]:=by
 intro ds Qr hl h;obtain⟨ns,rfl,hn,q⟩:=h;show z7 _ [.fz (dI ns),.un,.un,.un,.un,.un,.un,.un,.un,.un,.un,.un,.un,.un,.un,.un,.un,.un,.un];unfold z7 dI;have big:=dP;walk_at"px";show⟨_,_,rfl,by simp_all,by decide,by decide,?_⟩;generalize pM _ _=x;walk_at"px";show⟨by trivial,?_⟩;walk_at"go";show⟨_,_,rfl,by simp_all,by decide,by decide,?_⟩;generalize pM _ _=y;walk_at"px";generalize hK:lW (gM (rC 5 _) _) _=Kc;have fin:∀m sh v H:Nat,1<=m->m<=sh->sh<=8->v<=3->1<=H->H<=5->m*(2*v+2)<=32->Kc [.fz (.lst (ns.map .int)),.fz (.int m),.fz (.int sh),.fz (.int v),.fz (.int H),.un,.un,.un,.un,.un,.un,.un,.un,.un,.un,.un,.un,.un,.un]:=by
  rw[<-hK];clear hK;intro m sh v H m1 m2 s8 h3 w1 w5 hm;walk_at"go";show⟨cG _,?_⟩;walk_at"go";show⟨cG _,?_⟩;walk_at"go";show⟨cG _,?_⟩;walk_at"go";generalize hT:lW (vx _ _) _=Kt;show zpV (λf=>f=iC (((aN m).map λk=>nq ns sh k).map dI)) (λV h=>?_) ?_
  .walk_at"px";show⟨ns,sh,rfl,hn,by lia,by ext,?_⟩;walk_at"px";rw[TV _ (by simp_all),jJ,List.take_range,pC m2];show h _ (by rw[bp];rfl)
  rintro _ rfl;generalize hS:2*qh ns H+1=S;let N_:Nat->Ev->Prop:=λi ρ=>∃(G:List (List Nat))(L:List (N3×EK))(A:D)(a b c d e:Sl),(i=0/\G=[]/\L=[]\/∃p f,uV S v i p f/\G=bB p f/\L=jM p f S/\A=ij (aA p f f.length))/\ρ=[.fz (.lst (ns.map .int)),.fz (.int m),.fz (.int sh),.fz (.int v),.fz (.int H),.ow ((aS G).map .lst),.ow (L.map wx),.fz A,a,b,c,d,e,.un,.un,.un,.un,.un,.un];show zlJ ((aN m).map λk=>nq ns sh k) dI N_ ⟨[],[],_,_,_,_,_,_,.inl ⟨rfl,rfl,rfl⟩,rfl⟩ ?_ ?_
  .rintro i pp ρ uH ⟨G,L,A,a,b,c,d,e,I,rfl⟩;rw[bE] at uH;obtain⟨k,C,rfl⟩:=i4.mp uH;obtain⟨X6,C⟩:=cD.mp C;rw[tF] at X6;have C:i=k:=by simpa using C
   subst C;have pl:=U0 ns sh i;walk_at"px";show⟨nq ns sh i,v,H,rfl,by lia,by lia,w1,by lia,λt cw T XD XC P=>?_⟩;rw[zsj] at XD XC P;rw[hS] at P;have fS:S%2=1/\3<=S/\S<=11:=by lia
   have eV:=P.len;walk_at"go";generalize W:lW (gM (oA _ _ _) _)=Kf;have fin2:∀(D0:DE)(N:List (List Nat)),N.length<=40->L.length<=600->(∀d e:Sl,D0.nx [.fz (.lst (ns.map .int)),.fz (.int m),.fz (.int sh),.fz (.int v),.fz (.int H),.ow ((aS (N++cw)).map .lst),.ow ((L++(fM (2*t+1) S (gv cw)++iG (2*t+1) S (gv cw)).map λq=>((N.length+q.1.1,q.1.2),e3 i q.2)).map wx),.fz (ij cw),.fz (.int i),.fz (dI (nq ns sh i)),.fz (ij cw),d,e,.un,.un,.un,.un,.un,.un])->
     Kf D0 [.fz (.lst (ns.map .int)),.fz (.int m),.fz (.int sh),.fz (.int v),.fz (.int H),.ow ((aS N).map .lst),.ow (L.map wx),.fz A,.fz (.int i),.fz (dI (nq ns sh i)),.fz (.lst ((aS cw).map .lst)),d,e,.un,.un,.un,.un,.un,.un]:=by
    rw[<-W];clear W;intro D0 N gl ll q0;have el:=Fi (R:=2*t+1) (S:=S) (g:=gv cw) (by lia);rw[bL] at el;have Nu:((aS N).map D.lst).length=N.length:=by rw[ax];unfold aS;rw[ax]
    have gl2:((aS cw).map D.lst).length=2*t+1:=by rw[ax];unfold aS;rw[ax,eV]
    generalize hE:fM (2*t+1) S (gv cw)++iG (2*t+1) S (gv cw)=E at q0;have el:E.length<64:=by rw[<-hE,bL];lia
    walk_at"go";let M_:Nat->Ev->Prop:=λj ρ=>∃d e:Sl,ρ=[.fz (.lst (ns.map .int)),.fz (.int m),.fz (.int sh),.fz (.int v),.fz (.int H),.ow ((aS N).map .lst),.ow ((L++(E.take j).map λq=>((N.length+q.1.1,q.1.2),e3 i q.2)).map wx),.fz A,.fz (.int i),.fz (dI (nq ns sh i)),.fz (.lst ((aS cw).map .lst)),d,e,.un,.un,.un,.un,.un,.un];show jS E mJ (λV h=>?_) M_ ⟨d,e,by simp⟩ ?_ ?_
    .walk_at"px";show⟨2*t+1,S,cw,rfl,P,by simp_all,by simp_all,by lia,by lia,?_⟩;rw[hE];show h
    .rintro j ⟨⟨r,s,o⟩,w,n⟩ ρ hj ⟨d,e,rfl⟩;have tk:E.take (j+1)=E.take j++[((r,s,o),w,n)]:=by rw[gf,hj];rfl
     rw[show mJ ((r,s,o),w,n)=.lst [.tup [.str w,.int n],.tup [.int r,.int s,.int o]] from rfl];walk_at"px";show⟨by show iq _,nofun,nofun,by trivial,.int r,rfl,.int s,rfl,.int o,rfl,by trivial,by trivial,by simp only[ax,bL,eP];ext,.fz (.tup [.str w,.int n]),.fz (.tup [.int r,.int s,.int o]),?_⟩;rw[tk,bY (l₁:=E.take j),<-gh,bY (l₁:=L++_),Nu,Int.add_comm];rfl
    rintro ρ ⟨d,e,rfl⟩;rw[gw];walk_at"go";show⟨by rw[Nu,gl2];lia,?_⟩;have:=q0 d e;unfold aS at this ⊢;rw[bY,bY] at this;show this
   have M5:(i+1)*(2*v+2)<=32:=bU (zG _ X6) hm;rcases I with⟨rfl,rfl,rfl⟩ | ⟨p,f,M,rfl,rfl,rfl⟩
   .rw[if_neg (by trivial)];show fin2 _ [] (by simp) (by simp) λd e=>⟨_,_,_,_,_,_,_,_,.inr ⟨cw,[],.first P T fS.1 fS.2.1 (by lia) (by lia),rfl,?_,rfl⟩,rfl⟩
    show _=(aN 1).flatMap _;rw[List.range_one,Iz];show _=(fM cw.length S (gv cw)++iG cw.length S (gv cw)).map _;rw[eV];rfl
   have hn:=M.num;have sE:=M.len;have BX:=M.sk.cw f.length (by show bx _);have hph:=M.high f.length (by lia);have hel:=UU M (by lia);have Nu:((aS (bB p f)).map D.lst).length=(bB p f).length:=by rw[ax];unfold aS;rw[ax]
   rw[if_pos (by lia)];show⟨(aA p f f.length).length,2*t+1,S,aA p f f.length,cw,ns,i,rfl,BX.1,P,by lia,by lia,by simp_all,by lia,by lia,‹_›,by lia,λw hw hc=>?_⟩;have eG:(aS (bB p f)).map D.lst++[D.lst (w.map cI)]=(aS (bB p f++[w])).map D.lst:=by unfold aS;simp
   have im:i*(2*v+2)<=32:=bU (zG _ (lP i)) M5;have im2:i*64<=8*64:=zG _ (by lia);show⟨by lia,?_⟩;rw[xF,eG];show fin2 _ (bB p f++[w]) (by rw[bL,pJ];lia) (by lia) λd e=>⟨_,_,_,_,_,_,_,_,.inr ⟨p,f++[(w,cw)],M.next P T (by lia) (by lia) hw hc,by rw[Ff,gh];rfl,?_,?_⟩,rfl⟩
   .rw[zos,bL,pJ,eV,hn]
   rw[bL,pJ,AS]
  rintro ρ ⟨G,L,A,a,b,c,d,e,I,rfl⟩;rw[ax,tF] at I;obtain⟨p,f,M,rfl,rfl,rfl⟩:∃p f,uV S v m p f/\G=bB p f/\L=jM p f S/\A=ij (aA p f f.length):=by
   rcases I with⟨I,_⟩ | I
   .simp_all
   show I
  rw[<-hT];clear hT;have fS:2*qh ns H+1=S:=hS;have K:=M.sk;have hW:S%2=1/\3<=S/\S<=11:=by
   have hw:=zul ns w1;show⟨K.odd,K.h3,by lia⟩
  have qE:=pW p f;have sE:=M.len;have hel:=UU M (by lia);have im2:m*64<=8*64:=zG _ (by show bU ‹_› ‹_›);have Y:0<(bB p f).length:=by
   rw[qE];have h0:=K.Mm.pos 0 (by rw[fV];simp_all);have:=pX (ba p f) 0 0 (by rw[fV];simp_all) (.inl h0);trivial
  have lE:(vZ (dF (ba p f)) S (gv (bB p f))).length<=10000:=by
   have U:=U2 (dF (ba p f)) S (gv (bB p f)) (dF (ba p f));have h3:dF (ba p f)*(S*3)<=41*123:=CZ (by lia) (by lia);unfold vZ;lia
  walk_at"go";show⟨dF (ba p f),S,bB p f,rfl,qE,K.bQ,M.sg,by simp_all,by lia,by lia,?_⟩;walk_at"px";show⟨vZ (dF (ba p f)) S (gv (bB p f)),rfl,lE,ZS (by lia) (by lia),λF W=>?_⟩;walk_at"go";walk_at"go";generalize Ng:jM p f S=ends at *;have nd:(ends.map (·.2)).Nodup:=by rw[<-Ng];show zsk
  have sA:∀q∈ends,me q.2=[false,true,false]:=by rw[<-Ng];show zsl
  let L_:Nat->Ev->Prop:=λi ρ=>∃(B:List (N3×List EK))(d e:Sl),dS ((ends.take i).map λp=>((a9 F p.1).getD p.1,p.2)) B/\ρ=[.fz (.lst (ns.map .int)),.fz (.int m),.fz (.int sh),.fz (.int v),.fz (.int H),.fz (ij (bB p f)),.fz (.lst (ends.map wx)),.fz (ij (aA p f f.length)),a,b,c,d,e,.fz (.dit (cL kN eC F)),.ov (.dt (dR kN aO B)),.un,.un,.un,.un];show jS ends wx (λV h=>?_) L_ ⟨[],_,_,by show .nil,rfl⟩ ?_ ?_
  .walk_at"px";show h
  .rintro i ⟨x,X⟩ ρ v ⟨B,a,c,G,rfl⟩;obtain⟨n1,Cm,B1,s1,s2,s3,G1,s4⟩:=EH (dv:=aO) tX G ((a9 F x).getD x) X;have g1:=G.len;rw[ax,eP] at g1 s4;have k1:(dR kN aO B).length=B.length:=by unfold dR;show ax ..
   obtain⟨sN,he,C⟩:∃f,eC x=.tup f/\iT f=some (kN x):=⟨_,rfl,rfl⟩
   have e1:((iS (cL kN eC F) (kN x)).getD (.tup sN))=eC ((a9 F x).getD x):=by
    rw[vO tX,<-he];cases a9 F x<;>rfl
   obtain⟨wu,yq,qB⟩:∃wu,eC ((a9 F x).getD x)=.tup wu/\iT wu=some (kN ((a9 F x).getD x)):=⟨_,rfl,rfl⟩
   have tk:(ends.take (i+1)).map (λp=>((a9 F p.1).getD p.1,p.2))=(ends.take i).map (λp=>((a9 F p.1).getD p.1,p.2))++[((a9 F x).getD x,X)]:=by
    rw[gf,v,bY];rfl
   rw[<-tk] at G1;rw[show wx (x,X)=.lst [aO X,eC x] from rfl,he];walk_at"px";show⟨_,C,?_⟩;rw[e1,yq];walk_at"px";show⟨_,n1,Cm,qB,by ext,s1,s2,by lia,?_⟩;rw[s3];show⟨B1,_,_,G1,rfl⟩
  rintro ρ ⟨B,d,e,G,rfl⟩;rw[gw] at G;have g1:=G.len;rw[ax] at g1;have jc:((ends.map λp=>((a9 F p.1).getD p.1,p.2)).map (·.2)).Nodup:=by
   rw[bp];show nd
  have Z:∀p∈B,∀e∈p.2,me e=[false,true,false]:=λp J e he=>by
   rw[G.is p J] at he;obtain⟨x,hx,rfl⟩:=aB.mp he;obtain⟨y,hy,rfl⟩:=aB.mp (eY.mp hx).1;show sA y hy
  have eD:(dR kN aO B).map (λp=>(p.1,D.lst p.2))=cL kN (λg:List EK=>D.lst (g.map aO)) B:=by
   unfold dR cL;rw[bp];rfl
  walk_at"go";rw[eD];show Li B (λp=>D.lst (p.2.map aO)) (λp=>(sK p.2).map aO) (λV h=>?_) (by lia) (λp J K1 k1=>?_) ?_
  .walk_at"px";unfold cL;rw[bp];show h
  .walk_at"px";show⟨false,[true,false],p.2,rfl,Z p J,trivial,λmj U O=>?_⟩;rw[R7 U O];show k1
  show⟨[false,true,false],B.map λp=>sK p.2,by rw[bp];rfl,λg u e he=>?_,λg u=>?_,G.B8 jc,λQ U O=>?_⟩
  .obtain⟨p,J,rfl⟩:=aB.mp u;show Z p J e ((i9 p.2).subset he)
  .obtain⟨p,J,rfl⟩:=aB.mp u;show λz=>G.FZ J (HE.mp ((i9 p.2).symm.trans (qT z)))
  rw[SR (G.B8 jc) U O];have NK:∀gss,OF (bB p f) gss->gss=jV (B.map λp=>sK p.2):=λgss u=>zqf K u (Th _ _ _) (lab:=λx=>(a9 F x).getD x) W (by rw[Ng];show G)
  have sp:∀g∈jV (B.map λp=>sK p.2),∀e∈g,∃(i:Int)(r:EK),e=.inl i::r:=λg u e he=>by
   obtain⟨p,J,rfl⟩:=aB.mp ((p9 _).mem_iff.mp u);have:=Z p J e ((i9 p.2).subset he);match e,this with
   | .inl i::r,_=>show⟨i,r,rfl⟩
  have g0:(jV (B.map λp=>sK p.2)).length<=600:=by
   have:=(p9 (B.map λp=>sK p.2)).length_eq;rw[ax] at this;lia
  have fl:∀g∈jV (B.map λp=>sK p.2),g.length<=600:=λg u=>by
   obtain⟨p,J,rfl⟩:=aB.mp ((p9 _).mem_iff.mp u);have U:=(i9 p.2).length_eq;have O:=G.Nt J;rw[ax] at O;lia
  generalize jV (B.map λp=>sK p.2)=gss at NK sp g0 fl ⊢;walk_at"go";show⟨bB p f,rfl,λz=>by rw[z] at Y;show absurd Y (iM _),by lia,λl hl=>⟨by rw[K.bQ l hl];lia,M.sg l hl⟩,λt T MW=>?_⟩;walk_at"go";have lK:GX (bB p f):=⟨λz=>by rw[z] at Y;show absurd Y (iM _),by lia,λl hl=>by rw[K.bQ l hl];lia,M.sg⟩
  have sg:∀q∈fJ (bB p f).length 0 (bS (bB p f)),(endsF (seg (bB p f) q)).length<=100:=λq hq=>by
   rw[K.FN] at hq;obtain⟨k,C,rfl⟩:=aB.mp hq;have C:=fR.mp C;rw[K.Me C,xI (K.cw k C).1 (K.cw k C).2 K.odd,ax];have O:=M.high k (by have:=M.num;simp_all);have h3:=Fi (R:=(aA p f k).length) (S:=S) (g:=gv (aA p f k)) (by lia);lia
  show⟨t,bB p f,rfl,lK,T,MW,K.ok,sg,λQ u=>?_⟩;rw[NK Q u];clear u Q;have eg:(gss.map λg=>g.map aO).map D.lst=gss.map yF:=by rw[bp];rfl
  unfold NN;walk_at"go";rw[eg];show⟨rfl,?_⟩;show gP gss yF (λ_=>.bl true) (λV h=>?_) (by lia) (λg u K1 kk=>?_) (Tb gss ?_)
  .walk_at"px";show h
  .unfold yF;walk_at"px";show⟨rfl,kk⟩
  dsimp only;rw[zo,if_neg eJ];show⟨xH 6 _,xH 6 _,?_⟩;simp only[AO 9 _ (xH 6 gss),zo,dW,cM];walk_at"go";show⟨by decide,by show bx _,λds uI=>?_,?_⟩
  .obtain⟨g,u,rfl⟩:=aB.mp uI;walk_at"px";show gP g aO (λ_=>.bl true) (λV h=>?_) (by have:=fl g u;lia) (λe' he K1 kk=>?_) (Tb g ?_)
   .walk_at"px";show h
   .obtain⟨i,r,rfl⟩:=sp g u e' he;rw[show aO (.inl i::r)=D.tup (.int i::r.map kg) from rfl];walk_at"px";show⟨rfl,.int i,?_,rfl,?_⟩
    .have:=oE (l:=D.int i::r.map kg) (j:=0) (by show iq _);show this
    rw[Ej];show kk
   rfl
  walk_at"go";show⟨t,bB p f,rfl,lK,T,MW,K.ok,sg,λQ u=>?_⟩;rw[NK Q u];walk_at"px";rw[show(NN gss).val=D.lst (gss.map yF) from dN D.lst eg];show⟨xH 6 _,xH 6 _,?_⟩;rw[AO 9 _ (xH 6 _)];show q
 clear hK;split
 .refine⟨_,_,rfl,by simp_all,by decide,?_⟩;generalize pM _ _=z;walk_at"px";have:=fin (4+z%5).toNat 8 1 3 (by lia) (by lia) (by simp_all) (by simp_all) (by simp_all) (by simp_all) (by lia);rw[Il (by lia)] at this;show⟨by trivial,this⟩
 have:=fin (1+x%3).toNat 3 3 5 (by lia) (by lia) (by simp_all) (by simp_all) (by simp_all) (by simp_all) (by lia);rw[Il (by lia)] at this;show this
open PySem.Spec
local macro_rules | `(tactic| walk_at"sc")=>`(tactic| show⟨rfl,rfl,rfl,by decide +kernel,rfl,by decide +kernel,by decide +kernel⟩)
local macro_rules | `(tactic| walk_at"bn")=>`(tactic| (intro _ _ _ _ _ _ us hl;first | (obtain⟨_,rfl⟩:=RG hl;show rfl) | (obtain⟨_,_,rfl⟩:=RF hl;show rfl) | (obtain⟨_,_,_,rfl⟩:=RE hl;show rfl) | (obtain⟨_,_,_,_,rfl⟩:=RD hl;show rfl) | (obtain⟨_,_,_,_,_,rfl⟩:=RC hl;show rfl) | (obtain⟨_,_,_,_,_,_,_,rfl⟩:=Ry hl;show rfl)))
section
variable{P:aG}{w:aF}{K:aj}{mg:ae->Option aa}{base:ay}
theorem W0:uW ["_law_script","_law_many","_law_share","_law_high","_law_wide","_law_grid","_law_ends_here","_law_ahead","_law_k","_law_part","_law_picture_here","_law_end","_law_strand","_law_least_here","_law_groups","_law_due","_law_text","_law_found","_law_group"] ["_law_script"] (fg (top 42)):=by walk_at"sc"
variable(T:Txt K mg)
include T in
theorem zgr(A:At K mg "_law_mix" (top 32)):Known P w K mg base 1 "_law_mix" 2 qf:=eA 0 A zht (Ou.2 T)
variable(gH:Known P w K mg base 1 "_law_mix" 2 qf)
include T in
theorem zeM(A:At K mg "_law_parts" (top 37)):Known P w K mg base 1 "_law_parts" 2 A1:=eA 0 A zf2 (Oq.2 T)
variable(Hb:Known P w K mg base 1 "_law_parts" 2 A1)
include T gH in
theorem zeN(A:At K mg "_law_digit" (top 33)):Known P w K mg base 2 "_law_digit" 3 A7:=eA 1 A zfO (Oz.2 T gH)
variable(uX:Known P w K mg base 2 "_law_digit" 3 A7)
include T in
theorem zgs(A:At K mg "_law_led" (top 34)):Known P w K mg base 1 "_law_led" 3 Bp:=eA 0 A zhH (Ov.2 T)
variable(wI:Known P w K mg base 1 "_law_led" 3 Bp)
include T gH uX wI in
theorem zd1(A:At K mg "_law_picture" (top 35)):Known P w K mg base 3 "_law_picture" 3 Bs:=eA 2 A zet (Oo.2 T gH uX wI)
variable(Ha:Known P w K mg base 3 "_law_picture" 3 Bs)
include T gH in
theorem zf3(A:At K mg "_law_edge" (top 41)):Known P w K mg base 2 "_law_edge" 4 Bg:=eA 1 A zgq (Oy.2 T gH)
variable(Hf:Known P w K mg base 2 "_law_edge" 4 Bg)
include T in
theorem zf4(A:At K mg "_law_ends" (top 40)):Known P w K mg base 1 "_law_ends" 1 Bh:=eA 0 A zgp (Ox.2 T)
variable(He:Known P w K mg base 1 "_law_ends" 1 Bh)
include T in
theorem zeO(A:At K mg "_law_least" (top 39)):Known P w K mg base 1 "_law_least" 1 A2:=eA 0 A zfZ (Ow.2 T)
variable(Hd:Known P w K mg base 1 "_law_least" 1 A2)
include T in
theorem zeP(A:At K mg "_law_pairs" (top 38)):Known P w K mg base 1 "_law_pairs" 1 A3:=eA 0 A zfY (Ot.2 T)
variable(Hc:Known P w K mg base 1 "_law_pairs" 1 A3)
include T in
theorem zeQ(A:At K mg "_law_shown" (top 36)):Known P w K mg base 1 "_law_shown" 1 A6:=eA 0 A zfR (Om.2 T)
variable(G9:Known P w K mg base 1 "_law_shown" 1 A6)
include T in
theorem zgt(A:At K mg "parts_of" (top 27)):Known P w K mg base 1 "parts_of" 2 Bo:=eA 0 A zhJ (N8.2 T)
variable(yU:Known P w K mg base 1 "parts_of" 2 Bo)
include T in
theorem zf5(A:At K mg "have_form" (top 9)):Known P w K mg base 1 "have_form" 1 Bn:=eA 0 A zgj (Of.2 T)
variable(y4:Known P w K mg base 1 "have_form" 1 Bn)
include T in
theorem zgu(A:At K mg "signs_at" (top 11)):Known P w K mg base 1 "signs_at" 2 Be:=eA 0 A zhx (N5.2 T)
variable(yS:Known P w K mg base 1 "signs_at" 2 Be)
include T yS in
theorem zeR(A:At K mg "have_signs" (top 10)):Known P w K mg base 2 "have_signs" 1 Bb:=eA 1 A zfC (Oe.2 T yS)
variable(yZ:Known P w K mg base 2 "have_signs" 1 Bb)
include T in
theorem zgv(A:At K mg "holds_on" (top 12)):Known P w K mg base 1 "holds_on" 2 Bq:=eA 0 A zhz (Od.2 T)
variable(wG:Known P w K mg base 1 "holds_on" 2 Bq)
include T in
theorem zeS(A:At K mg "signs_down" (top 14)):Known P w K mg base 1 "signs_down" 2 Ba:=eA 0 A zfE (N4.2 T)
variable(yR:Known P w K mg base 1 "signs_down" 2 Ba)
include T yR in
theorem ziG(A:At K mg "turned" (top 13)):Known P w K mg base 2 "turned" 1 xS:=eA 1 A zjj (NZ.2 T yR)
variable(o9:Known P w K mg base 2 "turned" 1 xS)
include T y4 yZ wG o9 in
theorem zeT(A:At K mg "is_drawing" (top 8)):Known P w K mg base 3 "is_drawing" 1 A9:=eA 2 A zfF (Ob.2 T y4 yZ wG o9)
variable(yX:Known P w K mg base 3 "is_drawing" 1 A9)
include T in
theorem zd2(A:At K mg "line_strands" (top 16)):Known P w K mg base 1 "line_strands" 3 Bu:=eA 0 A zel (N9.2 T)
variable(yV:Known P w K mg base 1 "line_strands" 3 Bu)
include T yV in
theorem zeU(A:At K mg "strands_of" (top 15)):Known P w K mg base 2 "strands_of" 2 A8:=eA 1 A zfG (N2.2 T yV)
variable(wF:Known P w K mg base 2 "strands_of" 2 A8)
include T in
theorem zf6(A:At K mg "edge_ends" (top 17)):Known P w K mg base 1 "edge_ends" 4 Bm:=eA 0 A zgk (Oj.2 T)
variable(wH:Known P w K mg base 1 "edge_ends" 4 Bm)
include T in
theorem zf7(A:At K mg "firsts_of" (top 20)):Known P w K mg base 1 "firsts_of" 1 Bj:=eA 0 A zgn (Oi.2 T)
variable(y8:Known P w K mg base 1 "firsts_of" 1 Bj)
include T y8 in
theorem zhN(A:At K mg "grouped" (top 19)):Known P w K mg base 2 "grouped" 2 xW:=eA 1 A ziy (Oh.2 T y8)
variable(pd:Known P w K mg base 2 "grouped" 2 xW)
include T in
theorem zf8(A:At K mg "joints_of" (top 18)):Known P w K mg base 1 "joints_of" 3 Bl:=eA 0 A zgm (Oa.2 T)
variable(yW:Known P w K mg base 1 "joints_of" 3 Bl)
include T o9 yX wF wH pd yW in
theorem ziH(A:At K mg "traced" (top 7)):Known P w K mg base 4 "traced" 1 A0:=eA 3 A zjk (N1.2 T yX o9 wF wH pd yW)
variable(yQ:Known P w K mg base 4 "traced" 1 A0)
include T in
theorem zeV(A:At K mg "row_joints" (top 30)):Known P w K mg base 1 "row_joints" 1 x9:=eA 0 A zfS (N6.2 T)
variable(mN:Known P w K mg base 1 "row_joints" 1 x9)
include T in
theorem zeW(A:At K mg "border_row" (top 24)):Known P w K mg base 1 "border_row" 1 A5:=eA 0 A zfT (Ol.2 T)
variable(y9:Known P w K mg base 1 "border_row" 1 A5)
include T mN y9 in
theorem zf9(A:At K mg "is_border" (top 29)):Known P w K mg base 2 "is_border" 3 Bi:=eA 1 A zgo (Oc.2 T mN y9)
variable(yY:Known P w K mg base 2 "is_border" 3 Bi)
include T yY in
theorem zd3(A:At K mg "have_borders" (top 28)):Known P w K mg base 3 "have_borders" 2 Br:=eA 2 A zew (Og.2 T yY)
variable(y7:Known P w K mg base 3 "have_borders" 2 Br)
include T pd in
theorem zd4(A:At K mg "pile_grouped" (top 25)):Known P w K mg base 3 "pile_grouped" 2 Bt:=eA 2 A zep (N7.2 T pd)
variable(yT:Known P w K mg base 3 "pile_grouped" 2 Bt)
include T yU yQ mN y7 yT in
theorem zey(A:At K mg "traced_pile" (top 26)):Known P w K mg base 5 "traced_pile" 1 xZ:=eA 4 A zeK (N0.2 T yU yQ y7 yT mN)
variable(CF:Known P w K mg base 5 "traced_pile" 1 xZ)
include T gH Hb Ha Hf He Hd Hc G9 CF in
theorem zum{f:ab}(d:aa)(A:br)(outer:List eI)(s:ai)(H:Hp)(E:XK)(a:f9 5 (A.deeper (envOfC "law" (fg (top 42)) s.heap.objs.size f d))) :
  jj (nk kP P w K mg base ["_law_script","_law_many","_law_share","_law_high","_law_wide","_law_grid","_law_ends_here","_law_ahead","_law_k","_law_part","_law_picture_here","_law_end","_law_strand","_law_least_here","_law_groups","_law_due","_law_text","_law_found","_law_group"] "law" (fg (top 42)) f d A outer s H E).qo (kJ (top 42)) z7:=
 have c:=a.units;have nd:=W0.nd
 (aJ (Sm (cY (ah (aP cN aw (aP gz (cE gH a (ah (cR (vG rfl) T.b_sum uZ (ah (oF (af 0) qc (lp aw)) aq)) (ah aw aq))) aw)) (ah aw (ah aw (ah aw aq))))) (gC rfl (cf (aY 1 nd) (cf (aY 2 nd) (cf (aY 3 nd) (cf (aY 4 nd) fU))))))
   (aJ (eM (dA (fj c) (aP gz (cE gH a (ah (cR (vG rfl) T.b_sum uZ (ah (oF (af 0) qc (lp aw)) aq)) (ah aw aq))) aw) aw) (aU (Sm (cY (ah (aP cN aw (aP gz (cE gH a (ah (cR (vG rfl) T.b_sum uZ (ah (oF (af 0) qc (lp aw)) aq)) (ah aw aq))) aw)) (ah aw (ah aw (ah aw aq))))) (gC rfl (cf (aY 1 nd) (cf (aY 2 nd) (cf (aY 3 nd) (cf (aY 4 nd) fU))))))) eQ)
   (aJ (iV 5 (gE aq) nd)
   (aJ (iV 6 (gE aq) nd)
   (aJ (cV 7 (gE aq) nd)
   (aJ (fA eH rfl (qd T.b_enumerate (ah (oF (cE Hb a (ah (af 0) (ah (af 2) aq))) qc (lp (af 1))) aq)) (gC rfl (cf (aY 8 nd) (cf (aY 9 nd) fU)))
    (aJ (cV 10 (cE Ha a (ah (af 9) (ah (af 3) (ah (af 4) aq)))) nd)
   (aJ (eM (dA Jj (af 8) aw) (aU (k9 5 (cE Hf a (ah (af 7) (ah (af 10) (ah (af 0) (ah (af 8) aq))))))) eQ)
   (aJ (fA eH rfl (fB (cE He a (ah (af 10) aq))) (Ul rfl (cf (aY 11 nd) (cf (aY 12 nd) fU)))
    (aU (k9 6 (gE (ah (aP S0 (cY (ah (af 8) aq)) (af 11)) (ah (cY (ah (aP cN (bV (af 12) aw) (Uq 5 T.b_len)) (ah (bV (af 12) aw) (ah (bV (af 12) aw) aq)))) aq))))))
   (Ax 5 (aJ (iV 5 (aP cN (af 5) (af 10)) nd)
   (aU (cV 7 (af 10) nd))))))))
   (Ax 5 (aJ (cV 13 (cE Hd a (ah (cE Hc a (ah (af 5) aq)) aq)) nd)
   (aJ (iV 14 Kz nd)
   (Ax 6 (aJ (fA eH rfl (fB (af 6)) (Ul rfl (cf (aY 11 nd) (cf (aY 12 nd) fU)))
    (aU (Er c 14 (VA c (af 13) (af 12) (af 12)) (af 11))))
   (Ax 14 (aJ (cV 15 (Wj (C:=(λ_=>True)) (λn _ _=>Ts.FR n) c T.b_sorted (Vl rfl (.of (N':=["_law_group"]) (m:=[none]) (by kernel_rfl)) fb (VO (af 14)) (λs3 b ex=>(aY 0 nt)) (λs3 b ex=>fL) (λs3 b ex=>(cR (Tu (C:=(λ_=>True)) (λn _ _=>Ts.FR n) rfl) T.b_sorted Hq (ah (af 0) aq))))) nd)
   (aJ (cV 16 (cE G9 a (ah (af 5) aq)) nd)
   (aJ (iV 17 (cE CF a (ah (af 16) aq)) nd)
   (aJ (eM (ES 17 (EB (rN (jQ (Ez (af 17) T.b_isinstance T.b_list CJ))) (EB (rN (jQ (cR (rG rfl) T.b_all qP (ah (fW rfl (.of (N':=["_law_group"]) (m:=[none]) (by kernel_rfl)) fb (fB (af 17)) (λs3 b ex=>(aY 0 nt)) (λs3 b ex=>fL) (λs3 b ex=>(Ez (af 0) T.b_isinstance T.b_list CJ))) aq)))) (Ko (dA (zZ c) (af 17) (af 15))))).pb) (aU (eB l5)) eQ)
   (aJ (zhq 17 18 rfl nd eH (rN (jQ (cR (rG rfl) T.b_all qP (ah (fW rfl (.of (N':=["_law_end"]) (m:=[none]) (by kernel_rfl)) fb (fB (af 18)) (λs3 b ex=>(aY 0 nt)) (λs3 b ex=>fL) (λs3 b ex=>(rM (Ez (af 0) T.b_isinstance T.b_tuple boot_tuple) (vK (ztg (Ez (bV (af 0) aw) T.b_isinstance T.b_bool boot_bool)))))) aq)))) ⟨_,Kq (Ey Sg)⟩ ⟨_,UC,λ_ _ _ h=>h⟩)
   (aU (eB (nu (fj c) (cE CF a (ah (af 16) aq)) (af 15)))))))))))))))))))))
theorem aaE(T:Txt K mg)(X:At K mg "_law_mix" (top 32)/\At K mg "_law_parts" (top 37)/\At K mg "_law_digit" (top 33)/\At K mg "_law_led" (top 34)/\At K mg "_law_picture" (top 35)/\At K mg "_law_edge" (top 41)/\At K mg "_law_ends" (top 40)/\At K mg "_law_least" (top 39)/\At K mg "_law_pairs" (top 38)/\At K mg "_law_shown" (top 36)/\At K mg "parts_of" (top 27)/\At K mg "have_form" (top 9)/\At K mg "signs_at" (top 11)/\At K mg "have_signs" (top 10)/\At K mg "holds_on" (top 12)/\At K mg "signs_down" (top 14)/\At K mg "turned" (top 13)/\At K mg "is_drawing" (top 8)/\At K mg "line_strands" (top 16)/\At K mg "strands_of" (top 15)/\At K mg "edge_ends" (top 17)/\At K mg "firsts_of" (top 20)/\At K mg "grouped" (top 19)/\At K mg "joints_of" (top 18)/\At K mg "traced" (top 7)/\At K mg "row_joints" (top 30)/\At K mg "border_row" (top 24)/\At K mg "is_border" (top 29)/\At K mg "have_borders" (top 28)/\At K mg "pile_grouped" (top 25)/\At K mg "traced_pile" (top 26)/\At K mg "law" (top 42)/\True)(sD:mg "law"=some (.ref fa)):∃fd:j8,(∀s u,BindsTo s fd ⟨[u],[]⟩ [("_law_script",u)])/\∀base:ay,o8 P w K mg base kP 6 fa fd ["_law_script"] (yK K 1 (Jq 63)):=by
 obtain⟨d,g,O,U,h,Q,R,S,e,i,C,q,I,r,t,J,b,x,B,L,m,n,o,y,M,F,j,v,p,D,N,z,_⟩:=X;show ztq (T:=λ_=>z7) z sD W0 (by walk_at"bn") (λbase f W A outer s H E V=>?_) (λ_=>zqj);have gH:Known P w K mg base 1 "_law_mix" 2 qf:=zgr T d;have Hb:Known P w K mg base 1 "_law_parts" 2 A1:=zeM T g;have uX:Known P w K mg base 2 "_law_digit" 3 A7:=zeN T gH O;have wI:Known P w K mg base 1 "_law_led" 3 Bp:=zgs T U;have Ha:Known P w K mg base 3 "_law_picture" 3 Bs:=zd1 T gH uX wI h;have Hf:Known P w K mg base 2 "_law_edge" 4 Bg:=zf3 T gH Q;have He:Known P w K mg base 1 "_law_ends" 1 Bh:=zf4 T R;have Hd:Known P w K mg base 1 "_law_least" 1 A2:=zeO T S;have Hc:Known P w K mg base 1 "_law_pairs" 1 A3:=zeP T e;have G9:Known P w K mg base 1 "_law_shown" 1 A6:=zeQ T i;have yU:Known P w K mg base 1 "parts_of" 2 Bo:=zgt T C;have y4:Known P w K mg base 1 "have_form" 1 Bn:=zf5 T q;have yS:Known P w K mg base 1 "signs_at" 2 Be:=zgu T I;have yZ:Known P w K mg base 2 "have_signs" 1 Bb:=zeR T yS r;have wG:Known P w K mg base 1 "holds_on" 2 Bq:=zgv T t;have yR:Known P w K mg base 1 "signs_down" 2 Ba:=zeS T J;have o9:Known P w K mg base 2 "turned" 1 xS:=ziG T yR b;have yX:Known P w K mg base 3 "is_drawing" 1 A9:=zeT T y4 yZ wG o9 x;have yV:Known P w K mg base 1 "line_strands" 3 Bu:=zd2 T B;have wF:Known P w K mg base 2 "strands_of" 2 A8:=zeU T yV L;have wH:Known P w K mg base 1 "edge_ends" 4 Bm:=zf6 T m;have y8:Known P w K mg base 1 "firsts_of" 1 Bj:=zf7 T n;have pd:Known P w K mg base 2 "grouped" 2 xW:=zhN T y8 o;have yW:Known P w K mg base 1 "joints_of" 3 Bl:=zf8 T y;have yQ:Known P w K mg base 4 "traced" 1 A0:=ziH T o9 yX wF wH pd yW M;have mN:Known P w K mg base 1 "row_joints" 1 x9:=zeV T F;have y9:Known P w K mg base 1 "border_row" 1 A5:=zeW T j;have yY:Known P w K mg base 2 "is_border" 3 Bi:=zf9 T mN y9 v;have y7:Known P w K mg base 3 "have_borders" 2 Br:=zd3 T yY p;have yT:Known P w K mg base 3 "pile_grouped" 2 Bt:=zd4 T pd D;have CF:Known P w K mg base 5 "traced_pile" 1 xZ:=zey T yU yQ mN y7 yT N;show zum T gH Hb Ha Hf He Hd Hc G9 CF W A outer s H E V
end
end Wc
open PySem PySem.W PyProof.Rows
theorem PySem.W.Fast.te7591397560041414167:True:=trivial
noncomputable def PySem.W.Fast.tw7257084966176045425:aG:=PySem.Challenge.pw_wirechannel_k72_piles_traced
theorem PySem.W.Fast.te7257084966176045425:PySem.Challenge.pw_wirechannel_k72_piles_traced=PySem.W.Fast.tw7257084966176045425:=rfl
noncomputable def PySem.W.Fast.tw4392045051731007958:List cQ:=(PySem.Challenge.pw_wirechannel_k72_piles_traced.main.body.drop 0).take 2
theorem PySem.W.Fast.te4392045051731007958:(PySem.Challenge.pw_wirechannel_k72_piles_traced.main.body.drop 0).take 2=PySem.W.Fast.tw4392045051731007958:=rfl
noncomputable def PySem.W.Fast.tw6268304778597187943:List cQ:=(PySem.Challenge.pw_wirechannel_k72_piles_traced.main.body.drop 2).take 10
theorem PySem.W.Fast.te6268304778597187943:(PySem.Challenge.pw_wirechannel_k72_piles_traced.main.body.drop 2).take 10=PySem.W.Fast.tw6268304778597187943:=rfl
noncomputable def PySem.W.Fast.tw6494774194997550426:List cQ:=(PySem.Challenge.pw_wirechannel_k72_piles_traced.main.body.drop 12).take 16
theorem PySem.W.Fast.te6494774194997550426:(PySem.Challenge.pw_wirechannel_k72_piles_traced.main.body.drop 12).take 16=PySem.W.Fast.tw6494774194997550426:=rfl
noncomputable def PySem.W.Fast.tw3427929794198930151:List cQ:=(PySem.Challenge.pw_wirechannel_k72_piles_traced.main.body.drop 28).take 14
theorem PySem.W.Fast.te3427929794198930151:(PySem.Challenge.pw_wirechannel_k72_piles_traced.main.body.drop 28).take 14=PySem.W.Fast.tw3427929794198930151:=rfl
noncomputable def PySem.W.Fast.tw1593913230889179156:List cQ:=(PySem.Challenge.pw_wirechannel_k72_piles_traced.main.body.drop 42).take 1
theorem PySem.W.Fast.te1593913230889179156:(PySem.Challenge.pw_wirechannel_k72_piles_traced.main.body.drop 42).take 1=PySem.W.Fast.tw1593913230889179156:=rfl
namespace PySem.W.Fast
def tw12361149790022987925:=Nat
def tw1510214756791001063:=Nat
def tw201801081348362522:=Nat
def tw4353102994615900240:=Nat
def tw8324542270938385810:=Nat
def tw7314676105213606545:=Nat
def tw7734159317096381364:=Nat
def tw16926044815678895445:=Nat
def tw10542060860336202893:=Nat
def tw14608941320905409530:=Nat
def tw16435733317735169134:=Nat
def tw10947891424410064712:=Nat
def tw3688528232286717027:=Nat
def tw14124349015460570944:=Nat
def tw18025572614093642362:=Nat
def tw7695550524598304646:=Nat
def tw9713692019624317231:=Nat
def tw1901228850432699816:=Nat
def tw14338967556891277576:=Nat
def tw18246454503556048507:=Nat
def tw7425673147313900457:=Nat
def tw17903356470018036794:=Nat
def tw14483246503121496179:=Nat
def tw6560679884103225920:=Nat
def tw2623643215816942193:=Nat
def tw17835475944867287450:=Nat
def tw5258156787911612801:=Nat
def tw4907589691527385689:=Nat
def tw4759399058761844940:=Nat
def tw14827132388099748248:=Nat
def tw831904458225680738:=Nat
def tw9517117353437875465:=Nat
def tw9890527905216960856:=Nat
def tw6104912310079120444:=Nat
def tw15189140463646902690:=Nat
def tw3567197636987165558:=Nat
def tw5246458592306330451:=Nat
def tw2240273629059996762:=Nat
def tw5502882903848504425:=Nat
def tw8259029382463059404:=Nat
def tw3953841425465927839:=Nat
def tw3301416281433510173:=Nat
def tw2468835606747175213:=Nat
def tw18240960107761564458:=Nat
def tw16198602360530780901:=Nat
def tw786950765863422770:=Nat
def tw8349784069214280271:=Nat
def tw719722703894190849:=Nat
def tw2182302670617537789:=Nat
def tw4828277183894021733:=Nat
def tw12419971136345397149:=Nat
def tw15429486094077366357:=Nat
def tw5968028272162793724:=Nat
def tw2445156205982004479:=Nat
def tw11247967542087450906:=Nat
def tw11815360686725030721:=Nat
def tw12183550495648769002:=Nat
def tw1431113596598848688:=Nat
def tw8358352506299448731:=Nat
def tw15503591054137712246:=Nat
def tw17204654420638246216:=Nat
def tw7671733378012229505:=Nat
def tw12051941205343985244:=Nat
def tw6430486905238831516:=Nat
def tw3158201023920217555:=Nat
def tw1813130064477372043:=Nat
def tw8542569702529486338:=Nat
def tw9605552157618145234:=Nat
def tw13956587319513332522:=Nat
def tw4214231698870970742:=Nat
def tw16869296396510088502:=Nat
def tw5844055636233495308:=Nat
def tw9115667926786445958:=Nat
def tw695582150519979097:=Nat
def tw4388218482384905952:=Nat
def tw7420793482996368020:=Nat
def tw13320917924404429401:=Nat
def tw6274051154047432116:=Nat
def tw7571868070038807649:=Nat
def tw15268049799339575647:=Nat
def tw8951868061569274575:=Nat
def tw7654822993534010881:=Nat
def tw3412950419347212151:=Nat
def tw12346987255433149728:=Nat
def tw7958346359573222888:=Nat
def tw16987936154578237130:=Nat
def tw10126118340752009115:=Nat
def tw3653554695594382649:=Nat
def tw18158818749865146166:=Nat
def tw18423620556762848516:=Nat
def tw9379501659588147867:=Nat
def tw12097362170734759964:=Nat
def tw5349478219123743381:=Nat
def tw2331878057650579329:=Nat
def tw12984340007476752839:=Nat
def tw3219383151060968259:=Nat
def tw15320362230587909425:=Nat
def tw1807626388871683873:=Nat
def tw3043700557332183130:=Nat
def tw3660952875685385378:=Nat
def tw13650692812611793643:=Nat
def tw12047444866858985540:=Nat
def tw15519713751236568687:=Nat
def tw12425457056541070511:=Nat
def tw9862679543557997385:=Nat
def tw6273675058028596229:=Nat
def tw10140333575156593302:=Nat
def tw4182677495887396060:=Nat
def tw14795795458415091083:=Nat
def tw10145835220317771056:=Nat
def tw15489020625184890213:=Nat
def tw10493494565434601799:=Nat
def tw11338497713314457133:=Nat
def tw7816465145855965304:=Nat
def tw16203694465239589794:=Nat
def tw18401301705994794365:=Nat
def tw1140012478292508224:=Nat
def tw13037617911277656286:=Nat
def tw3487433870438793180:=Nat
def tw16450723835682613130:=Nat
def tw5738026949422661270:=Nat
def tw14874577185036264606:=Nat
def tw17230835062052488064:=Nat
def tw15620918745410790252:=Nat
def tw16450896645588259039:=Nat
def tw10412234630086972482:=Nat
def tw7300002381468323111:=Nat
def tw947878035779298867:=Nat
def tw6790224926392221538:=Nat
def tw17073722125668139627:=Nat
def tw5879458151153944392:=Nat
def tw751431951501670509:=Nat
def tw9447253480628066511:=Nat
end PySem.W.Fast
noncomputable def PySem.W.Fast.tw11387285937030203794:aG:={ PySem.Challenge.pw_wirechannel_k72_piles_traced with main:={ PySem.Challenge.pw_wirechannel_k72_piles_traced.main with body:=[1,2,4,5,6,7,8,9,10,11,12,13,14,15,16,17,18,19,20,22,23,24,25,26,27,28,29,30,32,33,34,35,36,37,38,39,40,41,42].map λi=>PySem.Challenge.pw_wirechannel_k72_piles_traced.main.body.getD i (.Pass ⟨0,0,0,0⟩) } }
theorem PySem.W.Fast.te11387285937030203794:({ PySem.Challenge.pw_wirechannel_k72_piles_traced with main:={ PySem.Challenge.pw_wirechannel_k72_piles_traced.main with body:=[1,2,4,5,6,7,8,9,10,11,12,13,14,15,16,17,18,19,20,22,23,24,25,26,27,28,29,30,32,33,34,35,36,37,38,39,40,41,42].map λi=>PySem.Challenge.pw_wirechannel_k72_piles_traced.main.body.getD i (.Pass ⟨0,0,0,0⟩) } }:aG)=PySem.W.Fast.tw11387285937030203794:=rfl
local macro_rules | `(tactic| walk_at"A")=>`(tactic| ((try dsimp only[L2.OB]);refine' L2.abv KX G ?a ?l ?c ?k;(case a=>k_is);(case l=>k_is);(case c=>k_is);(case k=>k_is)))
theorem PySem.Challenge.cw_wirechannel_k72_piles_traced_holds : PySem.Challenge.rw_wirechannel_k72_piles_traced.Holds := by
 w_on;o_law;k_head;(case hw=>w_witness2)
 k_fill
 show L2.aac (l:=PySem.Challenge.rw_wirechannel_k72_piles_traced) (n:=63) (k:=6) (x:="_law_script") rfl (by decide) rfl ⟨rfl,by decide,by decide⟩ (λw h Y=>PySem.W.kIn_of Y) ?F
 case F=>
  intro w mg fa h KX G sD;have qM:∃t,mg "BORDER"=some (.str "=" t):=by
   refine' L2.Cp KX G ?c ?e
   (case c=>k_is)
   (case e=>show rfl)
  have o6:∃t,mg "CROSSINGS"=some (.str "+#" t):=by
   refine' L2.Cp KX G ?c ?e
   (case c=>k_is)
   (case e=>show rfl)
  have uO:∃t,mg "JOINT"=some (.str "|" t):=by
   refine' L2.Cp KX G ?c ?e
   (case c=>k_is)
   (case e=>show rfl)
  have nT:∃t,mg "STRETCH"=some (.str "-" t):=by
   refine' L2.Cp KX G ?c ?e
   (case c=>k_is)
   (case e=>show rfl)
  have nR:∃t,mg "UPRIGHT"=some (.str "|" t):=by
   refine' L2.Cp KX G ?c ?e
   (case c=>k_is)
   (case e=>show rfl)
  have T:Wc.Txt (L2.OB KX) mg:=by
   dsimp only[L2.OB];refine' ⟨jo KX G ?b_all,jo KX G ?b_bool,jo KX G ?b_dict,jo KX G ?b_enumerate,jo KX G ?b_int,jo KX G ?b_isinstance,jo KX G ?b_len,jo KX G ?b_list,jo KX G ?b_max,jo KX G ?b_min,jo KX G ?b_range,jo KX G ?b_reversed,jo KX G ?b_set,jo KX G ?b_sorted,jo KX G ?b_sum,jo KX G ?b_tuple,jo KX G ?b_zip,qM,o6,uO,nT,nR⟩
   (case b_all=>k_is)
   (case b_bool=>k_is)
   (case b_dict=>k_is)
   (case b_enumerate=>k_is)
   (case b_int=>k_is)
   (case b_isinstance=>k_is)
   (case b_len=>k_is)
   (case b_list=>k_is)
   (case b_max=>k_is)
   (case b_min=>k_is)
   (case b_range=>k_is)
   (case b_reversed=>k_is)
   (case b_set=>k_is)
   (case b_sorted=>k_is)
   (case b_sum=>k_is)
   (case b_tuple=>k_is)
   (case b_zip=>k_is)
  show Wc.aaE T  (by and_intros<;>first | trivial | walk_at"A")  sD
#print axioms PySem.Challenge.cw_wirechannel_k72_piles_traced_holds
end
