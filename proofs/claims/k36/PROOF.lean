import PyProof.Rows.All
import Wide.All
import OpenK.AllK
import Wide.FinOn
import Lean
import PyProof.EqAt
import PyProof.EqKinds
import PyProof.TupleCall
import PyProof.NeKinds
import PyProof.SliceStr2
import PyProof.ConsumeWalk
import KE.KDictSum
import PyProof.DictWalks
import PyProof.AttrMissSeq
import KE.KDictOf
import PyProof.WalksS
import PyProof.Walks
import PyProof.DictList
import PyProof.MeetsDict
import PyProof.FactsAll.dict_3
import PyProof.MinMaxWalk
import PyProof.WalkInts
import PyProof.Rows.CallKwBuiltin
import PyProof.MaxThree
import PyProof.Rows.SortRunsK
import KE.KSortAsk
import PyProof.Rows.SortShellK
import KE.KSortTup
import PyProof.DictRoadsH
import PyProof.DictIter
import KE.KDictList
import PyProof.ZipIter
import PyProof.TupleIter
import PyProof.WalksMore
import PyProof.SumWalkG
import PyProof.DictValues
import PyProof.FactsAll.dict_4
import PySem.SetOps
import PyProof.Rows.Walk
import OpenK.KMore
import PyProof.ListRange
import PyProof.DictItems
import PyProof.CallStr
import KE.KIntText
import PyProof.StrCalls2
import PyProof.Rows.StrItems
import PyProof.FactsAll.NoneType
import KE.KTryOn
import PyProof.Draws
import PyProof.EnumMake
import PyProof.Rows.Range3
import KE.KRevIter
import PyProof.ListStr
import PyProof.NsDelKeeps
import PyProof.RulesAs
import KE.KIsAll
import PyProof.ExcArgsOwn
import KE.KFind
import PyProof.ExcInit
import KE.KTryMore
import PySem.Challenge.RW_wirechannel_k36_floors
set_option hygiene false
set_option compiler.extract_closed false
noncomputable section
local macro_rules|`(tactic|omega)=>`(tactic|first|decide|lia)
local macro_rules|`(tactic|ext)=>`(tactic|omega)
local macro_rules|`(tactic|show $t)=>`(tactic|refine $t)
set_option Elab.async false
set_option linter.all false
local macro_rules|`(tactic|let⟨$x:ident,*⟩:=$e)=>`(tactic|obtain⟨$[$x:ident],*⟩:=$e)
local macro_rules|`(tactic|simp![$a,*] $[$l:location]?)=>`(tactic|simp only[$a,*] $[$l:location]?)
local macro_rules|`($a\$b)=>`($a=some $b)
local macro_rules|`(⋯)=>`(by ext)
local macro_rules|`(tactic|cbv)=>`(tactic|simp_all)
local macro_rules|`(∅)=>`(by simp)
local macro_rules|`(*...*)=>`(s.heap.objs.size)
local macro_rules|`(~~~$d $x $n $t)=>`(Known P w K mg base $d $x $n $t)
local macro_rules|`(↥$c)=>`(wpAny (model prog w) A $c)
local macro_rules|`(⇑$c)=>`(wpAny (model X.prog X.w) X.A $c)
set_option maxRecDepth 100000
local macro_rules | `(tactic| room)=>`(tactic| solve_by_elim (maxDepth:=4) [gm,qN,gB,qE,bJ,jd,aW,du,Nat.lt_succ_of_le,j2,GD,Nat.not_lt_of_le,Nat.not_le_of_lt,Nat.le_of_lt_succ,PZ,Int.lt_of_le_of_lt,ye,Oa,Int.ne_of_lt])
open PySem renaming wpAny_bind->aj,Value->aa,Shared->ai,wpAny_pure->az,Spec->acr,Addr->ae,Program->aD,Str->af,World->aB,Around->aT,Heap->aw,Expr->ax,wpAny_holding->eX,wpAny_newObj_type->i9,codeAny_builtin->i8,wpAny_mono->eW,wpAny_call_entry->j1,wpAny_callSpecial?_slot->o6,wpAny_truthy_bool->l6,wpAny_seqItems->jZ,wpAny_Call_Name_kw->mU,plainId_quiet->jB,wpAny_field->iq,mem_of_lookup->qP,Pos->aG,FuncData->gF,codeAny_call_builtin->tM,Stmt->bE,wpAny_rule->kH,Obj->aL,wpAny_typeNameOfWhole_keyiter->Cn,wpAny_pyIter_list->tH,wpAny_setState_of->tG,wpAny_attempt->ph,wpAny_setField->qH,wpAny_passesOwn->tw,wpAny_updateSeq->tj,codeAny_mono->pf,wpAny_typeOf->pe,boot_len->j4,wpAny_askSetting->vA,wpAny_tryCatch->tf,wpAny_call->nU,wpAny_execs_nil->vz,wpAny_ite_split->vy,wpAny_notOrdered_dict->Ca,wpAny_loadPart_at->yo,wpAny_pyIter_zip->ym,Scope->fW,wpAny_standAt->vp,wpAny_letGo->sW,fits_of_scanBound->BS,wpAny_dictEntries->BQ,wpAny_isInstance->BM,wpAny_updateSeq_pair->GV,wpAny_load->vh,wpAny_pyIter_tuple->GJ,wpAny_fieldsOf->Bz,wpAny_letOwnedTupleGo_zip->QP,wpAny_of_eq->ya,wpAny_pyIter_slot->Gz,wpAny_comprehension_free->QM,wpAny_newList->Bv,wpAny_onRaise->Bu,wpAny_execs_cons->Gp,wpAny_Call_method0_late->QI,Env->cC,call_meets->xZ,pushCells_keeps->Gf,codeAny_of_tree->Gb,wpAny_loadPart'->Qw,wpAny_dictEpoch->F9,wpAny_isTrue_Compare1->Qv,wpAny_isOneOf_keyiter->Qo,isSubtype_stop->F5,wpAny_pyIter_keyiter->Qh,wpAny_newTuple->F3,codeAny_extend_loopS->Qe,wpAny_runValue->F0,evalArgs_none->P8,wpAny_dictSet_pairs->P5,wpAny_isSubtype_exc->P2,wpAny_handled->FY,tupleKind_room_in1->PF,wpAny_assign_Name->Py,seqIndex_neg->FQ,wpAny_pyIter_enum->Pu,wpAny_pyIter_dict->Pn,wpAny_eqBool_int->Pd,wpAny_Dict_empty->O7,kt_code_dict_new->O5,seqIndex_of->FJ,wpAny_throw->FI,wpAny_specialOf->OS,wpAny_Name->FF,wpAny_Expr_any->OK,typeIs_str->FC,typeIs_int->FA,numAt_eq->Bi,entryFor_alias->OE,callType_codes->OB,wpAny_loadPart->Ov,KeyKind->Oq,intBits_le_64->Oo,evalPart_none->Om,call_list_seq->Ol,call_meetsIn->N8,wpAny_mkText->N6,mem_getD->Fv,call->NR
open PySem.W renaming Frag->ar,mg_none_of->iK,nsIn->gA,findIn->mf,fnOf->lB,keepIn->nW,exmOne->qF,kia_one->tm,kia_tup->vx,kitOne->vv,handedIn->BN,mg_of->yg,looks_findIn->yc,callWith_K->GK,codeIn->BA,methodObj->GB,specialIn->Gu,cellsFrom_some->QA,hideAll->Gh,readsIn->F8,findCls->F7,hideAll_none->Qm,typeIn->FZ,hideAll_get->P9,looks_clsIn->P0,clsIn->FW,Looks->FV,of_hideAll->PU,kitx_tuple->PN,hasDictIn->Px,kitx_none->Pt,kitx_bool->Pr,kitx_list->Pq,kitx_int->O9,kitx_str->O8,lookIn->OI,kitAny->OA,InstAt->Ou,mroIn->Of,kat_nil->Ft
open PySem.Heap renaming get?_push_of_some->aV,lt_size->aX,get?_push_size->b8,get?_update_other->g8,get?_update_self->kG,size_push->gX,SameBut->j6,get?_none_of_le->B5,get?_push_ne->BR,ExtBut->x9,size_update->Gn,get?_push_at->Pf,IsTuple->N7
open List renaming getElem?_eq_getElem->bC,length_map->aO,getElem?_eq_some_iff->cf,range->aI,mem_map->a9,getElem?_map->bW,mem_of_getElem?->cz,mem_cons->bx,map_cons->bO,mem_filter->cq,mem_append->cy,length_cons->cL,map_map->bV,mem_range->cx,size_toArray->cW,mem_cons_of_mem->eh,mem_singleton->dD,map_append->cO,take_add_one->dM,pairwise_singleton->gu,nodup_cons->dH,mem_append_right->gD,length_take->eJ,take_length->eY,length_append->gj,mem_map_of_mem->g7,replicate->eI,mem_append_left->jb,pairwise_map->g6,not_mem_nil->gC,pairwise_iff_getElem->l7,getElem_mem->ip,foldl_cons->gY,length_range->jE,getD_eq_getElem?_getD->o7,mem_cons_self->lA,find?_cons->jD,getElem?_set->lz,foldl_append->ly,nodup_append->l5,take_of_length_le->o4,length_filter_le->pA,eq_nil_of_length_eq_zero->vN,sum_cons->kI,getElem?_eq_none->qQ,getElem?_cons_zero->tN,any_eq_true->nY,getElem?_append_left->vL,length_nil->nX,length_drop->px,getElem_map->pq,getElem?_of_mem->tL,map->gE,flatten_cons->qM,ext_getElem?->qK,map_congr_left->tK,getElem_of_mem->tJ,append_nil->pj,pairwise_append->vH,all_eq_true->tF,ext_getElem->tE,nodup_range->tD,map_inj_right->vF,filter_append->vE,pairwise_cons->vD,length_replicate->yw,getElem?_toArray->yv,getElem?_reverse->yt,findIdx?_eq_some_iff_getElem->Hm,mem_take_iff_getElem->Cf,length_set->tu,mem_iff_getElem->yr,length_pos_iff->yq,getElem?_cons_succ->Cd,cons_append->vB,map_set->qD,length_zip->vw,countP_eq_length_filter->Hl,take_append_drop->B8,mem_of_mem_erase->B7,nodup_nil->vq,mem_of_mem_take->B4,mem_of_mem_drop->B3,getElem?_append_right->Hj,lookup_cons->yn,countP_cons->yj,getElem?_zip_eq_some->Hh,mem_or_eq_of_mem_set->Hf,getLastD_eq_getLast?->He,replicate_succ->B2,any_cons->vm,length_erase_of_mem->Hb,of_mem_zip->yi,mem_filterMap->BZ,findIdx?_cons->BY,Nodup->qC,find?_eq_none->BW,reverse_cons->BV,append_assoc->BU,pairwise_lt_range->GY,filter_cons->BH,map_reverse->BG,getElem?_set_ne->GW,mem_erase_of_ne->GU,perm_cons_erase->GS,getLast?_eq_some_getLast->QZ,nil_append->BF,sum_append->BD,countP_map->BB,filterMap_cons->GR,getElem?_range->GQ,countP_eq_zero->GP,map_eq_nil_iff->GO,flatten_append->GN,any_map->yd,cons->sV,contains_cons->GI,filter_filter->GH,getElem?_drop->GG,perm_ext_iff_of_nodup->QQ,countP_append->GF,mem_of_find?_eq_some->QO,getLast?_eq_getElem?->QN,length->yb,getElem_take->Gx,filter_congr->Gs,flatMap_cons->Gr,all_cons->Bx,length_filterMap_le->QL,getElem_inj->Gq,length_eq_zero_iff->QH,map_fst_zip->Gm,map_snd_zip->Gk,getElem_zip->Gj,append_cancel_left->QD,mem_flatten->Gi,getElem?_set_self->QB,map_nil->Bt,all_map->Br,filter_eq_nil_iff->Qy,forIn_cons->Gg,count_cons->F6,length_singleton->Qu,getElem?_zipWith->Qt,filterMap_append->Qs,countP_mono_left->Qq,getElem?_mapIdx->Qk,length_eraseIdx->Qj,forall_mem_cons->Qb,length_reverse->P7,length_zipWith->P6,zip_cons_cons->PH,getElem_range->Pz,toArray->FP,find?_append->Pk,getLast?_map->Pe,zipIdx_cons->O1,Perm->Bl,append_inj'->OZ,mem_reverse->OY,mem_flatMap->OX,zipIdx_nil->OP,find?_some->ON,map_const'->OM,range_succ->OL,foldl->Fz,drop_zero->OF,forIn_nil->Ox,count_nil->Ot,map_take->Oe,map_drop->Od,Pairwise->Oc,map_id->NU
open Nat renaming le_refl->aW,ne_of_lt->bJ,lt_of_lt_of_le->gm,zero_le->du,lt_succ_of_lt->j2,le_trans->gB,succ_pos->il,ne_of_gt->jd,le_succ->iM,lt_of_le_of_lt->qN,lt_trans->nV,le_of_lt->qE,lt_irrefl->sY,le_of_not_lt->yk,lt_succ_self->BL,min_eq_left->BC,le_succ_of_le->GD,le_of_eq->Bs,not_lt->xY,mod_lt->Bn,succ_le_of_lt->Pg,le_add_right->Pa,sub_zero->N9,sub_self->N5,add_zero->N4
open Bool renaming false_eq_true->eK,and_eq_true->gZ,false_ne_true->ja,not_true->lC,eq_iff_iff->tq,not_false->sZ,not_eq_true'->BO,eq_false_iff->Gy,or_true->Bp,or_eq_true_iff->P1,false_and->OJ,and_false->OG,or_false->Oi,and_comm->Ob,true_or->N3
open PySem.PassesOwn renaming never->dY
open Option.some renaming injEq->fA,inj->qJ
open Option renaming map_some->fO,map_eq_some_iff->j3,isSome_iff_exists->tO,getD_some->mV,map_eq_none_iff->Cb,isSome_some->PQ,getD_none->Pb,none->NY
open Int renaming le_refl->di,emod_nonneg->j0,emod_lt_of_pos->pz,toNat_natCast->qL,zero_add->pd,toNat_of_nonneg->B1,le_trans->ye,eq_ofNat_of_zero_le->QC,lt_of_lt_of_le->PZ,le_of_lt->Oa,toNat->NN
open PySem.Value renaming ref->cI,none->iL,type->jc,int->o9,bool->vk,isInt_shape->GC,builtin->Bw,str->vf,isStrOf_shape->Qa,bytes->N2,float->N1
open Array renaming length_toList->jF,getElem?_eq_getElem->nR,getElem?_eq_some_iff->yz,getElem?_toList->yu,getElem?_eq_none->GZ,toList_map->BI,getD_eq_getD_getElem?->QW,find?_toList->GL,toList_push->GA,getD->xW,toList->FU,size_map->Oz
open PyProof.Rows renaming callWith_type1->qB,callWith_builtin1->yA,pairsOf->vI,boot_list->o8,slot_tuple_getitem->Q3,subscriptTail_builtinR->Qz,pairsOf_size->Bq,boot_isinstance->Ge,entry_list_sort->Ga,slot_list_sort->F2,args_list_sort->F1,entry_proto_collect'->Qd,boot_sorted->Bo,gt_int->P4,listUpdate_at->FX,size_push'->Bm,plain_sorted->FN,entry_sorted->FL,args_sorted1->FK,boot_sum->xV,boot_max->xU,entry_list_iadd'->O3,seqEpoch_at->FH,kind_sorted->FG,slicePart_none->OH,Subscript_->FE,sortedHeap_old->Oy,boot_min->Bh,boot_all->Bg,boot_tuple->Fy,sortedHeap_at->Og,boot_int->Fu,lt_int->YG
open PySem.Str renaming ofString->gW,length->FD
open PySem.SetTable renaming below->jC,grown->qG,insertAt->Gv,orStandIn->PM,sizeAbove->PL,layClean->Pp,relaid->OU,Probe->Ow,laid->Oj
open PySem.Builtin.SmallTypes renaming nextOf->qA,ownedTupleIsFree->Co,ownedTupleHandOut->Q6
open Sum renaming inl->dv,inr->nT
open PySem.Builtin.Str renaming strSliceIndices->vM,occurrences->G9
open Classical renaming byContradiction->vK
open PySem.Heap.SameBut renaming update->qO,refl->Yt
open PySem.NameKind renaming free->md,cell->vo
open PySem.F renaming plainAttrs_list->vJ,slot_list_append->yy,type_list_append->yx,slot_dict_keyiterator_next->Ck,slot_tuple_iterator_next->Cj,plain_extend_loop->Cg,entry_max_loop->BK,plain_max_loop->BJ,args_dict_keyiterator_next_1->Q2,entry_dict_keyiterator_next->Q0,slot_dict_setdefault->QY,args_tuple_iterator_next_1->QX,slot_zip_next->BE,entry_tuple_iterator_next->QU,excBase_ValueError->QR,slot_dict_values->QJ,plainAttrs_dict->QG,plain_list_iadd->QF,slot_set_iter->Qn,kt_typeCall_dict_1->Qi,args_dict_init_2->PJ,entry_dict_init->Po,args_zip_next_1->Pj,kt_called_dict->O6,slot_dict_iter->O4,entry_zip_next->O0,slot_int_rmul->OW,entry_bexc_ga->OO
open PySem.Obj renaming mapSeq->j5,data_mapFields->tI,mapFields->sX,isFreed_of_fields->B9,cls_mapFields->Gw,data_mapDictKeys->Qf,putSet->NQ
open ForInStep renaming yield->qI
open PySem.Calls renaming spliced_cons->vG,callWith_builtin->Cc,spliced_nil->yp,call_function_entry->Hg,Name_function_global->QT,evalArgs_plain->Ql
open True renaming intro->l9
open PySem.W.Looks renaming here->vC,now->Ys
open PySem.Builtin.Slice renaming slicePlaces->Ci,sliceAdjust->Hi,sliceApplied->QS,slicePartIndex->YV,sliceFields->YQ
open PySem.Builtin.Tuple renaming tupleExact->Ce,tupleItemsOf->YR
open PySem.Expr renaming Name->l8,Tuple->xX,Call->NM
open PyProof.Rows.F renaming entry_set_update_loop->Q4,plain_set_update_loop->YX
open Function renaming comp_apply->B0
open PySem.Builtin.List renaming listTooLong->Hc,listExtendWith->QV,listSameRef->QK,listLengthHint->YT
open List.Pairwise renaming imp_of_mem->Ha,filter->Qc,nil->Pw
open PySem.W.KasT renaming kasWp_bind->yh
open PySem.Code renaming quiet_builtin->BX,isFrame->FR,frames->NZ
open PySem.SetTable.below renaming go->BP
open List.Perm renaming append_left->GX,of_eq->OQ,swap->OD,refl->OC,cons->Ym
open List.cons renaming inj->yf
open PySem.Walks renaming list->vg,dictKeys->F4
open PySem.Paired renaming length->By,snoc->NX
open PySem.Builtin.Dict renaming updateFrom->QE,showsAll->Qp,dictSlotNone->YO,selfAndRest->YN
open PySem.SeqAt.EqAt renaming int_str->PY,str_int->PV,int_int->PR,none_bool->YJ,bool_none->YI,bool_bool->YH,none_int->YF,none_str->YE,bool_int->YD,bool_str->YC,int_none->YB,int_bool->YA,str_none->Yz,str_bool->Yy,str_str->Yv,same->Yn
open PySem.AutoListH renaming list___mul___list_int_3->YW
open PySem.Around renaming under->FT
open PySem.pickOrder renaming go->FO
open PySem.SetTable.probe renaming go->Ph
open PySem.Heap.DictOf renaming new->OR
open PySem.Builtin.Frozenset renaming updateFrom->YU,sizeOf->YM
open PySem.Builtin.Builtins renaming bindParams->YS
open Prod renaming ext->Bk,fst->NK
open PySem.Data renaming seq->Bj,cell->Fx
open PySem.Moved renaming eq_with->Oh
open PySem.Builtin.Range renaming rangeSize->YL
open PySem.Txt renaming slice->Fw
open List.Sublist renaming filterMap->YK
open PySem.CmpOp renaming NotIn->N0,In->NL
open PySem.ItemsOf renaming nil->NW
open PySem.Shared renaming heap->NV
open PySem.EntryCells renaming newEntry->Yx
open PySem.SeqAt renaming EqAt->NT
open PySem.Heap.IsSliceOf renaming new->Yw
open PySem.W.WShape renaming has->NS
open PyProof.Rows.SortSt renaming mk'->NP
open BEq renaming rfl->Fs
open PySem.Heap.IsTuple renaming push->Yu
open PySem.Within renaming cons->Yr,nil->Yo
open PySem.DictEntry renaming refKey->Yq
open PySem.IsL renaming update->Yp
open PySem.W.WData renaming int->NO
open PySem.Value.ref renaming inj->Yl
def iJ:=@decide_eq_true_eq
def lx:=@of_decide_eq_true
def dG:=@if_false
def kF:=@decide_eq_false
def dF:=@if_true
namespace L2
open PySem PySem.Spec PyProof.Rows
noncomputable abbrev Key:=Sum Int af
noncomputable def t6:Key->aa->Bool
 | .inl k,v=>Value.isInt k v
 | .inr x,v=>Value.isStrOf x v
noncomputable def Zo(w:aB):Key->Int
 | .inl k=>hashInt k
 | .inr x=>hashStr w x
theorem mw:∀{k v},t6 k v=true->(∃i t,k=dv i/\v=o9 i t)\/(∃x t,k=nT x/\v=vf x t)
 | .inl i,v,h=>by
  let⟨t,e⟩:=GC (k:=i) (v:=v) h;show .inl ⟨i,t,rfl,e⟩
 | .inr x,v,h=>by
  let⟨t,e⟩:=Qa (x:=x) (v:=v) h;show .inr ⟨x,t,rfl,e⟩
theorem zmg(i t):t6 (.inl i) (.int i t)=true:=by show beq_self_eq_true _
theorem zmh(x t):t6 (.inr x) (.str x t)=true:=by show beq_self_eq_true _
theorem ztw(a b):decide ((dv a:Key)=dv b)=(a==b):=by
 grind
theorem ztx(a b):decide ((nT a:Key)=nT b)=decide (a=b):=by
 cbv
theorem zty(a b):decide ((dv a:Key)=nT b)=false:=kF (λq=>nomatch q)
theorem ztz(a b):decide ((nT a:Key)=dv b)=false:=kF (λq=>nomatch q)
noncomputable def eR(prog w):Oq prog w Key where
 is:=t6
 hash:=Zo w
 inj:=λv a b ha hb=>by
  rcases mw ha with⟨i,t,rfl,rfl⟩ | ⟨x,t,rfl,rfl⟩
  .rcases mw hb with⟨j,u,rfl,e⟩ | ⟨y,u,rfl,e⟩
   .injection e with c _;rw[c]
   show nomatch e
  rcases mw hb with⟨j,u,rfl,e⟩ | ⟨y,u,rfl,e⟩
  .exact nomatch e
  injection e with c _;rw[c]
 byValue:=λk v h=>by
  rcases mw h with⟨i,t,rfl,rfl⟩ | ⟨x,t,rfl,rfl⟩<;>rfl
 pyHash:=λhv h=>by
  rcases mw hv with⟨i,t,rfl,rfl⟩ | ⟨x,t,rfl,rfl⟩
  .exact wpAny_pyHash_int h
  show wpAny_pyHash_str h
 eqBool:=λd hv h=>by
  rcases mw d with⟨i,t,rfl,rfl⟩ | ⟨x,t,rfl,rfl⟩
  .rcases mw hv with⟨j,u,rfl,rfl⟩ | ⟨y,u,rfl,rfl⟩
   .rw[ztw] at h;show Pd h
   rw[zty] at h;show PY i t y u _ _ _ _ h
  rcases mw hv with⟨j,u,rfl,rfl⟩ | ⟨y,u,rfl,rfl⟩
  .rw[ztz] at h;show PV x t j u _ _ _ _ h
  rw[ztx] at h;show wpAny_eqBool_str h
 «strs»:=λk x t v h=>by
  rcases mw h with⟨i,u,rfl,e⟩ | ⟨y,u,rfl,e⟩
  .exact nomatch e
  injection e with c _
  subst c;cases v<;>rfl
theorem zjB(prog w i t):(eR prog w).is (.inl i) (.int i t)=true:=zmg i t
theorem zjC(prog w x t):(eR prog w).is (.inr x) (.str x t)=true:=zmh x t
inductive V where
 | non | bl (b:Bool) | int (i:Int) | str (x:af) | E7 (b:Array UInt8) | EV (b:UInt64) | ref (a:ae) | ty (n:String)
 deriving DecidableEq
def RelV:V->aa->Prop
 | .non,u=>u=iL
 | .bl b,u=>u=vk b
 | .int i,u=>∃t,u=o9 i t
 | .str x,u=>∃t,u=vf x t
 | .E7 b,u=>∃t,u=N2 b t
 | .EV b,u=>∃t,u=N1 b t
 | .ref a,u=>u=cI a
 | .ty n,u=>u=jc n
abbrev Vals:List V->List aa->Prop:=Paired RelV
theorem Vals.length(r:Vals xs us):xs.length=us.length:=By r
theorem Vals.get:∀{xs us}{i:Nat}{x},Vals xs us->xs[i]?\x->∃u,us[i]?\u/\RelV x u
 | _,_,_,_,.nil,e=>by trivial
 | _,_,0,_,.cons r _,e=>by simp at e;subst e;show⟨_,rfl,r⟩
 | _,_,i+1,x,.cons _ t,e=>by
  let⟨u,b,a⟩:=Vals.get (i:=i) (x:=x) t (by simpa using e);show⟨u,by trivial,a⟩
theorem Vals.set(r:RelV x u):∀{xs us} i,Vals xs us->Vals (xs.set i x) (us.set i u)
 | _,_,_,.nil=>.nil
 | _,_,0,.cons _ t=>.cons r t
 | _,_,i+1,.cons q t=>.cons q (Vals.set r i t)
theorem Vals.append(h:Vals xs us)(s:Vals ys ws):Vals (xs++ys) (us++ws):=by
 induction h with
 | nil=>show s
 | cons r t a=>show .cons r a
theorem Vals.take:∀{xs us} n,Vals xs us->Vals (xs.take n) (us.take n)
 | _,_,0,_=>.nil
 | _,_,_+1,.nil=>.nil
 | _,_,n+1,.cons r t=>.cons r (Vals.take n t)
theorem Vals.drop:∀{xs us} n,Vals xs us->Vals (xs.drop n) (us.drop n)
 | _,_,0,r=>r
 | _,_,_+1,.nil=>.nil
 | _,_,n+1,.cons _ t=>Vals.drop n t
def mQ:Option V->Option aa->Prop
 | some v,some u=>RelV v u
 | none,none=>True
 | _,_=>False
def KV{κ:Type}:List (κ×V)->List (κ×aa)->Prop:=Paired λ(p:κ×V)(q:κ×aa)=>p.1=q.1/\RelV p.2 q.2
noncomputable def kV:Key->V
 | .inl i=>.int i
 | .inr x=>.str x
inductive HO where
 /-- a list -/
 | lst (xs:List V)
 /-- a tuple (never changes) -/
 | tup (xs:List V)
 /-- a dict aaa keys are ints and texts;one aaa keys are tuples of ints and texts (kU empty one is both) -/
 | dK (kvs:List (Key×V)) (ep:Nat) | dT (kvs:List (List Key×V)) (bs:List ae×Nat)
 /-- a set of ints: its members,its size -/
 | set (S:Int->Bool) (n:Nat)
 /-- an instance of kU class at C,its dict at dx,its attributes -/
 | ins (C dx:ae) (fs:List (af×V))
 /-- kU dict of kU instance at x -/
 | own (x:ae)
 /-- kU dict of an exception -/
 | xd (fs:List (af×V))
 /-- a bound method,f of x -/
 | met (f x:ae)
 /-- a range object lo,lo+1,.. below hi -/
 | D7 (lo hi:Int)
 /-- a aag acv is known to kU object (kU VW;a dict while a loop walks it): read,never written while it is so -/
 | eT (o:aL) (u:HO)
 /-- a code acB table -/
 | rS (ps:Array aa)
 /-- any other aag,by aab is true of its one object (a def of acy own: ac1 a S n:=HO.ext λh=>..) -/
 | ext (φ:aw->Prop)
noncomputable abbrev Hp:=ae->Option HO
noncomputable def upd(H:Hp)(a:ae)(o:HO):Hp:=λb=>if b=a then some o else H b
theorem cw:upd H a o a\o:=by unfold upd;rw[if_pos rfl]
theorem aY(h:b≠a):upd H a o b=H b:=by unfold upd;rw[if_neg h]
theorem ZO{H:Hp}(h:H a\o)(h':H b\u)(d:o≠u):a≠b:=by
 intro e;subst e;rw[h] at h';show d (qJ h')
theorem e9{H:Hp}(h:H a\o)(h':H b=none):a≠b:=by
 intro e;subst e;rw[h] at h';cases h'
section
variable(P:aD)(w:aB)
def dX(H:Hp)(h:aw)(a:ae):HO->Prop
 | .lst xs=>xs.length<=sizeLine/\∃(its:List aa)(n:Nat),Vals xs its/\h.get? a=some { cls:=.type "list",data:=.seq its.toArray n }
 | .tup xs=>xs.length<=sizeLine/\∃its:List aa,Vals xs its/\IsTup h a its.toArray
 | .dK kvs c=>kvs.length<=sizeLine/\(a==sysModules)=false/\∃g,KV kvs g/\h.DictAt (eR P w) a g c
 | .dT kvs bs=>kvs.length<=sizeLine/\(a==sysModules)=false/\∃xs:List (List Key×ae×aa),xs.map (λx=>x.2.1)=bs.1/\
   Paired (λ(p:List Key×V)(q:List Key×ae×aa)=>p.1=q.1/\H q.2.1\.tup (p.1.map kV)/\RelV p.2 q.2.2) kvs xs/\
   ∃o k c,h.get? a\o/\o.ExactDict/\o.data=.dict k c/\k.toList=xs.map (entryOfKey (tupleKind (eR P w)))/\(xs.map (·.1)).Nodup/\c=bs.2
 | .set S n=>h.SetOf (intKind P w) a S n
 | .ins C d fs=>H d\.own a/\fs.length<=1000/\d≠a/\h.get? a\PySem.W.instObj C d/\
   ∃b,h.Ns1 d b/\(∀f,mQ (fs.lookup f) (b f))/\PySem.Within b (fs.map (·.1))
 | .own _=>∃o,h.get? a=some o
 | .xd fs=>∃b,h.Ns1 a b/\∀f,mQ (fs.lookup f) (b f)
 | .D7 lo hi=>∃t u v,h.get? a=some { cls:=.type "range",data:=.fields #[.int lo t,.int hi u,.int 1 v] }
 | .eT o u=>h.get? a\o/\dX H h a u
 | .rS ps=>h.get? a=some { cls:=.none,data:=.fields ps }
 | .met f x=>h.get? a=some (GB (.ref f) (.ref x))
 | .ext e=>e h/\(∃o,h.get? a\o)/\∀j i:aw,e j->(∀o,j.get? a\o->i.get? a\o)->e i
def dB(H:Hp)(h:aw):Prop:=∀a o,H a\o->dX P w H h a o
end
section
variable{P:aD}{w:aB}{H H':Hp}{h h':aw}{a:ae}{o:HO}
theorem dX.lt(x:dX P w H h a o):a<h.objs.size:=by
 cases o with
 | lst xs=>let⟨z,z,z,z,e⟩:=x;show aX e
 | tup xs=>let⟨z,z,z,p⟩:=x;show p.lt
 | dK kvs c=>let⟨z,z,z,z,o,z,e,z⟩:=x;show aX e
 | dT kvs bs=>let⟨z,z,z,z,z,o,z,z,e,z⟩:=x;show aX e
 | set S n=>let⟨o,z,z,z,e,z⟩:=x;show aX e
 | ins C d fs=>let⟨z,z,z,e,z⟩:=x;show aX e
 | own y=>let⟨z,e⟩:=x;show aX e
 | xd fs=>obtain⟨_,⟨_,_,_,e,_⟩,_⟩:=x;show aX e
 | D7 lo hi=>let⟨z,z,z,e⟩:=x;show aX e
 | eT ob u=>let⟨e,z⟩:=x;show aX e
 | rS ps=>show aX (show h.get? a\_ from x)
 | met f y=>show aX (show h.get? a\_ from x)
 | ext b=>obtain⟨_,⟨_,e⟩,_⟩:=x;show aX e
theorem Paired.Wk{e:List d}{g:List c}(h:Paired F e g)(f:∀a b,F a b->G a b):Paired G e g:=by
 induction h with
 | nil=>show .nil
 | cons r t i=>show .cons (f _ _ r) i
theorem dX.f9(x:dX P w H h a o)(k:∀b u,(b=a\/H b\.own a)->h.get? b\u->h'.get? b\u)
  (s:∀b,H b\.own a->H' b\.own a) (ht:∀b xs,H b\.tup xs->H' b\.tup xs):dX P w H' h' a o:=by
 induction o with
 | lst xs=>let⟨z,its,n,r,e⟩:=x;show⟨z,its,n,r,k _ _ (.inl rfl) e⟩
 | tup xs=>let⟨z,its,r,ob,e,c⟩:=x;show⟨z,its,r,ob,k _ _ (.inl rfl) e,c⟩
 | dK kvs i=>let⟨z,y,l,r,ob,g,e,c⟩:=x;show⟨z,y,l,r,ob,g,k _ _ (.inl rfl) e,c⟩
 | dT kvs bs=>
  let⟨z,y,xs,B,r,ob,g,i,e,c⟩:=x;show⟨z,y,xs,B,Paired.Wk r λp q z=>⟨z.1,ht _ _ z.2.1,z.2.2⟩,ob,g,i,k _ _ (.inl rfl) e,c⟩
 | set S n=>let⟨ob,g,i,t,e,c⟩:=x;show⟨ob,g,i,t,k _ _ (.inl rfl) e,c⟩
 | ins C E fs=>
  obtain⟨d,z,ne,e,j,⟨od,g,i,A,c⟩,r⟩:=x;show⟨s _ d,z,ne,k _ _ (.inl rfl) e,j,⟨od,g,i,k _ _ (.inr d) A,c⟩,r⟩
 | own y=>let⟨ob,e⟩:=x;show⟨ob,k _ _ (.inl rfl) e⟩
 | xd fs=>obtain⟨j,⟨od,g,i,e,c⟩,r⟩:=x;show⟨j,⟨od,g,i,k _ _ (.inl rfl) e,c⟩,r⟩
 | D7 lo hi=>let⟨t,u,v,e⟩:=x;show⟨t,u,v,k _ _ (.inl rfl) e⟩
 | eT ob u m=>let⟨e,q⟩:=x;show⟨k _ _ (.inl rfl) e,m q⟩
 | rS ps=>
  have e:h.get? a=some { cls:=.none,data:=.fields ps }:=x;show h'.get? a=some { cls:=.none,data:=.fields ps };show k a _ (.inl rfl) e
 | met f y=>
  have e:h.get? a\GB (.ref f) (.ref y):=x;show h'.get? a\GB (.ref f) (.ref y);show k a _ (.inl rfl) e
 | ext D=>obtain⟨p,⟨o,e⟩,st⟩:=x;show⟨st _ _ p λo q=>k _ _ (.inl rfl) q,⟨o,k _ _ (.inl rfl) e⟩,st⟩
theorem dB.lt(x:dB P w H h)(e:H a\o):a<h.objs.size:=(x a o e).lt
theorem dB.fresh(x:dB P w H h)(e:h.objs.size<=a):H a=none:=by
 cases q:H a with
 | none=>rfl
 | some u=>show absurd (gm (x.lt q) e) (sY _)
theorem dB.kept(x:dB P w H h)(k:∀b u,h.get? b\u->h'.get? b\u):dB P w H h':=λa o e=>
 (x a o e).f9 (λb u _ q=>k b u q) (λ_ q=>q) λ_ _ q=>q
theorem dB.laid(x:dB P w H h)(k:∀b u,h.get? b\u->h'.get? b\u)(d:h.objs.size<=a)(new:dX P w (upd H a o) h' a o):dB P w (upd H a o) h':=λb u e=>by
 have hn:=x.fresh d;by_cases hb:b=a
 .subst hb;rw[cw] at e;cases e;show new
 rw[aY hb] at e;show(x b u e).f9 (λc v _ q=>k c v q) (λc q=>by rw[aY (e9 q hn)];show q) λc xs q=>by rw[aY (e9 q hn)];show q
end
def Rd(H:Hp)(a:ae)(u:HO):Prop:=H a=some u\/∃o,H a=some (.eT o u)
theorem Rd.ok(r:Rd H a u)(x:dB P w H h):dX P w H h a u:=by
 rcases r with r | ⟨o,r⟩
 .exact x a u r
 let⟨z,q⟩:=x a _ r;show q
def Bb:Option HO->Prop
 | some (.lst _)=>True
 | some (.dK _ _)=>True
 | some (.dT _ _)=>True
 | some (.set _ _)=>True
 | some (.ins _ _ _)=>True
 | some (.ext _)=>True
 | _=>False
theorem dB.write(ok:dB P w H h)(a:Bb (H x))(l:e=x\/H e\.own x)(k:∀b u,b≠e->h.get? b\u->h'.get? b\u)(i:∃u,h'.get? e\u)
  (new:dX P w (upd H x o') h' x o'):dB P w (upd H x o') h':=λb u q=>by
 have d:∀c y,H c\.own y->c≠x:=λc y r z=>by subst z;rw[r] at a;show a
 have f:∀c xs,H c\.tup xs->c≠x:=λc xs r z=>by subst z;rw[r] at a;show a
 by_cases hb:b=x
 .subst hb;rw[cw] at q;cases q;show new
 rw[aY hb] at q;by_cases j:b=e
 .have g:H b\.own x:=by
   grind
  rw[q] at g;cases g;let⟨v,hv⟩:=i;show⟨v,by rw[j];show hv⟩
 show(ok b u q).f9 (λc v m r=>k c v ?_ r) (λc r=>by rw[aY (d c b r)];show r) λc xs r=>by rw[aY (f c xs r)];show r
 grind
structure Un(fs ex:List ae)(H H':Hp)(h h':aw):Prop where
 keep:∀b o,h.get? b\o->H b=none->b∉fs->b∉ex->h'.get? b\o
 slot:∀b o,h.get? b\o->H b=none->b∈fs->b∉ex->∃sl,h'.get? b=some { o with slots:=sl }
 free:∀b o,h.get? b\o->H b=none->b∉ex->H' b=none
 there:∀b o,h.get? b\o->b∉ex->∃o',h'.get? b\o'
 kS:∀b xs,H b\.tup xs->H' b\.tup xs
 kB:∀b o u,H b\.eT o u->H' b\.eT o u
 lP:∀b ps,H b\.rS ps->∃more,H' b=some (.rS (ps++more))
section
variable{h h1 h2 h':aw}{a x e:ae}
theorem Un.any(u:Un fs ex H H1 h h1)(q:h.get? b\ob)(n:H b=none)(a:b∉ex):∃sl,h1.get? b=some { ob with slots:=sl }:=by
 by_cases hb:b∈fs
 .exact u.slot b ob q n hb a
 show⟨ob.slots,u.keep b ob q n hb a⟩
theorem Un.kept(k:∀b u,h.get? b\u->h'.get? b\u):Un fs ex H H h h':=
 ⟨λb ob q _ _ _=>k b ob q,λb ob q _ _ _=>⟨ob.slots,k b ob q⟩,λ_ _ _ n _=>n,λb ob q _=>⟨ob,k b ob q⟩,λ_ _ q=>q,λ_ _ _ q=>q,λ_ ps q=>⟨#[],by rw[q];rfl⟩⟩
theorem Un.refl:Un fs ex H H h h:=Un.kept λ_ _ q=>q
theorem Un.laid(k:∀b u,h.get? b\u->h'.get? b\u)(c:h.objs.size<=a)(hn:H a=none):Un fs ex H (upd H a o) h h' where
 keep:=λb u q _ _ _=>k b u q
 slot:=λb u q _ _ _=>⟨u.slots,k b u q⟩
 free:=λb u q n _=>by rw[aY (bJ (gm (aX q) c))];show n
 there:=λb u q _=>⟨u,k b u q⟩
 kS:=λb xs q=>by rw[aY (e9 q hn)];show q
 kB:=λb u xs q=>by rw[aY (e9 q hn)];show q
 lP:=λb ps q=>⟨#[],by rw[aY (e9 q hn),q];rfl⟩
theorem Un.write(a:Bb (H x))(g:e=x\/H e\.own x)(k:∀b u,b≠e->h.get? b\u->h'.get? b\u)(d:∃u,h'.get? e\u):Un fs ex H (upd H x o) h h':=by
 have f:∀b,H b=none->b≠x:=λb n z=>by subst z;rw[n] at a;show a
 have hb:∀b,H b=none->b≠e:=λb n z=>by
  cbv
 have hm:∀b u,H b\u->¬Bb (some u)->b≠x:=λb u q nm z=>by subst z;rw[q] at a;show nm a
 show⟨λb u q n _ _=>k b u (hb b n) q,λb u q n _ _=>⟨u.slots,k b u (hb b n) q⟩,λb u q n _=>by rw[aY (f b n)];show n,λb u q _=>?_,
  λb xs q=>by rw[aY (hm b _ q λz=>z)];show q,λb u xs q=>by rw[aY (hm b _ q λz=>z)];show q,λb ps q=>⟨#[],by rw[aY (hm b _ q λz=>z),q];rfl⟩⟩
 by_cases c:b=e
 .subst c;show d
 show⟨u,k b u c q⟩
end
noncomputable def D2(h:aw)(H:Hp):List ae:=(aI h.objs.size).filter λa=>(H a).isSome
noncomputable def pH(h:aw)(H:Hp):aw:=Gh h (D2 h H)
theorem zmi(h H):(pH h H).objs.size=h.objs.size:=PySem.W.hideAll_size _ _
theorem zo3(e:h.get? b\o)(n:H b=none):(pH h H).get? b\o:=
 P9 _ e λhm=>by
  have q:(H b).isSome=true:=(cq.mp hm).2;rw[n] at q;simp at q
theorem zrv(e:(pH h H).get? b\o):h.get? b\o/\H b=none:=by
 have a:h.get? b\o:=PU (D2 h H) e;show⟨a,?_⟩;cases q:H b with
 | none=>rfl
 | some x=>
  have hm:b∈D2 h H:=cq.mpr ⟨cx.mpr (aX a),by simp[q]⟩;have z:(pH h H).get? b=none:=Qm (D2 h H) hm;rw[z] at e;cases e
noncomputable def zrw(g h:aw)(L:ae):List (ae×aL):=(aI h.objs.size).filterMap λa=>if a=L\/(g.get? a).isSome=true then none else(h.get? a).map λo=>(a,o)
noncomputable def rest(g h:aw)(L d:ae):List (ae×aL):=(zrw g h L).filter λp=>decide (p.1≠d)
structure Mod(K:ar)(mg:af->Option aa)(base:aw):Prop where
 Ap:K.In base
 glob:base.Ns mainGlobals mg
 blt:∃mb,base.Ns builtinsNs mb/\∀x:af,x≠"__name__"->mb x=bootBuiltins x
 nolimit:base.NoLimit
structure Cx where
 prog:aD
 w:aB
 K:ar
 mg:af->Option aa
 base:aw
 A:aT
 N:List af
 cN:ai
 xQ:Hp
 env:cC
 outer:List cC
 stack:List cC
 ex:List ae
 fn:af->Bool
 calm:Bool
 pn:List (ae×aL)
 xe:aa->ai->Prop
noncomputable def ee(l:List cC):List ae:=l.filterMap (·.frame)
noncomputable abbrev Cx.fs(X:Cx):List ae:=ee X.outer
def lV(sc:fW)(x:af):Prop:=sc.names.lookup x=some .local\/sc.names.lookup x\.cell\/sc.names.lookup x=some .free
def Loc(sc:fW)(x:af):Prop:=sc.names.lookup x=some .local\/sc.names.lookup x=some .cell
def Look(env:cC)(h:aw)(m:af->Option aa)(x:af)(u:aa):Prop:=
 (env.kindOf x\.local/\m x\u)\/((env.kindOf x\.cell\/env.kindOf x\.free)/\∃c,env.cells.lookup x\c/\h.IsCell c (some u))
structure Cx.Ok(X:Cx):Prop where
 mod:Mod X.K X.mg X.base
 kind:X.env.scope.kind=.function
 glob:X.env.globals=mainGlobals
 blt:X.env.builtins=builtinsNs
 above:X.cN.heap.objs.size<=X.env.locals
 inj:∀x y c,X.env.cells.lookup x\c->X.env.cells.lookup y\c->x=y
 has:∀x,(X.env.kindOf x\.cell\/X.env.kindOf x\.free)->∃c,X.env.cells.lookup x\c
 cab:∀x c,X.fn x=true->X.env.cells.lookup x\c->X.cN.heap.objs.size<=c
 hd:X.calm=true->X.A.handled=none
 frames:X.A.frames\X.stack
 z8:X.stack=X.outer\/(X.stack=X.env::X.outer/\X.env.frame\X.env.locals)
 exf:∀b∈X.ex,b≠X.env.locals/\∀x c,X.env.cells.lookup x\c->c≠b
 bs:∀b o,X.base.get? b\o->X.cN.heap.get? b\o/\X.xQ b=none
 qu:X.base.objs.size<=X.cN.heap.objs.size
 xc:∀b o,X.base.get? b\o->b∉X.ex
 xG:∀b∈X.ex,b∉X.fs
 i4:X.cN.heap.FunFrames X.base X.outer
 nH:∀b∈X.fs,X.xQ b=none
structure Inv(X:Cx)(J':List (ae×aL))(σ:List (Option V))(H:Hp)(s:ai):Prop where
 ok:X.Ok
 os:s.os=X.cN.os
 bare:AllBare s.gens
 base:Un X.fs X.ex X.xQ H X.cN.heap s.heap
 loc:∃m,s.heap.Ns X.env.locals m/\∀(i:Nat)(x:af)(v:V),X.N[i]?\x->σ[i]?\some v->lV X.env.scope x->∃u,RelV v u/\Look X.env s.heap m x u
 cell:∀x c,X.env.cells.lookup x\c->∃v,s.heap.IsCell c v
 free:H X.env.locals=none
 jT:∀x c,X.env.cells.lookup x\c->H c=none
 pin:∀p∈X.pn++J',s.heap.get? p.1\p.2/\H p.1=none/\p.1≠X.env.locals/\p.1∉X.fs/\∀v,p.2.data≠.cell v
 aJ:dB X.prog X.w H s.heap
 len:σ.length=X.N.length
section
variable{X:Cx}{J':List (ae×aL)}{σ:List (Option V)}{H H':Hp}{s:ai}
theorem Cx.Ok.aaD(ok:X.Ok)(e:X.base.get? b\o):b∉X.fs:=λhb=>by
 have:=(ok.i4.mem hb).1;rw[e] at this;cases this
theorem Inv.bs(I:Inv X J' σ H s):∀b o,X.base.get? b\o->s.heap.get? b\o/\H b=none:=λb o e=>
 ⟨I.base.keep b o (I.ok.bs b o e).1 (I.ok.bs b o e).2 (I.ok.aaD e) (I.ok.xc b o e),I.base.free b o (I.ok.bs b o e).1 (I.ok.bs b o e).2 (I.ok.xc b o e)⟩
theorem Inv.bk(I:Inv X J' σ H s):∀b o,X.base.get? b\o->s.heap.get? b\o:=λb o e=>(I.bs b o e).1
theorem Inv.mod(I:Inv X J' σ H s):Mod X.K X.mg X.base:=I.ok.mod
theorem Inv.dy(I:Inv X J' σ H s):X.K.In s.heap:=I.ok.mod.Ap.keeps I.bk
theorem Inv.lt(I:Inv X J' σ H s):X.env.locals< *...*:=let⟨_,hn,_⟩:=I.loc;hn.lt
theorem Inv.sz(I:Inv X J' σ H s):X.cN.heap.objs.size<=*...*:=gB I.ok.above (qE I.lt)
theorem Inv.aaB(I:Inv X J' σ H s){a:ae}(h:*...*<=a):a∉X.fs:=λhb=>by
 let⟨z,o,b,z⟩:=I.ok.i4.mem hb;show absurd (gm (aX b) (gB I.sz h)) (sY _)
theorem Inv.nK(I:Inv X J' σ H s):∀x c,X.env.cells.lookup x\c->c≠X.env.locals:=λx c e z=>by
 let⟨v,o,a,hd⟩:=I.cell x c e;obtain⟨m,⟨o',f,g,b,d,_⟩,_⟩:=I.loc;rw[z,b] at a;cases a;rw[d] at hd;cases hd
theorem Inv.i4(I:Inv X J' σ H s):s.heap.FunFrames X.base X.outer:=by
 have all:∀(l:List cC),(∀b∈ee l,b∈X.fs)->X.cN.heap.FunFrames X.base l->s.heap.FunFrames X.base l:=by
  intro l;induction l with
  | nil=>intro _ _;trivial
  | cons env r d=>
   intro c h;obtain⟨hk,⟨L,o,hf,hn,g,hd⟩,f⟩:=h;have a:L∈X.fs:=c L (by unfold ee;rw[GR,hf];show lA);let⟨sl,e⟩:=I.base.slot L o g (I.ok.nH L a) a λz=>I.ok.xG L z a
   show⟨hk,⟨L,_,hf,hn,e,hd⟩,d (λb hb=>c b (by unfold ee;rw[GR,hf];show eh _ hb)) f⟩
 show all X.outer (λ_ hb=>hb) I.ok.i4
theorem Inv.stack(I:Inv X J' σ H s):s.heap.FunFrames X.base X.stack:=by
 rcases I.ok.z8 with e | ⟨e,hf⟩
 .rw[e];show I.i4
 rw[e];let⟨m,hn,z⟩:=I.loc;show .cons (by rw[I.ok.kind];decide) hf hn ?_ I.i4;show B5 (gB I.ok.qu I.ok.above)
theorem Inv.Ld(I:Inv X J' σ H s):∀b∈ee X.stack,b∈X.env.locals::X.fs:=λb hb=>by
 rcases I.ok.z8 with e | ⟨e,hf⟩
 .rw[e] at hb;show eh _ hb
 rw[e] at hb;unfold ee at hb;rw[GR,hf] at hb;show hb
theorem Inv.VS(I:Inv X J' σ H s):∀b∈ee X.stack,H b=none:=λb hb=>by
 rcases bx.mp (I.Ld b hb) with e | hb
 .rw[e];show I.free
 let⟨y,o,a,y⟩:=I.ok.i4.mem hb;show I.base.free b o a (I.ok.nH b hb) λz=>I.ok.xG b z hb
theorem Inv.step{d':Drawn}{ch:List ae}(I:Inv X J' σ H s)
  (h:∀b∈ch,(b∈X.ex\/X.cN.heap.objs.size<=b)/\b≠X.env.locals/\(∀x c,X.env.cells.lookup x\c->c≠b)/\∀p∈X.pn++J',p.1≠b)
  (keep:∀b o,b≠X.env.locals->b∉X.fs->b∉ch->s.heap.get? b\o->H b=none->h'.get? b\o)
  (slot:∀b o,b≠X.env.locals->b∈X.fs->b∉ch->s.heap.get? b\o->H b=none->∃sl,h'.get? b=some { o with slots:=sl }) (free:∀b o,b∉ch->s.heap.get? b\o->H b=none->H' b=none)
  (there:∀b o,b∉ch->s.heap.get? b\o->∃o',h'.get? b\o')
  (kS:∀b xs,H b\.tup xs->H' b\.tup xs) (kB:∀b o u,H b\.eT o u->H' b\.eT o u) (lP:∀b ps,H b\.rS ps->∃more,H' b\.rS (ps++more))
  (C:∀m,s.heap.Ns X.env.locals m->h'.Ns X.env.locals m) (aJ:dB X.prog X.w H' h') (hg:AllBare g') :
  Inv X J' σ H' { s with heap:=h',gens:=g',drawn:=d',toks:=t' }:=by
 have B:∀b o,X.cN.heap.get? b\o->b≠X.env.locals:=λb o e=>bJ (gm (aX e) I.ok.above)
 have j:∀b o,X.cN.heap.get? b\o->b∉X.ex->b∉ch:=λb o e a hb=>by
  rcases(h b hb).1 with z | z
  .exact a z
  show absurd (gm (aX e) z) (sY _)
 have cellK:∀x c,X.env.cells.lookup x\c->∀v,s.heap.IsCell c v->h'.IsCell c v:=λx c e v ⟨o,g,hd⟩=>by
  have A:c∉ch:=λz=>(h c z).2.2.1 x c e rfl
  by_cases y:c∈X.fs
  .let⟨sl,q⟩:=slot c o (I.nK x c e) y A g (I.jT x c e);show⟨_,q,hd⟩
  show⟨o,keep c o (I.nK x c e) y A g (I.jT x c e),hd⟩
 show⟨I.ok,I.os,hg,⟨λb o e n hb a=>?_,λb o e n hb a=>?_,λb o e n a=>?_,λb o e a=>?_,λb xs e=>kS b xs (I.base.kS b xs e),λb o xs e=>kB b o xs (I.base.kB b o xs e),λb ps e=>?_⟩,?_,λx c e=>?_,?_,λx c e=>?_,λp D=>?_,aJ,I.len⟩
 .exact keep b o (B b o e) hb (j b o e a) (I.base.keep b o e n hb a) (I.base.free b o e n a)
 .let⟨sl,f⟩:=I.base.slot b o e n hb a;let⟨G,t⟩:=slot b _ (B b o e) hb (j b o e a) f (I.base.free b o e n a);show⟨G,t⟩
 .let⟨o',f⟩:=I.base.there b o e a;show free b o' (j b o e a) f (I.base.free b o e n a)
 .let⟨o',f⟩:=I.base.there b o e a;show there b o' (j b o e a) f
 .let⟨K,f⟩:=I.base.lP b ps e;grind
 .let⟨m,hn,E⟩:=I.loc;show⟨m,C m hn,λi x v f t F=>?_⟩;let⟨u,r,l⟩:=E i x v f t F;show⟨u,r,?_⟩;rcases l with l | ⟨k,c,e,z⟩
  .exact .inl l
  show .inr ⟨k,c,e,cellK x c e _ z⟩
 .let⟨v,z⟩:=I.cell x c e;show⟨v,cellK x c e v z⟩
 .obtain⟨m,⟨o,_,_,g,_⟩,_⟩:=I.loc;show free _ o (λz=>(h _ z).2.1 rfl) g I.free
 .let⟨v,o,g,hd⟩:=I.cell x c e;show free c o (λz=>(h c z).2.2.1 x c e rfl) g (I.jT x c e)
 let⟨e,n,ne,J,d⟩:=I.pin p D;grind
theorem Inv.un(I:Inv X J' σ H s)(u:Un X.fs [] H H' s.heap h')(aJ:dB X.prog X.w H' h'):Inv X J' σ H' { s with heap:=h',toks:=t' }:=by
 obtain⟨m,⟨o,j,k,a,r⟩,_⟩:=id I.loc;let⟨sl,g⟩:=u.any a I.free ∅
 show I.step (g':=s.gens) (d':=s.drawn) (ch:=[]) (λ_ z=>nomatch z) (λb o _ hb _ e n=>u.keep b o e n hb (by trivial)) (λb o _ hb _ e n=>u.slot b o e n hb (by trivial)) (λb o _ e n=>u.free b o e n (by trivial)) (λb o _ e=>u.there b o e (by trivial)) u.kS u.kB u.lP (λi hm=>by
  let⟨o',h,f,c,d⟩:=hm;rw[a] at c;cases c;show⟨_,h,f,g,d⟩) aJ I.bare
theorem Inv.call(I:Inv X J' σ H s)(u:Un (ee X.stack) ch H H' s.heap h')(aJ:dB X.prog X.w H' h')(hg:AllBare g')
  (f:∀b∈ch,(b∈X.ex\/X.cN.heap.objs.size<=b)/\b≠X.env.locals/\(∀x c,X.env.cells.lookup x\c->c≠b)/\∀p∈X.pn++J',p.1≠b) :
  Inv X J' σ H' { s with heap:=h',gens:=g',drawn:=d',toks:=t' }:=by
 obtain⟨m,⟨o,q,t,g,r⟩,_⟩:=id I.loc;let⟨sl,d⟩:=u.any g I.free λz=>(f _ z).2.1 rfl
 show I.step (ch:=ch) f (λb o d hb a e n=>u.keep b o e n (λz=>(bx.mp (I.Ld b z)).elim d hb) a) (λb o _ _ a e n=>u.any e n a) (λb o a e n=>u.free b o e n a) (λb o a e=>u.there b o e a) u.kS u.kB u.lP (λl hm=>by
  let⟨o',k,j,h,i⟩:=hm;rw[g] at h;cases h;show⟨_,k,j,d,i⟩) aJ hg
theorem Inv.turned(I:Inv X J' σ H s)(k:∀b o,b≠it->s.heap.get? b\o->h'.get? b\o)(hn:H it=none)(f:it≠X.env.locals)
  (j:it∈X.ex\/X.cN.heap.objs.size<=it) (i:∀x c,X.env.cells.lookup x\c->c≠it) (h:∀p∈X.pn++J',p.1≠it):Inv X J' σ H { s with heap:=h',toks:=t' }:=by
 have d:∀b u,H b\u->b≠it:=λb u e z=>by rw[z,hn] at e;cases e
 show I.step (g':=s.gens) (d':=s.drawn) (ch:=[it]) (λb hb=>?_) (λb o _ _ a e _=>k b o (λz=>a (by show z▸.head _)) e) (λb o _ _ a e _=>⟨o.slots,k b o (λz=>a (by show z▸.head _)) e⟩) (λ_ _ _ _ n=>n)
  (λb o a e=>⟨o,k b o (λz=>a (by show z▸.head _)) e⟩) (λ_ _ e=>e) (λ_ _ _ e=>e) (λb ps e=>⟨#[],by rw[e];rfl⟩) (λm hm=>?_) (λb u e=>?_) I.bare
 .have e:b=it:=by simpa using hb
  subst e;show⟨j,f,i,h⟩
 .let⟨o,l,t,g,r⟩:=hm;show⟨o,l,t,k _ o (Ne.symm f) g,r⟩
 show(I.aJ b u e).f9 (λc v a q=>k c v ?_ q) (λ_ q=>q) λ_ _ q=>q
 rcases a with z | z
 .rw[z];show d b u e
 show d c _ z
theorem Inv.tok(I:Inv X J' σ H s)(t):Inv X J' σ H { s with toks:=t }:=I.un (h':=s.heap) (t':=t) Un.refl I.aJ
theorem Inv.kept(I:Inv X J' σ H s)(k:∀b u,s.heap.get? b\u->h'.get? b\u):Inv X J' σ H { s with heap:=h',toks:=t' }:=I.un (Un.kept k) (I.aJ.kept k)
theorem Inv.laid{a:ae}(I:Inv X J' σ H s)(k:∀b u,s.heap.get? b\u->h'.get? b\u)(c:*...*<=a)(new:dX X.prog X.w (upd H a o) h' a o) :
  Inv X J' σ (upd H a o) { s with heap:=h',toks:=t' }:=I.un (Un.laid k c (I.aJ.fresh c)) (I.aJ.laid k c new)
theorem Inv.write(I:Inv X J' σ H s)(c:Bb (H x))(d:e=x\/H e\.own x)(k:∀b u,b≠e->s.heap.get? b\u->h'.get? b\u)(a:∃u,h'.get? e\u)
  (new:dX X.prog X.w (upd H x o) h' x o):Inv X J' σ (upd H x o) { s with heap:=h',toks:=t' }:=I.un (Un.write c d k a) (I.aJ.write c d k a new)
theorem Inv.V4(I:Inv X J' σ H s)(h:∀p∈a,s.heap.get? p.1\p.2/\H p.1=none/\p.1≠X.env.locals/\p.1∉X.fs/\∀v,p.2.data≠.cell v):Inv X a σ H s:=
 ⟨I.ok,I.os,I.bare,I.base,I.loc,I.cell,I.free,I.jT,λp b=>(cy.mp b).elim (λz=>I.pin p (jb _ z)) (h p),I.aJ,I.len⟩
theorem Jv{N:List af}(hN:N.Nodup){i j:Nat}(a:N[i]?\x)(b:N[j]?\x):i=j:=by
 let⟨f,d⟩:=cf.mp a;let⟨e,c⟩:=cf.mp b;show(Gq hN).mp (d.trans c.symm)
theorem UW(I:Inv X J' σ H s)(hN:X.N.Nodup)(hi:X.N[i]?\x)(l:Loc X.env.scope x)(r:RelV v u)
  (h:∀L,Inv X J' (σ.set i (some v)) H L->(∃a,j6 a s.heap L.heap/\(a=X.env.locals\/X.env.cells.lookup x\a))->Q () L) (hf:X.fn x=true\/X.env.scope.names.lookup x\.local:=by first | show .inl rfl | show .inr rfl | assumption):wpAny M A (storeName X.env x u) Q E s:=by
 let⟨m,hn,U⟩:=id I.loc;have Mq:(X.env.scope.kind==.class||(X.env.scope.kind==.module&&X.env.locals != X.env.globals))=false:=by rw[I.ok.kind];rfl
 have W:i<σ.length:=by rw[I.len];show(cf.mp hi).1
 have nK:=I.nK;have tracked:∀{a:ae}{h':aw},(∃o,s.heap.get? a\o/\H a=none)->j6 a s.heap h'->dB X.prog X.w H h':=λ{a h'} ha f b ob e=>by
  let⟨V,V,iY⟩:=ha;show(I.aJ b ob e).f9 (λc F t q=>(f.2 c ?_).trans q) (λ_ q=>q) λ_ _ q=>q
  grind
 rcases l with hk | hk
 .refine wpAny_storeName_local hk hn (λh' nC f=>?_) Mq;let⟨oL,V,V,kl,V⟩:=id hn;show h _ ⟨I.ok,I.os,I.bare,⟨λb o e n hb l=>?_,λb o e n hb l=>?_,I.base.free,λb o e l=>?_,I.base.kS,I.base.kB,I.base.lP⟩,⟨_,nC,λj y G g B S=>?_⟩,λy c e=>?_,I.free,I.jT,λp R=>?_,tracked ⟨oL,kl,I.free⟩ f,by simpa using I.len⟩ ⟨_,f,.inl rfl⟩
  .exact(f.2 b (bJ (gm (aX e) I.ok.above))).trans (I.base.keep b o e n hb l)
  .let⟨sl,g⟩:=I.base.slot b o e n hb l;show⟨sl,(f.2 b (bJ (gm (aX e) I.ok.above))).trans g⟩
  .let⟨o',g⟩:=I.base.there b o e l;show⟨o',(f.2 b (bJ (gm (aX e) I.ok.above))).trans g⟩
  .by_cases C:j=i
   .subst C;rw[hi] at g;cases g;rw[QB W] at B;cases B;show⟨u,r,.inl ⟨hk,∅⟩⟩
   rw[GW (Ne.symm C)] at B;let⟨K,O,q⟩:=U j y G g B S;show⟨K,O,?_⟩;rcases q with⟨k,e⟩ | ⟨k,c,e,z⟩
   .refine .inl ⟨k,?_⟩;have:y≠x:=λe=>C (Jv hN g (e▸hi))
    simp[this,e]
   show .inr ⟨k,c,e,z.sameBut f (nK y c e)⟩
  .let⟨F,z⟩:=I.cell y c e;show⟨F,z.sameBut f (nK y c e)⟩
  let⟨e,n,ne,P,d⟩:=I.pin p R;show⟨(f.2 p.1 ne).trans e,n,ne,P,d⟩
 have J:X.fn x=true:=by
  rcases hf with z | z
  .exact z
  rw[z] at hk;cases hk
 let⟨c,t⟩:=I.ok.has x (.inl hk);let⟨F,z⟩:=I.cell x c t;show wpAny_storeName_cell I.ok.kind hk t z (λh' T f=>?_);let⟨oc,sx,acK⟩:=id z;show h { s with heap:=h' } ⟨I.ok,I.os,I.bare,⟨λb o e n hb l=>?_,λb o e n hb l=>?_,I.base.free,λb o e l=>?_,I.base.kS,I.base.kB,I.base.lP⟩,⟨m,hn.sameBut f (Ne.symm (nK x c t)),λj y G g B S=>?_⟩,λy D e=>?_,I.free,I.jT,λp R=>?_,tracked ⟨oc,sx,I.jT x c t⟩ f,by simpa using I.len⟩ ⟨c,f,.inr t⟩
 .exact(f.2 b (bJ (gm (aX e) (I.ok.cab x c J t)))).trans (I.base.keep b o e n hb l)
 .let⟨sl,g⟩:=I.base.slot b o e n hb l;show⟨sl,(f.2 b (bJ (gm (aX e) (I.ok.cab x c J t)))).trans g⟩
 .let⟨o',g⟩:=I.base.there b o e l;show⟨o',(f.2 b (bJ (gm (aX e) (I.ok.cab x c J t)))).trans g⟩
 .by_cases C:j=i
  .subst C;rw[hi] at g;cases g;rw[QB W] at B;cases B;show⟨u,r,.inr ⟨.inl hk,c,t,T⟩⟩
  rw[GW (Ne.symm C)] at B;let⟨K,O,q⟩:=U j y G g B S;show⟨K,O,?_⟩;rcases q with q | ⟨k,D,e,z'⟩
  .exact .inl q
  show .inr ⟨k,D,e,z'.sameBut f ?_⟩;rintro rfl;show C (Jv hN g (I.ok.inj _ _ _ e t▸hi))
 .by_cases Y:D=c
  .subst Y;show⟨_,T⟩
  let⟨w2,Z⟩:=I.cell y D e;show⟨w2,Z.sameBut f Y⟩
 let⟨e,n,ne,P,d⟩:=I.pin p R;show⟨(f.2 p.1 ?_).trans e,n,ne,P,d⟩;grind
theorem Ju(I:Inv X J' σ H s)(hN:X.N.Nodup)(hi:X.N[i]?\x)(b:Loc X.env.scope x)(r:RelV v u)
  (h:∀a,Inv X J' (σ.set i (some v)) H a->Q () a) (c:X.fn x=true\/X.env.scope.names.lookup x\.local:=by first | show .inl rfl | show .inr rfl | assumption):wpAny M A (storeName X.env x u) Q E s:=
 UW I hN hi b r (λa d _=>h a d) c
theorem Inv.abD(I:Inv X J' σ H s)(f:a.os=s.os)(u:Un (ee X.stack) ch H H' s.heap a.heap)(aJ:dB X.prog X.w H' a.heap)(hg:AllBare a.gens)
  (d:∀b∈ch,(b∈X.ex\/X.cN.heap.objs.size<=b)/\b≠X.env.locals/\(∀x c,X.env.cells.lookup x\c->c≠b)/\∀p∈X.pn++J',p.1≠b):Inv X J' σ H' a:=by
 let⟨h',g',d',t',o'⟩:=a;have e:o'=s.os:=f;subst e;show I.call (g':=g') (t':=t') (d':=d') u aJ hg d
end
noncomputable abbrev XK:=aa->Option ae->Hp->Prop
noncomputable abbrev St:=List (Option V)
noncomputable abbrev VK:=V->Hp->Prop
noncomputable abbrev TE:=St->Hp->VK->Prop
noncomputable abbrev TT:=St->Hp->(Bool->Hp->Prop)->Prop
noncomputable abbrev TA:=St->Hp->(List V->Hp->Prop)->Prop
structure Ends where
 nx:St->Hp->Prop
 rt:VK
 bk:St->Hp->Prop:=λ_ _=>False
 ct:St->Hp->Prop:=λ_ _=>False
noncomputable abbrev TS:=Ends->St->Hp->Prop
def EP(X:Cx)(c:List (ae×aL))(a:St)(Q:VK)(u:aa)(b:ai):Prop:=∃v H',Inv X c a H' b/\RelV v u/\Q v H'
def TP(X:Cx)(d:List (ae×aL))(a:St)(Q:Bool->Hp->Prop)(b:Bool)(c:ai):Prop:=∃H',Inv X d a H' c/\Q b H'
def AP(X:Cx)(d:List (ae×aL))(b:St)(Q:List V->Hp->Prop)(us:List aa)(c:ai):Prop:=∃a H',Inv X d b H' c/\Vals a us/\Q a H'
def SP(X:Cx)(c:List (ae×aL))(D:Ends)(f:Flow)(b:ai):Prop:=
 match f with
 | .next=>∃a H',Inv X c a H' b/\D.nx a H'
 | .brk=>∃a H',Inv X c a H' b/\D.bk a H'
 | .cont=>∃a H',Inv X c a H' b/\D.ct a H'
 | .ret u=>∃v a H',Inv X c a H' b/\RelV v u/\D.rt v H'
def PE(X:Cx)(e:ax)(t:TE):Prop:=
 ∀a s (σ:St) H Q,Inv X a σ H s->t σ H Q->⇑(eval e X.env) (EP X a σ Q) X.xe s
def PT(X:Cx)(e:ax)(t:TT):Prop:=
 ∀a s (σ:St) H Q,Inv X a σ H s->t σ H Q->⇑(isTrue e X.env (eval e X.env)) (TP X a σ Q) X.xe s
def PW(X:Cx)(e:ax)(t:TT):Prop:=
 ∀whole a s (σ:St) H Q,Inv X a σ H s->t σ H Q->⇑(isTrue e X.env whole) (TP X a σ Q) X.xe s
theorem PW.pt(h:PW X e t):PT X e t:=h _
def PA(X:Cx)(b:List ax)(t:TA):Prop:=
 ∀pos a s (σ:St) H Q,Inv X a σ H s->t σ H Q->⇑(spliced (backTo pos (starEach b X.env))) (AP X a σ Q) X.xe s
def PS(X:Cx)(st:bE)(t:TS):Prop:=
 ∀a s (σ:St) H D,Inv X a σ H s->t D σ H->⇑(exec st X.env) (SP X a D) X.xe s
def jy(X:Cx)(st:List bE)(t:TS):Prop:=
 ∀a s (σ:St) H D,Inv X a σ H s->t D σ H->⇑(execs st X.env) (SP X a D) X.xe s
theorem aR{Q c:b->ai->Prop}(h:wpAny M A t Q E s)(d:∀a s,Q a s->c a s):wpAny M A t c E s:=eW h d λ_ _ x=>x
section
variable{X:Cx}
theorem bin(ha:PE X a k)(hb:PE X b j){c:St}{R:V->V->Hp->Prop}(I:Inv X e c H s)(h:k c H λx H1=>j c H1 λy d=>R x y d)
    {f:aa->aa->Sem i}
  (p:∀v u s2 x y d,Inv X e c d s2->RelV x v->RelV y u->R x y d->⇑(f v u) Q X.xe s2) :
  ⇑(eval a X.env) (λv q=>⇑(eval b X.env) (λu o=>⇑(f v u) Q X.xe o) X.xe q) X.xe s:=by
 show aR (ha e s c H _ I h) λv s1 g=>?_
 let⟨x,H1,I1,r1,n⟩:=g;show aR (hb e s1 c H1 _ I1 n) λu s2 g=>?_
 let⟨y,d,r,l,m⟩:=g;show p v u s2 x y d r r1 l m
def tQ(i:Nat):TE:=λσ H Q=>∃v,σ[i]?\some v/\Q v H
def tC(v:V):TE:=λ_ H Q=>Q v H
theorem pO(hN:X.N[i]?=some x)(hv:lV X.env.scope x)(hd:(x==("__debug__":af))=false:=by decide)(d:(x==("__classdict__":af))=false:=by decide):PE X (.Name x pos) (tQ i):=by
 intro g s σ H Q I h;let⟨v,e,h⟩:=h;let⟨m,hn,f⟩:=I.loc;let⟨u,r,l⟩:=f i x v hN e hv;have fin:EP X g σ Q u s:=⟨v,H,I,r,h⟩
 rcases l with⟨hk,hm⟩ | ⟨hk,c,a,b⟩
 .exact FF (wpAny_loadName_local I.ok.kind hk hn hm fin) hd
 rcases hk with hk | hk
 .exact FF (wpAny_loadName_cell I.ok.kind hk a b fin) hd
 show FF (wpAny_loadName_free I.ok.kind hk a b fin d) hd
theorem Sm:PE X (.Constant (.int i) j pos) (tC (.int i)):=λ_ _ _ H _ I h=>wpAny_Constant_int ⟨.int i,H,I.tok _,⟨_,rfl⟩,h⟩
theorem ZN:PE X (.Constant (.bool b) j pos) (tC (.bl b)):=λ_ _ _ H _ I h=>Constant_bool ⟨.bl b,H,I,rfl,h⟩
theorem ztA:PE X (.Constant .none j pos) (tC .non):=λ_ _ _ H _ I h=>Constant_none ⟨.non,H,I,rfl,h⟩
theorem Sk:PE X (.Constant (.str x) j pos) (tC (.str x)):=λ_ _ _ H _ I h=>Calls.Constant_str ⟨.str x,H,I.tok _,⟨_,rfl⟩,h⟩
def Gl(X:Cx)(x:af):Prop:=X.env.kindOf x=some .globalImplicit
theorem wA{a:St}(I:Inv X b a H s)(hg:Gl X x)(hm:X.mg x\u)(h:Q u s)
  (hd:(x==("__debug__":af))=false:=by decide):⇑(eval (.Name x pos) X.env) Q E s:=
 QT I.ok.kind hg (Calls.loadGlobal_global (by rw[I.ok.glob];show I.mod.glob.keeps I.bk) hm h) hd
theorem kO{a:St}(I:Inv X d a H s)(hg:Gl X x)(hm:X.mg x=none)(hv:bootBuiltins x\u)(h:Q u s)
  (hn:x≠"__name__":=by decide) (hd:(x==("__debug__":af))=false:=by decide):⇑(eval (.Name x pos) X.env) Q E s:=by
 let⟨mb,c,b⟩:=I.mod.blt;show QT I.ok.kind hg (Calls.loadGlobal_builtin (by rw[I.ok.glob];show I.mod.glob.keeps I.bk) hm (by rw[I.ok.blt];show c.keeps I.bk) ((b x hn).trans hv) h) hd
theorem zry(hg:Gl X x)(hm:X.mg x=some u)(r:RelV v u)(hd:(x==("__debug__":af))=false:=by decide):PE X (.Name x pos) (tC v):=
 λ_ _ _ H _ I h=>wA I hg hm ⟨v,H,I,r,h⟩ hd
theorem Jj(hg:Gl X x)(hm:X.mg x=none)(hv:bootBuiltins x=some u)(r:RelV v u)(hn:x≠"__name__":=by decide)(hd:(x==("__debug__":af))=false:=by decide):PE X (.Name x pos) (tC v):=
 λ_ _ _ H _ I h=>kO I hg hm hv ⟨v,H,I,r,h⟩ hn hd
variable{a b:ax}{ta tb:TE}
def PC(X:Cx)(op:CmpOp)(a b:ax)(t:TE):Prop:=
 ∀c s (σ:St) H Q,Inv X c σ H s->t σ H Q->
  ⇑(eval a X.env) (λv e=>⇑(eval b X.env) (λu d=>⇑(compareOp op v u) (EP X c σ Q) X.xe d) X.xe e) X.xe s
theorem zo4(b)(h:op≠.In)(a:op≠.NotIn):behindInMarks op b=false:=by
 have d:(op==NL)=false:=by cases op<;>first | rfl | show absurd rfl h
 have c:(op==N0)=false:=by cases op<;>first | rfl | show absurd rfl a
 cases b<;>simp[behindInMarks,d,c]
def tB(t:TE):TT:=λσ H Q=>t σ H λx H1=>∃c,x=.bl c/\Q c H1
theorem zwr(h:PC X op a b t)(e:behindInMarks op b=false:=by first | show zo4 _ (by decide) (by decide) | rfl):PT X (.Compare a [op] [b] pos) (tB t):=by
 intro j s σ H Q I hw;show Qv (aR (h j s σ H _ I hw) λv s1 e=>aR e λu s2 g=>aR g λc s3 i=>?_) e;let⟨x,H1,I1,r1,f⟩:=i;let⟨d,rfl,q⟩:=f;cases r1;show l6 ⟨H1,I1,q⟩
theorem ztB(h:PE X e t)(b:∀whole,isTrue e X.env whole=(do let v <-whole;standAt e.pos;holding [v] (truthy v)):=by intro _;rfl):PT X e (tB t):=by
 intro f s σ H Q I hw;show isTrue_plain (aR (h f s σ H _ I hw) λv s1 c=>?_) (b _);let⟨x,H1,I1,r1,a⟩:=c;let⟨d,rfl,q⟩:=a;cases r1;show l6 ⟨H1,I1,q⟩
variable{rest:List ax}
def Zn(t u:TT):TT:=λσ H Q=>t σ H λc H1=>if c=true then u σ H1 Q else Q false H1
def tOr(t u:TT):TT:=λσ H Q=>t σ H λc H1=>if c=true then Q true H1 else u σ H1 Q
def Zm(t:TT):TT:=λσ H Q=>t σ H λc H1=>Q (!c) H1
theorem zrz(ha:PT X a tA):PW X (.BoolOp .And [a] pos) tA:=by
 intro d b s σ H Q I h;show isTrue_and (aR (ha b s σ H Q I h) λc s1 e=>?_);cases c with
 | true=>show isTrue_and_nil e
 | false=>show e
theorem ztC(ha:PT X a tA):PW X (.BoolOp .Or [a] pos) tA:=by
 intro d b s σ H Q I h;show isTrue_or (aR (ha b s σ H Q I h) λc s1 e=>?_);cases c with
 | false=>show isTrue_or_nil e
 | true=>show e
theorem ztD(ha:PT X a tA)(hb:PW X (.BoolOp .And (b::rest) pos) D4):PW X (.BoolOp .And (a::b::rest) pos) (Zn tA D4):=by
 intro f e s σ H Q I h;show isTrue_and (aR (ha e s σ H _ I h) λc s1 g=>?_);let⟨H1,I1,d⟩:=g;cases c with
 | true=>show hb f e s1 σ H1 Q I1 d
 | false=>show⟨H1,I1,d⟩
theorem ZM(ha:PT X a tA)(hb:PW X (.BoolOp .Or (b::rest) pos) D4):PW X (.BoolOp .Or (a::b::rest) pos) (tOr tA D4):=by
 intro f e s σ H Q I h;show isTrue_or (aR (ha e s σ H _ I h) λc s1 g=>?_);let⟨H1,I1,d⟩:=g;cases c with
 | true=>show⟨H1,I1,d⟩
 | false=>show hb f e s1 σ H1 Q I1 d
theorem ztE(ha:PT X a tA):PT X (.UnaryOp .Not a pos) (Zm tA):=by
 intro b s σ H Q I h;show isTrue_not (ha b s σ H (λc H1=>Q (!c) H1) I h)
def ZL(ta tb:TE):TE:=λσ H Q=>ta σ H λx H1=>∃c,x=.bl c/\if c=true then tb σ H1 Q else Q (.bl false) H1
def Zl(ta tb:TE):TE:=λσ H Q=>ta σ H λx H1=>∃c,x=.bl c/\if c=true then Q (.bl true) H1 else tb σ H1 Q
def ZK(ta:TE):TE:=λσ H Q=>ta σ H λx H1=>∃c,x=.bl c/\Q (.bl (!c)) H1
theorem ztF(h:PE X a t):PE X (.BoolOp op [a] pos) t:=λb s σ H Q I hw=>BoolOp_one (h b s σ H Q I hw)
theorem ztG(ha:PE X a ta)(hb:PE X (.BoolOp .And (b::rest) pos) tb):PE X (.BoolOp .And (a::b::rest) pos) (ZL ta tb):=by
 intro e s σ H Q I h;show BoolOp_and (aR (ha e s σ H _ I h) λv s1 f=>?_);let⟨x,H1,I1,r1,d⟩:=f;let⟨c,rfl,d⟩:=d;cases r1;show l6 ?_;cases c with
 | true=>show hb e s1 σ H1 Q I1 d
 | false=>show⟨.bl false,H1,I1,rfl,d⟩
theorem ZJ(ha:PE X a ta)(hb:PE X (.BoolOp .Or (b::rest) pos) tb):PE X (.BoolOp .Or (a::b::rest) pos) (Zl ta tb):=by
 intro e s σ H Q I h;show BoolOp_or (aR (ha e s σ H _ I h) λv s1 f=>?_);let⟨x,H1,I1,r1,d⟩:=f;let⟨c,rfl,d⟩:=d;cases r1;show l6 ?_;cases c with
 | false=>show hb e s1 σ H1 Q I1 d
 | true=>show⟨.bl true,H1,I1,rfl,d⟩
theorem ztH(ha:PE X a ta):PE X (.UnaryOp .Not a pos) (ZK ta):=by
 intro e s σ H Q I h;show UnaryOp_ (aR (ha e s σ H _ I h) λv s1 d=>?_);let⟨x,H1,I1,r1,b⟩:=d;let⟨c,rfl,b⟩:=b;cases r1;show not_of (l6 ⟨.bl (!c),H1,I1,rfl,b⟩)
end
def bM(K:ar)(H:Hp)(a:ae)(xs:List V):Prop:=
 Rd H a (.lst xs)\/
  ∃o its n,K.lookup a=some o/\o.cls=.type "list"/\o.dict=none/\o.data=.seq its n/\its.size<=sizeLine/\Vals xs its.toList
def bF(K:ar)(H:Hp)(a:ae)(xs:List V):Prop:=
 Rd H a (.tup xs)\/
  ∃o its n,K.lookup a=some o/\o.cls=.type "tuple"/\o.data=.seq its n/\its.size<=sizeLine/\Vals xs its.toList
noncomputable def Zk:aa->Option V
 | .none=>some .non
 | .bool b=>some (.bl b)
 | .int i _=>some (.int i)
 | .str x _=>some (.str x)
 | .bytes b _=>some (.E7 b)
 | .float b _=>some (.EV b)
 | .ref a=>some (.ref a)
 | .type n=>some (.ty n)
 | _=>none
theorem RelV.abs(r:RelV x u):Zk u\x:=by
 cases x with
 | non=>cases r;rfl
 | bl _=>cases r;rfl
 | int _=>let⟨t,rfl⟩:=r;rfl
 | str _=>let⟨t,rfl⟩:=r;rfl
 | E7 _=>let⟨t,rfl⟩:=r;rfl
 | EV _=>let⟨t,rfl⟩:=r;rfl
 | ref _=>cases r;rfl
 | ty _=>cases r;rfl
theorem RelV.inj(r:RelV x u)(q:RelV y u):x=y:=qJ (r.abs.symm.trans q.abs)
theorem Vals.inj(h:Vals xs us)(k:Vals ys us):xs=ys:=by
 induction h generalizing ys with
 | nil=>cases k;rfl
 | cons r t b=>
  cases k with
  | cons a t'=>rw[r.inj a,b t']
section
variable{σ:St}
theorem bM.of{K:ar}(h:H a\.lst xs):bM K H a xs:=.inl (.inl h)
theorem bF.of{K:ar}(h:H a\.tup xs):bF K H a xs:=.inl (.inl h)
theorem Inv.list(I:Inv X J' σ H s)(h:bM X.K H a xs):∃its:List aa,Vals xs its/\PlainL s.heap a its.toArray/\xs.length<=sizeLine:=by
 rcases h with h | ⟨o,its,n,hk,c,hd,b,hz,r⟩
 .let⟨z,its,n,r,e⟩:=h.ok I.aJ;show⟨its,r,⟨_,n,e,rfl,rfl,rfl⟩,z⟩
 show⟨its.toList,r,⟨o,n,I.dy a o hk,c,hd,by simpa using b⟩,?_⟩;have e:=r.length;simp![jF] at e;cbv
theorem Inv.tuple(I:Inv X J' σ H s)(h:bF X.K H a xs):∃its:List aa,Vals xs its/\IsTup s.heap a its.toArray/\xs.length<=sizeLine:=by
 rcases h with h | ⟨o,its,n,hk,c,b,hz,r⟩
 .let⟨z,its,r,p⟩:=h.ok I.aJ;show⟨its,r,p,z⟩
 show⟨its.toList,r,⟨o,I.dy a o hk,c,n,by simpa using b⟩,?_⟩;have e:=r.length;simp![jF] at e;cbv
theorem Inv.Ak(I:Inv X J' σ H s)(h:bM X.K H a xs)(h':bM X.K H a ys):xs=ys:=by
 obtain⟨its,r,⟨o,n,e,_,_,d⟩,_⟩:=I.list h;obtain⟨its',c,⟨o',g,b,_,_,d'⟩,_⟩:=I.list h';rw[e] at b;cases b;rw[d] at d';injection d' with f _
 have:its=its':=by simpa using congrArg FU f
 subst this;show r.inj c
theorem Inv.D0(I:Inv X J' σ H s)(h:bF X.K H a xs)(h':bF X.K H a ys):xs=ys:=by
 obtain⟨its,r,⟨o,e,_,n,d⟩,_⟩:=I.tuple h;obtain⟨its',c,⟨o',b,_,g,d'⟩,_⟩:=I.tuple h';rw[e] at b;cases b;rw[d] at d';injection d' with f _
 have:its=its':=by simpa using congrArg FU f
 subst this;show r.inj c
end
noncomputable abbrev Cx.oA(X:Cx)(E:aa->ai->Prop):Cx:={ X with xe:=E }
noncomputable abbrev Cx.gL(X:Cx):Cx:=X.oA λ_ _=>False
theorem Cx.Ok.oA{X:Cx}(ok:X.Ok)(E):(X.oA E).Ok:=
 ⟨ok.mod,ok.kind,ok.glob,ok.blt,ok.above,ok.inj,ok.has,ok.cab,ok.hd,ok.frames,ok.z8,ok.exf,ok.bs,ok.qu,ok.xc,ok.xG,ok.i4,ok.nH⟩
theorem Cx.Ok.rR{X:Cx}(ok:(X.oA E).Ok):X.Ok:=
 ⟨ok.mod,ok.kind,ok.glob,ok.blt,ok.above,ok.inj,ok.has,ok.cab,ok.hd,ok.frames,ok.z8,ok.exf,ok.bs,ok.qu,ok.xc,ok.xG,ok.i4,ok.nH⟩
section
variable{σ:St}
theorem Inv.oA(I:Inv X J' σ H s)(E):Inv (X.oA E) J' σ H s:=⟨I.ok.oA E,I.os,I.bare,I.base,I.loc,I.cell,I.free,I.jT,I.pin,I.aJ,I.len⟩
theorem Inv.rR(I:Inv (X.oA E) J' σ H s):Inv X J' σ H s:=⟨I.ok.rR,I.os,I.bare,I.base,I.loc,I.cell,I.free,I.jT,I.pin,I.aJ,I.len⟩
theorem SP.rR{D:Ends}(h:SP (X.oA E) J' D f b):SP X J' D f b:=by
 cases f with
 | next=>let⟨a,H',I,q⟩:=h;show⟨a,H',I.rR,q⟩
 | brk=>let⟨a,H',I,q⟩:=h;show⟨a,H',I.rR,q⟩
 | cont=>let⟨a,H',I,q⟩:=h;show⟨a,H',I.rR,q⟩
 | ret u=>let⟨v,a,H',I,r,q⟩:=h;show⟨v,a,H',I.rR,r,q⟩
theorem jy.gL{st:List bE}(h:jy X.gL st t):jy X st t:=λJ' s σ H D I hw=>
 eW (h J' s σ H D (I.oA _) hw) (λ_ _ q=>q.rR) λ_ _ z=>False.elim z
end
section
variable{st:bE}{rest:List bE}{t u:TS}{e:ax}{te:TE}
def ZI:TS:=λD σ H=>D.nx σ H
def Rg(t u:TS):TS:=λD σ H=>t { D with nx:=u D } σ H
theorem zrA:jy X [] ZI:=λ_ _ σ H _ I h=>vz ⟨σ,H,I,h⟩
theorem Dy(c:PS X st t)(b:jy X rest u):jy X (st::rest) (Rg t u):=by
 intro a s σ H D I h;show Gp (aR (c a s σ H { D with nx:=u D } I h) λf s1 q=>?_);cases f with
 | next=>
  let⟨d,H',e,q⟩:=q;show b a s1 d H' D e q
 | ret v=>show q
 | brk=>show q
 | cont=>show q
theorem y3(a:PS X st t):jy X [st] t:=by
 intro b s σ H D I h;show Gp (aR (a b s σ H D I h) λf s1 q=>?_);cases f with
 | next=>show vz q
 | ret v=>show q
 | brk=>show q
 | cont=>show q
theorem Inv.quiet{a:St}(I:Inv X b a H s):interactive X.env=false:=by simp[interactive,I.ok.kind]
def ZH(te:TE):TS:=λD σ H=>te σ H λ_ H1=>D.nx σ H1
theorem rK(c:PE X e te)(b:swapsWith e none pos.line X.env=pure false:=by rfl):PS X (.Expr e pos) (ZH te):=by
 intro f s σ H D I h;show OK (aR (c f s σ H _ I h) λv s1 d=>by let⟨x,H1,I1,r1,a⟩:=d;show⟨σ,H1,I1,a⟩) I.quiet b
def Zj(te:TE):TS:=λD σ H=>te σ H D.rt
theorem CZ(b:PE X e te):PS X (.Return (some e) pos) (Zj te):=by
 intro d s σ H D I h;show wpAny_Return_some (aR (b d s σ H _ I h) λv s1 c=>by let⟨x,H1,I1,r1,a⟩:=c;show⟨x,σ,H1,I1,r1,a⟩)
def Zi(c:TT)(t u:TS):TS:=λD σ H=>c σ H λb H1=>if b=true then t D σ H1 else u D σ H1
theorem Ic(g:PT X c tc)(ha:jy X a t)(hb:jy X b u):PS X (.If c a b pos) (Zi tc t u):=by
 intro e s σ H D I h;show wpAny_If (aR (g e s σ H _ I h) λd s1 i=>?_);let⟨H1,I1,f⟩:=i;cases d with
 | true=>show ha e s1 σ H1 D I1 f
 | false=>show hb e s1 σ H1 D I1 f
end
noncomputable abbrev TG:=V->St->Hp->(St->Hp->Prop)->Prop
noncomputable abbrev uZ:=List V->St->Hp->(St->Hp->Prop)->Prop
def PG(X:Cx)(a:ax)(t:TG):Prop:=
 ∀c s (σ:St) H v u Q,Inv X c σ H s->RelV v u->t v σ H Q->
  ⇑(assign a X.env u) (λ_ d=>∃b H',Inv X c b H' d/\Q b H') X.xe s
def Ba(X:Cx)(ts:List ax)(t:uZ):Prop:=
 ∀c s (σ:St) H a us Q,Inv X c σ H s->Vals a us->t a σ H Q->
  ⇑(assignInOrder ((assignEach ts X.env).map (·.2)) us) (λ_ d=>∃b H',Inv X c b H' d/\Q b H') X.xe s
noncomputable abbrev Hu:=V->V->V->Hp->(Hp->Prop)->Prop
def Rf(X:Cx)(t:Hu):Prop:=
 ∀a s (σ:St) H o i v ov iv u Q,Inv X a σ H s->RelV o ov->RelV i iv->RelV v u->t o i v H Q->
  ⇑(setItem ov iv u) (λ_ b=>∃H',Inv X a σ H' b/\Q H') X.xe s
def t5(i:Nat):TG:=λv σ H Q=>Q (σ.set i (some v)) H
theorem Th(hN:X.N.Nodup)(hi:X.N[i]?\x)(a:Loc X.env.scope x)(b:X.fn x=true\/X.env.scope.names.lookup x\.local:=by first | show .inl rfl | show .inr rfl | assumption):PG X (.Name x pos) (t5 i):=by
 intro e s σ H v u Q I r h;show Py (Ju I hN hi a r (λd c=>⟨_,H,c,h⟩) b)
noncomputable def Zh:uZ:=λa σ H Q=>a=[]/\Q σ H
noncomputable def ZG(t:TG)(u:uZ):uZ:=λa σ H Q=>∃v r,a=v::r/\t v σ H λb H'=>u r b H' Q
theorem zrC:Ba X [] Zh:=by
 intro b s σ H a us Q I r h;let⟨e,h⟩:=h;subst e;cases r;show assignInOrder_nil ⟨σ,H,I,h⟩
theorem zo5(j:PG X e t)(i:Ba X a u)
  (g:(assignEach (e::a) X.env).map (·.2)=assign e X.env::(assignEach a X.env).map (·.2):=by rfl):Ba X (e::a) (ZG t u):=by
 intro b s σ H m us Q I r h;let⟨v,n,k,h⟩:=h;subst k;cases r with
 | cons r d=>
  rw[g];show assignInOrder_cons (aR (j b s σ H _ _ _ I r h) λ_ s1 l=>?_);let⟨c,H1,I1,f⟩:=l;show i b s1 c H1 _ _ Q I1 d f
def Zg(K:ar)(n:Nat)(t:uZ):TG:=λv σ H Q=>∃a xs,v=.ref a/\bF K H a xs/\xs.length=n/\t xs σ H Q
theorem ztI(l:X.calm=true)(h:Ba X c t)
  (hn:(assignEach c X.env).length=n:=by rfl) (p:(assignEach c X.env).findIdx? (·.1)=none:=by rfl):PG X (.Tuple c k pos) (Zg X.K n t):=by
 intro f s σ H v u Q I r hw;let⟨a,xs,m,i,j,hw⟩:=hw;subst m;cases r;let⟨its,d,ht,hz⟩:=I.tuple i;show assign_Tuple_tuple (I.ok.hd l) ht (by simp[hn,<-j,d.length]) p λh' g=>?_
 have I1:Inv X f σ H { s with heap:=h' }:=I.kept (t':=s.toks) λb o e=>g b o (bJ (aX e)) e
 show h f _ σ H xs _ Q I1 (by simpa using d) hw
def Zf(to a:TE)(t:Hu):TG:=λv σ H Q=>to σ H λo H1=>a σ H1 λi c=>t o i v c λb=>Q σ b
theorem ztJ(k:PE X o to)(hi:PE X i c)(j:Rf X t)
  (ha:∀v,assign (.Subscript o i pos) X.env v=(do
   let ov <-holding [v] (eval o X.env)
   let iv <-holding [v,ov] (eval i X.env)
   standAt pos
   holding [v,ov,iv] (setItem ov iv v)
   release [v,ov,iv] []):=by intro _;rfl):PG X (.Subscript o i pos) (Zf to c t):=by
 intro b s σ H v u Q I r h;rw[ha];show aj (eX (aR (k b s σ H _ I h) λov s1 a=>?_));let⟨x,H1,I1,r1,g⟩:=a;show aj (eX (aR (hi b s1 σ H1 _ I1 g) λiv s2 a=>?_));let⟨y,p,m,d,f⟩:=a;show aj (vp (aj (eX (aR (j b s2 σ p x y v ov iv u _ m r1 d r f) λ_ s3 a=>?_))));let⟨n,l,e⟩:=a;show wpAny_release ⟨σ,n,l,e⟩
def yH(te:TE)(g:TG):TS:=λD σ H=>te σ H λx H1=>g x σ H1 D.nx
theorem ztL(f:PE X e te)(hg:PG X a g)(d:swapsWithSole [a] e pos.line X.env=pure false:=by rfl)(hw:swappedStores [a] e X.env=pure none:=by rfl)
  (i:(assignEach [a] X.env).map (·.2)=[assign a X.env]:=by rfl):PS X (.Assign [a] e pos) (yH te g):=by
 intro b s σ H D I h;show wpAny_Assign_stores (aR (f b s σ H _ I h) λv s1 j=>?_) d hw;let⟨x,H1,I1,r1,c⟩:=j;rw[i];show aR (hg b s1 σ H1 x v _ I1 r1 c) λ_ s2 q=>q
theorem Sj(hN:X.N.Nodup)(hi:X.N[i]?\x)(c:Loc X.env.scope x)(g:PE X e te)(d:swapsWith e (some (.Name x a)) pos.line X.env=pure false:=by rfl)(f:X.fn x=true\/X.env.scope.names.lookup x\.local:=by first | show .inl rfl | show .inr rfl | assumption) :
  PS X (.Assign [.Name x a] e pos) (yH te (t5 i)):=by
 intro k s σ H D I h;show wpAny_Assign_Name (aR (g k s σ H _ I h) λv s1 j=>?_) d;let⟨y,H1,I1,r1,b⟩:=j;show Ju I1 hN hi c r1 (λs2 l=>⟨_,H1,l,b⟩) f
def ztM(c:TT)(e:TS):TS:=λD σ H=>∃W:Nat->St->Hp->Prop,(∃m,W m σ H)/\∀m σ H,W m σ H->
 c σ H λb H1=>if b=true then ∃N:St->Hp->Prop,(∀d H',N d H'->∃a,a<m/\W a d H')/\e { D with nx:=N,ct:=N,bk:=D.nx } σ H1 else D.nx σ H1
theorem zo6(j:PassesOwn (model X.prog X.w) X.A X.env X.xe)(u:PT X c tc)(hb:jy X body i):PS X (.While c body [] pos) (ztM tc i):=by
 intro g s σ H D I h;obtain⟨W,⟨m0,p⟩,turn⟩:=h;show wpAny_While (codeAny_whileLoop (λn q=>∃k H',Inv X g k H' q/\W n k H') ?_ m0 ⟨σ,H,I,p⟩);rintro n s1 ⟨a,H1,I1,o⟩;show tw j (aR (u g s1 a H1 _ I1 (turn n a H1 o)) λb s2 x=>?_);let⟨m,l,e⟩:=x;cases b with
 | true=>
  let⟨N,hN,e⟩:=e;rw[if_pos rfl];show tw j (aR (hb g s2 a m _ l e) λf s3 d=>?_);cases f with
  | next=>
   let⟨t,z,y,r⟩:=d;grind
  | cont=>
   let⟨t,z,y,r⟩:=d;grind
  | brk=>show d
  | ret v=>show d
 | false=>
  rw[if_neg ja];show vz ⟨a,m,l,e⟩
structure It where
 go:Nat->Hp->Prop
 DV:Nat->Hp->V->Hp->Prop
 stop:Nat->Hp->Prop
def lY(X:Cx)(a:List (ae×aL))(H:Hp)(b:ae):Prop:=
 H b=none/\b≠X.env.locals/\b∉X.fs/\(b∈X.ex\/X.cN.heap.objs.size<=b)/\(∀x c,X.env.cells.lookup x\c->c≠b)/\∀p∈X.pn++a,p.1≠b
theorem Inv.oS{d:St}{b:ae}(I:Inv X a d H s)(hb:*...*<=b)(hn:H' b=none):lY X a H' b:=by
 show⟨hn,jd (gm I.lt hb),I.aaB hb,.inr (gB I.sz hb),λx c e z=>?_,λp f z=>?_⟩
 .let⟨v,q⟩:=I.cell x c e;show absurd (gm q.lt (by rw[z];show hb)) (sY _)
 show absurd (gm (aX (I.pin p f).1) (by rw[z];show hb)) (sY _)
structure Turn(P:aD)(w:aB)(K:ar)(tg:ax)(J:It)(fp:List ae)(it:ae)(tn:Nat->aw->Prop):Prop where
 mem:it∈fp
 obj:∀i h,tn i h->∀b∈fp,∃o,h.get? b\o/\∀v,o.data≠.cell v
 keep:∀i h h',tn i h->(∀b∈fp,∀o,h.get? b\o->h'.get? b\o)->tn i h'
 item:∀(X:Cx),X.prog=P->X.w=w->X.K=K->X.calm=true->∀(i:Nat)(J':List (ae×aL))(s:ai)(σ:St)(H:Hp)(E:aa->ai->Prop),Inv X J' σ H s->(∀b∈fp,lY X J' H b)->tn i s.heap->J.go i H->
  wpAny (model P w) X.A (pyNext (.ref it)) (λr s1=>∃u,r\u/\
   wpAny (model P w) X.A (letOwnedTupleGo tg (.ref it) u) (λ_ s2=>∃x H',Inv X J' σ H' s2/\RelV x u/\J.DV i H x H'/\tn (i+1) s2.heap/\∀b∈fp,H' b=none) E s1) E s
 done:∀(X:Cx),X.prog=P->X.w=w->X.K=K->X.calm=true->∀(i:Nat)(J':List (ae×aL))(s:ai)(σ:St)(H:Hp)(E:aa->ai->Prop),Inv X J' σ H s->(∀b∈fp,lY X J' H b)->tn i s.heap->J.stop i H->
  wpAny (model P w) X.A (pyNext (.ref it)) (λr s1=>r=none/\Inv X J' σ H s1) E s
 self:∀(A:aT)(i:Nat)(s:ai)(Q:aa->ai->Prop)(E:aa->ai->Prop),tn i s.heap->Q (.ref it) s->wpAny (model P w) A (pyIter (.ref it)) Q E s
noncomputable abbrev TI:=St->Hp->(It->Hp->Prop)->Prop
def Ff(X:Cx)(d:List (ae×aL))(e:St)(f:ax)(R:It->Hp->Prop)(g:aa)(c:ai):Prop:=
 ∃it fp a J H',g=.ref it/\Inv X d e H' c/\Turn X.prog X.w X.K f J fp it a/\a 0 c.heap/\(∀b∈fp,lY X d H' b)/\R J H'
def PI(X:Cx)(d a:ax)(c:TI):Prop:=
 ∀b s (σ:St) H R,Inv X b σ H s->c σ H R->
  ⇑(eval a X.env) (λv s1=>⇑(pyIter v) (Ff X b σ d R) X.xe s1) X.xe s
theorem yN(d:s.heap.get? it\o)(e:o.cls=.type n)(hd:o.data=.fields b)
  (hn:["enumerate","zip","dict_itemiterator","dict_reverseitemiterator","odict_iterator","itertools.zip_longest","itertools.pairwise"].contains n=false) (a:Q () s):wpAny M A (letOwnedTupleGo c (.ref it) u) Q E s:=by
 unfold letOwnedTupleGo;cases c<;>first
  | show az a
  | (cases u<;>first
    | show az a
    | (show aj (vh d ?_)
       rw[e,hd];show wpAny M A (if (["enumerate","zip","dict_itemiterator","dict_reverseitemiterator","odict_iterator","itertools.zip_longest","itertools.pairwise"].contains n&&b[0]?==some (rawInt _))=true then _ else _) Q E s;rw[if_neg (by intro h;rw[hn,OJ] at h;cases h)];show az a))
noncomputable def Nx(K:ar)(a:ae):It:=
 ⟨λi H=>∃xs x,bM K H a xs/\xs[i]?\x,λi H x H'=>H'=H/\∀xs,bM K H a xs->xs[i]?\x,λi H=>∃xs,bM K H a xs/\xs.length<=i⟩
noncomputable def Nw(K:ar)(a:ae):It:=
 ⟨λi H=>∃xs x,bF K H a xs/\xs[i]?\x,λi H x H'=>H'=H/\∀xs,bF K H a xs->xs[i]?\x,λi H=>∃xs,bF K H a xs/\xs.length<=i⟩
noncomputable def Bc(lo:Int)(n:Nat):It:=⟨λi _=>i<n,λi H x H'=>H'=H/\x=.int (lo+i),λi _=>n<=i⟩
theorem zml{K:ar}(a it):Turn P w K B (Nx K a) [it] it (λi h=>h.IsListIter it a i) where
 mem:=by room
 obj:=λi h st b hb=>by
  have e:b=it:=by simpa using hb
  subst e;let⟨o,e,c,d⟩:=st;show⟨o,e,λv z=>by rw[d] at z;cases z⟩
 keep:=λi h h' st k=>st.at λo e=>k it (by room) o e
 item:=by
  intro X m hw n t i A s σ H E I hf st hg;subst m hw n;let⟨xs,x,f,j⟩:=hg;let⟨its,g,p,hz⟩:=I.list f;let⟨u,J,D⟩:=g.get j;let⟨f0,f1,f2,r,f4,q⟩:=hf it (by room);show wpAny_pyNext_list_item st p.isList (x:=u) (by simpa using J) λh' y C=>?_
  have I1:Inv X A σ H { s with heap:=h' }:=I.turned (t':=s.toks) (λb o hb e=>(C.2 b hb).trans e) f0 f1 r f4 q;let⟨o,e,c,d⟩:=id y;show⟨u,rfl,yN (s:={ s with heap:=h' }) e c d (by rfl) ⟨x,H,I1,D,⟨rfl,λys F=>by rw[I.Ak F f];show j⟩,y,λb hb=>(hf b hb).1⟩⟩
 done:=by
  intro X m hw n t i A s σ H E I hf st hg;subst m hw n;let⟨xs,f,j⟩:=hg;let⟨its,g,p,hz⟩:=I.list f;let⟨f0,f1,f2,r,f4,q⟩:=hf it (by room);have hl:=g.length;show wpAny_pyNext_list_end (I.ok.hd t) st p.isList (by simp;cbv) λh' L=>⟨rfl,I.turned (t':=s.toks) (λb o hb e=>L b o hb e) f0 f1 r f4 q⟩
 self:=λ_ _ _ _ _ st h=>wpAny_pyIter_listiter st h
theorem zll{K:ar}(a it):Turn P w K B (Nw K a) [it] it (λi h=>h.IsTupleIter it a i) where
 mem:=by room
 obj:=λi h st b hb=>by
  have e:b=it:=by simpa using hb
  subst e;let⟨o,e,c,d⟩:=st;show⟨o,e,λv z=>by rw[d] at z;cases z⟩
 keep:=λi h h' st k=>st.at λo e=>k it (by room) o e
 item:=by
  intro X m hw n t i A s σ H E I hf st hg;subst m hw n;let⟨xs,x,f,j⟩:=hg;let⟨its,g,p,hz⟩:=I.tuple f;let⟨u,J,D⟩:=g.get j;let⟨f0,f1,f2,r,f4,q⟩:=hf it (by room);show wpAny_pyNext_tuple_item st (show s.heap.IsTuple a its.toArray from p) (x:=u) (by simpa using J) λh' y C=>?_
  have I1:Inv X A σ H { s with heap:=h' }:=I.turned (t':=s.toks) (λb o hb e=>(C.2 b hb).trans e) f0 f1 r f4 q;let⟨o,e,c,d⟩:=id y;show⟨u,rfl,yN (s:={ s with heap:=h' }) e c d (by rfl) ⟨x,H,I1,D,⟨rfl,λys F=>by rw[I.D0 F f];show j⟩,y,λb hb=>(hf b hb).1⟩⟩
 done:=by
  intro X m hw n t i A s σ H E I hf st hg;subst m hw n;let⟨xs,f,j⟩:=hg;let⟨its,g,p,hz⟩:=I.tuple f;let⟨f0,f1,f2,r,f4,q⟩:=hf it (by room);have hl:=g.length;show wpAny_pyNext_tuple_end (I.ok.hd t) st (show s.heap.IsTuple a its.toArray from p) (by simp;cbv) λh' L=>⟨rfl,I.turned (t':=s.toks) (λb o hb e=>L b o hb e) f0 f1 r f4 q⟩
 self:=λ_ _ _ _ _ st h=>wpAny_pyIter_tupleiter st h
theorem zlm{K:ar}(it lo n):Turn P w K r (Bc lo n) [it] it (λi h=>IsRangeIter h it (lo+(i:Nat)*1) ((n:Int)-(i:Nat)) 1) where
 mem:=by room
 obj:=λi h st b hb=>by
  cbv
 keep:=λi h h' st k=>k it (by room) _ st
 item:=by
  intro X f hw g d i q s σ H E I hf st hg;subst f hw g;let⟨f0,f1,f2,m,f4,j⟩:=hf it (by room);have W:=Walks.range (prog:=X.prog) (w:=X.w) (I.ok.hd d) it lo 1 n;show W.item i s _ _ hg st λv h' tk hv p kk=>?_
  let⟨t,rfl⟩:=hv;have I1:Inv X q σ H { s with heap:=h',toks:=tk }:=I.turned (λb o hb e=>kk b o (by simpa using hb) e) f0 f1 m f4 j;show⟨_,rfl,yN (s:={ s with heap:=h',toks:=tk }) (n:="range_iterator") p rfl rfl (by rfl) ⟨.int (lo+i),H,I1,⟨t,?_⟩,⟨rfl,rfl⟩,p,λb hb=>(hf b hb).1⟩⟩;rw[Int.mul_one]
 done:=by
  intro X f hw g d i q s σ H E I hf st hg;subst f hw g;let⟨f0,f1,f2,m,f4,j⟩:=hf it (by room);show wpAny_pyNext_range_end (I.ok.hd d) st (by have:n<=i:=hg;lia) λh' u=>⟨rfl,I.turned (t':=s.toks) (λb o hb e=>u b o hb e) f0 f1 m f4 j⟩
 self:=λ_ _ _ _ _ st h=>wpAny_pyIter_rangeiter st h
theorem TY{a:St}{R:It->Hp->Prop}{lo hi:Int}(I:Inv X c a H s)(h:-(2 ^ 62)<=lo)(g:lo<2 ^ 62)(f:-(2 ^ 62)<=hi)(d:hi<2 ^ 62)
  (q:R (Bc lo (hi-lo).toNat) H):⇑(pyIter (.ref *...*)) (Ff X c a tg R) E { s with heap:=s.heap.push { cls:=.type "range",data:=.fields #[.int lo t,.int hi u,.int 1 v] },toks:=tk }:=by
 show wpAny_pyIter_range (IsRange.new ..) (small_one h g f d) ?_;have I1:Inv X c a H { s with heap:=s.heap.push { cls:=.type "range",data:=.fields #[.int lo t,.int hi u,.int 1 v] },toks:=tk }:=I.kept λb o e=>aV _ e
 show⟨(s.heap.push { cls:=.type "range",data:=.fields #[.int lo t,.int hi u,.int 1 v] }).objs.size,[(s.heap.push { cls:=.type "range",data:=.fields #[.int lo t,.int hi u,.int 1 v] }).objs.size],_,_,H,rfl,
  I1.kept (t':=tk) λb o e=>aV _ e,zlm _ lo (hi-lo).toNat,?_,λb hb=>?_,q⟩
 .have j:lo+((0:Nat):Int)*1=lo:=by simp
  have i:(((hi-lo).toNat:Nat):Int)-((0:Nat):Int)=YL lo hi 1:=by rw[rangeSize_one];split<;>grind
  show IsRangeIter _ _ (lo+((0:Nat):Int)*1) ((((hi-lo).toNat:Nat):Int)-((0:Nat):Int)) 1;rw[j,i];show b8 _ rfl
 have e:b=(s.heap.push { cls:=.type "range",data:=.fields #[.int lo t,.int hi u,.int 1 v] }).objs.size:=by show dD.1 ‹_›
 subst e;show I1.oS (aW _) (I1.aJ.fresh (aW _))
def ZF(b:TA):TI:=λσ H R=>b σ H λa H1=>∃j:Int,a=[.int j]/\-(2 ^ 62)<=j/\j<2 ^ 62/\R (Bc 0 j.toNat) H1
def ZE(b:TA):TI:=λσ H R=>b σ H λa H1=>∃i j:Int,a=[.int i,.int j]/\(-(2 ^ 62)<=i/\i<2 ^ 62/\-(2 ^ 62)<=j/\j<2 ^ 62)/\R (Bc i (j-i).toNat) H1
theorem zmm(hg:Gl X "range")(hm:X.mg "range"=none)(ha:PA X [a] c)(g:starEach [a] X.env=[(false,eval a X.env)]:=by rfl):PI X tg (.Call (.Name "range" p) [a] [] pos) (ZF c):=by
 intro k s σ H R I h;show Call_ (kO I hg hm boot_range (qB (aR (ha pos k s σ H _ I h) λus s1 i=>?_) g rfl));let⟨l,H1,I1,r1,b⟩:=i;let⟨j,e,b,f,q⟩:=b;subst e;cases r1 with
 | cons r d=>
  cases d;let⟨t,rfl⟩:=r;show call_range_1 (TY I1 (by cbv) (by cbv) b f (by simpa using q))
theorem zmn(hg:Gl X "range")(hm:X.mg "range"=none)(ha:PA X [a,b] f)(o:starEach [a,b] X.env=[(false,eval a X.env),(false,eval b X.env)]:=by rfl)(g:starEach [b] X.env=[(false,eval b X.env)]:=by rfl) :
  PI X tg (.Call (.Name "range" p) [a,b] [] pos) (ZE f):=by
 intro u s σ H R I h;show Call_ (kO I hg hm boot_range (qB (aR (ha pos u s σ H _ I h) λus s1 ⟨v,H1,I1,r1,d⟩=>?_) (by rw[o,g]) (by rw[g];rfl)));obtain⟨i,j,e,⟨d,n,m,l⟩,q⟩:=d;subst e;cases r1 with
 | cons r c=>
  cases c with
  | cons k c=>
   cases c;let⟨t,rfl⟩:=r;let⟨t',rfl⟩:=k;show call_range_2 (TY I1 d n m l q)
def Ze(c:TI)(g:TG)(d:TS):TS:=λD σ H=>c σ H λJ H1=>∃W:Nat->Nat->St->Hp->Prop,(∃m,W 0 m σ H1)/\∀i m σ H,W i m σ H->
 (J.stop i H/\D.nx σ H)\/(J.go i H/\∃N:St->Hp->Prop,(∀b H',N b H'->∃a,a<m/\W (i+1) a b H')/\∀x H',J.DV i H x H'->g x σ H' λe f=>d { D with nx:=N,ct:=N,bk:=D.nx } e f)
noncomputable def yU(fp:List ae)(h:aw):List (ae×aL):=fp.filterMap λb=>(h.get? b).map λo=>(b,o)
theorem DJ(hb:b∈fp)(e:h.get? b\o):(b,o)∈yU fp h:=BZ.mpr ⟨b,hb,by rw[e];rfl⟩
theorem zmo(a:p∈yU fp h):p.1∈fp/\h.get? p.1\p.2:=by
 let⟨b,hb,e⟩:=BZ.mp a;cases q:h.get? b with
 | none=>rw[q] at e;cases e
 | some o=>
  grind
theorem Inv.pinned{c:St}(I:Inv X a c H s)(f:∀b∈fp,lY X a H b)(g:∀b∈fp,∃o,s.heap.get? b\o/\∀v,o.data≠.cell v):Inv X (a++yU fp s.heap) c H s:=
 I.V4 λp d=>(cy.mp d).elim (λz=>I.pin p (gD _ z)) λz=>by
  let⟨hb,e⟩:=zmo z;let⟨f0,f1,f2,y⟩:=f p.1 hb;grind
theorem Inv.DY{a:St}(I:Inv X (b++pl) a H s):Inv X b a H s:=I.V4 λp c=>I.pin p (gD _ (jb _ c))
theorem ztN(z:PassesOwn (model X.prog X.w) X.A X.env X.xe)(S:X.calm=true)(hi:PI X tg c O)(hg:PG X tg g)(hb:jy X body Q)
  (hs:∀x,foldedSetIterable c X.env x=pure x:=by intro _;rfl):PS X (.For tg c body [] pos) (Ze O g Q):=by
 intro q s σ H D I h;show wpAny_For (aR (hi q s σ H _ I h) λv s1 h1=>aR h1 λLA s2 h2=>?_) hs;obtain⟨it,fp,P,J,H2,e,I2,T,D6,f2,W,⟨m0,w0⟩,turn⟩:=h2;subst e
 -- aab stays true of kU acG objects through kU loop
 have L:∀{H':Hp},(∀b∈fp,H' b=none)->∀b∈fp,lY X q H' b:=λhn b hb=>⟨hn b hb,(f2 b hb).2⟩
 show codeAny_forLoop_any (λn R=>∃i B H',Inv X q B H' R/\P i R.heap/\(∀b∈fp,H' b=none)/\W i n B H') ?_ m0 ⟨0,σ,H2,I2,D6,λb hb=>(f2 b hb).1,w0⟩;rintro n s3 ⟨i,y,C,Y,V,U,w3⟩;rcases turn i n y C w3 with⟨stop,qn⟩ | ⟨go,N,hN,step⟩
 .refine tw z (aR (T.done X rfl rfl rfl S i q s3 y C X.xe Y (L U) V stop) λr s4 p=>?_);let⟨F,I4⟩:=p;subst F;show vz ⟨y,C,I4,qn⟩
 show tw z (aR (T.item X rfl rfl rfl S i q s3 y C X.xe Y (L U) V go) λr s4 p=>?_);let⟨u,F,h4⟩:=p;subst F;show tw z (aR h4 λ_ s5 p=>?_);let⟨x,Z,I5,r5,y5,K,G⟩:=p;have M:=I5.pinned (L G) (T.obj _ _ K);show tw z (aR (hg _ s5 y Z x u _ M r5 (step x Z y5)) λ_ s6 p=>?_);let⟨Yk,H6,I6,q6⟩:=p;show tw z (aR (hb _ s6 Yk H6 _ I6 q6) λf E l=>?_);have again:∀{a:St}{k:Hp},Inv X (q++yU fp s5.heap) a k E->N a k->∃m,m<n/\∃i B H',Inv X q B H' E/\P i E.heap/\(∀b∈fp,H' b=none)/\W i m B H':=λ{a k} j t=>by
  let⟨m',hm,w7⟩:=hN a k t;show⟨m',hm,i+1,a,k,j.DY,T.keep _ _ _ K λb hb o e=>(j.pin (b,o) (gD _ (gD _ (DJ hb e)))).1,λb hb=>?_,w7⟩;let⟨o,e,d⟩:=T.obj _ _ K b hb;show(j.pin (b,o) (gD _ (gD _ (DJ hb e)))).2.1
 cases f with
 | next=>let⟨a,k,j,t⟩:=l;show again j t
 | cont=>let⟨a,k,j,t⟩:=l;show again j t
 | brk=>let⟨a,k,j,l⟩:=l;show⟨a,k,j.DY,l⟩
 | ret v=>let⟨x7,a,k,j,r7,l⟩:=l;show⟨x7,a,k,j.DY,r7,l⟩
noncomputable abbrev R2:=V->V->Hp->VK->Prop
def cE(X:Cx)(f:aa->aa->Sem aa)(r:R2):Prop:=
 ∀a s (σ:St) H x y v u Q,Inv X a σ H s->RelV x v->RelV y u->r x y H Q->
  ⇑(f v u) (EP X a σ Q) X.xe s
def MQ(X:Cx)(f:aa->Sem aa)(r:V->Hp->VK->Prop):Prop:=
 ∀a s (σ:St) H x v Q,Inv X a σ H s->RelV x v->r x H Q->
  ⇑(f v) (EP X a σ Q) X.xe s
def fk(X:Cx)(f:aa)(r:List V->Hp->VK->Prop):Prop:=
 ∀a s (σ:St) H xs us Q,Inv X a σ H s->Vals xs us->r xs H Q->
  ⇑(call f us) (EP X a σ Q) X.xe s
def z7(r:R2)(b a:TE):TE:=λσ H Q=>b σ H λx H1=>a σ H1 λy c=>r x y c Q
def tUn(r:V->Hp->VK->Prop)(a:TE):TE:=λσ H Q=>a σ H λx H1=>r x H1 Q
def rI(C:Int->Int->Prop)(g:Int->Int->V):R2:=λx y H Q=>∃i j,x=.int i/\y=.int j/\C i j/\Q (g i j) H
def kd(g:Int->Int->V):R2:=λx y H Q=>∃i j,x=.int i/\y=.int j/\Q (g i j) H
def rU(g:Int->V):V->Hp->VK->Prop:=λx H Q=>∃i,x=.int i/\Q (g i) H
section
variable{a b c:ax}
theorem Ht(ha:PE X a ta)(hb:PE X b tb){c:St}{R:V->V->Hp->Prop}(I:Inv X e c H s)
  (h:ta c H λx H1=>tb c H1 λy d=>R x y d)  {f:aa->aa->Sem aa}
  (m:∀v u s2 x y d,Inv X e c d s2->RelV x v->RelV y u->R x y d->⇑(f v u) Q X.xe s2) :
  ⇑(eval a X.env) (λv n=>⇑(eval b X.env) (λu l=>⇑(f v u) Q X.xe l) X.xe n) X.xe s:=by
 show aR (ha e s c H _ I h) λv s1 g=>?_
 let⟨x,H1,I1,r1,k⟩:=g;show aR (hb e s1 c H1 _ I1 k) λu s2 g=>?_
 let⟨y,d,o,i,j⟩:=g;show m v u s2 x y d o r1 i j
theorem RO(e:cE X (binaryOp op) r)(ha:PE X a ta)(hb:PE X b tb):PE X (.BinOp a op b pos) (z7 r ta tb):=by
 intro f s σ H Q I h;show wpAny_BinOp (Ht ha hb I h λv u s2 x y i g d c q=>e f s2 σ i x y v u Q g d c q)
theorem ZD(d:MQ X (unaryOp op) r)(ha:PE X a ta):PE X (.UnaryOp op a pos) (tUn r ta):=by
 intro b s σ H Q I h;show UnaryOp_ (aR (ha b s σ H _ I h) λv s1 e=>by let⟨x,H1,I1,r1,c⟩:=e;show d b s1 σ H1 x v Q I1 r1 c)
theorem Eb{g:Int->Int->Int}
  (a:∀i j t u s Q E,C i j->Q (.int (g i j) s.toks) { s with toks:=s.toks+1 }->⇑(f (.int i t) (.int j u)) Q E s) :
  cE X f (rI C λi j=>.int (g i j)):=by
 intro e s σ H x y v u Q I c b h;let⟨i,j,rfl,rfl,d,q⟩:=h;let⟨t,rfl⟩:=c;let⟨t',rfl⟩:=b;show a i j t t' s _ _ d ⟨.int (g i j),H,I.tok _,⟨_,rfl⟩,q⟩
theorem Rc{g:Int->Int->Int}
  (a:∀i j t u s Q E,Q (.int (g i j) s.toks) { s with toks:=s.toks+1 }->⇑(f (.int i t) (.int j u)) Q E s) :
  cE X f (kd λi j=>.int (g i j)):=by
 intro d s σ H x y v u Q I c b h;let⟨i,j,rfl,rfl,q⟩:=h;let⟨t,rfl⟩:=c;let⟨t',rfl⟩:=b;show a i j t t' s _ _ ⟨.int (g i j),H,I.tok _,⟨_,rfl⟩,q⟩
theorem Cw{g:Int->Int->Bool}
  (a:∀i j t u s Q E,Q (.bool (g i j)) s->⇑(f (.int i t) (.int j u)) Q E s) :
  cE X f (kd λi j=>.bl (g i j)):=by
 intro d s σ H x y v u Q I c b h;let⟨i,j,rfl,rfl,q⟩:=h;let⟨t,rfl⟩:=c;let⟨t',rfl⟩:=b;show a i j t t' s _ _ ⟨.bl (g i j),H,I,rfl,q⟩
def Cv(i j:Int):Prop:=0<j/\j<1073741824
def tS(i j:Int):Prop:=0<=j/\j<=1000000/\i.natAbs<2 ^ 64
def Bf(i j:Int):Prop:=(-(2 ^ 64)<i/\i<2 ^ 64)\/(-(2 ^ 64)<j/\j<2 ^ 64)
theorem Bf.ok(h:Bf i j):IntMulOk i j:=by
 rcases h with⟨b,a⟩ | ⟨b,a⟩
 .exact .of_left (Oo b a)
 show .of_right (Oo b a)
theorem aaw:cE X (binaryOp .Add) (kd λi j=>.int (i+j)):=Rc λ_ _ _ _ _ _ _ q=>add_int q
theorem ztP:cE X (binaryOp .Sub) (kd λi j=>.int (i-j)):=Rc λ_ _ _ _ _ _ _ q=>sub_int q
theorem ztQ:cE X (binaryOp .Mult) (rI Bf λi j=>.int (i*j)):=Eb λ_ _ _ _ _ _ _ a q=>mul_int q a.ok
theorem zrE:cE X (binaryOp .FloorDiv) (rI Cv λi j=>.int (i/j)):=Eb λi j _ _ _ _ _ b q=>by
 have e:(0:Int)<j:=b.1;have d:j<1073741824:=b.2;show floordiv_int (by lia) (by rw[Int.fdiv_eq_ediv_of_nonneg i (by room)];show q) (.inl (PyProof.noPylong_small (by grind)))
theorem ztR:cE X (binaryOp .Mod) (rI (λ_ j=>0<j) λi j=>.int (i%j)):=Eb λi j _ _ _ _ _ b q=>by
 have d:(0:Int)<j:=b;show mod_int' (by lia) (by rw[Int.fmod_eq_emod_of_nonneg i (by room)];show q)
theorem ztS:cE X (binaryOp .Pow) (rI tS λi j=>.int (i ^ j.toNat)):=Eb λ_ _ _ _ _ _ _ a q=>pow_int_small a.1 a.2.1 a.2.2 q
theorem unI{g:Int->Int}
  (a:∀i t s Q E,Q (.int (g i) s.toks) { s with toks:=s.toks+1 }->⇑(f (.int i t)) Q E s) :
  MQ X f (rU λi=>.int (g i)):=by
 intro c s σ H x v Q I b h;let⟨i,rfl,q⟩:=h;let⟨t,rfl⟩:=b;show a i t s _ _ ⟨.int (g i),H,I.tok _,⟨_,rfl⟩,q⟩
theorem ztT:MQ X (unaryOp .USub) (rU λi=>.int (-i)):=unI λ_ _ _ _ _ q=>neg_int q
end
section
variable{a b c:ax}{ta tb tc:TE}
theorem Si{c:List (ae×aL)}{a:St}{k b:Bool}(I:Inv X c a H s)(q:Q (.bl k) H)(e:k=b):EP X c a Q (.bool b) s:=by
 subst e;show⟨.bl k,H,I,rfl,q⟩
theorem RN:cE X (compareOp .Lt) (kd λi j=>.bl (decide (i<j))):=Cw λ_ _ _ _ _ _ _ q=>lt_int q
theorem vX:cE X (compareOp .LtE) (kd λi j=>.bl (decide (i<=j))):=Cw λ_ _ _ _ _ _ _ q=>le_int q
theorem ZC:cE X (compareOp .Gt) (kd λi j=>.bl (decide (j<i))):=Cw λ_ _ _ _ _ _ _ q=>gt_int q
theorem ZA:cE X (compareOp .GtE) (kd λi j=>.bl (decide (j<=i))):=Cw λ_ _ _ _ _ _ _ q=>ge_int q
theorem ztV:cE X (compareOp .Is) (λx y H Q=>y=.non/\Q (.bl (decide (x=.non))) H):=by
 intro c s σ H x y v u Q I a b h;let⟨rfl,q⟩:=h;cases b;show is_none_gen (Si I q ?_);cases x<;>first
  | (cases a;rfl)
  | (let⟨t,rfl⟩:=a;rfl)
theorem zrF:cE X (compareOp .IsNot) (λx y H Q=>y=.non/\Q (.bl (!decide (x=.non))) H):=by
 intro c s σ H x y v u Q I a b h;let⟨rfl,q⟩:=h;cases b;show isnot_none_gen (Si I q ?_);cases x<;>first
  | (cases a;rfl)
  | (let⟨t,rfl⟩:=a;rfl)
theorem cE.or{r c:R2}(h:cE X f r)(h':cE X f c):cE X f (λx y H Q=>r x y H Q\/c x y H Q):=by
 intro d s σ H x y v u Q I b a q;rcases q with q | q
 .exact h d s σ H x y v u Q I b a q
 show h' d s σ H x y v u Q I b a q
theorem Sh(b)(h:op≠.In:=by decide)(a:op≠.NotIn:=by decide):behindInMarks op b=false:=by
 have d:(op==NL)=false:=by cases op<;>first | rfl | show absurd rfl h
 have c:(op==N0)=false:=by cases op<;>first | rfl | show absurd rfl a
 cases b<;>simp[behindInMarks,d,c]
theorem zrG(e:cE X (compareOp op) r)(ha:PE X a ta)(hb:PE X b tb)(hm:behindInMarks op b=false):PE X (.Compare a [op] [b] pos) (z7 r ta tb):=by
 intro f s σ H Q I h;show wpAny_Compare1 (Ht ha hb I h λv u s2 x y i g d c q=>e f s2 σ i x y v u Q g d c q) hm
def Ib(t:TE):TT:=λσ H Q=>t σ H λx H'=>∃k,x=.bl k/\Q k H'
theorem zrI(n:cE X (compareOp op) r)(ha:PE X a ta)(hb:PE X b tb)(hm:behindInMarks op b=false):PT X (.Compare a [op] [b] pos) (Ib (z7 r ta tb)):=by
 intro f s σ H Q I h;show Qv (aR (ha f s σ H _ I h) λv s1 d=>?_) hm;let⟨x,H1,I1,r1,m⟩:=d;show aR (hb f s1 σ H1 _ I1 m) λu s2 d=>?_
 let⟨y,t,p,i,l⟩:=d;show aR (n f s2 σ t x y v u _ p r1 i l) λc s3 d=>?_
 let⟨z,q,o,g,k,e,j⟩:=d;subst e;cases g;show l6 ⟨q,o,j⟩
def IG(r c:R2)(ta tb tc:TE):TE:=λσ H Q=>ta σ H λx H1=>tb σ H1 λy e=>r x y e λz a=>∃k,z=.bl k/\
 (if k=true then tc σ a λb d=>c y b d Q else Q (.bl false) a)
theorem zo7(D:cE X (compareOp op) r)(F:cE X (compareOp i) l)(ha:PE X a ta)(hb:PE X b tb)(E:PE X c tc)
  (hm:lastMarks [op,i] [b,c]=false:=by with_unfolding_all rfl):PE X (.Compare a [op,i] [b,c] pos) (IG r l ta tb tc):=by
 intro g s σ H Q I h;show Compare_chain (aR (ha g s σ H _ I h) λv s1 f=>?_) hm;let⟨x,H1,I1,r1,C⟩:=f;show chain_link (aR (hb g s1 σ H1 _ I1 C) λu s2 f=>?_);let⟨y,L,J,j,B⟩:=f;show aR (D g s2 σ L x y v u _ J r1 j B) λd s3 f=>?_
 let⟨z,o,n,w,k,e,m⟩:=f;subst e;cases w;show l6 ?_;cases k with
 | false=>show ite_ff ⟨.bl false,o,n,rfl,m⟩
 | true=>show ite_tt (chain_last (aR (E g s3 σ o _ n m) λq s4 f=>by let⟨p,K,G,t,A⟩:=f;show F g s4 σ K y p u q Q G j t A))
theorem zo8(G:cE X (compareOp op) r)(M:cE X (compareOp i) l)(ha:PE X a ta)(hb:PE X b tb)(J:PE X c tc)
  (hm:lastMarks [op,i] [b,c]=false:=by with_unfolding_all rfl):PT X (.Compare a [op,i] [b,c] pos) (Ib (IG r l ta tb tc)):=by
 intro g s σ H Q I h;show isTrue_chain (aR (ha g s σ H _ I h) λv s1 f=>?_) hm;let⟨x,H1,I1,r1,E⟩:=f;show test_link (aR (hb g s1 σ H1 _ I1 E) λu s2 f=>?_);let⟨y,T,P,j,D⟩:=f;show aR (G g s2 σ T x y v u _ P r1 j D) λd s3 f=>?_
 let⟨z,o,n,A,k,e,m⟩:=f;subst e;cases A;show l6 ?_;cases k with
 | false=>
  let⟨W,L,F⟩:=m;cases L;show ite_ff ⟨o,n,F⟩
 | true=>
  show ite_tt (test_last (aR (J g s3 σ o _ n m) λq s4 f=>?_));let⟨p,S,O,w,C⟩:=f;show aR (M g s4 σ S y p u q _ O j w C) λd' s5 f=>?_
  let⟨U,R,N,t,V,K,B⟩:=f;subst K;cases t;show l6 ⟨R,N,B⟩
theorem wo:(sizeLine:Nat)<2 ^ 63:=by rw[sizeLine_eq];cbv
theorem aav:cE X (binaryOp .Add) (λx y H Q=>∃i j,x=.str i/\y=.str j/\i.length+j.length<=sizeLine/\Q (.str (i++j)) H):=by
 intro c s σ H x y v u Q I b a h;let⟨i,j,rfl,rfl,hz,q⟩:=h;let⟨t,rfl⟩:=b;let⟨t',rfl⟩:=a;show add_str (λt' tk=>⟨.str (i++j),H,I.tok _,⟨_,rfl⟩,q⟩) hz
theorem gH(r:Vals [x] us):∃u,us=[u]/\RelV x u:=by
 cases r with
 | cons r1 a=>cases a;show⟨_,rfl,r1⟩
theorem oh(r:Vals [x,y] us):∃u a,us=[u,a]/\RelV x u/\RelV y a:=by
 cases r with
 | cons r1 d=>
  cases d with
  | cons c b=>cases b;show⟨_,_,rfl,r1,c⟩
theorem zmq(b:X.calm=true):fk X (.builtin "max") (λxs H Q=>∃i j,xs=[.int i,.int j]/\Q (.int (if j>i then j else i)) H):=by
 intro d s σ H xs us Q I r h;let⟨i,j,rfl,q⟩:=h;obtain⟨u,c,rfl,⟨t,rfl⟩,⟨t',rfl⟩⟩:=oh r;show max_two_ints (I.ok.hd b) λh' tk k=>⟨_,H,I.kept k,?_,q⟩
 by_cases a:j>i
 .rw[if_pos a,if_pos a];show⟨_,rfl⟩
 rw[if_neg a,if_neg a];show⟨_,rfl⟩
theorem zmr(b:X.calm=true):fk X (.builtin "min") (λxs H Q=>∃i j,xs=[.int i,.int j]/\Q (.int (if j<i then j else i)) H):=by
 intro d s σ H xs us Q I r h;let⟨i,j,rfl,q⟩:=h;obtain⟨u,c,rfl,⟨t,rfl⟩,⟨t',rfl⟩⟩:=oh r;show min_two_ints (I.ok.hd b) λh' tk k=>⟨_,H,I.kept k,?_,q⟩
 by_cases a:j<i
 .rw[if_pos a,if_pos a];show⟨_,rfl⟩
 rw[if_neg a,if_neg a];show⟨_,rfl⟩
theorem zms:fk X (.type "int") (λxs H Q=>(∃i,xs=[.int i]/\Q (.int i) H)\/∃k,xs=[.bl k]/\Q (.int (if k then 1 else 0)) H):=by
 intro a s σ H xs us Q I r h;rcases h with⟨i,rfl,q⟩ | ⟨k,rfl,q⟩
 .let⟨u,rfl,t,rfl⟩:=gH r;show call_int_int ⟨.int i,H,I,⟨_,rfl⟩,q⟩
 let⟨u,rfl,r1⟩:=gH r;cases r1;show call_int_bool ⟨.int (if k then 1 else 0),H,I.tok _,⟨_,rfl⟩,q⟩
end
theorem zmt{h:aw}(n:h.Ns1 c b):∃od,h.get? c\od/\∀name,OI name od\b name:=by
 obtain⟨o,i,j,g,hd,hk,_,hm⟩:=n;show⟨o,g,λname=>?_⟩;have e:=hm name;unfold nsFind findBy at e;rw[<-GL] at e;unfold OI;rw[hd];dsimp only;split
 .rename_i y q;rw[q] at e;show congrArg some e
 rename_i q;rw[q] at e;have a:i.toList.any (·.refKey)=false:=by
  rw[List.any_eq_false];intro y f;let⟨z,t,d⟩:=hk y (Array.mem_toList_iff.mp f);simp[Yq,d]
 grind
theorem mQ.some_of(r:mQ (some v) o):∃u,o\u/\RelV v u:=by
 cases o with
 | none=>show(show False from r).elim
 | some u=>show⟨u,rfl,r⟩
theorem zmu(r:RelV v u):BN u=true:=by
 cases v with
 | non=>cases (show u=iL from r);rfl
 | bl b=>cases (show u=vk b from r);rfl
 | int i=>let⟨t,e⟩:=(show ∃t,u=o9 i t from r);cases e;rfl
 | str x=>let⟨t,e⟩:=(show ∃t,u=vf x t from r);cases e;rfl
 | E7 b=>let⟨t,e⟩:=(show ∃t,u=N2 b t from r);cases e;rfl
 | EV b=>let⟨t,e⟩:=(show ∃t,u=N1 b t from r);cases e;rfl
 | ref a=>cases (show u=cI a from r);rfl
 | ty n=>cases (show u=jc n from r);rfl
structure Cls(K:ar)(C:ae):Prop where
 pg:PySem.W.plainGet K C Str.empty=true
 hd:Px K C=true
 po:PySem.W.plainOver K C=true
 sa:mf K (.ref C) "__setattr__"=some (some (.builtin "object.__setattr__"))
def Sg(K:ar)(C:ae)(f:af):Prop:=mf K (.ref C) f=some none
theorem zrJ(hb:attributeBase e f env (eval e env)=eval e env)
  (h:↥(eval e env) (λo a=>↥(getAttr o f true) Q E a) E s):↥(eval (.Attribute e f pos) env) Q E s:=
 Attribute_any_ h (by rw[arm_eval_Attribute,hb])
structure cV(k:Nat)(A:aT):Prop where
 hd:A.handled=none
 dp:A.depth+3*k+5<recursionLimit
 un:A.units+16*k+200<cLine
theorem cV.mono(r:cV k A)(h:j<=k):cV j A:=⟨r.hd,by have:=r.dp;lia,by have:=r.un;lia⟩
theorem cV.deeper(r:cV (k+1) A)(env):cV k (A.deeper env):=
 ⟨r.hd,by have:=r.dp;show A.depth+1+3*k+5<_;lia,by have:=r.un;show A.units+3+16*k+200<_;lia⟩
theorem zlo{A:aT}:(A.under (.builtin "type.__call__" ⟨.ref C::us,a⟩)).depth=A.depth+1:=by
 first | rfl | simp[FT,Code.weight,Code.isCreation,Code.isGuard,Code.isCaller,NZ,FR,guardIds]
theorem zlp{A:aT}:(A.under (.builtin "type.__call__" ⟨.ref C::us,a⟩)).units=A.units+1:=by
 first | rfl | simp[FT,Code.cUnits,NZ,FR]
theorem cV.make(r:cV (k+1) A)(C us a):cV k (A.under (.builtin "type.__call__" ⟨.ref C::us,a⟩)):=
 ⟨r.hd,by have:=r.dp;rw[zlo];lia,by have:=r.un;rw[zlp];lia⟩
theorem cV.depth(r:cV k A):A.depth<recursionLimit:=by have:=r.dp;lia
theorem cV.units(r:cV k A):A.units+64<cLine:=by have:=r.un;lia
noncomputable def Hs:TA:=λ_ H Q=>Q [] H
noncomputable def Ia(a:TE)(tr:TA):TA:=λσ H Q=>a σ H λx H1=>tr σ H1 λxs b=>Q (x::xs) b
section
variable{e:ax}{t:TA}
theorem jk:PA X [] Hs:=λ_ _ _ _ H Q I h=>yp ⟨[],H,I,.nil,h⟩
theorem fZ(ha:PE X e te)(i:PA X es t)(g:starEach (e::es) X.env=(false,eval e X.env)::starEach es X.env:=by rfl):PA X (e::es) (Ia te t):=by
 intro pos b s σ H Q I h;rw[g];show wpAny _ _ (spliced ((false,eval e X.env)::backTo pos (starEach es X.env))) _ _ s;show vG (aR (ha b s σ H _ I h) λu s1 a=>?_);let⟨x,H1,I1,r1,f⟩:=a;show aR (i pos b s1 σ H1 _ I1 f) λus s2 a=>by let⟨xs,k,j,c,d⟩:=a;show⟨x::xs,k,j,.cons r1 c,d⟩
def Zd(t:TA):TE:=λσ H Q=>t σ H λxs H1=>xs.length<=sizeLine/\∀p,H1 p=none->Q (.ref p) (upd H1 p (.tup xs))
def Zc(t:TA):TE:=λσ H Q=>t σ H λxs H1=>xs.length<=sizeLine/\∀p,H1 p=none->Q (.ref p) (upd H1 p (.lst xs))
theorem yT(h:PA X es t):PE X (.Tuple es a pos) (Zd t):=by
 intro d s σ H Q I c;show wpAny_Tuple_spliced (aR (h pos d s σ H _ I c) λus s1 ⟨xs,H1,I1,r,z,q⟩=>⟨by rw[<-r.length];show z,?_⟩);have hf:H1 s1.heap.objs.size=none:=I1.aJ.fresh (aW _);show⟨.ref s1.heap.objs.size,upd H1 s1.heap.objs.size (.tup xs),I1.laid (t':=s1.toks) (λb u e=>aV _ e) (aW _) ?_,rfl,q _ hf⟩;show⟨z,us,r,⟨_,b8 _ rfl,rfl,_,rfl⟩⟩
theorem Sf(h:PA X es t):PE X (.List es pos) (Zc t):=by
 intro c s σ H Q I a;show wpAny_List_spliced (aR (h pos c s σ H _ I a) λus s1 ⟨xs,H1,I1,r,z,q⟩=>⟨by rw[<-r.length];show z,?_⟩);have hf:H1 s1.heap.objs.size=none:=I1.aJ.fresh (aW _);show⟨.ref s1.heap.objs.size,upd H1 s1.heap.objs.size (.lst xs),I1.laid (t':=s1.toks) (λb u e=>aV _ e) (aW _) ?_,rfl,q _ hf⟩;show⟨z,us,0,r,b8 _ rfl⟩
end
noncomputable abbrev Sp:=List V->Hp->VK->XK->Prop
noncomputable abbrev nQ:=List cC->Hp->ai->XK->aa->ai->Prop
structure u9(P:aD)(w:aB)(K:ar)(mg:af->Option aa)(base:aw)(A:aT)(outer:List cC)(s:ai)(H:Hp):Prop where
 frames:A.frames\outer
 mod:Mod K mg base
 bs:∀b o,base.get? b\o->s.heap.get? b\o/\H b=none
 qu:base.objs.size<=*...*
 i4:s.heap.FunFrames base outer
 nH:∀b∈ee outer,H b=none
 aJ:dB P w H s.heap
 bare:AllBare s.gens
def CE(outer:List cC)(P:aD)(w:aB)(H:Hp)(s:ai)(Q:VK)(u:aa)(a:ai):Prop:=
 ∃v H',a.os=s.os/\AllBare a.gens/\Un (ee outer) [] H H' s.heap a.heap/\dB P w H' a.heap/\RelV v u/\Q v H'
def CR(b:nQ)(outer:List cC)(P:aD)(w:aB)(H:Hp)(s:ai)(Q:VK)(E:XK)(r:Result)(a:ai):Prop:=
 match r with
 | .ok (.ret u)=>CE outer P w H s Q u a
 | .ok _=>False
 | .error e=>b outer H s E e a
structure kE(P:aD)(w:aB)(K:ar)(mg:af->Option aa)(base:aw)(CX:nQ)(k:Nat)(f:ae)(fd:gF)(ps:List af)(sp:Sp):Prop where
 len:∀vs H Q E,sp vs H Q E->vs.length=ps.length
 run:∀(A:aT)(outer:List cC)(s:ai)(H:Hp)(args:Args)(us:List aa)(vs:List V)(Q:VK)(E:XK),cV k A->u9 P w K mg base A outer s H->BindsTo s fd args (ps.zip us)->Vals vs us->sp vs H Q E->
  codeAny (model P w) A (.call (.ref f) args) (CR CX outer P w H s Q E) s
theorem u9.make{K:ar}(e:u9 P w K mg base A outer s H)(C us a) :
  u9 P w K mg base (A.under (.builtin "type.__call__" ⟨.ref C::us,a⟩)) outer s H:=⟨by first | show e.frames | (simpa[FT,Code.envs,FR,pushEnvs] using e.frames),e.mod,e.bs,e.qu,e.i4,e.nH,e.aJ,e.bare⟩
section
variable{σ:St}
theorem Inv.xH(I:Inv X J' σ H s):u9 X.prog X.w X.K X.mg X.base X.A X.stack s H:=
 ⟨I.ok.frames,I.ok.mod,I.bs,gB I.ok.qu I.sz,I.stack,I.VS,I.aJ,I.bare⟩
theorem Inv.after(I:Inv X J' σ H s)(h:CE X.stack X.prog X.w H s Q u s'):EP X J' σ Q u s':=by
 let⟨v,H',os,bare,un,aJ,r,q⟩:=h;let⟨hh,g,d,t,a⟩:=s';obtain rfl:a=s.os:=os;show⟨v,H',I.call (h':=hh) (g':=g) (d':=d) (t':=t) (ch:=[]) un aJ bare (λb z=>absurd z (by nofun)),r,q⟩
end
def Zz(b:Sp)(c:List V)(E:XK)(t:TA):TE:=λσ H Q=>t σ H λa H1=>b (a++c) H1 Q E
def Binds(K:ar)(a:gF)(ps:List af)(ds:List aa):Prop:=
 ∀s us,K.In s.heap->(us++ds).length=ps.length->BindsTo s a ⟨us,[]⟩ (ps.zip (us++ds))
theorem Binds.all{K:ar}(h:∀us:List aa,us.length=ps.length->bindArgs b ⟨us,[]⟩=pure (ps.zip us)):Binds K b ps []:=λs us _ a=>by
 rw[pj] at a ⊢;show .of_eq (h us a)
def CY(c:nQ)(X:Cx)(E:XK):Prop:=∀b (σ:St) H s e a,Inv X b σ H s->c X.stack H s E e a->X.xe e a
theorem ztW{c:St}(F:kE X.prog X.w X.K X.mg X.base CX k f fd ps sp)(l:cV k X.A)(hb:Binds X.K fd ps ds)(hd:Vals sM ds)(j:CY CX X E)
  (I:Inv X d c H s) (r:Vals b us) (h:sp (b++sM) H Q E):⇑(call (.ref f) us) (EP X d c Q) X.xe s:=by
 have g:Vals (b++sM) (us++ds):=r.append hd;have m:(us++ds).length=ps.length:=by rw[<-g.length];show F.len _ _ _ _ h
 show nU (pf (F.run X.A X.stack s H ⟨us,[]⟩ (us++ds) (b++sM) Q E l I.xH (hb s us I.dy m) g h) λr i a=>?_);cases r with
 | error e=>show j d c H s e i I a
 | ok n=>
  cases n with
  | ret u=>show I.after a
  | next=>show False.elim a
  | brk=>show False.elim a
  | cont=>show False.elim a
theorem Ji(F:kE X.prog X.w X.K X.mg X.base CX k f fd ps sp)(c:cV k X.A)(hg:Gl X x)(hm:X.mg x\.ref f)(hk:nW X.K (.ref f)=true)(hb:Binds X.K fd ps ds)(hd:Vals sM ds)(b:CY CX X E)
  (ha:PA X (e::es) t) (a:(x==("__debug__":af))=false:=by decide) (d:starEach (e::es) X.env=(false,eval e X.env)::starEach es X.env:=by rfl) (g:(backTo pos (starEach es X.env)).any (·.1)=false:=by rfl) :
  PE X (.Call (.Name x p) (e::es) [] pos) (Zz sp sM E t):=by
 intro j s σ H Q I h;show mU (wA I hg hm ?_ a);show GK (h₀:=X.base) I.ok.mod.Ap hk (aR (ha pos j s σ H _ I h) λus s1 i=>?_) d g;let⟨l,H1,I1,r,q⟩:=i;show⟨I1.dy,?_⟩;show ztW F c hb hd b I1 r q
def PK(X:Cx)(b:List Keyword)(t:TA):Prop:=
 ∀pos a s (σ:St) H Q,Inv X a σ H s->t σ H Q->⇑(evalAll ((backToKw pos (keywordEach b X.env)).map (·.2))) (AP X a σ Q) X.xe s
theorem ztX:PK X [] Hs:=λ_ _ _ _ H Q I h=>wpAny_evalAll_nil ⟨[],H,I,.nil,h⟩
theorem zrL(ha:PE X e te)(g:PK X Am t):PK X (⟨nm,e,aaJ⟩::Am) (Ia te t):=by
 intro pos b s σ H Q I h;show wpAny _ _ (evalAll ((do let v <-eval e X.env;standAt pos;pure v)::(backToKw pos (keywordEach Am X.env)).map (·.2))) _ _ s;show wpAny_evalAll_cons (aj (aR (ha b s σ H _ I h) λu s1 a=>?_));let⟨x,H1,I1,r1,f⟩:=a;show aj (vp (az ?_));show aR (g pos b s1 σ H1 _ I1 f) λus s2 a=>by let⟨xs,j,i,c,d⟩:=a;show⟨x::xs,j,i,.cons r1 c,d⟩
structure lh(N P:List af)(sc:fW):Prop where
 kind:sc.kind=.function
 co:sc.isCoroutine=false
 gen:sc.isGenerator=false
 nd:N.Nodup
 pre:N.take P.length=P
 par:∀x∈P,sc.names.lookup x\.local\/sc.names.lookup x\.cell
 aaC:∀y∈sc.names,y.2≠.free
theorem UU:∀{binds m},(∀v,(x,v)∉binds)->bindL a binds m x=m x
 | [],_,_=>rfl
 | (n,v)::r,m,h=>by
  unfold bindL;rw[UU λw hw=>h w (eh _ hw)];split
  all_goals grind
theorem UT:∀{binds m},(∀v,(x,v)∉binds)->bindC a binds m x=m x
 | [],_,_=>rfl
 | (n,v)::r,m,h=>by
  unfold bindC;rw[UT λw hw=>h w (eh _ hw)];split
  all_goals grind
theorem US:∀{P:List af}{b}{i:Nat}{m},P.Nodup->P[i]?\x->b[i]?\v->a x\.local->
  bindL a (P.zip b) m x\v
 | [],_,_,_,_,h,_,_=>by trivial
 | _::_,[],_,_,_,_,h,_=>by trivial
 | p::P,w::b,0,m,nd,d,c,hk=>by
  simp at d c;subst d;subst c;show bindL a ((p,w)::P.zip b) m p=_;unfold bindL;rw[UU λv hv=>(dH.mp nd).1 (yi hv).1,if_pos hk];simp
 | p::P,w::b,i+1,m,nd,d,c,hk=>by
  show bindL a ((p,w)::P.zip b) m x=_;unfold bindL;show US (i:=i) (dH.mp nd).2 (by simpa using d) (by simpa using c) hk
theorem UR:∀{P:List af}{b}{i:Nat}{m},P.Nodup->P[i]?\x->b[i]?\v->a x≠some .local->
  bindC a (P.zip b) m x\v
 | [],_,_,_,_,h,_,_=>by trivial
 | _::_,[],_,_,_,_,h,_=>by trivial
 | p::P,w::b,0,m,nd,d,c,hk=>by
  simp at d c;subst d;subst c;show bindC a ((p,w)::P.zip b) m p=_;unfold bindC;rw[UT λv hv=>(dH.mp nd).1 (yi hv).1,if_neg hk];simp
 | p::P,w::b,i+1,m,nd,d,c,hk=>by
  show bindC a ((p,w)::P.zip b) m x=_;unfold bindC;show UR (i:=i) (dH.mp nd).2 (by simpa using d) (by simpa using c) hk
noncomputable def start(N:List af)(a:List V):St:=a.map some++eI (N.length-a.length) none
noncomputable def eZ(d:nQ)(P:aD)(w:aB)(K:ar)(mg:af->Option aa)(base:aw)(N:List af)(a:af)(scope:fW)(f:ae)(b:aa)(A:aT)(outer:List cC)(s:ai)(H:Hp)(E:XK):Cx where
 prog:=P
 w:=w
 K:=K
 mg:=mg
 base:=base
 A:=A.deeper (envOfC a scope *...* f b)
 N:=N
 cN:=s
 xQ:=H
 env:=envOfC a scope *...* f b
 outer:=outer
 stack:=envOfC a scope *...* f b::outer
 ex:=[]
 calm:=true
 fn:=λ_=>true
 pn:=[]
 xe:=λe g=>wpAny (model P w) (A.deeper (envOfC a scope *...* f b)) (leaving (envOfC a scope *...* f b) e) (λ_ c=>d outer H s E e c) (λh c=>d outer H s E h c) g
theorem TV{sc:fW}(h:sc.names.lookup x\.cell):∃c,(cellsFrom n sc.names []).lookup x\c:=by
 have q:=QA sc.names n [] (.inl h);show tO.mp q
theorem zmv{K:ar}
  (S:lh N ps scope) (hd:A.handled=none) (d:u9 P w K mg base A outer s H) (J:j.length=ps.length) (r:Vals j us)
  (x:InCallC s *...* (bindL (envOfC a scope *...* f t).kindOf (ps.zip us) λ_=>none) (cellsFrom (*...*+1) scope.names []) (bindC (envOfC a scope *...* f t).kindOf (ps.zip us) λ_=>none) C) :
  Inv (eZ G P w K mg base N a scope f t A outer s H E) [] (start N j) H C:=by
 have M:ps.length<=N.length:=by have:=congrArg yb S.pre;rw[eJ] at this;lia
 let⟨o,tk,rfl,hk⟩:=x.done;have B:∀b:ae,b∉(eZ G P w K mg base N a scope f t A outer s H E).ex:=λb z=>absurd (show b∈([]:List ae) from z) (by nofun)
 show⟨⟨d.mod,S.kind,rfl,rfl,aW _,λy z c o m=>?_,λy g=>?_,λy c _ h=>?_,λ_=>hd,Around.frames_deeper d.frames,.inr ⟨rfl,rfl⟩,λb z=>absurd z (B b),d.bs,d.qu,λb _ _=>B b,λb z=>absurd z (B b),d.i4,d.nH⟩,
  rfl,d.bare,Un.kept hk,⟨_,x.toInCall.ns,λi y v o m L=>?_⟩,λy c h=>⟨_,x.cell y c h⟩,d.aJ.fresh (aW _),λy c h=>?_,λp l=>absurd (show p∈([]:List (ae×aL)) from l) ∅,d.aJ.kept hk,?_⟩
 .exact name_of_addr x.apart (qP o) (qP m)
 .have g:scope.names.lookup y\.cell\/scope.names.lookup y\.free:=g;rcases g with g | g
  .exact TV g
  show absurd rfl (S.aaC _ (qP g))
 .exact qE (x.above y c (qP h))
 .have hi:i<j.length:=by
   unfold start at m;grind
  have ha:j[i]?\v:=by
   unfold start at m;grind
  let⟨u,D,I⟩:=r.get ha;have l:ps[i]?\y:=by
   rw[<-S.pre,List.getElem?_take_of_lt (by cbv)];show o
  have F:ps.Nodup:=by rw[<-S.pre];show S.nd.sublist (List.take_sublist _ _)
  show⟨u,I,?_⟩;rcases S.par y (cz l) with k | k
  .exact .inl ⟨k,US F l D k⟩
  let⟨c,e⟩:=TV (n:=*...*+1) k;show .inr ⟨.inl k,c,e,?_⟩;have q:=x.cell y c e;rw[UR F l D (by show scope.names.lookup y≠_;rw[k];decide)] at q;show q
 .exact d.aJ.fresh (qE (x.above y c (qP h)))
 unfold start;show _=N.length;rw[gj,aO,yw];cbv
theorem RM{K:ar}{F kV j pm g ct L:aa}
     (lk:K.lookup f\⟨L,od,.func (lB name a c body scope F kV j pm G g ct),M⟩) (O:BA K g a=true) (S:lh N ps scope)
  (len:∀d H Q E,p d H Q E->d.length=ps.length)
  (Y:∀A outer s H d Q E,cV k (A.deeper (envOfC a scope *...* f g))->p d H Q E->
   ∃t,jy (eZ m P w K mg base N a scope f g A outer s H E) body t/\t { nx:=λ_ H'=>Q .non H',rt:=Q } (start N d) H) :
  kE P w K mg base m (k+1) f (lB name a c body scope F kV j pm G g ct) ps p:=by
 show⟨len,λA outer s H args us d Q E C i hb r D=>?_⟩;have U:=len _ _ _ _ D;have KX:K.In s.heap:=i.mod.Ap.keeps λb o e=>(i.bs b o e).1
 have lim:s.heap.NoLimit:=i.mod.nolimit.keeps λb o e=>(i.bs b o e).1
 have Z:∀y∈ps.zip us,scope.names.lookup y.1\.local\/(scope.names.lookup y.1\.cell/\((cellsFrom (*...*+1) scope.names []).lookup y.1).isSome=true):=λ⟨n,v⟩ R=>by
  rcases S.par n (yi R).1 with q | q
  .exact .inl q
  show .inr ⟨q,QA _ _ _ (.inl q)⟩
 show codeAny_call_function C.depth (KX _ _ lk) rfl S.co S.gen rfl (PySem.W.codeRec_of KX O) (hb _ _ _ _ ?_);show wpAny_newFunctionEnv_cells S.kind Z λenv he s1 x=>?_
 subst he;show⟨lim.keeps x.toInCall.keep,codeAny_func ?_⟩;let⟨t,ht,T⟩:=Y A outer s H d Q E (C.deeper _) D;have I:Inv (eZ m P w K mg base N a scope f g A outer s H E) [] (start N d) H s1:=zmv S C.hd i U r x;show eW (ht [] s1 (start N d) H _ I T) (λX z h=>?_) λe z h=>h
 have fin:∀{l:St}{H':Hp}{v:V}{u:aa},Inv (eZ m P w K mg base N a scope f g A outer s H E) [] l H' z->RelV v u->Q v H'->CE outer P w H s Q u z:=
  λ{l H' v u} J B q=>⟨v,H',J.os,J.bare,J.base,J.aJ,B,q⟩
 cases X with
 | ret u=>
  let⟨v,l,H',J,B,q⟩:=h;show fin J B q
 | next=>
  let⟨l,H',J,q⟩:=h;show fin (v:=V.non) (u:=iL) J rfl q
 | brk=>
  obtain⟨_,_,_,q⟩:=h;show False.elim q
 | cont=>
  obtain⟨_,_,_,q⟩:=h;show False.elim q
section
variable{p pos:aG}{e:ax}{t:TA}{id T:String}{r:List V->Hp->VK->Prop}
def Lc(r:List V->Hp->VK->Prop)(t:TA):TE:=λσ H Q=>t σ H λa H1=>r a H1 Q
theorem zq(g:fk X (.builtin id) r)(hg:Gl X x)(hm:X.mg x=none)(hv:bootBuiltins x=some (.builtin id))(ha:PA X (e::es) t)(hn:x≠"__name__":=by decide)(d:(x==("__debug__":af))=false:=by decide)
  (f:starEach (e::es) X.env=(false,eval e X.env)::starEach es X.env:=by rfl) (i:(backTo pos (starEach es X.env)).any (·.1)=false:=by rfl):PE X (.Call (.Name x p) (e::es) [] pos) (Lc r t):=by
 intro a s σ H Q I h;show mU (kO I hg hm hv ?_ hn d);show yA (aR (ha pos a s σ H _ I h) λus s1 j=>by let⟨b,H1,I1,r1,c⟩:=j;show g a s1 σ H1 b us Q I1 r1 c) f i
theorem zmw(g:fk X (.type T) r)(hg:Gl X x)(hm:X.mg x=none)(hv:bootBuiltins x=some (.type T))(ha:PA X (e::es) t)(hn:x≠"__name__":=by decide)(d:(x==("__debug__":af))=false:=by decide)
  (f:starEach (e::es) X.env=(false,eval e X.env)::starEach es X.env:=by rfl) (i:(backTo pos (starEach es X.env)).any (·.1)=false:=by rfl):PE X (.Call (.Name x p) (e::es) [] pos) (Lc r t):=by
 intro a s σ H Q I h;show mU (kO I hg hm hv ?_ hn d);show qB (aR (ha pos a s σ H _ I h) λus s1 j=>by let⟨b,H1,I1,r1,c⟩:=j;show g a s1 σ H1 b us Q I1 r1 c) f i
end
end L2
namespace HT
open PySem PyProof.Rows
noncomputable def lexLt:List Int->List Int->Bool
 | [],[]=>false
 | [],_::_=>true
 | _::_,[]=>false
 | x::xs,y::ys=>if x=y then lexLt xs ys else decide (x<y)
theorem aaG(x y xs ys):lexLt (x::xs) (y::ys)=if x=y then lexLt xs ys else decide (x<y):=rfl
theorem zo9(A s a t c u):∃e,NT A s (.int a t) (.int c u) e/\(e=true↔a=c):=
 ⟨(a==c),PR a t c u,∅⟩
theorem aao(A s a t c u prog w E Q)(h:Q (.bool (decide (a<c))) s) :
  ↥(richCompare .Lt (.int a t) (.int c u)) Q E s:=
 (YG h:↥(compareOp .Lt (.int a t) (.int c u)) Q E s)
section
variable{s:ai}
noncomputable def bI(n d:Nat):Option Int->Nat
 | none=>d
 | some v=>if v<0 then(v+(n:Int)).toNat else min v.toNat n
theorem Lj(n d)(hd:d<=n)(o):bI n d o<=n:=by
 cases o with
 | none=>show hd
 | some v=>
  show(if v<0 then(v+(n:Int)).toNat else min v.toNat n)<=n;grind
theorem MO(v)(n d:Nat):(if v<0 then max (v+(n:Int)) 0 else min v (n:Int))=((bI n d (some v):Nat):Int):=by
 show(if v<0 then max (v+(n:Int)) 0 else min v (n:Int))=(((if v<0 then(v+(n:Int)).toNat else min v.toNat n):Nat):Int)
 grind
theorem zlq(lo hi)(n:Nat):Hi lo hi 1 (n:Int)=(((bI n 0 lo:Nat):Int),((bI n n hi:Nat):Int)):=by
 have a:¬((1:Int)<0):=by trivial
 unfold Hi;simp![a,dG];show Bk ?_ ?_
 .cases lo with
  | none=>rfl
  | some v=>show MO v n 0
 cases hi with
 | none=>rfl
 | some v=>show MO v n n
theorem zlr(i j:Nat):Ci (i:Int) (j:Int) 1=j-i:=by
 unfold Ci;grind
theorem Vt(p:IsPart v o)(h:Q o s):↥(YV v) Q E s:=by
 cases p with
 | none=>show OH h
 | int i t=>show slicePart_int h
theorem ze6{lo hi:Option Int}{Q:Int×Int×Nat->ai->Prop}(f:s.heap.IsSliceOf sl b a .none)(pl:IsPart b lo)(e:IsPart a hi)
  (h:Q (((bI n 0 lo:Nat):Int),1,bI n n hi-bI n 0 lo) s):↥(QS (.ref sl) (pure (n:Int))) Q E s:=by
 let⟨os,d,g,c⟩:=id f;unfold QS YQ;show aj (aj (iq d c (x:=b) rfl (aj (iq d c (x:=a) rfl (aj (iq d c (x:=.none) rfl (az ?_)))))));show aj (OH ?_);show wpAny _ _ (if ((1:Int)==0)=true then _ else _) _ _ s;rw[if_neg (by show ja)];show aj (Vt pl (aj (Vt e (aj (az ?_)))));show wpAny _ _ (match Hi lo hi 1 (n:Int) with | (lo,hi)=>pure (lo,(1:Int),Ci lo hi 1)) _ _ s;rw[zlq lo hi n];show wpAny _ _ (pure (((bI n 0 lo:Nat):Int),(1:Int),Ci ((bI n 0 lo:Nat):Int) ((bI n n hi:Nat):Int) 1)) _ _ s;rw[zlr];show az h
theorem zpa(xs:Array aa)(i k:Nat):((aI k).filterMap λ(m:Nat)=>xs[((i:Int)+(m:Int)*1).toNat]?).toArray=((xs.toList.drop i).take k).toArray:=by
 have e:(λ(m:Nat)=>xs[((i:Int)+(m:Int)*1).toNat]?)=λm=>xs[i+m]?:=by
  grind
 rw[e];have:=pick_run xs i k;rw[List.filterMap_map] at this;have a:((λx=>xs[x]?)∘λx=>i+x)=λm=>xs[i+m]?:=rfl
 rw[a] at this;rw[this]
theorem abw{lo hi:Option Int}(ht:IsTup s.heap t items)(e:s.heap.IsSliceOf sl d c .none)(pl:IsPart d lo)(f:IsPart c hi)
  (hw:¬(bI items.size 0 lo=0/\bI items.size items.size hi=items.size))
  (h:Q (.ref *...*) { s with heap:=s.heap.push { cls:=.type "tuple",data:=.seq ((items.toList.drop (bI items.size 0 lo)).take (bI items.size items.size hi-bI items.size 0 lo)).toArray } })
  (hsz:items.size<=sizeLine):↥(getItem (.ref t) (.ref sl)) Q E s:=by
 have a:sizeOk (.seq ((items.toList.drop (bI items.size 0 lo)).take (bI items.size items.size hi-bI items.size 0 lo)).toArray):=by
  show((items.toList.drop (bI items.size 0 lo)).take (bI items.size items.size hi-bI items.size 0 lo)).toArray.size<=sizeLine;grind
 have l:bI items.size items.size hi<=items.size:=Lj _ _ (aW _) hi;let⟨os,j,i,k⟩:=id e;have b:s.TypeIs (.ref sl) "slice":=⟨os,j,i⟩
 unfold getItem;try with_reducible show eX ?_
 first | show aj (az ?_) | skip
 show aj (wpAny_sequenceKey ht.typeIs (by rfl) ?_);show aj (o6 (name:=gW "__getitem__") ht.typeIs Q3
  (j1 Q3 ht.typeIs entry_tuple_getitem ?_ (args_tuple_getitem _ _)))
 show wpAny _ _ (YR (.ref t) >>= _) _ _ s;show aj (tupleItemsOf_ ht ?_);show aj (pe b ?_);rw[if_pos (by rfl)];show aj (ze6 e pl f ?_);have g:¬((((bI items.size 0 lo:Nat):Int)==0&&(1:Int)==1&&(bI items.size items.size hi-bI items.size 0 lo)==items.size)=true):=by
  cbv
 show wpAny _ _ (if (((bI items.size 0 lo:Nat):Int)==0&&(1:Int)==1&&(bI items.size items.size hi-bI items.size 0 lo)==items.size)=true then _ else _) _ _ s;rw[if_neg g,zpa];first
  | show aj (m:=Ce _) (i9 (az ⟨_,rfl,az h⟩) a)
  | show aj (m:=Ce _) (i9 (aj (az (az ⟨_,rfl,az h⟩))) a)
  | show aj (aj (m:=Ce _) (i9 (az (az ⟨_,rfl,az h⟩)) a))
  | show aj (aj (m:=Ce _) (i9 (az ⟨_,rfl,az h⟩) a))
end
end HT
namespace L2
open PySem PySem.Spec PyProof.Rows
noncomputable abbrev TO:=St->Hp->(Option Int->Hp->Prop)->Prop
def PO(X:Cx)(e:Option ax)(t:TO):Prop:=
 ∀a s (σ:St) H Q,Inv X a σ H s->t σ H Q->
  ⇑(evalPart e X.env) (λu b=>∃o H',Inv X a σ H' b/\IsPart u o/\Q o H') X.xe s
noncomputable def zrM:TO:=λ_ H Q=>Q none H
noncomputable def Zy(t:TE):TO:=λσ H Q=>t σ H λx H1=>∃i,x=.int i/\Q (some i) H1
theorem rL:∀{us},Vals (a.map V.int) us->IntsAre us a:=by
 induction a with
 | nil=>intro us r;rw[Bt] at r;cases r;show .nil
 | cons n a c=>
  intro us r;rw[bO] at r;cases r with
  | cons r1 b=>
   let⟨t,e⟩:=r1;subst e;show .cons n t (c b)
section
variable{X:Cx}{e:ax}{te:TE}{lo hi:Option ax}{tl th:TO}
theorem zrN:PO X none zrM:=by
 intro a s σ H Q I h;rw[Om];show az ⟨none,H,I,.none,h⟩
theorem zrO(h:PE X e te):PO X (some e) (Zy te):=by
 intro c s σ H Q I hw;rw[evalPart_some];show aR (h c s σ H _ I hw) λu s1 b=>?_
 let⟨x,H1,I1,r1,a⟩:=b;let⟨i,rfl,q⟩:=a;let⟨t,rfl⟩:=r1;show⟨some i,H1,I1,.int i t,q⟩
def sO(X:Cx)(r:V->Option Int->Option Int->Hp->VK->Prop):Prop:=
 ∀c s (σ:St) H x v b a lo hi sl Q,Inv X c σ H s->RelV x v->s.heap.IsSliceOf sl b a .none->IsPart b lo->IsPart a hi->r x lo hi H Q->
  ∃T id,typeLookup (.type T) "__getitem__"=pure (some (.builtin id))/\s.TypeIs v T/\⇑(getItem v (.ref sl)) (EP X c σ Q) X.xe s
theorem sO.or(h:sO X r)(h':sO X d):sO X (λx lo hi H Q=>r x lo hi H Q\/d x lo hi H Q):=by
 intro f s σ H x v b a lo hi sl Q I c e pl pu q;rcases q with q | q
 .exact h f s σ H x v b a lo hi sl Q I c e pl pu q
 show h' f s σ H x v b a lo hi sl Q I c e pl pu q
def tSl(r:V->Option Int->Option Int->Hp->VK->Prop)(te:TE)(tl th:TO):TE:=λσ H Q=>te σ H λx H1=>tl σ H1 λl b=>th σ b λu a=>r x l u a Q
theorem zpb(n:sO X r)(p:PE X e te)(o:PO X lo tl)(m:PO X hi th):PE X (.Subscript e (.Slice lo hi none p2) pos) (tSl r te tl th):=by
 intro a s σ H Q I h;show FE (aR (p a s σ H _ I h) λv s1 c=>?_);let⟨x,H1,I1,r1,k⟩:=c;show wpAny_Slice (aR (o a s1 σ H1 _ I1 k) λf s2 c=>?_);let⟨l,C,B,pl,j⟩:=c;show aR (m a s2 σ C _ B j) λd s3 c=>?_
 let⟨u,g,z,pu,i⟩:=c;rw[Om];show az ?_;have y:Inv X a σ g { s3 with heap:=s3.heap.push { cls:=.type "slice",data:=.fields #[f,d,.none] } }:=z.kept (t':=s3.toks) λb ob q=>aV _ q
 let⟨T,id,t,ht,hg⟩:=n a { s3 with heap:=s3.heap.push { cls:=.type "slice",data:=.fields #[f,d,.none] } } σ g x v f d l u s3.heap.objs.size Q y r1 (Yw ..) pl pu i;show ⇑(subscriptTail e (.Slice lo hi none p2) v (.ref s3.heap.objs.size)) (EP X a σ Q) X.xe { s3 with heap:=s3.heap.push { cls:=.type "slice",data:=.fields #[f,d,.none] } };show tail_any (ops:=[.ref s3.heap.objs.size,v]) ht t hg (by with_unfolding_all rfl)
noncomputable def n4(xs:List V)(lo hi:Option Int):List V:=(xs.drop (HT.bI xs.length 0 lo)).take (HT.bI xs.length xs.length hi-HT.bI xs.length 0 lo)
theorem Vu(xs lo hi):(n4 xs lo hi).length<=xs.length:=by
 unfold n4;rw[eJ,px];lia
def Zx(K:ar):V->Option Int->Option Int->Hp->VK->Prop:=λx lo hi H Q=>∃a xs,x=.ref a/\bF K H a xs/\
 ¬(HT.bI xs.length 0 lo=0/\HT.bI xs.length xs.length hi=xs.length)/\∀p,H p=none->Q (.ref p) (upd H p (.tup (n4 xs lo hi)))
theorem ztZ:sO X (Zx X.K):=by
 intro i s σ H x v g f lo hi sl Q I c e pl pu h;let⟨a,xs,rfl,d,hw,q⟩:=h;cases c;let⟨its,r,ht,hz⟩:=I.tuple d;have hlen:its.toArray.size=xs.length:=by rw[cW];show r.length.symm
 show⟨"tuple",_,PyProof.Rows.slot_tuple_getitem.lookup,ht.typeIs,?_⟩;show HT.abw ht e pl pu (by rw[hlen];show hw) ?_ (by rw[hlen];show hz);rw[hlen];show⟨.ref *...*,_,I.laid (t':=s.toks) (o:=.tup (n4 xs lo hi)) (λb ob q=>aV _ q) (aW _) ?_,rfl,q _ (I.aJ.fresh (aW _))⟩;show⟨gB (Vu xs lo hi) hz,_,(r.drop (HT.bI xs.length 0 lo)).take (HT.bI xs.length xs.length hi-HT.bI xs.length 0 lo),IsTup.new _ _⟩
end
noncomputable def iD(n:Nat)(i:Int):Option Nat:=if 0<=i then(if i<n then some i.toNat else none) else if -(n:Int)<=i then some (i+n).toNat else none
noncomputable def bA{a:Type}(xs:List a)(i:Int):Option a:=(iD xs.length i).bind λj=>xs[j]?
theorem Tg(h:iD n i\j):seqIndex? i n\j/\j<n/\-(n:Int)<=i/\i<n:=by
 unfold iD at h;by_cases h0:0<=i
 .rw[if_pos h0] at h;by_cases a:i<n
  .rw[if_pos a] at h;have e:i.toNat=j:=qJ h;show⟨by rw[FJ h0 a,e],by lia,by lia,a⟩
  rw[if_neg a] at h;cases h
 rw[if_neg h0] at h;by_cases a:-(n:Int)<=i
 .rw[if_pos a] at h;have e:(i+n).toNat=j:=qJ h;show⟨by rw[FQ (by cbv) a,e],by lia,a,by lia⟩
 rw[if_neg a] at h;cases h
theorem ui{v:a}(h:bA xs i\v):∃j,seqIndex? i xs.length\j/\xs[j]?\v/\j<xs.length/\-(xs.length:Int)<=i/\i<xs.length:=by
 unfold bA at h;cases e:iD xs.length i with
 | none=>rw[e] at h;cases h
 | some j=>
  rw[e] at h;let⟨f,d,c,b⟩:=Tg e;show⟨j,f,h,d,c,b⟩
theorem zrP{j:Nat}{v:b}(h:xs[j]?\v):bA xs (j:Int)\v:=by
 have d:j<xs.length:=(cf.mp h).1;have e:iD xs.length (j:Int)\j:=by
  unfold iD;rw[if_pos (by room),if_pos (by cbv)];simp
 unfold bA;rw[e];show h
def y2(b:ax):Prop:=∀o i,subscripted b false o i=operate [o,i] (getItem o i)
def qz(X:Cx)(r:R2):Prop:=
 ∀value slice a s (σ:St) H x y v u Q,Inv X a σ H s->RelV x v->RelV y u->r x y H Q->
  subscripted slice false v u=operate [v,u] (getItem v u)->⇑(subscriptTail value slice v u) (EP X a σ Q) X.xe s
def Yg(X:Cx)(b:String)(r:V->List V->Hp->VK->Prop):Prop:=
 ∀a s (σ:St) H x xs v us Q,Inv X a σ H s->RelV x v->Vals xs us->r x xs H Q->
  ⇑(call (.builtin b) (v::us)) (EP X a σ Q) X.xe s
section
variable{a b:ax}{ta tb:TE}
theorem qz.or(h:qz X r)(h':qz X c):qz X (λx y H Q=>r x y H Q\/c x y H Q):=by
 intro value slice e s σ H x y v u Q I b a q d;rcases q with q | q
 .exact h value slice e s σ H x y v u Q I b a q d
 show h' value slice e s σ H x y v u Q I b a q d
theorem yM(f:qz X r)(ha:PE X a ta)(hb:PE X b tb)(e:y2 b):PE X (.Subscript a b pos) (z7 r ta tb):=by
 intro g s σ H Q I h;show FE (Ht ha hb I h λv u s2 x y j i d c q=>f a b g s2 σ j x y v u Q i d c q (e _ _))
def Rb(K:ar):R2:=λx y H Q=>∃p xs i v,x=.ref p/\y=.int i/\bM K H p xs/\bA xs i\v/\Q v H
def Ra(K:ar):R2:=λx y H Q=>∃p xs i v,x=.ref p/\y=.int i/\bF K H p xs/\bA xs i\v/\Q v H
def Q9:R2:=λx y H Q=>∃z i c,x=.str z/\y=.int i/\z.length<=sizeLine/\bA z.cps.toList i\c/\Q (.str ⟨#[c]⟩) H
theorem Ej:qz X (Rb X.K):=by
 intro value slice e s σ H x y v u Q I k g h c;let⟨p,xs,i,z,rfl,rfl,l,he,q⟩:=h;cases k;let⟨t,rfl⟩:=g;let⟨its,r,pl,hz⟩:=I.list l;let⟨j,a,A,C,o,n⟩:=ui he;let⟨w,d,B⟩:=r.get A;have m:=r.length;have hn:=wo;have fin:EP X e σ Q w s:=⟨z,H,I,B,q⟩
 by_cases h0:0<=i
 .have b:i.toNat=j:=by
   rw[FJ h0 n] at a;show qJ a
  show item_listR pl.isList h0 (by lia) (by rw[b];simpa using d) fin c
 have b:(i+(its.toArray.size:Int)).toNat=j:=by
  rw[FQ (by cbv) o] at a;rw[cW,<-m];show qJ a
 show Qz (x:=w) pl.isList.typeIs slot_list_getitem.lookup
  (wpAny_getItem_list_neg (Q:=λr f=>r=w/\EP X e σ Q r f) pl.isList (by cbv) (by rw[cW]<;>cbv) (by lia) (by rw[b];simpa using d) ⟨rfl,fin⟩) c
theorem aaL:qz X (Ra X.K):=by
 intro value slice a s σ H x y v u Q I d c h e;let⟨p,xs,i,z,rfl,rfl,f,he,q⟩:=h;cases d;let⟨t,rfl⟩:=c;let⟨its,r,pl,hz⟩:=I.tuple f;let⟨j,l,k,B,A,o⟩:=ui he;let⟨w,n,m⟩:=r.get k;have g:=r.length;have hn:=wo;have fin:EP X a σ Q w s:=⟨z,H,I,m,q⟩
 show Qz (x:=w) pl.typeIs slot_tuple_getitem.lookup
  (getItem_tuple (j:=j) (Q:=λr b=>r=w/\EP X a σ Q r b) pl (by lia) (by lia) (by rw[cW,<-g];show l) (by simpa using n) ⟨rfl,fin⟩) e
theorem zt0:qz X Q9:=by
 intro value slice n s σ H x y v u Q I d b h e;let⟨z,i,c,rfl,rfl,hz,he,q⟩:=h;let⟨t,rfl⟩:=d;let⟨t',rfl⟩:=b;let⟨j,a,l,m,k,g⟩:=ui he;have f:z.cps.toList.length=z.length:=by simp[FD]
 rw[f] at a k g;have hn:=wo
 show tail_any (FC s z t) slot_str_getitem.lookup (getItem_str (c:=c) (by
  grind) (by rw[a];simpa using l) ⟨.str ⟨#[c]⟩,H,I.tok _,⟨_,rfl⟩,q⟩) e
def V2(K:ar):R2:=λx y H Q=>Rb K x y H Q\/Ra K x y H Q\/Q9 x y H Q
theorem Se:qz X (V2 X.K):=Ej.or (aaL.or zt0)
theorem zls(its:List aa)(n j u):j5 (·.setIfInBounds j u) { cls:=.type "list",data:=.seq its.toArray n }={ cls:=.type "list",data:=.seq (its.set j u).toArray n }:=by
 simp[j5]
theorem Inv.lst{b:List (ae×aL)}{a:St}(I:Inv X b a H s)(h:H p\.lst xs) :
  ∃(its:List aa)(n:Nat),Vals xs its/\s.heap.get? p=some { cls:=.type "list",data:=.seq its.toArray n }/\xs.length<=sizeLine:=by
 let⟨z,its,n,r,e⟩:=I.aJ p _ h;show⟨its,n,r,e,z⟩
theorem Inv.aaF{c:St}{its its':List aa}{n a:Nat}(I:Inv X g c H s)(h:H p\.lst xs)
  (i:s.heap.get? p=some { cls:=.type "list",data:=.seq its.toArray n }) (d:f { cls:=.type "list",data:=.seq its.toArray n }={ cls:=.type "list",data:=.seq its'.toArray a }) (r:Vals ys its') (hz:ys.length<=sizeLine) (t) :
  Inv X g c (upd H p (.lst ys)) { s with heap:=s.heap.update p f,toks:=t }:=by
 have e:(s.heap.update p f).get? p=some { cls:=.type "list",data:=.seq its'.toArray a }:=by
  rw[kG f i (by rw[d]<;>rfl),d]
 show I.write (x:=p) (e:=p) (by rw[h];trivial) (.inl rfl) (λb u hb q=>(g8 _ _ (Ne.symm hb)).trans q) ⟨_,e⟩ ?_;show⟨hz,its',a,r,e⟩
def Z8:V->V->V->Hp->(Hp->Prop)->Prop:=λo i v H Q=>∃p xs k j,o=.ref p/\i=.int k/\H p\.lst xs/\iD xs.length k\j/\Q (upd H p (.lst (xs.set j v)))
theorem set_list:Rf X Z8:=by
 intro y s σ H o i v ov iv u Q I m w l h;let⟨p,xs,k,j,rfl,rfl,d,x,q⟩:=h;cases m;let⟨t,rfl⟩:=w;let⟨its,n,r,b,hz⟩:=I.lst d;let⟨a,z,f,e⟩:=Tg x;have c:=r.length;have hn:=wo;have g:Inv X y σ (upd H p (.lst (xs.set j v))) { s with heap:=s.heap.update p (j5 (·.setIfInBounds j u)) }:=
  I.aaF d b (zls its n j u) (r.set l j) (by rw[tu];show hz) s.toks
 by_cases h0:0<=k
 .have hk:k.toNat=j:=by
   rw[FJ h0 e] at a;show qJ a
  show PySem.W.ki_setAt b h0 (by lia) (by rw[cW,<-c];show e) (by rw[hk];show⟨_,g,q⟩)
 have hk:(k+(its.toArray.size:Int)).toNat=j:=by
  rw[FQ (by cbv) f] at a;rw[cW,<-c];show qJ a
 show PySem.W.ki_setBack b (by cbv) (by rw[cW,<-c];show f) (by lia) (by rw[hk];show⟨_,g,q⟩)
theorem ziw(lo hi n):(sliceBounds lo hi none n).1=((HT.bI n 0 lo:Nat):Int)/\(sliceBounds lo hi none n).2.1=((HT.bI n n hi:Nat):Int)/\(sliceBounds lo hi none n).2.2=1:=by
 show⟨?_,?_,rfl⟩
 .cases lo with
  | none=>rfl
  | some i=>
   simp![sliceBounds,HT.bI,Pb,show(1:Int)>0 by room,dF];grind
 cases hi with
 | none=>rfl
 | some i=>
  simp![sliceBounds,HT.bI,Pb,show(1:Int)>0 by room,dF];grind
theorem zho(its:List aa)(lo hi):slicePick its.toArray lo hi none=((its.drop (HT.bI its.length 0 lo)).take (HT.bI its.length its.length hi-HT.bI its.length 0 lo)).toArray:=by
 let⟨c,b,a⟩:=ziw lo hi its.toArray.size;unfold slicePick;rw[c,b,a];simp only[sliceRange_one,pick_run,cW]<;>rfl
def Zw(K:ar):V->Option Int->Option Int->Hp->VK->Prop:=λx lo hi H Q=>∃a xs,x=.ref a/\bM K H a xs/\∀p,H p=none->Q (.ref p) (upd H p (.lst (n4 xs lo hi)))
theorem aaj:sO X (Zw X.K):=by
 intro i s σ H x v g f lo hi sl Q I c e pl pu h;let⟨a,xs,rfl,d,q⟩:=h;cases c;let⟨its,r,ht,hz⟩:=I.list d;have hlen:=r.length;show⟨"list",_,slot_list_getitem.lookup,ht.isList.typeIs,?_⟩;show wpAny_getItem_list_slice ht.isList e pl pu .none (by trivial) ?_ (by rw[cW]<;>cbv);rw[zho,<-hlen];show⟨.ref *...*,_,I.laid (t':=s.toks) (o:=.lst (n4 xs lo hi)) (λb ob q=>aV _ q) (aW _) ?_,rfl,q _ (I.aJ.fresh (aW _))⟩;show⟨gB (Vu xs lo hi) hz,_,0,(r.drop (HT.bI xs.length 0 lo)).take (HT.bI xs.length xs.length hi-HT.bI xs.length 0 lo),b8 _ rfl⟩
noncomputable def CH:V->Bool
 | .non=>true
 | .bl _=>true
 | .int _=>true
 | .str _=>true
 | _=>false
noncomputable def MH:V->V->Bool
 | .non,.non=>true
 | .bl a,.bl b=>a==b
 | .bl a,.int b=>(if a then 1 else 0)==b
 | .int a,.bl b=>a==(if b then 1 else 0)
 | .int a,.int b=>a==b
 | .str a,.str b=>a==b
 | _,_=>false
theorem Sd(d:RelV y u)(c:RelV x v)(f:CH y=true)(e:CH x=true):NT A s u v (MH y x):=by
 cases y with
 | non=>
  cases d;cases x with
  | non=>cases c;show Yn _
  | bl b=>cases c;show YJ b
  | int b=>let⟨t,rfl⟩:=c;show YF b t
  | str b=>let⟨t,rfl⟩:=c;show YE b t
  | _=>show absurd (show false=true from e) ja
 | bl a=>
  cases d;cases x with
  | non=>cases c;show YI a
  | bl b=>cases c;show YH a b
  | int b=>let⟨t,rfl⟩:=c;show YD a b t
  | str b=>let⟨t,rfl⟩:=c;show YC a b t
  | _=>show absurd (show false=true from e) ja
 | int a=>
  let⟨t',rfl⟩:=d;cases x with
  | non=>cases c;show YB a t'
  | bl b=>cases c;show YA a t' b
  | int b=>let⟨t,rfl⟩:=c;show PR a t' b t
  | str b=>let⟨t,rfl⟩:=c;show PY a t' b t
  | _=>show absurd (show false=true from e) ja
 | str a=>
  let⟨t',rfl⟩:=d;cases x with
  | non=>cases c;show Yz a t'
  | bl b=>cases c;show Yy a t' b
  | int b=>let⟨t,rfl⟩:=c;show PV a t' b t
  | str b=>let⟨t,rfl⟩:=c;show Yv a t' b t
  | _=>show absurd (show false=true from e) ja
 | _=>show absurd (show false=true from f) ja
theorem aau:cE X (compareOp .NotIn) (λx y H Q=>∃i j,x=.str i/\y=.str j/\Q (.bl (!(!(G9 j i 0 j.length 1).isEmpty))) H):=by
 intro c s σ H x y v u Q I b a h;let⟨i,j,rfl,rfl,q⟩:=h;let⟨t,rfl⟩:=b;let⟨t',rfl⟩:=a;show notIn_str ⟨.bl _,H,I,rfl,q⟩
theorem X9:fk X (.builtin "len") (λxs H Q=>∃p ys,xs=[.ref p]/\(bM X.K H p ys\/bF X.K H p ys)/\Q (.int ys.length) H):=by
 intro d s σ H xs us Q I r h;let⟨p,ys,rfl,a,q⟩:=h;let⟨u,rfl,c⟩:=gH r;cases c;have hn:=wo;rcases a with a | a
 .let⟨its,b,pl,hz⟩:=I.list a;have hlen:=b.length;show Calls.call_len_list pl.isList (by simp only[cW]<;>lia) ⟨.int ys.length,H,I.tok _,⟨s.toks+1,by rw[cW,hlen]⟩,q⟩
 let⟨its,b,pl,hz⟩:=I.tuple a;have hlen:=b.length;show len_tuple pl (by simp only[cW]<;>lia) ⟨.int ys.length,H,I.tok _,⟨s.toks+1,by rw[cW,hlen]⟩,q⟩
theorem zix:fk X (.builtin "len") (λxs H Q=>∃z,xs=[.str z]/\z.length<=sizeLine/\Q (.int z.length) H):=by
 intro a s σ H xs us Q I r h;let⟨z,rfl,hz,q⟩:=h;let⟨u,rfl,t,rfl⟩:=gH r;have hn:=wo;show len_str (by lia) ⟨.int z.length,H,I.tok _,⟨_,rfl⟩,q⟩
theorem fk.or{r a:List V->Hp->VK->Prop}(h:fk X f r)(h':fk X f a):fk X f (λxs H Q=>r xs H Q\/a xs H Q):=by
 intro b s σ H xs us Q I rs q;rcases q with q | q
 .exact h b s σ H xs us Q I rs q
 show h' b s σ H xs us Q I rs q
theorem ziy:fk X (.type "list") (λxs H Q=>∃p ys,xs=[.ref p]/\(bM X.K H p ys\/bF X.K H p ys)/\∀l,H l=none->Q (.ref l) (upd H l (.lst ys))):=by
 intro j s σ H xs us Q I r h;let⟨p,ys,rfl,d,q⟩:=h;let⟨u,rfl,i⟩:=gH r;cases i;have fin:∀(its:List aa),Vals ys its->ys.length<=sizeLine->∀(h':aw)(c:Nat),(∀b o',s.heap.get? b\o'->h'.get? b\o')->
   h'.get? *...*=some { cls:=.type "list",dict:=none,data:=.seq its.toArray c,slots:=#[] }->EP X j σ Q (.ref *...*) { s with heap:=h' }:=λits a hz h' c kp e=>
  ⟨.ref *...*,_,I.laid (t':=s.toks) kp (aW _) (show dX X.prog X.w _ h' _ (.lst ys) from⟨hz,its,c,a,e⟩),rfl,q _ (I.aJ.fresh (aW _))⟩
 rcases d with d | d
 .let⟨its,a,pl,hz⟩:=I.list d;have hlen:=a.length;let⟨o,f,g,n,hd⟩:=pl.isList;show Ol p (.inl rfl) f g hd (λh' c kp e=>fin its a hz h' c kp e) (by simp only[cW]<;>cbv)
 let⟨its,a,pl,hz⟩:=I.tuple d;have hlen:=a.length;let⟨o,f,g,n,hd⟩:=pl;show Ol p (.inr rfl) f g hd (λh' c kp e=>fin its a hz h' c kp e) (by simp only[cW]<;>cbv)
def DZ(K:ar)(T:String)(x:V)(H:Hp):Prop:=match x with
 | .str _=>T="str"
 | .int _=>T="int"
 | .ref p=>(T="list"/\∃xs,bM K H p xs)\/(T="tuple"/\∃o,K.lookup p=some o/\o.cls=.type "tuple"/\o.dict=none)\/
   (T="dict"/\((∃kvs a,H p=some (.dK kvs a))\/∃kvs bs,H p=some (.dT kvs bs)))\/(T="set"/\∃S n,H p=some (.set S n))
 | _=>False
theorem IF{d:St}(I:Inv X h d H s)(r:RelV x v)(ty:DZ X.K T x H) :
  s.TypeIs v T/\∀a,v=.ref a->∃ob,s.heap.get? a\ob/\ob.dict=none:=by
 cases x with
 | str z=>
  let⟨t,rfl⟩:=r;cases (show T="str" from ty);show⟨FC s z t,λ_ e=>nomatch e⟩
 | int i=>
  let⟨t,rfl⟩:=r;cases (show T="int" from ty);show⟨FA s i t,λ_ e=>nomatch e⟩
 | ref p=>
  cases r;rcases ty with⟨rfl,xs,f⟩ | ⟨rfl,o,hk,g,hd⟩ | ⟨rfl,hk⟩ | ⟨rfl,S,n,hk⟩
  .let⟨its,y,pl,y⟩:=I.list f;show⟨pl.isList.typeIs,λa e=>?_⟩;cases e;let⟨o,n,e,c,hd,y⟩:=pl;show⟨o,e,hd⟩
  .refine⟨⟨o,I.dy p o hk,g⟩,λa e=>?_⟩;cases e;show⟨o,I.dy _ o hk,hd⟩
  .have z:∃o,s.heap.get? p\o/\o.ExactDict:=by
    rcases hk with⟨kvs,j,hk⟩ | ⟨kvs,bs,hk⟩
    .let⟨y,y,y,y,o,y,e,ex,y⟩:=I.aJ p _ hk;show⟨o,e,ex⟩
    let⟨y,y,y,y,y,o,y,y,e,ex,y⟩:=I.aJ p _ hk;show⟨o,e,ex⟩
   let⟨o,e,ex⟩:=z;show⟨⟨o,e,ex.1⟩,λa b=>?_⟩;cases b;show⟨o,e,ex.2.1⟩
  let⟨o,y,y,y,e,ex,y⟩:=I.aJ p _ hk;show⟨⟨o,e,ex.1⟩,λa b=>?_⟩;cases b;show⟨o,e,ex.2.1⟩
 | _=>show False.elim ty
def Q8(K:ar)(T:String)(r:V->List V->Hp->VK->Prop)(to:TE):TE:=λσ H Q=>to σ H λx H1=>DZ K T x H1/\r x [] H1 Q
def w5(K:ar)(T:String)(r:V->List V->Hp->VK->Prop)(to:TE)(t:TA):TE:=λσ H Q=>to σ H λx H1=>DZ K T x H1/\t σ H1 λxs a=>r x xs a Q
variable{T id:String}
theorem zt1(e:PlainAttrs T)(slot:Slot T name id)(k:typeOf (.builtin id)=pure (.type "method_descriptor"))(hm:Yg X id r)(f:PE X o to)
  (b:attributeBase o name X.env (eval o X.env)=eval o X.env:=by rfl) (c:(apos.endLine==de.line)=true:=by rfl):PE X (.Call (.Attribute o name apos) [] [] de) (Q8 X.K T r to):=by
 intro a s σ H Q I h;show QI b c (aR (f a s σ H _ I h) λv s1 j=>?_);let⟨x,H1,I1,r1,ty,d⟩:=j;let⟨i,g⟩:=IF I1 r1 ty;show⟨T,id,e,slot,k,i,g,Cc rfl (P8 (hm a s1 σ H1 x [] v [] Q I1 r1 .nil d))⟩
theorem yO(u:PlainAttrs T)(slot:Slot T name id)(E:typeOf (.builtin id)=pure (.type "method_descriptor"))(hm:Yg X id r)(y:PE X o to)(ha:PA X (e::es) t)
  (j:attributeBase o name X.env (eval o X.env)=eval o X.env:=by rfl)
  (d:((backTo de (starEach (e::es) X.env)).all (λx=>!x.1)&&(backToKw de (keywordEach [] X.env)).all (λx=>x.1.isSome)
   && decide ((e::es).length+([]:List Keyword).length+(if ([]:List Keyword).isEmpty then 0 else 1)<30))=true:=by rfl)
  (m:(apos.endLine==de.line)=true:=by rfl) (w:starEach (e::es) X.env=(false,eval e X.env)::starEach es X.env:=by rfl) (B:(backTo de (starEach es X.env)).any (·.1)=false:=by rfl) :
  PE X (.Call (.Attribute o name apos) (e::es) [] de) (w5 X.K T r to t):=by
 intro f s σ H Q I h;show wpAny_Call_method_late j d m rfl (aR (y f s σ H _ I h) λv s1 b=>?_);let⟨x,H1,I1,r1,ty,q⟩:=b;let⟨A,z⟩:=IF I1 r1 ty;show⟨T,id,u,slot,E,A,z,?_⟩;have g:=ha de f s1 σ H1 _ I1 q;rw[w] at g ⊢;show Cc (by room) (Ql ?_);show aR g λus s2 b=>by let⟨i,D,C,n,p⟩:=b;show hm f s2 σ D x i v us Q C r1 n p
end
def Yh(X:Cx)(b:String)(r:V->List V->Hp->VK->Prop):Prop:=
 ∀a s (σ:St) H x xs v us Q,Inv X a σ H s->RelV x v->Vals xs us->r x xs H Q->
  ⇑(call (.builtin b) (v::us)) (EP X a σ Q) X.xe s
theorem Vals.one(h:Vals [x] us):∃u,us=[u]/\RelV x u:=by
 cases h with
 | cons r t=>cases t;show⟨_,rfl,r⟩
theorem Vals.zero:∀{us},Vals [] us->us=[]
 | _,.nil=>rfl
theorem Vals.reverse(h:Vals xs us):Vals xs.reverse us.reverse:=by
 induction h with
 | nil=>show .nil
 | cons r t a=>rw[BV,BV];show Vals.append a (.cons r .nil)
theorem Vals.rep(h:Vals xs us):∀k:Nat,Vals (eI k xs).flatten (eI k us).flatten
 | 0=>.nil
 | k+1=>by
  rw[B2,B2,qM,qM];show Vals.append h (Vals.rep h k)
theorem UQ(its):∀k (acc:List aa),
  Fz (λb a=>b++a) acc.toArray (eI k its.toArray)=(acc++(eI k its).flatten).toArray
 | 0,acc=>by simp
 | k+1,acc=>by
  have e:acc.toArray++its.toArray=(acc++its).toArray:=by simp
  have c:(acc++its)++(eI k its).flatten=acc++(eI (k+1) its).flatten:=by
   rw[B2,qM,BU]
  rw[<-c,<-UQ its k (acc++its),<-e,B2,gY]
section
variable{σ:St}
theorem Inv.Wl{its its':List aa}(I:Inv X J' σ H s)(c:H l\.lst xs)
  (e:s.heap.get? l=some { cls:=.type "list",data:=.seq its.toArray n }) (b:f its.toArray=its'.toArray) (hv:Vals ys its') (hz:ys.length<=sizeLine) :
  Inv X J' σ (upd H l (.lst ys)) { s with heap:=s.heap.update l (j5 f),toks:=t' }:=by
 have q:=Yp e f;rw[b] at q;show I.write (x:=l) (e:=l) (by rw[c];show trivial) (.inl rfl) (λd u hb a=>(g8 s.heap (j5 f) (Ne.symm hb)).trans a) ⟨_,q⟩ ?_;show⟨hz,its',_,hv,q⟩
theorem Inv.Lx(I:Inv X J' σ H s)(hv:Vals ys its)(hz:ys.length<=sizeLine) :
  Inv X J' σ (upd H *...* (.lst ys)) { s with heap:=s.heap.push { cls:=.type "list",data:=.seq its.toArray },toks:=t' }:=
 I.laid (λ_ _ q=>aV _ q) (aW _) ⟨hz,its,0,hv,b8 _ rfl⟩
theorem Inv.fresh(I:Inv X J' σ H s):H *...*=none:=I.aJ.fresh (aW _)
theorem Inv.Lw(I:Inv X J' σ H s)(a:H l=some (.lst xs)):xs.length<=sizeLine/\∃(its:List aa)(n:Nat),Vals xs its/\xs.length=its.length/\s.heap.get? l=some { cls:=.type "list",data:=.seq its.toArray n }:=by
 let⟨z,its,n,r,e⟩:=I.aJ l _ a;show⟨z,its,n,r,r.length,e⟩
theorem zpd(h:n<=sizeLine):Hc n=false:=by
 unfold Hc;show kF (by room)
end
def uh:V->List V->Hp->VK->Prop:=λx a H Q=>∃l xs y,x=.ref l/\a=[y]/\H l\.lst xs/\xs.length<sizeLine/\Q .non (upd H l (.lst (xs++[y])))
theorem wL:Yh X "list.append" uh:=by
 intro j s σ H x i v us Q I d f h;let⟨l,xs,y,rfl,rfl,b,hz,q⟩:=h;cases d;let⟨u,rfl,g⟩:=f.one;let⟨z,its,n,r,hl,e⟩:=I.Lw b;show xZ F.slot_list_append ⟨_,e,rfl⟩ F.entry_list_append (F.args_list_append_2 _ _) (PySem.list_append l its.toArray n u (by rw[cW];cbv)) ⟨e,?_⟩;show⟨.non,_,I.Wl (its':=its++[u]) b e ∅ (r.append (.cons g .nil)) ?_,rfl,q⟩;rw[gj,Qu];room
def TU:V->List V->Hp->VK->Prop:=λx a H Q=>∃l xs,x=.ref l/\a=[]/\H l\.lst xs/\Q .non (upd H l (.lst xs.reverse))
theorem zlt:Yh X "list.reverse" TU:=by
 intro j s σ H x i v us Q I f g h;let⟨l,xs,rfl,rfl,b,q⟩:=h;cases f;have d:=g.zero;subst d;let⟨z,its,n,r,hl,e⟩:=I.Lw b;show xZ F.slot_list_reverse ⟨_,e,rfl⟩ F.entry_list_reverse (F.args_list_reverse_1 _) (AutoSeq1.list_reverse_list_0 l its.toArray n (by rw[cW];cbv)) ⟨e,?_⟩;show⟨.non,_,I.Wl (its':=its.reverse) b e ∅ r.reverse ?_,rfl,q⟩;rw[P7];room
def Zv:R2:=λx y H Q=>∃l k xs,x=.ref l/\y=.int k/\H l\.lst xs/\-(2 ^ 63)<=k/\k<2 ^ 63/\xs.length*k.toNat<=sizeLine/\
 ∀p,H p=none->Q (.ref p) (upd H p (.lst (eI k.toNat xs).flatten))
theorem zrQ{a:Type}(xs:List a)(k):(eI k xs).flatten.length=k*xs.length:=by
 cbv
theorem zt2:cE X (binaryOp .Mult) Zv:=by
 intro E s σ H x y v u Q I j i h;let⟨l,k,xs,rfl,rfl,w,B,A,hz,q⟩:=h;cases j;let⟨t,rfl⟩:=i;let⟨z,its,n,r,p,e⟩:=I.Lw w;have hlen:its.toArray.size*k.toNat<=sizeLine:=by rw[cW,<-p];show hz
 have d:¬its.toArray.size*k.toNat>(2 ^ 63-1)/8:=by
  have:(sizeLine:Nat)<=(2 ^ 63-1)/8:=by decide
  lia
 have C:¬(!Builtin.List.listFitsIndex k)=true:=by
  rw[fitsIndex_both B A];show ja
 have f:¬Hc (its.toArray.size*k.toNat)=true:=by
  rw[zpd hlen];show ja
 have o:Fz (λc b=>c++b) #[] (eI (if its.toArray.isEmpty=true then 0 else k.toNat) its.toArray)=(eI k.toNat its).flatten.toArray:=by
  have f0:∀m:Nat,Fz (λc b=>c++b) #[] (eI m its.toArray)=(eI m its).flatten.toArray:=λm=>by
   have:=UQ its m [];rw[BF] at this;show this
  rw[f0];cases its with
  | nil=>simp
  | cons a D=>rw[if_neg (by show ja)]
 show wpAny_binaryOp_repeat_ref (T:="list") (U:="int") (by rfl) ⟨_,e,rfl⟩ (λg=>FA g k t) noFill_list_mul F.fills_int_mul OW repeat_list F.slot_int_index.lookup
  (xZ OW (FA s k t) F.entry_int_rmul (F.args_int_rmul_2 _ _) (int___rmul___int_list k t l its.toArray n)
   ⟨e,rfl,⟨_,e,rfl⟩,xZ F.slot_list_mul ⟨_,e,rfl⟩ F.entry_list_mul (F.args_list_mul_2 _ _) (YW l its.toArray n k t C d f) ⟨e,?_⟩⟩)
 rw[o];show⟨.ref _,_,I.Lx (t':=s.toks) (r.rep k.toNat) (by rw[zrQ,Nat.mul_comm];show hz),rfl,q _ I.fresh⟩
end L2
namespace Yj
open PySem PySem.W PySem.Calls PyProof.Rows
theorem zfA:∀ns c,WellAll P h c (ns.map NO)->IntsAre c ns:=by
 intro ns;induction ns with
 | nil=>
  intro c w;rw[Bt] at w;cases w;show .nil
 | cons n ns d=>
  intro c w;rw[bO] at w;cases w with
  | cons a b=>
   cases a;show .cons _ _ (d _ b)
theorem zmB{l:OpenLaw}(hn:l.most\n)
  (g:l.row.toRowW.claim.pre args=true) (s:WellAll P h vals args) :
  ∃a e ns,vals=[cI a]/\args=[WData.list (ns.map NO)]/\h.get? a=some { cls:=.type "list",data:=.seq e.toArray }/\IntsAre e ns/\ns.length<=n:=by
 have c:WShape.hasAll [] args [.list .int]=true:=(pre_splitW g).1;have f:l.pre.holds [] { args:=args }=true:=(pre_splitW g).2;let⟨d,r,rfl,q,p⟩:=hasAllW_cons c;obtain rfl:=hasAllW_nil p;let⟨xs,rfl,o⟩:=hasW_list q;let⟨ns,rfl⟩:=items_int o;have hlen:ns.length<=n:=by
  unfold OpenLaw.pre at f;have b:(WTm.not (.lt (.lit (.int (n:Int))) (.len (.arg 0)))).holds [] { args:=[.list (ns.map .int)] }=true:=by
   have b:=(holds_andW f).1;rw[hn] at b;show b
  have t:=condW_of b (w_not (w_lt w_lit (w_len_list (w_arg rfl))));cbv
 cases s with
 | cons j i=>
  cases i;cases j with
  | list m k=>show⟨_,_,ns,rfl,rfl,m,zfA ns _ k,hlen⟩
theorem zmC(l:OpenLaw)(args):l.row.toRowW.claim.post args (.bool true) args=true:=
 postW_of (r:=l.row.toRowW) (X:=(true==true))
  (show NS [] (.bool true) .bool=true by first | rfl | decide | simp[NS,WShape.arms,WShape.armsAll])
  (show(WTm.eq .res (.lit (.bool true))).value [] { args:=args,res:=some (.bool true),after:=args }\.bool (true==true) from w_eq_bool (w_res rfl) w_lit) rfl
theorem abF{l:OpenLaw}
  (hn:l.most\n) (z:d.params.defaults=[])
  (call:∀w cN c mg mb fa o pm cd doc a e ns,
   Ground q b [] j w cN mg mb c.heap->i w c.heap->
   c.heap.get? fa\o->o.data=.func (docDef d.name d.params d.body d.scope pm cd doc)->c.heap.CodeRec cd d.name->mg d.name\.ref fa->
   c.heap.get? a=some { cls:=.type "list",data:=.seq e.toArray }->IntsAre e ns->ns.length<=n->c.gens=#[]->
   codeAny (model l.prog w) callerA (.call (.ref fa) ⟨[.ref a],[]⟩) (λr g=>r=.ok (.ret (.bool true))/\OldK c.heap g.heap/\g.os=c.os/\AllBare g.gens) c) :
  WalkO q b j i l.row.toRowW d [] (λf e=>NR f e):=by
 intro w cN c mg mb G Y fa o pm cd doc x kV p hd k h qj hg args vals as C y D A s;obtain rfl:x=.none:=Dflts.none h z;obtain rfl:kV=.none:=Dflts.noKw h;let⟨a,e,ns,rfl,rfl,B,hints,hlen⟩:=zmB hn C A;show enter_call (pf (call w cN c mg mb fa o pm cd doc a e ns G Y p (fd_plain hd) k qj B hints hlen hg) λr g m=>?_);let⟨rfl,v,u,t⟩:=m;show⟨.inl ⟨.bool true,.bool true,[],rfl,λ_=>rfl,.bool true,zmC l _,λ_=>⟨Pw,λ_ hm=>(nomatch hm)⟩⟩,v,u,t⟩
end Yj
namespace L2
open PySem PySem.Spec PyProof.Rows
theorem J5:∀{a ns},IntsAre a ns->Vals (ns.map V.int) a
 | _,_,.nil=>.nil
 | _,_,.cons n t h=>.cons ⟨t,rfl⟩ (J5 h)
def Q7(H:Hp):Prop:=∀b,H b=none\/∃o xs,H b=some (.eT o (.lst xs))
theorem zpe{K:ar}
  (KX:K.In c.heap) (L:c.heap.Ns mainGlobals mg) (hb:c.heap.Ns builtinsNs mb) (y:∀x:af,x≠"__name__"->mb x=bootBuiltins x) (C:c.heap.NoLimit) (hg:c.gens=#[])
  (ha:c.heap.get? a=some { cls:=.type "list",data:=.seq g.toArray }) (hi:IntsAre g j) (M:j.length<=sizeLine) (hr:cV k callerA)
  (F:∀base:aw,K.In base->base.Ns mainGlobals mg->kE P w K mg base T k fa O [x] G) (B:∀s u,BindsTo s O ⟨[u],[]⟩ [(x,u)])
  (W:∀H:Hp,Q7 H->bM K H a (j.map V.int)->G [.ref a] H (λv _=>v=.bl true) λ_ _ _=>False)
  (A:∀H e f,T [] H c (λ_ _ _=>False) e f->False) :
  codeAny (model P w) callerA (.call (.ref fa) ⟨[.ref a],[]⟩) (λr f=>r=.ok (.ret (.bool true))/\OldK c.heap f.heap/\f.os=c.os/\AllBare f.gens) c:=by
 have I:=J5 hi;have D:=hi.length
 -- from an abstract heap in acs nothing but J VW may be tracked
 have core:∀H:Hp,Q7 H->bM K H a (j.map V.int)->dB P w H c.heap->(∀b,H b≠none->b=a)->(H a≠none->K.lookup a=none)->
   codeAny (model P w) callerA (.call (.ref fa) ⟨[.ref a],[]⟩) (λr f=>r=.ok (.ret (.bool true))/\OldK c.heap f.heap/\f.os=c.os/\AllBare f.gens) c:=by
  intro H N hS aJ hA hK;have R:∀{b:ae}{o:aL},c.heap.get? b\o->H b=none->(pH c.heap H).get? b\o:=λe n=>zo3 e n
  have Ag:∀{b:ae}{o:aL}{l:Array DictEntry}{p:Nat},c.heap.get? b\o->o.data=.dict l p->H b=none:=λ{b o l p} e d=>by
   grind
  have t:∀{b:ae}{m:af->Option aa},c.heap.Ns b m->(pH c.heap H).Ns b m:=λ{b m} ⟨o,l,p,e,d,r⟩=>⟨o,l,p,R e (Ag e d),d,r⟩
  have S:K.In (pH c.heap H):=λb o e=>R (KX b o e) (by
   grind)
  have hM:Mod K mg (pH c.heap H):=⟨S,t L,⟨mb,t hb,y⟩,let⟨Z,h1,h2⟩:=C;⟨Z,t h1,h2⟩⟩
  have e0:u9 P w K mg (pH c.heap H) callerA [] c H:=⟨rfl,hM,λb o e=>zrv e,Bs (zmi _ _),trivial,λb hb=>absurd (show b∈([]:List ae) from hb) (by nofun),aJ,.of_eq hg⟩
  show pf ((F _ S (t L)).run callerA [] c H ⟨[.ref a],[]⟩ [.ref a] [.ref a] _ _ hr e0 (B c (.ref a)) (.cons rfl .nil) (W H N hS)) λr f h=>?_
  cases r with
  | error e=>show(A H e f h).elim
  | ok fl=>
   cases fl with
   | next=>show False.elim h
   | brk=>show False.elim h
   | cont=>show False.elim h
   | ret u=>
    let⟨v,H',os,bare,un,E,X,q⟩:=h;have Y:v=.bl true:=q;subst Y;obtain rfl:u=vk true:=X;show⟨rfl,OldK.of_keep λb o e=>?_,os,bare⟩;cases q:H b with
    | none=>show un.keep b o e q (by intro z;show absurd (show b∈([]:List ae) from z) (by nofun)) (by nofun)
    | some u=>
     rcases N b with z | ⟨ob,xs,z⟩
     .rw[q] at z;cases z
     have U:=un.kB b ob _ z;obtain⟨Q,_⟩:=aJ b _ z;obtain⟨e2,_⟩:=E b _ U;rw[e] at Q;cases Q;show e2
 cases hk:K.lookup a with
 | some o=>
  -- J VW is one of J acC own objects
  have e:=KX a o hk;rw[ha] at e;cases e;show core (λ_=>none) (λ_=>.inl rfl) (.inr ⟨_,g.toArray,_,hk,rfl,rfl,rfl,by rw[cW,D];show M,by simpa using I⟩) (λb u z=>by have i:(none:Option HO)\u:=z;cases i) (λb z=>absurd rfl z) λz=>absurd rfl z
 | none=>
  show core (λb=>if b=a then some (.eT { cls:=.type "list",data:=.seq g.toArray } (.lst (j.map V.int))) else none) (λb=>?_) (.inl (.inr ⟨{ cls:=.type "list",data:=.seq g.toArray },if_pos rfl⟩)) (λb u z=>?_) (λb z=>?_) λ_=>hk
  .grind
  .by_cases hb:b=a
   .have i:=(if_pos hb).symm.trans z;cases i;subst hb;show⟨ha,by rw[aO];show M,g,_,I,ha⟩
   have i:=(if_neg hb).symm.trans z;cases i
  by_cases hb:b=a
  .exact hb
  show absurd (if_neg hb) z
noncomputable abbrev lX{K:ar}{h:aw}(_:K.In h):ar:=K
def zrR(s:bE)(j:Nat):bE:=match s with
 | .ClassDef _ _ _ body _ _ _ _ _ _ _=>body.getD j (.Pass ⟨0,0,0,0⟩)
 | _=>.Pass ⟨0,0,0,0⟩
noncomputable def nI(s:bE):Arguments:=match s with
 | .FunctionDef _ a _ _ _ _ _ _ _ _=>a
 | _=>{ posonlyargs:=[],args:=[],vararg:=none,kwonlyargs:=[],kw_defaults:=[],kwarg:=none,defaults:=[] }
noncomputable def gi(s:bE):List bE:=match s with
 | .FunctionDef _ _ b _ _ _ _ _ _ _=>b
 | _=>[]
noncomputable def bQ(s:bE):fW:=match s with
 | .FunctionDef _ _ _ _ _ _ sc _ _ _=>sc
 | _=>{ kind:=.function,names:=[],isGenerator:=false,isCoroutine:=false }
abbrev eG:nQ:=λ_ _ _ _ _ _=>False
abbrev E0:XK:=λ_ _ _=>False
theorem Z7:CY eG X E0:=λ_ _ _ _ _ _ _ h=>h.elim
structure xR(dV:aa)(K:ar)(x qual:af)(st:bE)(f:ae)(fd:gF):Prop where
 ex:∃(oc:aa)(od:Option ae)(kV doc pm:aa)(an:Option ae)(aE ct:aa)(my:Array (Option aa)),
  fd=lB x qual (nI st) (gi st) (bQ st) dV kV doc pm an aE ct/\K.lookup f\⟨oc,od,.func fd,my⟩/\BA K aE qual=true
 kp:nW K (.ref f)=true
noncomputable abbrev Fl:=xR .none
section
variable{K:ar}
theorem xR.ok{st:bE}(F:xR l K x a st f e)(S:lh N ps (bQ st))(len:∀b H Q E,d b H Q E->b.length=ps.length)
  (m:∀c A outer s H b Q E,cV k (A.deeper (envOfC a (bQ st) *...* f c))->d b H Q E->
   ∃t,jy (eZ eG P w K mg base N a (bQ st) f c A outer s H E).gL (gi st) t/\t { nx:=λ_ H'=>Q .non H',rt:=Q } (start N b) H):kE P w K mg base eG (k+1) f e ps d:=by
 let⟨n,od,kV,doc,pm,an,c,ct,o,rfl,lk,i⟩:=F.ex;show RM lk i S len λA outer s H b Q E j g=>?_
 let⟨t,h,q⟩:=m c A outer s H b Q E j g;show⟨t,h.gL,q⟩
theorem xR.binds{st:bE}(F:Fl K x a st f c)
  (h:∀kV doc pm an b ct us,us.length=ps.length->bindArgs (lB x a (nI st) (gi st) (bQ st) .none kV doc pm an b ct) ⟨us,[]⟩=pure (ps.zip us)):Binds K c ps []:=by
 let⟨d,od,kV,doc,pm,an,b,ct,e,rfl,lk,g⟩:=F.ex;show .all (h kV doc pm an b ct)
theorem XU{st:bE}{e kV b pm d ct:aa}(l:K.lookup f\⟨h,od,.func (lB x a (nI st) (gi st) (bQ st) e kV b pm g d ct),i⟩)
  (c:BA K d a=true) (k:nW K (.ref f)=true):xR e K x a st f (lB x a (nI st) (gi st) (bQ st) e kV b pm g d ct):=⟨⟨h,od,kV,b,pm,g,d,ct,i,rfl,l,c⟩,k⟩
end
theorem pv(i)(hN:X.N[i]?=some x:=by rfl)(hv:lV X.env.scope x:=by first | show Or.inl rfl | show Or.inr (Or.inl rfl) | show Or.inr (Or.inr rfl))(hd:(x==("__debug__":af))=false:=by decide)
  (a:(x==("__classdict__":af))=false:=by decide):PE X (.Name x pos) (tQ i):=pO hN hv hd a
def aZ(H H':Hp):Prop:=∀b o,H b\o->H' b=some o
theorem aZ.refl(H):aZ H H:=λ_ _ h=>h
theorem aZ.trans(a:aZ H e)(b:aZ e d):aZ H d:=λc o h=>b c o (a c o h)
theorem aZ.free(e:aZ H H')(h:H' l=NY):H l=NY:=by
 cases q:H l with
 | none=>rfl
 | some o=>
  rw[e l o q] at h;cases h
end L2
set_option maxHeartbeats 0
namespace L2
open PySem PySem.Spec PyProof.Rows
def fU(K:ar)(H:Hp)(a:ae)(xs:List V):Prop:=
 Rd H a (.lst xs)\/∃its n,K.lookup a=some { cls:=.type "list",data:=.seq its n }/\its.size<=sizeLine/\Vals xs its.toList
theorem fU.of{K:ar}{H:Hp}{a:ae}{xs:List V}(h:H a\.lst xs):fU K H a xs:=.inl (.inl h)
theorem fU.sq{K:ar}(h:fU K H a xs):bM K H a xs:=by
 rcases h with h | ⟨its,n,d,c,b⟩
 .exact .inl h
 show .inr ⟨_,its,n,d,rfl,rfl,rfl,c,b⟩
theorem aZ.cm{K:ar}(e:aZ H H')(h:fU K H a xs):fU K H' a xs:=by
 rcases h with(h | ⟨o,h⟩) | h
 .exact .inl (.inl (e _ _ h))
 .exact .inl (.inr ⟨o,e _ _ h⟩)
 show .inr h
theorem Inv.cm{c:St}(I:Inv X g c H s)(h:fU X.K H a xs):xs.length<=sizeLine/\∃(its:List aa)(n:Nat),Vals xs its/\s.heap.get? a=some { cls:=.type "list",data:=.seq its.toArray n }:=by
 rcases h with h | ⟨its,n,f,d,b⟩
 .let⟨z,its,n,r,e⟩:=h.ok I.aJ;show⟨z,its,n,r,e⟩
 show⟨by rw[b.length];simpa using d,its.toList,n,b,?_⟩;show I.dy a _ f
noncomputable def hJ(cells:List (af×ae)):List (af×NameKind)->List (af×ae)->List (af×ae)
 | [],acc=>acc
 | (n,k)::r,acc=>hJ cells r (if k==.free then(n,(cells.lookup n).getD 0)::acc else acc)
theorem Vs:∀names acc,(∀x∈names,x.2=.free->∃c,env.cells.lookup x.1\c)->
  (forIn names acc λ(x:af×NameKind)(r:List (af×ae))=>
   (if (x.2==md)=true then do let a <-cellOf env x.1;pure (qI ((x.1,a)::r)) else pure (qI r):Sem (ForInStep (List (af×ae)))))=pure (hJ env.cells names acc)
 | [],acc,_=>by rfl
 | (n,k)::r,acc,h=>by
  have d:=λf=>Vs (env:=env) r f λx g=>h x (eh _ g)
  rw[Gg];by_cases hk:k=.free
  .subst hk;let⟨c,e⟩:=h (n,.free) (by show .head _) rfl;have i:cellOf env n=pure c:=by unfold cellOf;rw[e]
   simp![beq_self_eq_true,dF,i,pure_bind];rw[d];simp[hJ,e]
  have b:(k==md)=false:=by show if_neg ‹_›
  simp![b,eK,dG,pure_bind];rw[d];simp[hJ,b]
theorem Vr(h:∀x∈scope.names,x.2=.free->∃c,env.cells.lookup x.1\c):closureFor scope env=pure (hJ env.cells scope.names []):=by
 have e:closureFor scope env=(forIn scope.names ([]:List (af×ae)) λ(x:af×NameKind)(r:List (af×ae))=>
   (if (x.2==md)=true then do let a <-cellOf env x.1;pure (qI ((x.1,a)::r)) else pure (qI r):Sem (ForInStep (List (af×ae))))) >>= λr=>pure r:=rfl
 rw[e,Vs _ _ h];rfl
theorem Ur:∀{names acc x c},(x,c)∈hJ cells names acc->(x,c)∈acc\/((x,.free)∈names/\c=(cells.lookup x).getD 0)
 | [],acc,x,c,h=>.inl h
 | (n,k)::r,acc,x,c,h=>by
  rcases Ur (names:=r) h with h | ⟨h,e⟩
  all_goals grind
theorem Uq:∀{names acc p},p∈acc->p∈hJ cells names acc
 | [],acc,p,h=>h
 | (n,k)::r,acc,p,h=>Uq (names:=r) (by split<;>simp[h])
theorem Jt:∀{names acc x},(x,.free)∈names->∃c,(x,c)∈hJ cells names acc
 | (n,k)::r,acc,x,h=>by
  rcases bx.mp h with h | h
  .have b:x=n:=congrArg NK h;have a:md=k:=congrArg Prod.snd h;subst b a;show⟨(cells.lookup x).getD 0,?_⟩;show(x,(cells.lookup x).getD 0)∈hJ cells r (if (md==md)=true then(x,(cells.lookup x).getD 0)::acc else acc);show Uq (by show .head _)
  show Jt (names:=r) h
theorem DU{b:Type}:∀{l:List (af×b)}{x c},(x,c)∈l->∃a,l.lookup x\a
 | (n,k)::r,x,c,h=>by
  by_cases e:x=n
  .subst e;show⟨k,by simp[yn]⟩
  have d:(x==n)=false:=by show if_neg ‹_›
  rcases bx.mp h with h | h
  .cases h;show absurd rfl e
  let⟨a,q⟩:=DU h;show⟨a,by simp[yn,d,q]⟩
theorem KR{env:cC}:∀{names:List (af×NameKind)}{x:af},
  (names.map λ(n,k)=>if (k==md&&env.scope.kind==.function&&env.kindOf n==some .cell) then(n,vo) else(n,k)).lookup x
   = (names.lookup x).map λk=>if (k==md&&env.scope.kind==.function&&env.kindOf x==some .cell) then vo else k
 | [],x=>rfl
 | (n,k)::r,x=>by
  have a:=@KR env r x;grind
theorem K5:∀names n acc a,cellsFrom n names (acc++a)=cellsFrom n names acc++a
 | [],_,_,_=>rfl
 | (x,k)::r,n,acc,a=>by
  unfold cellsFrom;split
  .exact K5 r (n+1) ((x,n)::acc) a
  show K5 r n acc a
theorem KZ:∀{names n acc p},p∈cellsFrom n names acc->p∈acc\/(p.1,.cell)∈names
 | [],_,_,_,h=>.inl h
 | (x,k)::r,n,acc,p,h=>by
  unfold cellsFrom at h;split at h
  .rename_i hk;rcases KZ h with h | h
   all_goals grind
  show(KZ h).imp id (eh _)
theorem zF:∀{names n acc p},p∈acc->p∈cellsFrom n names acc
 | [],_,_,_,h=>h
 | (x,k)::r,n,acc,p,h=>by
  unfold cellsFrom;split
  .exact zF (eh _ h)
  show zF h
theorem KY:∀{names n acc x},(x,.cell)∈names->∃c,(x,c)∈cellsFrom n names acc
 | (y,k)::r,n,acc,x,h=>by
  unfold cellsFrom;rcases bx.mp h with h | h
  .cases h;show⟨n,zF (by show .head _)⟩
  split
  .exact KY h
  show KY h
theorem zpf
  (g:∀h',h'=pushCells (s.heap.push { cls:=.type "dict",data:=.dict #[] }) scope.names->Q (newEnv scope *...* a (cellsFrom (*...*+1) scope.names b) c d e (some out) builtinsNs) { s with heap:=h' }) :
  wpAny M A (newFunctionEnv scope a b [] c d e (some out)) Q E s:=by
 simp only[newFunctionEnv,PQ,dF];show aj (wpAny_alloc ?_);show aj (wpAny_layCells _ (λname kind cells=>by cases f:kind==vo<;>simp[f]) _ _ _ _ ?_);rw[show({ s with heap:=s.heap.push { cls:=.type "dict",data:=.dict #[] } }:ai).heap.objs.size=*...*+1 from gX ..];show aj (az (az (g _ rfl)))
noncomputable abbrev jx(X:Cx)(N':List af)(scope:fW)(a:ai)(b:Hp)(ex:List ae)(XE:aa->ai->Prop):Cx:=
 { X with N:=N',cN:=a,xQ:=b,env:=compEnvC scope (cellsFrom (a.heap.objs.size+1) scope.names (hJ X.env.cells scope.names [])) a.heap.objs.size X.env,outer:=X.stack,stack:=X.stack,ex:=ex,fn:=λx=>scope.names.lookup x==some .cell,pn:=[],xe:=XE }
noncomputable abbrev fj(X:Cx)(N':List af)(scope:fW)(a:ai)(b:Hp)(ex:List ae):Cx:=jx X N' scope a b ex λ_ _=>False
def NG(X:Cx)(C:ae)(x:aa)(a:ai):Prop:=
 ∃m,a.heap.Ns C m/\∀h',j6 C a.heap h'->∀b:cC,b.locals=C->⇑(passOn "comprehension.variables-let-go" x b:Sem aa) (λ_ _=>False) X.xe { a with heap:=h' }
noncomputable def oJ(m:List (Option Nat))(a:St):St:=m.map λo=>match o with
 | none=>none
 | some j=>(a[j]?).join
structure iI(X:Cx)(N':List af)(m:List (Option Nat))(scope:fW):Prop where
 kind:scope.kind=.function
 len:m.length=N'.length
 uniq:∀y∈scope.names,scope.names.lookup y.1\y.2
 free:∀y∈scope.names,y.2=.free->X.env.kindOf y.1\.cell\/X.env.kindOf y.1\.free
 cap:∀(i j:Nat)(x:af),m[i]?\some j->N'[i]?\x->X.N[j]?\x/\scope.names.lookup x=some .free
def sS(X:Cx)(a:List ax)(t:TT):Prop:=
 ∀b s (σ:St) H Q,Inv X b σ H s->t σ H Q->
  ⇑(forIn a true λc r=>if r=true then do let ok <-isTrue c X.env (eval c X.env);pure (qI ok) else pure (qI r)) (TP X b σ Q) X.xe s
def Zu:TT:=λ_ H Q=>Q true H
theorem zrS:sS X [] Zu:=λ_ _ σ H _ I h=>wpAny_tests_nil ⟨H,I,h⟩
theorem zrT(h:PT X c t):sS X [c] t:=λa s σ H Q I q=>wpAny_tests_one (h a s σ H Q I q)
section
variable{prog:aD}{w:aB}{A:aT}{R:Result->ai->Prop}{s:ai}
theorem zjG{g a e:ax}{f:List ax}{scope:fW}{pos:aG}{it acc:aa}{env:cC}{b:aa->ai->Prop}(d:∀x s,b x s->notedBy (model prog w) A env (λx y=>R (.error x) y) x s)(I:Nat->ai->Prop)
  (turn:∀n s,I n s->↥(pyNext it) (λr j=>match r with
   | none=>R (.ok .next) j
   | some v=>↥(letOwnedTupleGo a it v) (λ_ q=>↥(assign a env v) (λ_ p=>
     ↥(forIn f true λc r=>if r=true then do let ok <-isTrue c env (eval c env);pure (qI ok) else pure (qI r)) (λok i=>
      if ok=true then ↥(eval g env) (λx u=>
       ↥(call (.builtin "list.append") [acc,x]) (λ_ t=>∃m,m<n/\I m t) b u) b i
      else ∃m,m<n/\I m i) b p) b q) b j) b s)
  (n:Nat) (h:I n s) :
  codeAny (model prog w) A (.compLoop (.ListComp g [⟨a,e,f,0⟩] scope pos) 0 it acc env) R s:=by
 show codeAny_loop rfl I (λn s B=>?_) n h;show wpAny_noted ?_;show aj (vp (aj (eW (turn n s B) (λr j o=>?_) d)));cases r with
 | none=>show az o
 | some v=>
  show aj (eW o (λ_ q k=>?_) d);show aj (eW k (λ_ p z=>aj (eW z (λok i l=>?_) d)) d);cases ok with
  | false=>show az ⟨rfl,l⟩
  | true=>
   show aj (aj (eW l (λx u D=>aj (eW D (λ_ t C=>az (az ⟨rfl,C⟩)) d)) d))
end
noncomputable abbrev gy(a:Type):=ai->Hp->List ae->a
def m4(j:TI)(m:List (Option Nat))(g:gy TG)(tc:gy TT)(te:gy TE):TE:=λσ H Q=>j σ H λJ H1=>∀D,H1 D=none->∀s3 ex,
 ∃W:Nat->Nat->St->Hp->Prop,(∃k,W 0 k (oJ m σ) (upd H1 D (.lst [])))/\∀i k a H',W i k a H'->
  (J.stop i H'/\Q (.ref D) H')\/(J.go i H'/\∃N:St->Hp->Prop,(∀a H',N a H'->∃d,d<k/\W (i+1) d a H')/\
   ∀x h,J.DV i H' x h->g s3 (upd H1 D (.lst [])) ex x a h λc l=>tc s3 (upd H1 D (.lst [])) ex c l λb f=>
    if b=true then te s3 (upd H1 D (.lst [])) ex c f λv e=>∃xs,e D\.lst xs/\xs.length<sizeLine/\N c (upd e D (.lst (xs++[v]))) else N c f)
section
variable{X:Cx}
theorem zpg{R:List (ae×aL)}{w:St}{fp:List ae}(t:iI X N' m scope)(I:Inv X R w H s)(f:∀b∈fp,lY X R H b)(O:∀b∈fp,b< *...*)
  (hh:B=pushCells (s.heap.push { cls:=.type "dict",data:=.dict #[] }) scope.names) :
  Inv (jx X N' scope s H fp XE) [] (oJ m w) H { s with heap:=B,toks:=tk }:=by
 have hk:∀b o,s.heap.get? b\o->B.get? b\o:=λb o e=>by rw[hh];show Gf _ _ b o (aV _ e)
 have W:B.Ns *...* (λ_=>none):=by rw[hh];show(Heap.Ns.new s.heap (.type "dict")).keeps (Gf _ _)
 have ok:=cellsFrom_ok scope.names (s.heap.push { cls:=.type "dict",data:=.dict #[] }) (*...*+1) [] ⟨λ_ _ hm=>(nomatch hm),Pw⟩ (by rw[gX];show aW _);rw[gX,<-hh] at ok;have Y:∀y∈scope.names,y.2=.free->∃c,X.env.cells.lookup y.1=some c:=λy Z hf=>I.ok.has y.1 (t.free y Z hf)
 have app:cellsFrom (*...*+1) scope.names (hJ X.env.cells scope.names [])=cellsFrom (*...*+1) scope.names []++hJ X.env.cells scope.names []:=K5 _ _ [] _
 /- a cell: of its own,or one from around -/
 have r:∀x c,(cellsFrom (*...*+1) scope.names (hJ X.env.cells scope.names [])).lookup x\c->((x,c)∈cellsFrom (*...*+1) scope.names []/\scope.names.lookup x\.cell)\/(X.env.cells.lookup x\c/\scope.names.lookup x\.free):=λx c e=>by
  have hm:=qP e;rw[app] at hm;rcases cy.mp hm with hm | hm
  .refine .inl ⟨hm,?_⟩;rcases KZ hm with z | z
   .cases z
   show t.uniq _ z
  rcases Ur hm with z | ⟨z,P⟩
  .cases z
  let⟨G,q⟩:=Y _ z rfl;rw[q] at P;show .inr ⟨by rw[q,P];rfl,t.uniq _ z⟩
 have old:∀x c,X.env.cells.lookup x\c->c< *...*:=λx c e=>by let⟨v,z⟩:=I.cell x c e;show z.lt
 show⟨⟨I.ok.mod,t.kind,I.ok.glob,I.ok.blt,aW _,λx y c e1 e2=>?inj,λx D=>?_,λx c D e=>?cab,I.ok.hd,I.ok.frames,.inl rfl,λb hb=>⟨bJ (O b hb),λx c e=>?exf⟩,
  λb o e=>I.bs b o e,gB I.ok.qu I.sz,λb o e hb=>?_,λb hb z=>?_,I.stack,I.VS⟩,
  rfl,I.bare,Un.kept hk,⟨_,W,λi x v h1 d h3=>?_⟩,λx c e=>?_,I.aJ.fresh (aW _),λx c e=>?frc,λp hp=>(by cases hp),I.aJ.kept hk,?_⟩
 case inj=>
  rcases r x c e1 with⟨g,_⟩ | ⟨l,_⟩<;>rcases r y c e2 with⟨M,_⟩ | ⟨L,_⟩
  .exact PySem.name_of_addr ok.apart g M
  .exact absurd (old y c L) (xY.mpr (gB (iM _) (ok.empty x c g).2))
  .exact absurd (old x c l) (xY.mpr (gB (iM _) (ok.empty y c M).2))
  show I.ok.inj x y c l L
 case cab=>
  rcases r x c e with⟨g,_⟩ | ⟨_,z⟩
  .exact gB (iM _) (ok.empty x c g).2
  have h:(scope.names.lookup x==some .cell)=true:=D;rw[z] at h;cases h
 case exf=>
  rcases r x c e with⟨g,_⟩ | ⟨l,_⟩
  .exact jd (gm (j2 (O b hb)) (ok.empty x c g).2)
  show(f b hb).2.2.2.2.1 x c l
 case frc=>
  rcases r x c e with⟨g,_⟩ | ⟨l,_⟩
  .exact I.aJ.fresh (gB (iM _) (ok.empty x c g).2)
  show I.jT x c l
 .have h:(relabel scope X.env).names.lookup x\.cell\/(relabel scope X.env).names.lookup x\.free:=D;have e:(relabel scope X.env).names.lookup x=(scope.names.lookup x).map λk=>if (k==md&&X.env.scope.kind==.function&&X.env.kindOf x==some .cell) then vo else k:=KR
  rw[e] at h;have hf:(x,md)∈scope.names\/(x,vo)∈scope.names:=by
   cases q:scope.names.lookup x with
   | none=>rw[q] at h;simp at h
   | some k=>
    rw[q] at h;have hm:=qP q;by_cases N:k=.free
    .subst N;show .inl hm
    have T:(k==md)=false:=by show if_neg ‹_›
    simp![T,fO,OJ,eK,dG,fA] at h;rcases h with z | z
    .subst z;show .inr hm
    show absurd z N
  show ∃c,(cellsFrom (*...*+1) scope.names (hJ X.env.cells scope.names [])).lookup x=some c
  rcases hf with hf | hf
  .let⟨c,E⟩:=Jt (cells:=X.env.cells) (acc:=[]) hf;show DU (zF E)
  let⟨c,E⟩:=KY (n:=*...*+1) (acc:=hJ X.env.cells scope.names []) hf;show DU E
 .rcases(f b hb).2.2.2.1 with z | z
  .exact I.ok.xc b o e z
  show absurd (gm (aX (I.ok.bs b o e).1) z) (sY _)
 .rcases bx.mp (I.Ld b z) with q | q
  .exact(f b hb).2.1 q
  show(f b hb).2.2.1 q
 .unfold oJ at d;rw[bW] at d;cases q:m[i]? with
  | none=>rw[q] at d;cases d
  | some o=>
   rw[q] at d;cases o with
   | none=>cases d
   | some j=>
    simp![fO,fA] at d;have XJ:w[j]?\some v:=by
     cases z:w[j]? with
     | none=>rw[z] at d;cases d
     | some a=>rw[z] at d;simp at d;rw[d]
    let⟨hN,F⟩:=t.cap i j x q h1;have Q:=qP F;let⟨m0,hn0,hl⟩:=I.loc;have S:=t.free _ Q rfl;have J:lV X.env.scope x:=S.elim (λz=>.inr (.inl z)) (λz=>.inr (.inr z));let⟨u,U,V⟩:=hl j x v hN XJ J;show⟨u,U,.inr ⟨?_,?_⟩⟩
    .show(relabel scope X.env).names.lookup x\.cell\/(relabel scope X.env).names.lookup x\.free;have e:(relabel scope X.env).names.lookup x=(scope.names.lookup x).map λk=>if (k==md&&X.env.scope.kind==.function&&X.env.kindOf x==some .cell) then vo else k:=KR
     rw[e,F];simp![fO];split
     .exact .inl rfl
     show .inr rfl
    rcases V with⟨k,_⟩ | ⟨_,c,e,z⟩
    .rcases S with z | z<;>· rw[k] at z;cases z
    let⟨G,K⟩:=DU (zF (names:=scope.names) (n:=*...*+1) (Jt (cells:=X.env.cells) (acc:=[]) Q).choose_spec);have:X.env.cells.lookup x\G:=by
     rcases r x G K with⟨_,z⟩ | ⟨z,_⟩
     .rw[F] at z;cases z
     show z
    rw[e] at this;cases this;let⟨A,C,hd⟩:=z;show⟨c,K,A,hk c A C,hd⟩
 .rcases r x c e with⟨g,_⟩ | ⟨l,_⟩
  .exact⟨none,(ok.empty x c g).1⟩
  let⟨v,A,C,hd⟩:=I.cell x c l;show⟨v,A,hk c A C,hd⟩
 show(oJ m w).length=N'.length;unfold oJ;rw[aO,t.len]
def NF(X:Cx)(a:ai)(d:Hp)(ex:List ae):Prop:=∃c σ,Inv X c σ d a/\∀b∈ex,lY X c d b/\b<a.heap.objs.size
theorem U7{q:St}
  {XE:ai->aa->ai->Prop} (AV:∀s3 x j,XE s3 x j->notedBy (model X.prog X.w) X.A (compEnvC scope (cellsFrom (s3.heap.objs.size+1) scope.names (hJ X.env.cells scope.names [])) s3.heap.objs.size X.env) (NG X s3.heap.objs.size) x j)
  (hc:X.calm=true) (cs:iI X N' m scope) (hi:PI X tg iter wi) (hg:∀s3 l ex,PG (jx X N' scope s3 l ex (XE s3)) tg (g s3 l ex)) (ht:∀s3 l ex,sS (jx X N' scope s3 l ex (XE s3)) ifs (tc s3 l ex))
  (he:∀s3 l ex,NF X s3 l ex->PE (jx X N' scope s3 l ex (XE s3)) elt (te s3 l ex)) (I:Inv X k q H s) (h:m4 wi m g tc te q H Q)
  (fin:∀D C j H',Inv X k q H' j->lY X k H' C->(∃m,j.heap.Ns C m)->Q (.ref D) H'->compPost (model X.prog X.w) X.A X.xe use Z (.ref D) C (.ok .next) j) :
  ⇑(eval iter X.env) (λx bL=>⇑(pyIter x) (λit jm=>⇑(newList []) (λacc oB=>
   ⇑(newFunctionEnv scope X.env.globals (hJ X.env.cells scope.names []) [] X.env.qual none .none (some X.env)) (λA3 D5=>
    codeAny (model X.prog X.w) X.A (.compStart (.ListComp elt [⟨tg,iter,ifs,0⟩] scope pos) 0 it acc { A3 with scope:=relabel scope X.env }) (compPost (model X.prog X.w) X.A X.xe use Z acc A3.locals) D5) X.xe oB) X.xe jm) X.xe bL) X.xe s:=by
 show aR (hi k s q H _ I h) λv s1 h1=>aR h1 λLA s2 h2=>?_
 let⟨it,fp,P,J,f,e,I2,T,D6,f2,h⟩:=h2;subst e;show i9 (zpf λS Xk=>?_);have hf:f s2.heap.objs.size=none:=I2.aJ.fresh (aW _);obtain⟨W,⟨k0,w0⟩,turn⟩:=h s2.heap.objs.size hf { s2 with heap:=s2.heap.push { cls:=.type "list",data:=.seq ([]:List aa).toArray } } fp;have O:Inv X k q (upd f s2.heap.objs.size (.lst [])) { s2 with heap:=s2.heap.push { cls:=.type "list",data:=.seq ([]:List aa).toArray } }:=I2.Lx (its:=[]) (t':=s2.toks) .nil ∅;have XZ:∀b∈fp,b<s2.heap.objs.size:=λb hb=>by
  obtain⟨o,e,_⟩:=T.obj _ _ D6 b hb;show aX e
 have Y:∀b∈fp,lY X k (upd f s2.heap.objs.size (.lst [])) b:=λb hb=>⟨by rw[aY (bJ (XZ b hb))];show(f2 b hb).1,(f2 b hb).2⟩
 generalize WQ:({ s2 with heap:=s2.heap.push { cls:=.type "list",data:=.seq ([]:List aa).toArray } }:ai)=s3 at *;have hC:s3.heap.objs.size=s2.heap.objs.size+1:=by rw[<-WQ];show gX ..
 have MF:∀b∈fp,b<s3.heap.objs.size:=λb hb=>by rw[hC];show j2 (XZ b hb)
 have k3:∀b o,s2.heap.get? b\o->s3.heap.get? b\o:=λb o e=>by rw[<-WQ];show aV _ e
 have k1:∀b o,s3.heap.get? b\o->S.get? b\o:=λb o e=>by rw[Xk];show Gf _ _ b o (aV _ e)
 have J0:=zpg (XE:=XE s3) (tk:=s3.toks) cs O Y MF Xk;have uz:P 0 S:=T.keep _ _ _ D6 λb _ o e=>k1 b o (k3 b o e)
 have ME:∀{H':Hp},(∀b∈fp,H' b=none)->∀b∈fp,lY (jx X N' scope s3 (upd f s2.heap.objs.size (.lst [])) fp (XE s3)) [] H' b:=λhn b hb=>
  ⟨hn b hb,bJ (MF b hb),J0.ok.xG b hb,.inl hb,(J0.ok.exf b hb).2,λp hp=>by cases hp⟩
 have gw:∀b∈fp,(upd f s2.heap.objs.size (.lst [])) b=none:=λb hb=>(Y b hb).1
 have loop:codeAny (model X.prog X.w) X.A (.compLoop (.ListComp elt [⟨tg,iter,ifs,0⟩] scope pos) 0 (.ref it) (.ref s2.heap.objs.size) (compEnvC scope (cellsFrom (s3.heap.objs.size+1) scope.names (hJ X.env.cells scope.names [])) s3.heap.objs.size X.env))
   (compPost (model X.prog X.w) X.A X.xe use Z (.ref s2.heap.objs.size) s3.heap.objs.size) { s3 with heap:=S }:=by
  show zjG (AV s3) (λn j=>∃i F H',Inv (jx X N' scope s3 (upd f s2.heap.objs.size (.lst [])) fp (XE s3)) [] F H' j/\P i j.heap/\(∀b∈fp,H' b=none)/\W i n F H') ?_ k0 ⟨0,_,_,J0,uz,gw,w0⟩;rintro n s4 ⟨i,L,K,I4,VT,qt,w4⟩;rcases turn i n L K w4 with⟨stop,qn⟩ | ⟨go,N,hN,step⟩
  .refine aR (T.done (jx X N' scope s3 (upd f s2.heap.objs.size (.lst [])) fp (XE s3)) rfl rfl rfl hc i [] s4 L K _ I4 (ME qt) VT stop) λr s5 a=>?_
   let⟨U,B⟩:=a;subst U;have jv:∀b∈fp,(b∈X.ex\/X.cN.heap.objs.size<=b)/\b≠X.env.locals/\(∀x c,X.env.cells.lookup x\c->c≠b)/\∀p∈X.pn++k,p.1≠b:=λb hb=>⟨(f2 b hb).2.2.2.1,(f2 b hb).2.1,(f2 b hb).2.2.2.2.1,(f2 b hb).2.2.2.2.2⟩
   have I6:Inv X k q K s5:=O.abD (ch:=fp) B.os B.base B.aJ B.bare jv;obtain⟨m5,V,_⟩:=id B.loc;show fin _ _ s5 K I6 (O.oS (aW _) B.free) ⟨m5,V⟩ qn
  show aR (T.item (jx X N' scope s3 (upd f s2.heap.objs.size (.lst [])) fp (XE s3)) rfl rfl rfl hc i [] s4 L K _ I4 (ME qt) VT go) λr s5 a=>?_
  let⟨u,U,h5⟩:=a;subst U;show aR h5 λ_ s6 a=>?_
  let⟨x,H6,I6,r6,y6,Lf,EU⟩:=a;have I6':=I6.pinned (ME EU) (T.obj _ _ Lf);show aR (hg _ _ _ _ s6 L H6 x u _ I6' r6 (step x H6 y6)) λ_ s7 a=>?_
  let⟨M,H7,I7,q7⟩:=a;show aR (ht _ _ _ _ s7 M H7 _ I7 q7) λb s8 a=>?_
  let⟨H8,I8,q8⟩:=a;have again:∀{z:ai}{E:St}{t:Hp},Inv (jx X N' scope s3 (upd f s2.heap.objs.size (.lst [])) fp (XE s3)) ([]++yU fp s6.heap) E t z->N E t->∃m,m<n/\∃i F H',Inv (jx X N' scope s3 (upd f s2.heap.objs.size (.lst [])) fp (XE s3)) [] F H' z/\P i z.heap/\(∀b∈fp,H' b=none)/\W i m F H':=λ{z E t} G n9=>by
   let⟨m',hm,w9⟩:=hN E t n9;show⟨m',hm,i+1,E,t,G.DY,T.keep _ _ _ Lf λb hb o e=>(G.pin (b,o) (gD _ (gD _ (DJ hb e)))).1,λb hb=>?_,w9⟩;let⟨o,e,d⟩:=T.obj _ _ Lf b hb;show(G.pin (b,o) (gD _ (gD _ (DJ hb e)))).2.1
  cases b with
  | false=>show again I8 q8
  | true=>
   show aR (he _ _ _ ⟨k,q,O,λb hb=>⟨Y b hb,MF b hb⟩⟩ _ s8 M H8 _ I8 q8) λy z a=>?_
   let⟨v9,t,G,r9,xs,hD,hz,q9⟩:=a;show aR (wL _ z M t (.ref s2.heap.objs.size) [v9] (.ref s2.heap.objs.size) [y] (λ_ H'=>N M H') G rfl (.cons r9 .nil) ⟨_,xs,v9,rfl,rfl,hD,hz,q9⟩) λ_ s10 a=>?_
   obtain⟨_,H10,I10,_,R⟩:=a;show again I10 R
 show codeAny_compStart_list loop (T.self _ 0 _ _ _ uz loop)
theorem zph{XE:ai->aa->ai->Prop}(z:∀s3 x f,XE s3 x f->notedBy (model X.prog X.w) X.A (compEnvC scope (cellsFrom (s3.heap.objs.size+1) scope.names (hJ X.env.cells scope.names [])) s3.heap.objs.size X.env) (NG X s3.heap.objs.size) x f)(u:X.calm=true)(i:iI X N' m scope)(hi:PI X tg iter wi)(hg:∀s3 a ex,PG (jx X N' scope s3 a ex (XE s3)) tg (g s3 a ex))(ht:∀s3 a ex,sS (jx X N' scope s3 a ex (XE s3)) ifs (tc s3 a ex))
  (t:∀s3 a ex,NF X s3 a ex->PE (jx X N' scope s3 a ex (XE s3)) elt (te s3 a ex)) (p:∀x,foldedSetIterable iter X.env x=pure x:=by intro _;rfl):PE X (.ListComp elt [⟨tg,iter,ifs,0⟩] scope pos) (m4 wi m g tc te):=by
 intro B s σ H Q I h;have n:∀y∈scope.names,y.2=.free->∃c,X.env.cells.lookup y.1\c:=λy j hf=>I.ok.has y.1 (i.free y j hf)
 show QM (use:=none) rfl p (Vr n) i.kind (λy j r=>by rw[i.uniq y j,r]) (U7 z u i hi hg ht t I h λD C f H' v d ⟨l,hn⟩ q=>?_);show⟨l,hn,λh' k=>⟨.ref D,H',v.turned (t':=f.toks) (λb o hb e=>(k.2 b hb).trans e) d.1 d.2.1 d.2.2.2.1 d.2.2.2.2.1 d.2.2.2.2.2,rfl,q⟩⟩
theorem zrU(d:X.calm=true)(e:iI X N' m scope)(hi:PI X tg iter wi)(hg:∀s3 a ex,PG (fj X N' scope s3 a ex) tg (g s3 a ex))(ht:∀s3 a ex,sS (fj X N' scope s3 a ex) ifs (tc s3 a ex))
  (c:∀s3 a ex,PE (fj X N' scope s3 a ex) elt (te s3 a ex)) (b:∀x,foldedSetIterable iter X.env x=pure x:=by intro _;rfl):PE X (.ListComp elt [⟨tg,iter,ifs,0⟩] scope pos) (m4 wi m g tc te):=zph (XE:=λ_ _ _=>False) (λ_ _ _ z=>z.elim) d e hi hg ht (λs3 a ex _=>c s3 a ex) b
theorem zpi{XE:ai->aa->ai->Prop}(V:∀s3 x k,XE s3 x k->notedBy (model X.prog X.w) X.A (compEnvC scope (cellsFrom (s3.heap.objs.size+1) scope.names (hJ X.env.cells scope.names [])) s3.heap.objs.size X.env) (NG X s3.heap.objs.size) x k)(hN:X.N.Nodup)(J:X.N[i]?\x)(K:Loc X.env.scope x)
  (R:X.calm=true) (l:iI X N' m scope) (hi:PI X tg iter wi) (hg:∀s3 f ex,PG (jx X N' scope s3 f ex (XE s3)) tg (g s3 f ex)) (ht:∀s3 f ex,sS (jx X N' scope s3 f ex (XE s3)) ifs (tc s3 f ex))
  (P:∀s3 f ex,NF X s3 f ex->PE (jx X N' scope s3 f ex (XE s3)) elt (te s3 f ex)) (L:∀x,foldedSetIterable iter X.env x=pure x:=by intro _;rfl)
  (F:swapsWith (.ListComp elt [⟨tg,iter,ifs,0⟩] scope pos) (some (.Name x d)) v.line X.env=pure true:=by rfl)
  (t:X.fn x=true\/X.env.scope.names.lookup x\.local:=by first | show .inl rfl | show .inr rfl | assumption) :
  PS X (.Assign [.Name x d] (.ListComp elt [⟨tg,iter,ifs,0⟩] scope pos) v) (yH (m4 wi m g tc te) (t5 i)):=by
 intro S s σ H D I h;have G:∀y∈scope.names,y.2=.free->∃c,X.env.cells.lookup y.1\c:=λy p t=>I.ok.has y.1 (l.free y p t)
 rw[exec_Assign_Name_used _ _ _ _ F];show aj (vp (aj ?_));show aj (eW (QM (use:=some (assign (.Name x d) X.env)) (Q:=λ_ k=>SP X S D .next k) rfl L (Vr G) l.kind (λy p O=>by rw[l.uniq y p,O]) (U7 V R l hi hg ht P I h λA C k H' U j ⟨E,hn⟩ q=>?_)) (λ_ k M=>az (az M)) λ_ _ e=>e);show Py (UW U hN J K (show RelV (.ref A) (.ref A) from rfl) (λs2 T r=>?_) t);let⟨a,n,ha⟩:=r;have u:C≠a:=by
  rcases ha with rfl | ha
  .exact j.2.1
  show λz=>j.2.2.2.2.1 x a ha z.symm
 show⟨E,hn.sameBut n u,λh' B=>⟨_,H',T.turned (t':=s2.toks) (λb o hb e=>(B.2 b hb).trans e) j.1 j.2.1 j.2.2.2.1 j.2.2.2.2.1 j.2.2.2.2.2,q⟩⟩
theorem wx(hN:X.N.Nodup)(e:X.N[i]?\x)(f:Loc X.env.scope x)
  (l:X.calm=true) (n:iI X N' m scope) (hi:PI X tg iter wi) (hg:∀s3 a ex,PG (fj X N' scope s3 a ex) tg (g s3 a ex)) (ht:∀s3 a ex,sS (fj X N' scope s3 a ex) ifs (tc s3 a ex))
  (k:∀s3 a ex,PE (fj X N' scope s3 a ex) elt (te s3 a ex)) (h:∀x,foldedSetIterable iter X.env x=pure x:=by intro _;rfl)
  (d:swapsWith (.ListComp elt [⟨tg,iter,ifs,0⟩] scope pos) (some (.Name x b)) c.line X.env=pure true:=by rfl)
  (j:X.fn x=true\/X.env.scope.names.lookup x\.local:=by first | show .inl rfl | show .inr rfl | assumption) :
  PS X (.Assign [.Name x b] (.ListComp elt [⟨tg,iter,ifs,0⟩] scope pos) c) (yH (m4 wi m g tc te) (t5 i)):=zpi (XE:=λ_ _ _=>False) (λ_ _ _ z=>z.elim) hN e f l n hi hg ht (λs3 a ex _=>k s3 a ex) h d j
end
theorem IL:2<=sizeLine:=by decide
theorem Inv.uv{g:St}{fp:List ae}(I:Inv X d g H s)(k:∀b o,b∉fp->s.heap.get? b\o->h'.get? b\o)(f:∀b∈fp,lY X d H b) :
  Inv X d g H { s with heap:=h',toks:=t' }:=by
 have h:∀b u,H b\u->b∉fp:=λb u e z=>by rw[(f b z).1] at e;cases e
 show I.step (g':=s.gens) (d':=s.drawn) (ch:=fp) (λb hb=>⟨(f b hb).2.2.2.1,(f b hb).2.1,(f b hb).2.2.2.2.1,(f b hb).2.2.2.2.2⟩) (λb o _ _ a e _=>k b o a e) (λb o _ _ a e _=>⟨o.slots,k b o a e⟩) (λ_ _ _ _ n=>n)
  (λb o a e=>⟨o,k b o a e⟩) (λ_ _ e=>e) (λ_ _ _ e=>e) (λb ps e=>⟨#[],by rw[e];rfl⟩) (λm hm=>?_) (λb u e=>?_) I.bare
 .let⟨o,j,l,i,r⟩:=hm;show⟨o,j,l,k _ o (λz=>(f _ z).2.1 rfl) i,r⟩
 show(I.aJ b u e).f9 (λc v a q=>k c v ?_ q) (λ_ q=>q) λ_ _ q=>q
 rcases a with z | z
 .rw[z];show h b u e
 show h c _ z
theorem Inv.Lb{i:St}{fp:List ae}{a:ae}(I:Inv X h i H s)(k:∀b o,b∉fp->s.heap.get? b\o->h'.get? b\o)(f:∀b∈fp,lY X h H b)
  (l:*...*<=a) (new:dX X.prog X.w (upd H a o) h' a o):Inv X h i (upd H a o) { s with heap:=h',toks:=t' }:=by
 have g:H a=none:=I.aJ.fresh l;have j:∀b u,H b\u->b∉fp:=λb u e z=>by rw[(f b z).1] at e;cases e
 show I.step (g':=s.gens) (d':=s.drawn) (ch:=fp) (λb hb=>⟨(f b hb).2.2.2.1,(f b hb).2.1,(f b hb).2.2.2.2.1,(f b hb).2.2.2.2.2⟩) (λb o _ _ d e _=>k b o d e) (λb o _ _ d e _=>⟨o.slots,k b o d e⟩)
  (λb o _ q n=>by rw[aY (bJ (gm (aX q) l))];show n)
  (λb o d e=>⟨o,k b o d e⟩) (λb zs q=>by rw[aY (e9 q g)];show q) (λb ob zs q=>by rw[aY (e9 q g)];show q) (λb ps q=>⟨#[],by rw[aY (e9 q g),q];rfl⟩) (λm hm=>?_) (λb u q=>?_) I.bare
 .let⟨o,t,x,p,r⟩:=hm;show⟨o,t,x,k _ o (λz=>(f _ z).2.1 rfl) p,r⟩
 by_cases hb:b=a
 .subst hb;rw[cw] at q;cases q;show new
 rw[aY hb] at q;show(I.aJ b u q).f9 (λc v d z=>k c v ?_ z) (λc z=>by rw[aY (e9 z g)];show z) λc zs z=>by rw[aY (e9 z g)];show z
 rcases d with rfl | d
 .exact j _ _ q
 show j _ _ d
noncomputable def Fi(x:af):It:=⟨λi _=>i<x.cps.size,λi H v H'=>H'=H/\∃c,x.cps[i]?\c/\v=.str ⟨#[c]⟩,λi _=>i=x.cps.size⟩
theorem zpj{K:ar}(hn:["enumerate","zip","dict_itemiterator","dict_reverseitemiterator","odict_iterator","itertools.zip_longest","itertools.pairwise"].contains n=false)
  (W:∀m:aT,m.handled=none->Walks P w m it [it] [it] x.cps.size (SignAt x) (λi h=>h.IsStrIter it n x t i))
  (y:∀A i s Q E,s.heap.IsStrIter it n x t i->Q (.ref it) s->wpAny (model P w) A (pyIter (.ref it)) Q E s):Turn P w K p (Fi x) [it] it (λi h=>h.IsStrIter it n x t i) where
 mem:=by show .head _
 obj:=λi h st b hb=>by
  have e:b=it:=by simpa using hb
  subst e;let⟨o,e,c,d⟩:=st;show⟨o,e,λv z=>by rw[d] at z;cases z⟩
 keep:=λi h h' st k=>by
  let⟨o,e,r⟩:=st;show⟨o,k it (by show .head _) o e,r⟩
 item:=by
  intro X f hw g a i l s σ H E I hf st hg;subst f hw g;show(W X.A (I.ok.hd a)).item i s _ _ hg st λv h' tk hv j kk=>?_
  let⟨c,u,q,rfl⟩:=hv;have I1:Inv X l σ H { s with heap:=h',toks:=tk }:=I.uv kk hf;let⟨o,e,B,d⟩:=id j;show⟨_,rfl,yN (s:={ s with heap:=h',toks:=tk }) e B d hn ⟨.str ⟨#[c]⟩,H,I1,⟨u,rfl⟩,⟨rfl,c,q,rfl⟩,j,λb hb=>(hf b hb).1⟩⟩
 done:=by
  intro X f hw g a i l s σ H E I hf st hg;subst f hw g;have e:i=x.cps.size:=hg;subst e;show(W X.A (I.ok.hd a)).done s _ _ st λh' tk kk=>⟨rfl,I.uv kk hf⟩
 self:=y
theorem zt3{c:St}{R:It->Hp->Prop}(I:Inv X g c H s)(q:R (Fi x) H) :
  ⇑(pyIter (.str x t)) (Ff X g c tg R) E s:=by
 have fin:∀(o:aL)(n:String),(hn:["enumerate","zip","dict_itemiterator","dict_reverseitemiterator","odict_iterator","itertools.zip_longest","itertools.pairwise"].contains n=false)->
   (W:∀a:aT,a.handled=none->Walks X.prog X.w a *...* [*...*] [*...*] x.cps.size (SignAt x) (λi h=>h.IsStrIter *...* n x t i))->
   (j:∀(A:aT)(i:Nat)(d:ai)(Q:aa->ai->Prop)(E:aa->ai->Prop),d.heap.IsStrIter *...* n x t i->Q (.ref *...*) d->wpAny (model X.prog X.w) A (pyIter (.ref *...*)) Q E d)->
   (s.heap.push o).IsStrIter *...* n x t 0->Ff X g c tg R (.ref *...*) { s with heap:=s.heap.push o }:=λo n hn W j st=>by
  show⟨*...*,[*...*],_,_,H,rfl,I.kept (t':=s.toks) λb o e=>aV _ e,zpj hn W j,st,λb hb=>?_,q⟩;have e:b=*...*:=by simpa using hb
  subst e;show I.oS (aW _) (I.aJ.fresh (aW _))
 cases ha:x.cps.all (·<128)
 .exact wpAny_pyIter_wide ha (fin _ _ (by rfl) (λa f=>Walks.strWide f _ x t) (λ_ _ _ _ _ st q=>wpAny_pyIter_striter_wide st q) ⟨_,b8 _ rfl,rfl,rfl⟩)
 show wpAny_pyIter_ascii ha (fin _ _ (by rfl) (λa f=>Walks.strAscii f _ x t) (λ_ _ _ _ _ st q=>wpAny_pyIter_striter_ascii st q) ⟨_,b8 _ rfl,rfl,rfl⟩)
def Rr(K:ar)(tl:TE):TI:=λσ H R=>tl σ H λx H1=>(∃a,x=.ref a/\(∃xs,bM K H1 a xs)/\R (Nx K a) H1)\/(∃a,x=.ref a/\(∃xs,bF K H1 a xs)/\R (Nw K a) H1)\/(∃z,x=.str z/\R (Fi z) H1)
theorem Sb(g:PE X l tl):PI X tg l (Rr X.K tl):=by
 intro j s σ H R I h;show aR (g j s σ H _ I h) λv s1 i=>?_
 let⟨x,H1,I1,r1,f⟩:=i;rcases f with⟨a,e,⟨xs,c⟩,q⟩ | ⟨a,e,⟨xs,c⟩,q⟩ | ⟨z,e,q⟩
 .subst e;cases r1;let⟨its,d,p,hz⟩:=I1.list c;show tH p.isList ?_;show⟨s1.heap.objs.size,[s1.heap.objs.size],_,_,H1,rfl,I1.kept (t':=s1.toks) λb o e=>aV _ e,zml a _,⟨_,b8 _ rfl,rfl,rfl⟩,λb hb=>?_,q⟩;have e:b=s1.heap.objs.size:=by simpa using hb
  subst e;show I1.oS (aW _) (I1.aJ.fresh (aW _))
 .subst e;cases r1;let⟨its,d,p,hz⟩:=I1.tuple c;show GJ (show s1.heap.IsTuple a its.toArray from p) ?_;show⟨s1.heap.objs.size,[s1.heap.objs.size],_,_,H1,rfl,I1.kept (t':=s1.toks) λb o e=>aV _ e,zll a _,⟨_,b8 _ rfl,rfl,rfl⟩,λb hb=>?_,q⟩;have e:b=s1.heap.objs.size:=by simpa using hb
  subst e;show I1.oS (aW _) (I1.aJ.fresh (aW _))
 subst e;let⟨t,rfl⟩:=r1;show zt3 I1 q
noncomputable def Ny(K:ar)(a:ae):It:=
 ⟨λi H=>∃xs x,bM K H a xs/\xs[i]?\x,λi H v H'=>∃t,v=.ref t/\H t=none/\∀xs,bM K H a xs->∃x,xs[i]?\x/\H'=upd H t (.tup [.int i,x]),λi H=>∃xs,bM K H a xs/\xs.length<=i⟩
noncomputable def Fh(K:ar)(a b:ae):It:=
 ⟨λi H=>∃xs ys x y,bM K H a xs/\bM K H b ys/\xs[i]?\x/\ys[i]?\y,λi H v H'=>∃t,v=.ref t/\H t=none/\∀xs ys,bM K H a xs->bM K H b ys->∃x y,xs[i]?\x/\ys[i]?\y/\H'=upd H t (.tup [x,y]),
  λi H=>∃xs ys,bM K H a xs/\bM K H b ys/\(xs.length<=i\/ys.length<=i)⟩
theorem IK{fp:List ae}(h:∀b∈fp,H b=none)(ht:∀b∈fp,b≠t):∀b∈fp,upd H t o b=none:=λb hb=>by rw[aY (ht b hb)];show h b hb
theorem zlu(b:IsEnumOut s.heap e it i old T)
  (d:∀h',IsEnum h' e it i old->j6 e s.heap h'->Q () { s with heap:=h' }) :
  ↥(letOwnedTupleGo (.Tuple a c pos) (.ref e) (.ref T)) Q E s:=by
 show aj (vh b ?_);show wpAny _ _ (if (["enumerate","zip","dict_itemiterator","dict_reverseitemiterator","odict_iterator","itertools.zip_longest","itertools.pairwise"].contains "enumerate" &&
   (#[rawInt T,.bool false,.ref it,rawInt i,.none,old]:Array aa)[0]?==some (rawInt T))=true then _ else _) Q E s
 rw[if_pos (by show beq_self_eq_true _)];show aj (kH ?_);show wpAny_setField_rec b (by show il _) λh' g f=>d h' g f
theorem zmF{K:ar}{D}(a e it)(C:e≠it):Turn P w K (.Tuple j D pos) (Ny K a) [e,it] e (λi h=>(∃old,IsEnum h e it i old)/\h.IsListIter it a i) where
 mem:=by show .head _
 obj:=λi h st b hb=>by
  obtain⟨⟨old,f⟩,o,g,c,d⟩:=st;grind
 keep:=λi h h' st k=>by
  obtain⟨⟨old,f⟩,g⟩:=st;show⟨⟨old,k e (by show .head _) _ f⟩,g.at λo q=>k it (by show .tail _ (.head _)) o q⟩
 item:=by
  intro X v hw y B i T s σ H E I hf st hg;subst v hw y;let⟨xs,x,l,r⟩:=hg;let⟨its,n,p,hz⟩:=I.list l;let⟨u,L,F⟩:=n.get r;obtain⟨⟨old,f⟩,g⟩:=st;show wpAny_pyNext_enum_item f g p.isList (x:=u) (by simpa using L) C λh' S R Q V kk=>?_
  show⟨_,rfl,zlu S λA O m=>?_⟩;have t:*...*≠e:=jd (aX f);have W:*...*≠it:=by let⟨o,q,Z⟩:=g;show jd (aX q)
  have M:A.get? *...*=some { cls:=.type "tuple",data:=.seq #[.int i s.toks,u] }:=m.extBut _ _ t Q;have G:H *...*=none:=I.aJ.fresh (aW _);have new:dX X.prog X.w (upd H *...* (.tup [.int i,x])) A *...* (.tup [.int i,x]):=⟨IL,[.int i s.toks,u],.cons ⟨_,rfl⟩ (.cons F .nil),⟨_,M,rfl,_,rfl⟩⟩
  show⟨.ref *...*,upd H *...* (.tup [.int i,x]),I.Lb (fp:=[e,it]) (λb o hb q=>m.extBut b o (λz=>hb (by show z▸.head _)) (kk b o (λz=>hb (by show z▸.head _)) (λz=>hb (by show z▸.tail _ (.head _))) q)) hf (aW _) new,rfl,
   ⟨_,rfl,G,λys J=>⟨x,by rw[I.Ak J l];show r,rfl⟩⟩,⟨⟨u,O⟩,R.extBut m.extBut (Ne.symm C)⟩,IK (λb hb=>(hf b hb).1) λb hb=>?_⟩
  grind
 done:=by
  intro X v hw y B i T s σ H E I hf st hg;subst v hw y;let⟨xs,l,r⟩:=hg;let⟨its,n,p,hz⟩:=I.list l;obtain⟨⟨old,f⟩,g⟩:=st;have U:=n.length;show wpAny_pyNext_enum_end (I.ok.hd B) f g p.isList (by simp;cbv) λh' N=>⟨rfl,I.uv (fp:=[e,it]) (t':=s.toks) (λb o hb q=>N b o (λz=>hb (by show z▸.tail _ (.head _))) q) hf⟩
 self:=λ_ _ _ _ _ st h=>by
  obtain⟨⟨old,f⟩,_⟩:=st;show Pu f h
def Z6(K:ar)(c:TA):TI:=λσ H R=>c σ H λb H1=>∃a xs,b=[.ref a]/\fU K H1 a xs/\R (Ny K a) H1
theorem zrV(hg:Gl X "enumerate")(hm:X.mg "enumerate"=none)(ha:PA X [a] d)(m:starEach [a] X.env=[(false,eval a X.env)]:=by rfl):PI X (.Tuple elts x1 uw) (.Call (.Name "enumerate" p) [a] [] pos) (Z6 X.K d):=by
 intro w s σ H R I h;show Call_ (kO I hg hm boot_enumerate (qB (aR (ha pos w s σ H _ I h) λus s1 t=>?_) m rfl));let⟨x,H1,I1,r1,j⟩:=t;let⟨l,xs,e,hl,q⟩:=j;subst e;let⟨u,rfl,i⟩:=gH r1;cases i;let⟨z,its,n,r,e⟩:=I1.cm hl;show call_enumerate_1 e λh' g o y kk=>?_
 show Pu g ?_;have v:s1.heap.objs.size+1≠s1.heap.objs.size:=by room
 show⟨s1.heap.objs.size+1,[s1.heap.objs.size+1,s1.heap.objs.size],_,_,H1,rfl,I1.kept (t':=s1.toks) kk,zmF l _ _ v,⟨⟨_,g⟩,o⟩,λb hb=>?_,q⟩;have f:s1.heap.objs.size<=b:=by
  rcases bx.mp hb with rfl | hb
  .exact iM _
  have e:b=s1.heap.objs.size:=by simpa using hb
  show Bs e.symm
 show I1.oS f (I1.aJ.fresh f)
theorem Uo{K:ar}(a b z TI TO m j)(D1:TI≠z/\TO≠z/\m≠z/\j≠z/\TI≠TO/\TI≠m/\TI≠j/\TO≠m/\TO≠j/\m≠j):Turn P w K (.Tuple elts x1 uw) (Fh K a b) [z,TI,TO,m,j] z
  (λi h=>IsZip h z TI TO .none/\IsPair h TI (.ref m) (.ref j)/\(∃a b,IsPair h TO a b)/\h.IsListIter m a i/\h.IsListIter j b i) where
 mem:=by room
 obj:=λi h st c f=>by
  obtain⟨r,A,⟨u,v,t⟩,⟨o1,g1,_,F⟩,⟨o2,g2,_,M⟩⟩:=st;simp![bx,gC,or_false] at f;rcases f with rfl | rfl | rfl | rfl | rfl
  .exact⟨_,r,λv z=>by have N:Data.fields _=Fx v:=z;cases N⟩
  .exact⟨_,A,λv z=>by have N:Bj _ _=Fx v:=z;cases N⟩
  .exact⟨_,t,λv z=>by have N:Bj _ _=Fx v:=z;cases N⟩
  .exact⟨_,g1,λv z=>by rw[F] at z;cases z⟩
  show⟨_,g2,λv z=>by rw[M] at z;cases z⟩
 keep:=λi h h' st k=>by
  obtain⟨r,A,⟨u,v,t⟩,C,B⟩:=st;show⟨k z (by room) _ r,k TI (by room) _ A,⟨u,v,k TO (by room) _ t⟩,C.at λo q=>k m (by show .tail _ (.tail _ (.tail _ (.head _)))) o q,B.at λo q=>k j ∅ o q⟩
 item:=by
  intro X hP hw hK f i J' s σ H E I hf st hg;subst hP hw hK;let⟨xs,ys,x,y,S,Z,L,hy⟩:=hg;let⟨its,rv,p,hz⟩:=I.list S;let⟨oG,iW,O,qd⟩:=I.list Z;let⟨u,hu,ru⟩:=rv.get L;let⟨v,hv,Lm⟩:=iW.get hy;obtain⟨r,A,⟨c,d,t⟩,C,B⟩:=st;let⟨F,M,Y,W,V,U,T,d8,d9,A2⟩:=D1;have R:∀{l:ae}{its:List aa},PlainL s.heap l its.toArray->l≠z/\l≠TO/\l≠m/\l≠j:=λ{l its} pl=>by
   let⟨o,n,e,Q,G,dd⟩:=pl;let⟨o1,g1,c4,G⟩:=C;let⟨o2,g2,c5,G⟩:=B;show⟨?_,?_,?_,?_⟩
   .rintro rfl;rw[r] at e;cases e;trivial
   .rintro rfl;rw[t] at e;cases e;lia
   .rintro rfl;rw[g1] at e;cases e;rw[c4] at Q;trivial
   rintro rfl;rw[g2] at e;cases e;rw[c5] at Q;trivial
  let⟨e1,e2,e3,e4⟩:=R p;let⟨f1,f2,f3,f4⟩:=R O;have D:ZipApart z TI TO m j a b:=⟨F,M,Y,W,V,U,T,d8,d9,A2,e1,e2,e3,e4,f1,f2,f3,f4⟩
  show wpAny_pyNext_zip_item D r A t C B p.isList O.isList (x:=u) (y:=v) (by simpa using hu) (by simpa using hv) λh' a1 a2 a3 a4 a5 a6 kk=>?_
  show⟨_,rfl,QP a1 λoR b1 J=>?_⟩;have Mx:*...*≠z:=jd (aX r);have iY:H *...*=none:=I.aJ.fresh (aW _);have hT:oR.get? *...*=some { cls:=.type "tuple",data:=.seq #[u,v] }:=J.extBut _ _ Mx a5;have new:dX X.prog X.w (upd H *...* (.tup [x,y])) oR *...* (.tup [x,y]):=⟨IL,[u,v],.cons ru (.cons Lm .nil),⟨_,hT,rfl,_,rfl⟩⟩
  have lt:∀{c o},s.heap.get? c\o->c≠*...*:=λe=>bJ (aX e)
  show⟨.ref *...*,upd H *...* (.tup [x,y]),I.Lb (fp:=[z,TI,TO,m,j]) (t':=s.toks) (λc o f q=>J.extBut c o (λe=>f (by show e▸.head _)) (kk c o (λe=>f (by show e▸.head _)) (λe=>f (by show e▸.tail _ (.tail _ (.head _)))) (λe=>f (by show e▸.tail _ (.tail _ (.tail _ (.head _))))) (λe=>f (by show e▸.tail _ (.tail _ (.tail _ (.tail _ (.head _)))))) q)) hf (aW _) new,rfl,
   ⟨_,rfl,iY,λzs ws h6 h7=>⟨x,y,by rw[I.Ak h6 S];show L,by rw[I.Ak h7 Z];show hy,rfl⟩⟩,
   ⟨b1,J.extBut _ _ F (kk _ _ F V U T A),⟨_,_,J.extBut _ _ M a2⟩,a3.extBut J.extBut Y,a4.extBut J.extBut W⟩,IK (λb hb=>(hf b hb).1) λc f=>?_⟩
  simp![bx,gC,or_false] at f;rcases f with rfl | rfl | rfl | rfl | rfl
  .exact lt r
  .exact lt A
  .exact lt t
  .let⟨G,g,G⟩:=C;show lt g
  let⟨G,g,G⟩:=B;show lt g
 done:=by
  intro X hP hw hK f i J' s σ H E I hf st hg;subst hP hw hK;let⟨xs,ys,S,Z,L⟩:=hg;let⟨its,rv,p,hz⟩:=I.list S;let⟨oG,iW,O,qd⟩:=I.list Z;obtain⟨r,A,⟨c,d,t⟩,C,B⟩:=st;let⟨F,M,Y,W,V,U,T,d8,d9,A2⟩:=D1;have R:∀{l:ae}{its:List aa},PlainL s.heap l its.toArray->l≠z/\l≠TO/\l≠m/\l≠j:=λ{l its} pl=>by
   let⟨o,n,e,Q,G,dd⟩:=pl;let⟨o1,g1,c4,G⟩:=C;let⟨o2,g2,c5,G⟩:=B;show⟨?_,?_,?_,?_⟩
   .rintro rfl;rw[r] at e;cases e;trivial
   .rintro rfl;rw[t] at e;cases e;lia
   .rintro rfl;rw[g1] at e;cases e;rw[c4] at Q;trivial
   rintro rfl;rw[g2] at e;cases e;rw[c5] at Q;trivial
  let⟨e1,e2,e3,e4⟩:=R p;let⟨f1,f2,f3,f4⟩:=R O;have D:ZipApart z TI TO m j a b:=⟨F,M,Y,W,V,U,T,d8,d9,A2,e1,e2,e3,e4,f1,f2,f3,f4⟩
  have l1:=rv.length;have l2:=iW.length;have uL:its.toArray[i]?=none\/oG.toArray[i]?=none:=by
   rcases L with L | L
   .exact .inl (by simp;cbv)
   show .inr (by simp;cbv)
  show wpAny_pyNext_zip_end (I.ok.hd f) D r A t C B p.isList O.isList uL λh' kk=>⟨rfl,I.uv (fp:=[z,TI,TO,m,j]) (t':=s.toks) (λc o f q=>kk c o (λe=>f (by show e▸.head _)) (λe=>f (by show e▸.tail _ (.tail _ (.head _)))) (λe=>f (by show e▸.tail _ (.tail _ (.tail _ (.head _))))) (λe=>f (by show e▸.tail _ (.tail _ (.tail _ (.tail _ (.head _)))))) q) hf⟩
 self:=λ_ _ _ _ _ st h=>ym st.1 h
theorem J4(n):(n+2:Nat)≠n+4/\(n+3:Nat)≠n+4/\n≠n+4/\(n+1:Nat)≠n+4/\(n+2:Nat)≠n+3/\(n+2:Nat)≠n/\(n+2:Nat)≠n+1/\(n+3:Nat)≠n/\(n+3:Nat)≠n+1/\n≠n+1:=by cbv
def Zt(K:ar)(d:TA):TI:=λσ H R=>d σ H λc H1=>∃a b,c=[.ref a,.ref b]/\(∃xs,bM K H1 a xs)/\(∃ys,bM K H1 b ys)/\R (Fh K a b) H1
theorem zt4(hg:Gl X "zip")(hm:X.mg "zip"=none)(ha:PA X [a,b] c)(t:starEach [a,b] X.env=[(false,eval a X.env),(false,eval b X.env)]:=by rfl)(f:starEach [b] X.env=[(false,eval b X.env)]:=by rfl) :
  PI X (.Tuple elts x1 uw) (.Call (.Name "zip" p) [a,b] [] pos) (Zt X.K c):=by
 intro B s σ H R I h;show Call_ (kO I hg hm boot_zip (qB (aR (ha pos B s σ H _ I h) λus s1 ⟨C,H1,I1,r1,m⟩=>?_) (by rw[t,f]) (by rw[f];rfl)));obtain⟨l,r,e,⟨xs,w⟩,⟨ys,k⟩,q⟩:=m;subst e;let⟨u,v,rfl,j,i⟩:=oh r1;cases j;cases i;let⟨its,Z,o,Z⟩:=I1.list w;let⟨its',Z,n,Z⟩:=I1.list k;show call_zip_2 o.isList n.isList λh' g A z y x D kk=>?_
 show ym g ?_;show⟨s1.heap.objs.size+4,[s1.heap.objs.size+4,s1.heap.objs.size+2,s1.heap.objs.size+3,s1.heap.objs.size,s1.heap.objs.size+1],_,_,H1,rfl,I1.kept (t':=s1.toks) kk,Uo l r _ _ _ _ _ (J4 _),
  ⟨g,A,⟨_,_,z⟩,y,x⟩,λb hb=>?_,q⟩
 have d:s1.heap.objs.size<=b:=by
  simp only[bx,gC,or_false] at hb;rcases hb with rfl | rfl | rfl | rfl | rfl<;>first | show Pa _ _ | show aW _
 show I1.oS d (I1.aJ.fresh d)
inductive D where
 | non | bl (b:Bool) | int (i:Int) | str (x:af) | tup (ds:List D) | lst (ds:List D) | obj (cn:af) (fs:List (af×D)) | dic (kvs:List (Key×D)) | dit (kvs:List (List Key×D)) | exc (cn:af) (fs:List (af×D)) | idn (a:ae) (d:D)
structure ClsAt(K:ar)(cn:af)(C:ae):Prop where
 at_:gA K mainGlobals cn\some (.ref C)
 cls:Cls K C
def jz(H:Hp):List (List Key×V)->List ae->Prop
 | [],[]=>True
 | p::ps,b::bs=>H b\.tup (p.1.map kV)/\jz H ps bs
 | _,_=>False
theorem jz.mono(e:aZ H H'):∀{ps bs},jz H ps bs->jz H' ps bs
 | [],[],h=>h
 | p::ps,b::bs,h=>⟨e _ _ h.1,jz.mono e h.2⟩
 | [],_::_,h=>h.elim
 | _::_,[],h=>h.elim
def u6(H:Hp):Option ae->List (af×V)->Prop
 | none,a=>a=[]
 | some d,a=>∃b,H d\.ext b/\∀h:aw,b h->∃c,h.Ns1 d c/\∀f v,a.lookup f\v->∃u,c f\u/\RelV v u
theorem u6.mono(e:aZ H H')(h:u6 H c d):u6 H' c d:=by
 cases c with
 | none=>show h
 | some g=>show let⟨f,a,b⟩:=h;⟨f,e _ _ a,b⟩
mutual
def Rep(K:ar)(H:Hp):V->D->Prop
 | v,.non=>v=.non
 | v,.bl b=>v=.bl b
 | v,.int i=>v=.int i
 | v,.str x=>v=.str x
 | v,.tup ds=>∃a xs,v=.ref a/\H a\.tup xs/\av K H xs ds
 | v,.lst ds=>∃a xs,v=.ref a/\fU K H a xs/\av K H xs ds
 | v,.obj e fs=>∃a C l c,v=.ref a/\H a\.ins C l c/\ClsAt K e C/\(∀p∈fs,Sg K C p.1)/\gQ K H c fs
 | v,.dic kvs=>∃a ks k,v=.ref a/\H a\.dK ks k/\aU K H ks kvs
 | v,.dit kvs=>∃a ks bs,v=.ref a/\H a\.dT ks bs/\jz H ks bs.1/\eF K H ks kvs
 | v,.exc e fs=>∃a f C g c,v=.ref a/\H a\.ext f/\gA K mainGlobals e\some (.ref C)/\(∀h:aw,f h->∃o,h.get? a\o/\o.cls=.ref C/\(fs=[]\/o.dict=g/\∃j,o.data=.fields j))/\(fs=[]\/u6 H g c)/\gQ K H c fs
 | v,.idn a d=>v=.ref a/\Rep K H v d
def av(K:ar)(H:Hp):List V->List D->Prop
 | [],[]=>True
 | v::a,d::ds=>Rep K H v d/\av K H a ds
 | _,_=>False
def gQ(K:ar)(H:Hp):List (af×V)->List (af×D)->Prop
 | [],[]=>True
 | v::a,d::ds=>(v.1=d.1/\Rep K H v.2 d.2)/\gQ K H a ds
 | _,_=>False
def aU(K:ar)(H:Hp):List (Key×V)->List (Key×D)->Prop
 | [],[]=>True
 | v::a,d::ds=>(v.1=d.1/\Rep K H v.2 d.2)/\aU K H a ds
 | _,_=>False
def eF(K:ar)(H:Hp):List (List Key×V)->List (List Key×D)->Prop
 | [],[]=>True
 | v::a,d::ds=>(v.1=d.1/\Rep K H v.2 d.2)/\eF K H a ds
 | _,_=>False
end
theorem aZ.nq{K:ar}(e:aZ H H')(h:H a\.tup xs):bF K H' a xs:=bF.of (e _ _ h)
theorem aZ.kW{K:ar}(e:aZ H H')(h:bF K H a xs):bF K H' a xs:=by
 rcases h with(h | ⟨o,h⟩) | h
 .exact .inl (.inl (e _ _ h))
 .exact .inl (.inr ⟨o,e _ _ h⟩)
 show .inr h
mutual
theorem Rep.mono{K:ar}{H H':Hp}(e:aZ H H'):∀(v:V)(d:D),Rep K H v d->Rep K H' v d
 | v,.non,h=>by simpa only[Rep] using h
 | v,.bl b,h=>by simpa only[Rep] using h
 | v,.int i,h=>by simpa only[Rep] using h
 | v,.str x,h=>by simpa only[Rep] using h
 | v,.tup ds,h=>by
  let⟨a,xs,g,f,c⟩:=h;show⟨a,xs,g,e _ _ f,av.mono e xs ds c⟩
 | v,.lst ds,h=>by
  let⟨a,xs,g,f,c⟩:=h;show⟨a,xs,g,e.cm f,av.mono e xs ds c⟩
 | v,.obj r fs,h=>by
  let⟨a,C,p,k,g,f,c,j,l⟩:=h;show⟨a,C,p,k,g,e _ _ f,c,j,gQ.mono e k fs l⟩
 | v,.dic kvs,h=>by
  let⟨a,ks,o,g,f,c⟩:=h;show⟨a,ks,o,g,e _ _ f,aU.mono e ks kvs c⟩
 | v,.dit kvs,h=>by
  let⟨a,ks,bs,g,f,c,j⟩:=h;show⟨a,ks,bs,g,e _ _ f,c.mono e,eF.mono e ks kvs j⟩
 | v,.exc r fs,h=>by
  let⟨a,m,C,q,k,g,f,c,j,l,n⟩:=h;show⟨a,m,C,q,k,g,e _ _ f,c,j,l.imp id λz=>z.mono e,gQ.mono e k fs n⟩
 | v,.idn a d,h=>by
  show⟨h.1,Rep.mono e v d h.2⟩
theorem av.mono{K:ar}{H H':Hp}(e:aZ H H'):∀(a:List V)(ds:List D),av K H a ds->av K H' a ds
 | [],[],h=>by simp![av]
 | v::a,d::ds,h=>by
  show⟨Rep.mono e v d h.1,av.mono e a ds h.2⟩
 | [],_::_,h=>by simp![av] at h
 | _::_,[],h=>by simp![av] at h
theorem gQ.mono{K:ar}{H H':Hp}(e:aZ H H'):∀(a:List (af×V))(ds:List (af×D)),gQ K H a ds->gQ K H' a ds
 | [],[],h=>by simp![gQ]
 | (x,v)::a,(y,d)::ds,h=>by
  show⟨⟨h.1.1,Rep.mono e v d h.1.2⟩,gQ.mono e a ds h.2⟩
 | [],_::_,h=>by simp![gQ] at h
 | _::_,[],h=>by simp![gQ] at h
theorem aU.mono{K:ar}{H H':Hp}(e:aZ H H'):∀(a:List (Key×V))(ds:List (Key×D)),aU K H a ds->aU K H' a ds
 | [],[],h=>by simp![aU]
 | (x,v)::a,(y,d)::ds,h=>by
  show⟨⟨h.1.1,Rep.mono e v d h.1.2⟩,aU.mono e a ds h.2⟩
 | [],_::_,h=>by simp![aU] at h
 | _::_,[],h=>by simp![aU] at h
theorem eF.mono{K:ar}{H H':Hp}(e:aZ H H'):∀(a:List (List Key×V))(ds:List (List Key×D)),eF K H a ds->eF K H' a ds
 | [],[],h=>by simp![eF]
 | (x,v)::a,(y,d)::ds,h=>by
  show⟨⟨h.1.1,Rep.mono e v d h.1.2⟩,eF.mono e a ds h.2⟩
 | [],_::_,h=>by simp![eF] at h
 | _::_,[],h=>by simp![eF] at h
end
section
variable{K:ar}
theorem av.length:∀{a ds},av K H a ds->a.length=ds.length
 | [],[],_=>rfl
 | v::a,d::ds,h=>by
  simp![cL,av.length h.2]
 | [],_::_,h=>by simp![av] at h
 | _::_,[],h=>by simp![av] at h
theorem av.get:∀{a ds}{i:Nat}{d},av K H a ds->ds[i]?\d->∃v,a[i]?\v/\Rep K H v d
 | [],[],i,d,_,e=>by trivial
 | v::a,d'::ds,0,d,h,e=>by
  simp![av] at h;cbv
 | v::a,d'::ds,i+1,d,h,e=>by
  simp![Cd] at e ⊢;show av.get h.2 e
 | [],_::_,_,_,h,_=>by simp![av] at h
 | _::_,[],_,_,h,_=>by simp![av] at h
theorem av.XS:∀{a ds}{i:Nat}{v},av K H a ds->a[i]?\v->∃d,ds[i]?\d/\Rep K H v d
 | [],[],i,d,_,e=>by trivial
 | b::a,d::ds,0,v,h,e=>by
  simp![av] at h;cbv
 | b::a,d::ds,i+1,v,h,e=>by
  simp![Cd] at e ⊢;show av.XS h.2 e
 | [],_::_,_,_,h,_=>by simp![av] at h
 | _::_,[],_,_,h,_=>by simp![av] at h
theorem av.nil:av K H [] []:=by simp![av]
theorem av.cons{d:D}{ds:List D}(h:Rep K H v d)(b:av K H a ds):av K H (v::a) (d::ds):=by show⟨h,b⟩
theorem av.append:∀{a ds us b},av K H a ds->av K H us b->av K H (a++us) (ds++b)
 | [],[],_,_,_,h=>h
 | v::a,d::ds,_,_,h,h'=>by
  show av.cons h.1 (av.append h.2 h')
 | [],_::_,_,_,h,_=>by simp![av] at h
 | _::_,[],_,_,h,_=>by simp![av] at h
theorem av.take:∀{a ds} n,av K H a ds->av K H (a.take n) (ds.take n)
 | _,_,0,_=>av.nil
 | [],[],_+1,_=>av.nil
 | v::a,d::ds,n+1,h=>by
  show av.cons h.1 (av.take n h.2)
 | [],_::_,_+1,h=>by assumption
 | _::_,[],_+1,h=>by assumption
theorem av.drop:∀{a ds} n,av K H a ds->av K H (a.drop n) (ds.drop n)
 | _,_,0,h=>h
 | [],[],_+1,_=>av.nil
 | v::a,d::ds,n+1,h=>by
  show av.drop n h.2
 | [],_::_,_+1,h=>by simp![av] at h
 | _::_,[],_+1,h=>by simp![av] at h
theorem av.set:∀{a ds v d} n,av K H a ds->Rep K H v d->av K H (a.set n v) (ds.set n d)
 | [],[],_,_,_,_,_=>av.nil
 | b::a,d'::ds,v,d,0,h,q=>by
  show av.cons q h.2
 | b::a,d'::ds,v,d,n+1,h,q=>by
  show av.cons h.1 (av.set n h.2 q)
 | [],_::_,_,_,_,h,_=>by simp![av] at h
 | _::_,[],_,_,_,h,_=>by simp![av] at h
theorem av.reverse(h:av K H a ds):av K H a.reverse ds.reverse:=by
 induction a generalizing ds with
 | nil=>
  cases ds with
  | nil=>show av.nil
  | cons=>simp![av] at h
 | cons v a b=>
  cases ds with
  | nil=>simp![av] at h
  | cons d ds=>
   rw[BV,BV];show av.append (b h.2) (av.cons h.1 av.nil)
end
structure Ext(G H G' H':Hp):Prop where
 g:aZ G G'
 h:aZ H H'
 s:aZ G' H'
 n:∀p,G p=none->H p≠none->G' p=none
theorem Ext.refl(s:aZ G H):Ext G H G H:=⟨aZ.refl _,aZ.refl _,s,λ_ h _=>h⟩
theorem Ext.trans(a:Ext G H i e)(b:Ext i e f d):Ext G H f d:=
 ⟨a.g.trans b.g,a.h.trans b.h,b.s,λp j c=>b.n p (a.n p j c) λz=>c (a.h.free z)⟩
theorem rG(h:H p=none):aZ H (upd H p o):=λb u e=>by rw[aY (e9 e h)];show e
theorem zmG(s:aZ G H):aZ (upd G p o) (upd H p o):=λb u e=>by
 by_cases hb:b=p
 .subst hb;rw[cw] at e ⊢;show e
 rw[aY hb] at e ⊢;show s b u e
theorem Ext.new(s:aZ G H)(h:H p=none):Ext G H (upd G p o) (upd H p o):=
 ⟨rG (s.free h),rG h,zmG s,λq b a=>by rw[aY (λz=>a (by rw[z];show h))];show b⟩
theorem Ext.own(s:aZ G H)(h:H p=none):Ext G H G (upd H p o):=
 ⟨aZ.refl _,rG h,s.trans (rG h),λq a _=>a⟩
inductive OV where
 | ll (dss:List (List D))
 | dc (kvs:List (Key×D))
 | dl (kvs:List (Key×List D))
 | tl (d:D) (ds:List D)
 | ld (mM:List (List (Key×D)))
 | dt (kvs:List (List Key×List D))
 | tp (ds:List D)
 | ob (cn:af) (fs:List (af×List D))
 | dq (kvs:List (List Key×D))
 | li (a:ae) (dss:List (List D))
noncomputable def OV.val:OV->D
 | .ll dss=>.lst (dss.map .lst)
 | .dc kvs=>.dic kvs
 | .dl kvs=>.dic (kvs.map λp=>(p.1,.lst p.2))
 | .tl d ds=>.tup [d,.lst ds]
 | .ld a=>.lst (a.map .dic)
 | .dt kvs=>.dit (kvs.map λp=>(p.1,.lst p.2))
 | .tp ds=>.tup ds
 | .ob b fs=>.obj b (fs.map λp=>(p.1,.lst p.2))
 | .dq kvs=>.dit kvs
 | .li _ dss=>.lst (dss.map .lst)
inductive R where
 | fz (d:D)
 | ow (ds:List D)
 | ov (o:OV)
noncomputable def R.val:R->D
 | .fz d=>d
 | .ow ds=>.lst ds
 | .ov o=>o.val
inductive Sl where
 | un
 | fz (d:D)
 | ow (ds:List D)
 | ov (o:OV)
noncomputable def R.sl:R->Sl
 | .fz d=>.fz d
 | .ow ds=>.ow ds
 | .ov o=>.ov o
def bU(K:ar)(G H:Hp):List ae->List (List D)->Prop
 | [],[]=>True
 | q::a,ds::dss=>(∃xs,H q\.lst xs/\av K G xs ds)/\bU K G H a dss
 | _,_=>False
theorem bU.mono{K:ar}(g:aZ G b):∀{a dss},(∀q∈a,∀xs,H q\.lst xs->H' q\.lst xs)->bU K G H a dss->bU K b H' a dss
 | [],[],_,_=>by simp![bU]
 | q::a,ds::dss,hh,h=>by
  obtain⟨⟨xs,e,d⟩,c⟩:=h;show⟨⟨xs,hh q (by show .head _) xs e,d.mono g⟩,bU.mono g (λr f=>hh r (by show .tail _ ‹_›)) c⟩
 | [],_::_,_,h=>by simp![bU] at h
 | _::_,[],_,h=>by simp![bU] at h
theorem bU.here{K:ar}:∀{a dss},bU K G H a dss->∀q∈a,H q≠none
 | [],[],_,q,c=>by cases c
 | q::a,ds::dss,h,r,b=>by
  obtain⟨⟨xs,e,f⟩,d⟩:=h;rcases bx.mp b with rfl | b
  .rw[e];show nofun
  show bU.here d r b
 | [],_::_,h,_,_=>by simp![bU] at h
 | _::_,[],h,_,_=>by simp![bU] at h
theorem bU.pX{K:ar}(g:aZ G b):∀{a dss},(∀q∈a,∀xs,H q\.lst xs->b q\.lst xs)->bU K G H a dss->av K b (a.map V.ref) (dss.map D.lst)
 | [],[],_,_=>av.nil
 | q::a,ds::dss,hh,h=>by
  obtain⟨⟨xs,e,d⟩,c⟩:=h;show av.cons ?_ (bU.pX g (λr f=>hh r (by show .tail _ ‹_›)) c);show⟨q,xs,rfl,fU.of (hh q (by show .head _) xs e),d.mono g⟩
 | [],_::_,_,h=>by assumption
 | _::_,[],_,h=>by assumption
def cB(K:ar)(G H:Hp):List ae->List (List (Key×D))->Prop
 | [],[]=>True
 | q::a,ds::dss=>(∃ks b,H q\.dK ks b/\aU K G ks ds)/\cB K G H a dss
 | _,_=>False
theorem cB.mono{K:ar}(g:aZ G b):∀{a dss},(∀q∈a,∀u,H q\u->H' q\u)->cB K G H a dss->cB K b H' a dss
 | [],[],_,_=>by simp![cB]
 | q::a,ds::dss,hh,h=>by
  obtain⟨⟨ks,f,e,d⟩,c⟩:=h;show⟨⟨ks,f,hh q (by show .head _) _ e,aU.mono g _ _ d⟩,cB.mono g (λr i=>hh r (by show .tail _ ‹_›)) c⟩
 | [],_::_,_,h=>by simp![cB] at h
 | _::_,[],_,h=>by simp![cB] at h
theorem cB.kind{K:ar}:∀{a dss},cB K G H a dss->∀q∈a,∃ks c,H q\.dK ks c
 | [],[],_,q,d=>by cases d
 | q::a,ds::dss,h,r,b=>by
  obtain⟨⟨ks,c,f,g⟩,e⟩:=h;rcases bx.mp b with rfl | b
  .exact⟨ks,c,f⟩
  show cB.kind e r b
 | [],_::_,h,_,_=>by simp![cB] at h
 | _::_,[],h,_,_=>by simp![cB] at h
theorem cB.here{K:ar}(h:cB K G H a dss):∀q∈a,H q≠none:=λq b=>by
 let⟨ks,c,e⟩:=h.kind q b;rw[e];show nofun
theorem cB.pX{K:ar}(g:aZ G b):∀{a dss},(∀q∈a,∀u,H q\u->b q\u)->cB K G H a dss->av K b (a.map V.ref) (dss.map D.dic)
 | [],[],_,_=>av.nil
 | q::a,ds::dss,hh,h=>by
  obtain⟨⟨ks,f,e,d⟩,c⟩:=h;show av.cons ?_ (cB.pX g (λr i=>hh r (by show .tail _ ‹_›)) c);show⟨q,ks,f,rfl,hh q (by show .head _) _ e,aU.mono g _ _ d⟩
 | [],_::_,_,h=>by assumption
 | _::_,[],_,h=>by assumption
def lW(K:ar)(G H:Hp)(p:ae)(fp:List ae):OV->Prop
 | .ll dss=>H p\.lst (fp.map V.ref)/\bU K G H fp dss
 | .dc kvs=>fp=[]/\∃ks c,H p\.dK ks c/\aU K G ks kvs
 | .dl kvs=>∃ks c,H p\.dK ks c/\ks.map (·.1)=kvs.map (·.1)/\ks.map (·.2)=fp.map V.ref/\bU K G H fp (kvs.map (·.2))
 | .tl d ds=>∃q v xs,fp=[q]/\H p\.tup [v,.ref q]/\Rep K G v d/\H q\.lst xs/\av K G xs ds
 | .ld e=>H p\.lst (fp.map V.ref)/\cB K G H fp e
 | .dt kvs=>∃ks bs,H p\.dT ks bs/\jz G ks bs.1/\ks.map (·.1)=kvs.map (·.1)/\ks.map (·.2)=fp.map V.ref/\bU K G H fp (kvs.map (·.2))
 | .tp ds=>fp=[]/\∃xs,H p\.tup xs/\av K G xs ds
 | .ob g fs=>∃C f b,H p\.ins C f b/\ClsAt K g C/\(∀p∈fs,Sg K C p.1)/\b.map (·.1)=fs.map (·.1)/\b.map (·.2)=fp.map V.ref/\bU K G H fp (fs.map (·.2))
 | .dq kvs=>fp=[]/\∃ks bs,H p\.dT ks bs/\jz G ks bs.1/\eF K G ks kvs
 | .li a dss=>p=a/\H p\.lst (fp.map V.ref)/\bU K G H fp dss
theorem lW.here{K:ar}(h:lW K G H p fp o):∀q∈p::fp,H q≠none:=by
 intro q b;cases o with
 | ll dss=>
  rcases bx.mp b with rfl | b
  .rw[h.1];show nofun
  show h.2.here q b
 | dc kvs=>
  let⟨rfl,ks,f,c,z⟩:=h;simp![dD] at b;subst b;rw[c];show nofun
 | dl kvs=>
  let⟨ks,f,c,z,z,e⟩:=h;rcases bx.mp b with rfl | b
  .rw[c];show nofun
  show e.here q b
 | tl d ds=>
  let⟨r,v,xs,rfl,c,z,i,z⟩:=h;grind
 | ld g=>
  rcases bx.mp b with rfl | b
  .rw[h.1];show nofun
  show h.2.here q b
 | dt kvs=>
  let⟨ks,bs,c,z,z,z,e⟩:=h;rcases bx.mp b with rfl | b
  .rw[c];show nofun
  show e.here q b
 | tp ds=>
  let⟨rfl,xs,c,z⟩:=h;simp![dD] at b;subst b;rw[c];show nofun
 | ob l fs=>
  let⟨C,k,j,c,z,z,z,z,e⟩:=h;rcases bx.mp b with rfl | b
  .rw[c];show nofun
  show e.here q b
 | dq kvs=>
  let⟨rfl,ks,bs,c,z⟩:=h;simp![dD] at b;subst b;rw[c];show nofun
 | li a dss=>
  rcases bx.mp b with rfl | b
  .rw[h.2.1];show nofun
  show h.2.2.here q b
theorem lW.mono{K:ar}(g:aZ G k)(hh:∀q∈p::fp,∀u,H q\u->H' q\u)(h:lW K G H p fp o):lW K k H' p fp o:=by
 cases o with
 | ll dss=>show⟨hh p (by show .head _) _ h.1,h.2.mono g λq i xs=>hh q (by show .tail _ ‹_›) _⟩
 | dc kvs=>
  let⟨rfl,ks,j,c,b⟩:=h;show⟨rfl,ks,j,hh p (by show .head _) _ c,aU.mono g _ _ b⟩
 | dl kvs=>
  let⟨ks,j,c,b,f,e⟩:=h;show⟨ks,j,hh p (by show .head _) _ c,b,f,e.mono g λq i xs=>hh q (by show .tail _ ‹_›) _⟩
 | tl d ds=>
  let⟨r,v,xs,rfl,c,b,f,e⟩:=h;show⟨r,v,xs,rfl,hh p (by show .head _) _ c,b.mono g,hh r (by show .tail _ (.head _)) _ f,e.mono g⟩
 | li a dss=>show⟨h.1,hh p (by show .head _) _ h.2.1,h.2.2.mono g λq i xs=>hh q (by show .tail _ ‹_›) _⟩
 | ld s=>show⟨hh p (by show .head _) _ h.1,h.2.mono g λq i=>hh q (by show .tail _ ‹_›)⟩
 | dt kvs=>
  let⟨ks,bs,c,hk,b,f,e⟩:=h;show⟨ks,bs,hh p (by show .head _) _ c,hk.mono g,b,f,e.mono g λq i xs=>hh q (by show .tail _ ‹_›) _⟩
 | tp ds=>
  let⟨rfl,xs,c,b⟩:=h;show⟨rfl,xs,hh p (by show .head _) _ c,b.mono g⟩
 | ob t fs=>
  let⟨C,n,m,c,l,hn,b,f,e⟩:=h;show⟨C,n,m,hh p (by show .head _) _ c,l,hn,b,f,e.mono g λq i xs=>hh q (by show .tail _ ‹_›) _⟩
 | dq kvs=>
  let⟨rfl,ks,bs,c,hk,b⟩:=h;show⟨rfl,ks,bs,hh p (by show .head _) _ c,hk.mono g,eF.mono g _ _ b⟩
theorem aU.rZ{K:ar}:∀{ks}{kvs:List (Key×List D)}{fp:List ae},ks.map (·.1)=kvs.map (·.1)->ks.map (·.2)=fp.map V.ref->av K G (fp.map V.ref) ((kvs.map (·.2)).map D.lst)->aU K G ks (kvs.map λp=>(p.1,.lst p.2))
 | [],[],_,_,_,_=>by trivial
 | a::ks,b::kvs,fp,d,c,e=>by
  simp![bO,sV.injEq] at d;cases fp with
  | nil=>contradiction
  | cons q fp=>
   simp![bO,sV.injEq] at c;show⟨⟨d.1,by rw[c.1];show e.1⟩,aU.rZ d.2 c.2 e.2⟩
 | [],_::_,_,h,_,_=>by trivial
 | _::_,[],_,h,_,_=>by trivial
theorem eF.rZ{K:ar}:∀{ks}{kvs:List (List Key×List D)}{fp:List ae},ks.map (·.1)=kvs.map (·.1)->ks.map (·.2)=fp.map V.ref->av K G (fp.map V.ref) ((kvs.map (·.2)).map D.lst)->eF K G ks (kvs.map λp=>(p.1,.lst p.2))
 | [],[],_,_,_,_=>by trivial
 | a::ks,b::kvs,fp,d,c,e=>by
  simp![bO,sV.injEq] at d;cases fp with
  | nil=>contradiction
  | cons q fp=>
   simp![bO,sV.injEq] at c;show⟨⟨d.1,by rw[c.1];show e.1⟩,eF.rZ d.2 c.2 e.2⟩
 | [],_::_,_,h,_,_=>by trivial
 | _::_,[],_,h,_,_=>by trivial
theorem gQ.rZ{K:ar}:∀{ks}{kvs:List (af×List D)}{fp:List ae},ks.map (·.1)=kvs.map (·.1)->ks.map (·.2)=fp.map V.ref->av K G (fp.map V.ref) ((kvs.map (·.2)).map D.lst)->gQ K G ks (kvs.map λp=>(p.1,.lst p.2))
 | [],[],_,_,_,_=>by trivial
 | a::ks,b::kvs,fp,d,c,e=>by
  simp![bO,sV.injEq] at d;cases fp with
  | nil=>contradiction
  | cons q fp=>
   simp![bO,sV.injEq] at c;show⟨⟨d.1,by rw[c.1];show e.1⟩,gQ.rZ d.2 c.2 e.2⟩
 | [],_::_,_,h,_,_=>by trivial
 | _::_,[],_,h,_,_=>by trivial
noncomputable def jH(G H:Hp)(l:List ae):Hp:=λa=>if a∈l then H a else G a
theorem mq(h:a∈l):jH G H l a=H a:=if_pos h
theorem nh(h:a∉l):jH G H l a=G a:=if_neg h
theorem wK(h:∀q∈l,G q=none):aZ G (jH G H l):=λb u e=>by
 rw[nh (λz=>by rw[h b z] at e;cases e)];show e
theorem lW.freeze{K:ar}(h:lW K G H p fp o)(hn:∀q∈p::fp,G q=none):Rep K (jH G H (p::fp)) (.ref p) o.val:=by
 have b:=wK (H:=H) hn;have g:jH G H (p::fp) p=H p:=mq (by show .head _);cases o with
 | ll dss=>
  show⟨p,_,rfl,fU.of (by rw[g];show h.1),h.2.pX b λq k xs e=>by rw[mq (by show .tail _ ‹_›)];show e⟩
 | dc kvs=>
  let⟨rfl,ks,l,f,c⟩:=h;show⟨p,ks,l,rfl,by rw[g];show f,aU.mono b _ _ c⟩
 | dl kvs=>
  let⟨ks,l,f,c,j,i⟩:=h;show⟨p,ks,l,rfl,by rw[g];show f,aU.rZ c j (i.pX b λq k xs e=>by rw[mq (by show .tail _ ‹_›)];show e)⟩
 | tl d ds=>
  let⟨r,v,xs,rfl,f,c,j,i⟩:=h;show⟨p,_,rfl,(by rw[g];show f),av.cons (c.mono b) (av.cons ?_ av.nil)⟩;show⟨r,xs,rfl,fU.of (by rw[mq (by show .tail _ (.head _))];show j),i.mono b⟩
 | dt kvs=>
  let⟨ks,bs,f,hk,c,j,i⟩:=h;show⟨p,ks,bs,rfl,by rw[g];show f,hk.mono b,eF.rZ c j (i.pX b λq k xs e=>by rw[mq (by show .tail _ ‹_›)];show e)⟩
 | tp ds=>
  let⟨rfl,xs,f,c⟩:=h;show⟨p,xs,rfl,(by rw[g];show f),c.mono b⟩
 | ob x fs=>
  let⟨C,t,s,f,n,hn,c,j,i⟩:=h;show⟨p,C,t,s,rfl,by rw[g];show f,n,λu m=>?_,gQ.rZ c j (i.pX b λq k xs e=>by rw[mq (by show .tail _ ‹_›)];show e)⟩;let⟨v,hv,rfl⟩:=a9.mp m;show hn v hv
 | li a dss=>
  show⟨p,_,rfl,fU.of (by rw[g];show h.2.1),h.2.2.pX b λq k xs e=>by rw[mq (by show .tail _ ‹_›)];show e⟩
 | ld w=>
  show⟨p,_,rfl,fU.of (by rw[g];show h.1),h.2.pX b λq k u e=>by rw[mq (by show .tail _ ‹_›)];show e⟩
 | dq kvs=>
  let⟨rfl,ks,bs,f,hk,c⟩:=h;show⟨p,ks,bs,rfl,by rw[g];show f,hk.mono b,eF.mono b _ _ c⟩
noncomputable abbrev Ev:=List Sl
noncomputable def gt:Ev->Nat->Sl
 | [],_=>.un
 | a::_,0=>a
 | _::r,n+1=>gt r n
theorem mn:gt (ρ.set i s) j=if i=j/\j<ρ.length then s else gt ρ j:=by
 induction ρ generalizing i j with
 | nil=>cbv
 | cons a r b=>
  cases i with
  | zero=>
   cases j with
   | zero=>rfl
   | succ j=>rfl
  | succ i=>
   cases j with
   | zero=>rfl
   | succ j=>simp[gt,b]
def cK(K:ar)(a H' H:Hp)(v:V):R->Prop
 | .fz d=>Rep K a v d
 | .ow ds=>∃p xs,v=.ref p/\H p=none/\a p=none/\H' p\.lst xs/\av K a xs ds
 | .ov o=>∃p fp,v=.ref p/\(p::fp).Nodup/\lW K a H' p fp o/\∀q∈p::fp,H q=none/\a q=none
structure aS(K:ar)(G0 H0:Hp)(ρ:Ev)(σ:St)(G H:Hp):Prop where
 e:Ext G0 H0 G H
 len:σ.length=ρ.length
 fz:∀i d,gt ρ i=.fz d->∃v,σ[i]?\some v/\Rep K G v d
 ow:∀i ds,gt ρ i=.ow ds->∃p xs,σ[i]?\some (.ref p)/\H p\.lst xs/\G p=none/\H0 p=none/\av K G xs ds
 dj:∀i j ds es,i≠j->gt ρ i=.ow ds->gt ρ j=.ow es->σ[i]?≠σ[j]?
 on:∃own:ae->Option Nat,(∀i ds p,gt ρ i=.ow ds->σ[i]?\some (.ref p)->own p\i)/\∀i o,gt ρ i=.ov o->∃p fp,σ[i]?\some (.ref p)/\(p::fp).Nodup/\lW K G H p fp o/\∀q∈p::fp,G q=none/\H0 q=none/\own q=some i
section
variable{K:ar}
theorem aS.ext(E:aS K G0 H0 ρ σ G H)(x:Ext G H G' H'):aS K G0 H0 ρ σ G' H' where
 e:=E.e.trans x
 len:=E.len
 fz:=λi d h=>let⟨v,b,a⟩:=E.fz i d h;⟨v,b,a.mono x.g⟩
 ow:=λi ds h=>let⟨p,xs,b,a,m,l,k⟩:=E.ow i ds h;⟨p,xs,b,x.h _ _ a,x.n p m (by rw[a];show nofun),l,k.mono x.g⟩
 dj:=E.dj
 on:=by
  let⟨own,b,a⟩:=E.on;show⟨own,b,λi o h=>?_⟩;let⟨p,fp,s,r,j,f⟩:=a i o h;show⟨p,fp,s,r,j.mono x.g λq _ u e=>x.h q u e,λq c=>⟨x.n q (f q c).1 (j.here q c),(f q c).2⟩⟩
theorem cK.freeze(x:Ext G H G' H')(h:cK K G' H' H v r):∃G2,Ext G H G2 H'/\Rep K G2 v r.val/\aZ G' G2:=by
 cases r with
 | fz d=>show⟨G',x,h,aZ.refl _⟩
 | ow ds=>
  let⟨p,xs,j,f,a,m,l⟩:=h;show⟨upd G' p (.lst xs),⟨x.g.trans (rG a),x.h,λb o e=>?_,λq i c=>?_⟩,?_,rG a⟩
  .by_cases hb:b=p
   .subst hb;rw[cw] at e;rw[m];show e
   rw[aY hb] at e;show x.s b o e
  .rw[aY (λz=>c (by rw[z];show f))];show x.n q i c
  show⟨p,xs,j,fU.of cw,l.mono (rG a)⟩
 | ov o=>
  let⟨p,fp,rfl,j,f,a⟩:=h;have hn:∀q∈p::fp,G' q=none:=λq k=>(a q k).2
  show⟨jH G' H' (p::fp),⟨x.g.trans (wK hn),x.h,λb u e=>?_,λq i c=>?_⟩,f.freeze hn,wK hn⟩
  .by_cases hb:b∈p::fp
   .rw[mq hb] at e;show e
   rw[nh hb] at e;show x.s b u e
  rw[nh (λz=>c (a q z).1)];show x.n q i c
theorem cK.ext(x:Ext G' H' G2 H2)(h:cK K G' H' j v r):cK K G2 H2 j v r:=by
 cases r with
 | fz d=>show Rep.mono x.g v d h
 | ow ds=>
  let⟨p,xs,f,b,a,i,k⟩:=h;show⟨p,xs,f,b,x.n p a (by rw[i];show nofun),x.h _ _ i,k.mono x.g⟩
 | ov o=>
  let⟨p,fp,rfl,f,b,a⟩:=h;show⟨p,fp,rfl,f,b.mono x.g λq _ u e=>x.h q u e,λq c=>⟨(a q c).1,x.n q (a q c).2 (b.here q c)⟩⟩
theorem cK.lQ(s:aZ f g)(h:cK K G' H' g v r):cK K G' H' f v r:=by
 cases r with
 | fz d=>show h
 | ow ds=>
  let⟨p,xs,c,b,a,j,i⟩:=h;show⟨p,xs,c,s.free b,a,j,i⟩
 | ov o=>
  let⟨p,fp,rfl,c,b,a⟩:=h;show⟨p,fp,rfl,c,b,λq e=>⟨s.free (a q e).1,(a q e).2⟩⟩
end
noncomputable abbrev TD:=Ev->(R->Prop)->Prop
noncomputable abbrev cU:=Ev->(Bool->Prop)->Prop
noncomputable abbrev dg:=Ev->(List D->Prop)->Prop
structure DE where
 nx:Ev->Prop
 rt:R->Prop
 bk:Ev->Prop:=λ_=>False
 ct:Ev->Prop:=λ_=>False
noncomputable abbrev TX:=DE->Ev->Prop
def PD(X:Cx)(e:ax)(t:TD):Prop:=∃tt,PE X e tt/\∀ρ σ c b G H Q P,aS X.K c b ρ σ G H->t ρ Q->
 (∀v H' r a,Ext G H a H'->cK X.K a H' H v r->Q r->P v H')->tt σ H P
def PB(X:Cx)(e:ax)(t:cU):Prop:=∃tt,PT X e tt/\∀ρ σ c a G H Q P,aS X.K c a ρ σ G H->t ρ Q->
 (∀b H' d,Ext G H d H'->Q b->P b H')->tt σ H P
def ik(X:Cx)(c:List ax)(t:dg):Prop:=∃tt,PA X c tt/\∀ρ σ e d G H Q P,aS X.K e d ρ σ G H->t ρ Q->
 (∀a H' ds b,Ext G H b H'->av X.K b a ds->Q ds->P a H')->tt σ H P
structure Goes(K:ar)(G0 H0 G:Hp)(D:DE)(E:Ends):Prop where
 nx:∀ρ σ G' H',aZ G G'->aS K G0 H0 ρ σ G' H'->D.nx ρ->E.nx σ H'
 rt:∀v H' r G',Ext G0 H0 G' H'->cK K G' H' H0 v r->D.rt r->E.rt v H'
 bk:∀ρ σ G' H',aZ G G'->aS K G0 H0 ρ σ G' H'->D.bk ρ->E.bk σ H'
 ct:∀ρ σ G' H',aZ G G'->aS K G0 H0 ρ σ G' H'->D.ct ρ->E.ct σ H'
theorem Goes.shift{K:ar}{D:DE}(g:Goes K d c G D E)(s:aZ G e):Goes K d c e D E:=
 ⟨λρ σ b a s2=>g.nx ρ σ b a (s.trans s2),g.rt,λρ σ b a s2=>g.bk ρ σ b a (s.trans s2),λρ σ b a s2=>g.ct ρ σ b a (s.trans s2)⟩
def PX(X:Cx)(st:bE)(t:TX):Prop:=∃tt,PS X st tt/\∀ρ σ b a G H D E,aS X.K b a ρ σ G H->t D ρ->Goes X.K b a G D E->tt E σ H
def fV(X:Cx)(st:List bE)(t:TX):Prop:=∃tt,jy X st tt/\∀ρ σ b a G H D E,aS X.K b a ρ σ G H->t D ρ->Goes X.K b a G D E->tt E σ H
section
variable{X:Cx}{a b c:ax}{ta tb tc:TD}
theorem bZ{K:ar}{a H' H:Hp}(h:Rep K a v d):cK K a H' H v (.fz d):=h
structure Nm(X:Cx)(i:Nat)(x:af):Prop where
 N:X.N[i]?=some x
 v:lV X.env.scope x
 d:(x==("__debug__":af))=false
 c:(x==("__classdict__":af))=false
theorem jL(h:Nm X i x):PE X (.Name x pos) (tQ i):=pO h.N h.v h.d h.c
def aH(i:Nat):TD:=λρ Q=>match gt ρ i with
 | .fz d=>Q (.fz d)
 | _=>False
theorem ag(i)(hN:Nm X i x:=by walk_at"nm"):PD X (.Name x pos) (aH i):=by
 show⟨_,jL hN,λρ σ j g G H Q P E h k=>?_⟩;unfold aH at h;split at h
 .rename_i d e;let⟨v,f,b⟩:=E.fz i d e;show⟨v,f,k v H (.fz d) G (.refl E.e.s) b h⟩
 show h.elim
def dC(d:D):TD:=λ_ Q=>Q (.fz d)
theorem Dx(h:PE X e (tC v))(r:∀K G,Rep K G v d):PD X e (dC d):=
 ⟨_,h,λρ σ b a G H Q P E h k=>k v H (.fz d) G (.refl E.e.s) (r _ _) h⟩
theorem eQ(K G i):Rep K G (.int i) (.int i):=by simp![Rep]
theorem fY(K G i):Rep K G (.bl i) (.bl i):=by simp![Rep]
theorem y7(K G i):Rep K G (.str i) (.str i):=by simp![Rep]
theorem Jh(K G):Rep K G .non .non:=by simp![Rep]
theorem au:PD X (.Constant (.int i) j pos) (dC (.int i)):=Dx Sm λK G=>eQ K G i
theorem iR:PD X (.Constant (.bool i) j pos) (dC (.bl i)):=Dx ZN λK G=>fY K G i
theorem j9:PD X (.Constant (.str i) j pos) (dC (.str i)):=Dx Sk λK G=>y7 K G i
theorem iz:PD X (.Constant .none j pos) (dC .non):=Dx ztA λK G=>Jh K G
noncomputable abbrev O2:=D->D->(R->Prop)->Prop
def gz(X:Cx)(f:aa->aa->Sem aa)(o:O2):Prop:=∃r:R2,cE X f r/\∀G H x y d e Q P,aZ G H->Rep X.K G x d->Rep X.K G y e->o d e Q->
 (∀v H' a b,Ext G H b H'->cK X.K b H' H v a->Q a->P v H')->r x y H P
def bT(o:O2)(ta tb:TD):TD:=λρ Q=>ta ρ λb=>tb ρ λa=>o b.val a.val Q
theorem C5
  (I:∀G H x y d e Q P,aZ G H->Rep X.K G x d->Rep X.K G y e->o d e Q->(∀v H' j a,Ext G H a H'->cK X.K a H' H v j->Q j->P v H')->r x y H P)
  (ha:∀ρ b f c G H Q P,aS X.K f c ρ b G H->ta ρ Q->(∀v H' r a,Ext G H a H'->cK X.K a H' H v r->Q r->P v H')->n b H P)
  (hb:∀ρ b f c G H Q P,aS X.K f c ρ b G H->tb ρ Q->(∀v H' r a,Ext G H a H'->cK X.K a H' H v r->Q r->P v H')->m b H P)
  (ρ b f c G H Q P) (E:aS X.K f c ρ b G H) (h:bT o ta tb ρ Q) (k:∀v H' r a,Ext G H a H'->cK X.K a H' H v r->Q r->P v H'):z7 r n m b H P:=by
 show ha ρ b f c G H _ _ E h λv H1 U Y w r1 M=>?_
 let⟨N,l,F,Z⟩:=r1.freeze w;show hb ρ b f c N H1 _ _ (E.ext l) M λu O T W t B L=>?_
 let⟨S,i,C,Z⟩:=B.freeze t;show I S O v u _ _ Q P i.s (F.mono i.g) C L λz H' j a q A J=>?_
 have p:=(l.trans i).trans q;show k z H' j a p (A.lQ (l.trans i).h) J
theorem aQ(h:gz X (binaryOp op) o)(ha:PD X a ta)(hb:PD X b tb):PD X (.BinOp a op b pos) (bT o ta tb):=by
 let⟨r,g,f⟩:=h;let⟨j,e,d⟩:=ha;let⟨i,pb,c⟩:=hb;show⟨_,RO g e pb,C5 f d c⟩
theorem kN(h:gz X (compareOp op) o)(ha:PD X a ta)(hb:PD X b tb)(hm:behindInMarks op b=false:=by first | show Sh _ | rfl):PD X (.Compare a [op] [b] pos) (bT o ta tb):=by
 let⟨r,g,f⟩:=h;let⟨j,e,d⟩:=ha;let⟨i,pb,c⟩:=hb;show⟨_,zrG g e pb hm,C5 f d c⟩
def fB(t:TD):cU:=λρ Q=>t ρ λr=>match r with
 | .fz (.bl k)=>Q k
 | _=>False
theorem ck(m:gz X (compareOp op) o)(ha:PD X a ta)(hb:PD X b tb)(hm:behindInMarks op b=false:=by first | show Sh _ | rfl):PB X (.Compare a [op] [b] pos) (fB (bT o ta tb)):=by
 let⟨r,l,j⟩:=m;let⟨t,i,g⟩:=ha;let⟨s,pb,f⟩:=hb;show⟨_,zrI l i pb hm,λρ σ p n G H Q P E h k=>?_⟩;show C5 j g f ρ σ p n G H _ _ E h λv H' r q d r1 c=>?_
 split at c
 .rename_i kk;have e:v=.bl kk:=by simpa only[cK,Rep] using r1
  show⟨kk,e,k kk H' q d c⟩
 show c.elim
theorem j8(h:PD X e t)(c:∀whole,isTrue e X.env whole=(do let v <-whole;standAt e.pos;holding [v] (truthy v)):=by intro _;rfl):PB X e (fB t):=by
 let⟨tt,p,q⟩:=h;show⟨_,ztB p c,λρ σ f d G H Q P E h k=>?_⟩;show q ρ σ f d G H _ _ E h λv H' r g b r1 a=>?_
 split at a
 .rename_i kk;have e:v=.bl kk:=by simpa only[cK,Rep] using r1
  show⟨kk,e,k kk H' g b a⟩
 show a.elim
def Cu:O2:=λd e Q=>match d,e with
 | .int i,.int j=>Q (.fz (.int (i+j)))
 | .str x,.str y=>x.length+y.length<=sizeLine/\Q (.fz (.str (x++y)))
 | .lst xs,.lst ys=>xs.length+ys.length<=sizeLine/\Q (.ow (xs++ys))
 | _,_=>False
def Z5(K:ar):R2:=λx y H Q=>∃l b xs zs,x=.ref l/\y=.ref b/\fU K H l xs/\fU K H b zs/\xs.length+zs.length<=sizeLine/\∀p,H p=none->Q (.ref p) (upd H p (.lst (xs++zs)))
theorem zrW:cE X (binaryOp .Add) (Z5 X.K):=by
 intro B s σ H x y v u Q I i g h;let⟨l,b,xs,zs,rfl,rfl,j,m,hz,q⟩:=h;cases i;cases g;let⟨z,its,n,r,e⟩:=I.cm j;let⟨t,f,w,d,p⟩:=I.cm m;have hl:=r.length;have A:=d.length;show PySem.P.add_list e p ?_ (by cbv);have o:its.toArray++f.toArray=(its++f).toArray:=by simp
 rw[o];show⟨.ref _,_,I.Lx (t':=s.toks) (r.append d) (by rw[gj];room),rfl,q _ I.fresh⟩
theorem wD{Q:R->Prop}{P:VK}(s:aZ G H)(r:av X.K G xs ds)(q:Q (.ow ds))
  (k:∀v H' b c,Ext G H c H'->cK X.K c H' H v b->Q b->P v H'):∀p,H p=none->P (.ref p) (upd H p (.lst xs)):=λp a=>
 k _ _ (.ow ds) G (.own s a) ⟨p,xs,rfl,a,s.free a,cw,r⟩ q
theorem cJ:gz X (binaryOp .Add) Cu:=by
 show⟨_,aaw.or (aav.or zrW),λG H x y d e Q P s f c h k=>?_⟩;unfold Cu at h;split at h
 .exact .inl ⟨_,_,f,c,k _ _ _ G (.refl s) (bZ (eQ _ _ _)) h⟩
 .exact .inr (.inl ⟨_,_,f,c,h.1,k _ _ _ G (.refl s) (bZ (y7 _ _ _)) h.2⟩)
 .let⟨a,xs,rfl,l,i⟩:=f;let⟨b,ys,rfl,j,g⟩:=c;show .inr (.inr ⟨_,_,_,_,rfl,rfl,s.cm l,s.cm j,by rw[i.length,g.length];show h.1,wD s (i.append g) h.2 k⟩)
 show h.elim
def oI(C:Int->Int->Prop)(g:Int->Int->D):O2:=λd e Q=>match d,e with
 | .int i,.int j=>C i j/\Q (.fz (g i j))
 | _,_=>False
def gK(g:Int->Int->D):O2:=λd e Q=>match d,e with
 | .int i,.int j=>Q (.fz (g i j))
 | _,_=>False
theorem CG(h:cE X f (rI C g))(hg:∀K G i j,Rep K G (g i j) (g' i j)):gz X f (oI C g'):=by
 show⟨_,h,λG H x y d e Q P s b a h k=>?_⟩;unfold oI at h;split at h
 .exact⟨_,_,b,a,h.1,k _ _ _ G (.refl s) (bZ (hg _ _ _ _)) h.2⟩
 show h.elim
theorem yZ(h:cE X f (kd g))(hg:∀K G i j,Rep K G (g i j) (g' i j)):gz X f (gK g'):=by
 show⟨_,h,λG H x y d e Q P s b a h k=>?_⟩;unfold gK at h;split at h
 .exact⟨_,_,b,a,k _ _ _ G (.refl s) (bZ (hg _ _ _ _)) h⟩
 show h.elim
theorem CF:gz X (binaryOp .Sub) (gK λi j=>.int (i-j)):=yZ ztP λK G i j=>eQ K G _
theorem rn:gz X (binaryOp .Mult) (oI Bf λi j=>.int (i*j)):=CG ztQ λK G i j=>eQ K G _
theorem iU:gz X (binaryOp .FloorDiv) (oI Cv λi j=>.int (i/j)):=CG zrE λK G i j=>eQ K G _
theorem eu:gz X (binaryOp .Mod) (oI (λ_ j=>0<j) λi j=>.int (i%j)):=CG ztR λK G i j=>eQ K G _
theorem CD:gz X (binaryOp .Pow) (oI tS λi j=>.int (i ^ j.toNat)):=CG ztS λK G i j=>eQ K G _
theorem yJ:gz X (compareOp .Lt) (gK λi j=>.bl (decide (i<j))):=yZ RN λK G i j=>fY K G _
theorem Rq:gz X (compareOp .LtE) (gK λi j=>.bl (decide (i<=j))):=yZ vX λK G i j=>fY K G _
theorem pF:gz X (compareOp .Gt) (gK λi j=>.bl (decide (j<i))):=yZ ZC λK G i j=>fY K G _
theorem Rp:gz X (compareOp .GtE) (gK λi j=>.bl (decide (j<=i))):=yZ ZA λK G i j=>fY K G _
end
open PySem.SeqAt
mutual
noncomputable def bN:D->D->Bool
 | .non,.non=>true
 | .bl a,.bl b=>a==b
 | .bl a,.int b=>(if a then 1 else 0)==b
 | .int a,.bl b=>a==(if b then 1 else 0)
 | .int a,.int b=>a==b
 | .str a,.str b=>a==b
 | .tup xs,.tup ys=>lG xs ys
 | .lst xs,.lst ys=>lG xs ys
 | _,_=>false
noncomputable def lG:List D->List D->Bool
 | [],[]=>true
 | x::xs,y::ys=>bN x y&&lG xs ys
 | _,_=>false
end
def bR:Nat->D->Prop
 | _,.non=>True
 | _,.bl _=>True
 | _,.int _=>True
 | _,.str _=>True
 | n+1,.tup ds=>∀d∈ds,bR n d
 | n+1,.lst ds=>∀d∈ds,bR n d
 | _,_=>False
mutual
theorem wH:∀(n:Nat)(d:D),bR n d->bN d d=true
 | n,.non,_=>by simp![bN]
 | n,.bl _,_=>by show beq_self_eq_true _
 | n,.int _,_=>by show beq_self_eq_true _
 | n,.str _,_=>by show beq_self_eq_true _
 | 0,.tup ds,h=>by cases h
 | 0,.lst ds,h=>by cases h
 | n+1,.tup ds,h=>by show JZ n ds h
 | n+1,.lst ds,h=>by show JZ n ds h
 | 0,.obj _ _,h=>by cases h
 | n+1,.obj _ _,h=>by cases h
 | 0,.dic _,h=>by cases h
 | 0,.dit _,h=>by cases h
 | 0,.exc _ _,h=>by cases h
 | 0,.idn _ _,h=>by cases h
 | n+1,.dic _,h=>by cases h
 | n+1,.dit _,h=>by cases h
 | n+1,.exc _ _,h=>by cases h
 | n+1,.idn _ _,h=>by cases h
theorem JZ:∀(n:Nat)(ds:List D),(∀d∈ds,bR n d)->lG ds ds=true
 | n,[],_=>by simp![lG]
 | n,d::ds,h=>by simp![lG,wH n d (h d (by room)),JZ n ds (λe he=>h e (by room)),Bool.and_self]
end
theorem zp:∀{xs ys},xs.length≠ys.length->lG xs ys=false
 | [],[],h=>absurd rfl h
 | x::xs,y::ys,h=>by
  rw[lG,zp (xs:=xs) (ys:=ys) (by simpa using h),OG]
 | [],_::_,_=>by simp![lG]
 | _::_,[],_=>by simp![lG]
theorem zo:∀xs ys,xs.length=ys.length->lG xs ys=(aI xs.length).all λj=>bN (xs.getD j .non) (ys.getD j .non)
 | [],[],_=>by rfl
 | x::xs,y::ys,h=>by
  rw[lG,zo xs ys (by simpa using h),cL,List.range_succ_eq_map,Bx,Br];congr 1
 | [],_::_,h=>by trivial
 | _::_,[],h=>by trivial
theorem Js(xs ys):((aI (min xs.length ys.length)).all (λj=>bN (xs.getD j .non) (ys.getD j .non))&&xs.length==ys.length)=lG xs ys:=by
 by_cases h:xs.length=ys.length
 .rw[zo xs ys h,h];simp
 rw[zp h];lia
section
variable{X:Cx}{J':List (ae×aL)}{σ:St}{H:Hp}{s:ai}
mutual
theorem Df(I:Inv X J' σ H s):∀(n:Nat)(d e:D)(v:V),bR n d->bR n e->Rep X.K H v d->Rep X.K H v e->d=e
 | n,.non,e,v,h,h',r,c=>by
  cases e<;>simp only[Rep] at r c<;>subst r<;>grind
 | n,.bl b,e,v,h,h',r,c=>by
  cases e<;>simp only[Rep] at r c<;>subst r<;>grind
 | n,.int b,e,v,h,h',r,c=>by
  cases e<;>simp only[Rep] at r c<;>subst r<;>grind
 | n,.str b,e,v,h,h',r,c=>by
  cases e<;>simp only[Rep] at r c<;>subst r<;>grind
 | 0,.tup ds,e,v,h,h',r,c=>by cases h
 | 0,.lst ds,e,v,h,h',r,c=>by cases h
 | n+1,.tup ds,e,v,h,h',r,c=>by
  let⟨a,xs,rfl,q,rs⟩:=r;cases e<;>simp only[Rep] at c
  case tup j=>
   let⟨b,ys,i,f,g⟩:=c;cases i;rw[I.D0 (bF.of f) (bF.of q)] at g;rw[Jr I n ds j xs h h' rs g]
  case lst j=>
   let⟨b,ys,i,f,g⟩:=c;cases i;let⟨its,z,ht,z⟩:=I.tuple (bF.of q);let⟨its',z,k,z⟩:=I.list f.sq;show absurd rfl (ne_of_list_tuple k.isList (show s.heap.IsTuple a its.toArray from ht))
  case obj=>cases h'
  case dic=>cases h'
  case dit=>cases h'
  case exc=>cases h'
  case idn=>cases h'
  all_goals cases c
 | n+1,.lst ds,e,v,h,h',r,c=>by
  let⟨a,xs,rfl,q,rs⟩:=r;cases e<;>simp only[Rep] at c
  case lst j=>
   let⟨b,ys,i,f,g⟩:=c;cases i;rw[I.Ak f.sq q.sq] at g;rw[Jr I n ds j xs h h' rs g]
  case tup j=>
   let⟨b,ys,i,f,g⟩:=c;cases i;let⟨its,z,ht,z⟩:=I.tuple (bF.of f);let⟨its',z,k,z⟩:=I.list q.sq;show absurd rfl (ne_of_list_tuple k.isList (show s.heap.IsTuple a its.toArray from ht))
  case obj=>cases h'
  case dic=>cases h'
  case dit=>cases h'
  case exc=>cases h'
  case idn=>cases h'
  all_goals cases c
 | 0,.obj _ _,_,_,h,_,_,_=>by cases h
 | n+1,.obj _ _,_,_,h,_,_,_=>by cases h
 | 0,.dic _,_,_,h,_,_,_=>by cases h
 | 0,.dit _,_,_,h,_,_,_=>by cases h
 | 0,.exc _ _,_,_,h,_,_,_=>by cases h
 | 0,.idn _ _,_,_,h,_,_,_=>by cases h
 | n+1,.dic _,_,_,h,_,_,_=>by cases h
 | n+1,.dit _,_,_,h,_,_,_=>by cases h
 | n+1,.exc _ _,_,_,h,_,_,_=>by cases h
 | n+1,.idn _ _,_,_,h,_,_,_=>by cases h
theorem Jr(I:Inv X J' σ H s):∀(n:Nat)(ds b:List D)(f:List V),(∀d∈ds,bR n d)->(∀d∈b,bR n d)->av X.K H f ds->av X.K H f b->ds=b
 | n,[],[],_,_,_,_,_=>rfl
 | n,d::ds,e::b,v::f,h,h',r,g=>by
  rw[Df I n d e v (h d (by room)) (h' e (by room)) r.1 g.1,Jr I n ds b f (λx i=>h x (by room)) (λx i=>h' x (by room)) r.2 g.2]
 | n,[],_::_,[],_,_,_,r=>by simp![av] at r
 | n,[],_::_,_::_,_,_,r,_=>by simp![av] at r
 | n,_::_,[],[],_,_,r,_=>by simp![av] at r
 | n,_::_,[],_::_,_,_,_,r=>by simp![av] at r
 | n,_::_,_::_,[],_,_,r,_=>by simp![av] at r
end
theorem lN(b:Vals a us)(f:av X.K H a ds)(k):∃v,RelV v us.toArray[j]/\Rep X.K H v (ds.getD j .non)/\ds.getD j .non∈ds:=by
 have g:j<us.length:=by trivial
 have c:j<a.length:=by rw[b.length];show g
 let⟨u,i,h⟩:=b.get (bC c);let⟨d,hd,e⟩:=f.XS (bC c);grind
noncomputable def vW:D->Bool
 | .non=>true
 | .bl _=>true
 | .int _=>true
 | .str _=>true
 | _=>false
theorem Tu(hd:vW d=true)(c:vW e=true)(b:Rep X.K H x d)(a:Rep X.K H y e):CH x=true/\CH y=true/\MH x y=bN d e:=by
 cases d<;>first | cases hd | skip
 all_goals (cases e<;>first | cases c | skip)
 all_goals
  subst b a;show⟨rfl,rfl,by simp[MH,bN]⟩
theorem yY(I:Inv X Z σ H s):∀n A d e x y v u,bR n d->bR n e->A.units+n<cLine->Rep X.K H x d->Rep X.K H y e->RelV x v->RelV y u->EqAt A s v u (bN d e):=by
 intro n;induction n with
 | zero=>
  intro A d e x y v u hd he Y k g l i;have fd:vW d=true:=by cases d<;>first | rfl | cases hd
  have L:vW e=true:=by cases e<;>first | rfl | cases he
  let⟨z,w,M⟩:=Tu fd L k g;rw[<-M];show Sd l i z w
 | succ n W=>
  intro A d e x y v u hd he Y k g l i;have f:A.units<cLine:=by lia
  have U:A.in1.units+n<cLine:=by show A.units+1+n<cLine;lia
  by_cases fd:vW d=true
  .by_cases L:vW e=true
   .let⟨z,w,M⟩:=Tu fd L k g;rw[<-M];show Sd l i z w
   cases e<;>first | show absurd rfl L | skip
   case tup m=>
    let⟨b,ys,rfl,q,rs⟩:=g;cases i;let⟨its,p,ht,V⟩:=I.tuple (bF.of q);have c:s.heap.IsTuple b its.toArray:=ht;cases d<;>first | cases fd | skip
    .subst k;cases l;simpa only[bN] using EqAt.none_tuple c f
    .subst k;cases l;simpa only[bN] using EqAt.bool_tuple _ c f
    .subst k;let⟨t,rfl⟩:=l;simpa only[bN] using EqAt.int_tuple _ t c f
    subst k;let⟨t,rfl⟩:=l;simpa only[bN] using EqAt.str_tuple _ t c f
   case lst m=>
    let⟨b,ys,rfl,q,rs⟩:=g;cases i;let⟨its,p,ht,V⟩:=I.list q.sq;have c:=ht.isList;cases d<;>first | cases fd | skip
    .subst k;cases l;simpa only[bN] using EqAt.none_list c f
    .subst k;cases l;simpa only[bN] using EqAt.bool_list _ c f
    .subst k;let⟨t,rfl⟩:=l;simpa only[bN] using EqAt.int_list _ t c f
    subst k;let⟨t,rfl⟩:=l;simpa only[bN] using EqAt.str_list _ t c f
   case obj=>cases he
   case dic=>cases he
   case dit=>cases he
   case exc=>cases he
   case idn=>cases he
  cases d<;>first | show absurd rfl fd | skip
  case tup ds=>
   have S:=k;let⟨a,xs,rfl,q,rs⟩:=k;cases l;let⟨its,p,ht,V⟩:=I.tuple (bF.of q);have c:s.heap.IsTuple a its.toArray:=ht;cases e
   case non=>subst g;cases i;simpa only[bN] using EqAt.tuple_none c f
   case bl=>subst g;cases i;simpa only[bN] using EqAt.tuple_bool _ c f
   case int=>subst g;let⟨t,rfl⟩:=i;simpa only[bN] using EqAt.tuple_int _ t c f
   case str=>subst g;let⟨t,rfl⟩:=i;simpa only[bN] using EqAt.tuple_str _ t c f
   case lst m=>
    let⟨b,ys,rfl,r,B⟩:=g;cases i;let⟨its',C,o,V⟩:=I.list r.sq;simpa only[bN] using EqAt.tuple_list c o.isList f
   case tup m=>
    have T:=g;let⟨b,ys,rfl,r,B⟩:=g;cases i;let⟨its',C,J,V⟩:=I.tuple (bF.of r);by_cases F:a=b
    .subst F;have N:=Df I (n+1) _ _ _ hd he S T;rw[<-N,wH (n+1) _ hd];show EqAt.same _
    show EqAt.of_refs F ?_;have h:=RcAt.tuples (e:=λj=>bN (ds.getD j .non) (m.getD j .non)) c (show s.heap.IsTuple b its'.toArray from J) f λj z w=>by
     let⟨v1,a1,R,P⟩:=lN p rs z;let⟨v2,a2,Q,O⟩:=lN C B w;show W A.in1 _ _ v1 v2 _ _ (hd _ P) (he _ O) U R Q a1 a2
    have E:its.toArray.size=ds.length:=by rw[cW,<-p.length,rs.length]
    have G:its'.toArray.size=m.length:=by rw[cW,<-C.length,B.length]
    rw[E,G,Js] at h;simpa only[bN] using h
   case obj=>cases he
   case dic=>cases he
   case dit=>cases he
   case exc=>cases he
   case idn=>cases he
  case lst ds=>
   have S:=k;let⟨a,xs,rfl,q,rs⟩:=k;cases l;let⟨its,p,ht,V⟩:=I.list q.sq;have c:=ht.isList;cases e
   case non=>subst g;cases i;simpa only[bN] using EqAt.list_none c f
   case bl=>subst g;cases i;simpa only[bN] using EqAt.list_bool _ c f
   case int=>subst g;let⟨t,rfl⟩:=i;simpa only[bN] using EqAt.list_int _ t c f
   case str=>subst g;let⟨t,rfl⟩:=i;simpa only[bN] using EqAt.list_str _ t c f
   case tup m=>
    let⟨b,ys,rfl,r,B⟩:=g;cases i;let⟨its',C,o,V⟩:=I.tuple (bF.of r);simpa only[bN] using EqAt.list_tuple c (show s.heap.IsTuple b its'.toArray from o) f
   case lst m=>
    have T:=g;let⟨b,ys,rfl,r,B⟩:=g;cases i;let⟨its',C,J,V⟩:=I.list r.sq;by_cases F:a=b
    .subst F;have N:=Df I (n+1) _ _ _ hd he S T;rw[<-N,wH (n+1) _ hd];show EqAt.same _
    show EqAt.of_refs F ?_;have E:its.toArray.size=ds.length:=by rw[cW,<-p.length,rs.length]
    have G:its'.toArray.size=m.length:=by rw[cW,<-C.length,B.length]
    by_cases o:ds.length=m.length
    .have h:=RcAt.lists (e:=λj=>bN (ds.getD j .non) (m.getD j .non)) c J.isList (by rw[E,G,o]) f λj z w=>by
      let⟨v1,a1,R,P⟩:=lN p rs z;let⟨v2,a2,Q,O⟩:=lN C B w;show W A.in1 _ _ v1 v2 _ _ (hd _ P) (he _ O) U R Q a1 a2
     rw[E,<-zo ds m o] at h;simpa only[bN] using h
    have h:=RcAt.lists_lengths (A:=A) c J.isList (by rw[E,G];simpa using o) f;simp![bN,zp o];show h
   case obj=>cases he
   case dic=>cases he
   case dit=>cases he
   case exc=>cases he
   case idn=>cases he
  case obj=>cases hd
  case dic=>cases hd
  case dit=>cases hd
  case exc=>cases hd
  case idn=>cases hd
end
section
variable{X:Cx}{σ:St}
theorem mJ(r:Rep X.K H y .non)(q:RelV y u):u=.none:=by simp![Rep] at r;subst r;cases q;rfl
theorem mL(r:Rep X.K H y (.bl c))(q:RelV y u):u=.bool c:=by simp![Rep] at r;subst r;cases q;rfl
theorem mK(r:Rep X.K H y (.int i))(q:RelV y u):∃t,u=.int i t:=by simp![Rep] at r;subst r;show q
theorem mI(r:Rep X.K H y (.str x))(q:RelV y u):∃t,u=.str x t:=by simp![Rep] at r;subst r;show q
theorem oU(I:Inv X J' σ H s)(r:Rep X.K H y (.tup a))(q:RelV y u):∃b it,u=.ref b/\s.heap.IsTuple b (FP it):=by
 simp![Rep] at r;let⟨b,ys,rfl,h,z⟩:=r;cases q;let⟨it,z,ht,z⟩:=I.tuple (bF.of h);show⟨b,it,rfl,ht⟩
theorem oV(I:Inv X J' σ H s)(r:Rep X.K H y (.lst a))(q:RelV y u):∃b it,u=.ref b/\s.heap.IsList b (FP it):=by
 simp![Rep] at r;let⟨b,ys,rfl,h,z⟩:=r;cases q;let⟨it,z,ht,z⟩:=I.list h.sq;show⟨b,it,rfl,ht.isList⟩
theorem zt6(I:Inv X J' σ H s):∀n A d e x y v u,bR n d->bR n e->A.units+n<cLine->Rep X.K H x d->Rep X.K H y e->RelV x v->RelV y u->RcAt A s v u (bN d e):=by
 intro n A d e x y v u hd he P l c o f;have i:A.units<cLine:=by lia
 cases d
 case non=>
  simp![Rep] at l;subst l;cases o;cases e
  case non=>cases mJ c f;show RcAt.none_none
  case bl=>cases mL c f;show RcAt.none_bool _
  case int=>let⟨t,rfl⟩:=mK c f;show RcAt.none_int _ t
  case str=>let⟨t,rfl⟩:=mI c f;show RcAt.none_str _ t
  case tup=>let⟨b,it,rfl,g⟩:=oU I c f;show RcAt.none_tuple g i
  case lst=>let⟨b,it,rfl,g⟩:=oV I c f;show RcAt.none_list g i
  all_goals (cases n<;>cases he)
 case bl a=>
  simp![Rep] at l;subst l;cases o;cases e
  case non=>cases mJ c f;show RcAt.bool_none _
  case bl=>cases mL c f;show RcAt.bool_bool _ _
  case int=>let⟨t,rfl⟩:=mK c f;show RcAt.bool_int _ _ t
  case str=>let⟨t,rfl⟩:=mI c f;show RcAt.bool_str _ _ t
  case tup=>let⟨b,it,rfl,g⟩:=oU I c f;show RcAt.bool_tuple _ g i
  case lst=>let⟨b,it,rfl,g⟩:=oV I c f;show RcAt.bool_list _ g i
  all_goals (cases n<;>cases he)
 case int a=>
  simp![Rep] at l;subst l;let⟨t0,rfl⟩:=o;cases e
  case non=>cases mJ c f;show RcAt.int_none _ t0
  case bl=>cases mL c f;show RcAt.int_bool _ t0 _
  case int=>let⟨t,rfl⟩:=mK c f;show RcAt.int_int _ t0 _ t
  case str=>let⟨t,rfl⟩:=mI c f;show RcAt.int_str _ t0 _ t
  case tup=>let⟨b,it,rfl,g⟩:=oU I c f;show RcAt.int_tuple _ t0 g i
  case lst=>let⟨b,it,rfl,g⟩:=oV I c f;show RcAt.int_list _ t0 g i
  all_goals (cases n<;>cases he)
 case str a=>
  simp![Rep] at l;subst l;let⟨t0,rfl⟩:=o;cases e
  case non=>cases mJ c f;show RcAt.str_none _ t0
  case bl=>cases mL c f;show RcAt.str_bool _ t0 _
  case int=>let⟨t,rfl⟩:=mK c f;show RcAt.str_int _ t0 _ t
  case str=>let⟨t,rfl⟩:=mI c f;show RcAt.str_str _ t0 _ t
  case tup=>let⟨b,it,rfl,g⟩:=oU I c f;show RcAt.str_tuple _ t0 g i
  case lst=>let⟨b,it,rfl,g⟩:=oV I c f;show RcAt.str_list _ t0 g i
  all_goals (cases n<;>cases he)
 case tup ds=>
  cases n with
  | zero=>cases hd
  | succ n=>
  have G:A.in1.units+n<cLine:=by show A.units+1+n<cLine;lia
  simp![Rep] at l;let⟨a,xs,rfl,q,rs⟩:=l;cases o;let⟨its,p,ht,Z⟩:=I.tuple (bF.of q);have k:s.heap.IsTuple a its.toArray:=ht;cases e
  case non=>cases mJ c f;show RcAt.tuple_none k i
  case bl=>cases mL c f;show RcAt.tuple_bool _ k i
  case int=>let⟨t,rfl⟩:=mK c f;show RcAt.tuple_int _ t k i
  case str=>let⟨t,rfl⟩:=mI c f;show RcAt.tuple_str _ t k i
  case lst m=>let⟨b,it,rfl,g⟩:=oV I c f;show RcAt.tuple_list k g i
  case tup m=>
   simp![Rep] at c;let⟨b,ys,rfl,F,w⟩:=c;cases f;let⟨its',z,E,Z⟩:=I.tuple (bF.of F);have h:=RcAt.tuples (e:=λj=>bN (ds.getD j .non) (m.getD j .non)) k (show s.heap.IsTuple b its'.toArray from E) i λj J g=>by
    let⟨v1,a1,O,M⟩:=lN p rs J;let⟨v2,a2,N,L⟩:=lN z w g;show yY I n A.in1 _ _ v1 v2 _ _ (hd _ M) (he _ L) G O N a1 a2
   have r:its.toArray.size=ds.length:=by rw[cW,<-p.length,rs.length]
   have B:its'.toArray.size=m.length:=by rw[cW,<-z.length,w.length]
   rw[r,B,Js] at h;simpa only[bN] using h
  all_goals cases he
 case lst ds=>
  cases n with
  | zero=>cases hd
  | succ n=>
  have G:A.in1.units+n<cLine:=by show A.units+1+n<cLine;lia
  simp![Rep] at l;let⟨a,xs,rfl,q,rs⟩:=l;cases o;let⟨its,p,ht,Z⟩:=I.list q.sq;have k:=ht.isList;cases e
  case non=>cases mJ c f;show RcAt.list_none k i
  case bl=>cases mL c f;show RcAt.list_bool _ k i
  case int=>let⟨t,rfl⟩:=mK c f;show RcAt.list_int _ t k i
  case str=>let⟨t,rfl⟩:=mI c f;show RcAt.list_str _ t k i
  case tup m=>let⟨b,it,rfl,g⟩:=oU I c f;show RcAt.list_tuple k g i
  case lst m=>
   simp![Rep] at c;let⟨b,ys,rfl,F,w⟩:=c;cases f;let⟨its',z,E,Z⟩:=I.list F.sq;have r:its.toArray.size=ds.length:=by rw[cW,<-p.length,rs.length]
   have B:its'.toArray.size=m.length:=by rw[cW,<-z.length,w.length]
   by_cases C:ds.length=m.length
   .have h:=RcAt.lists (e:=λj=>bN (ds.getD j .non) (m.getD j .non)) k E.isList (by rw[r,B,C]) i λj J g=>by
     let⟨v1,a1,O,M⟩:=lN p rs J;let⟨v2,a2,N,L⟩:=lN z w g;show yY I n A.in1 _ _ v1 v2 _ _ (hd _ M) (he _ L) G O N a1 a2
    rw[r,<-zo ds m C] at h;simpa only[bN] using h
   have h:=RcAt.lists_lengths (A:=A) k E.isList (by rw[r,B];simpa using C) i;simp![bN,zp C];show h
  all_goals cases he
 all_goals (cases n<;>cases hd)
theorem zpo(I:Inv X J' σ H s):∀n A d e x y v u,bR n d->bR n e->A.units+n<cLine->Rep X.K H x d->Rep X.K H y e->RelV x v->RelV y u->RcNeAt A s v u (!bN d e):=by
 intro n A d e x y v u hd he P l c o f;have i:A.units<cLine:=by lia
 cases d
 case non=>
  simp![Rep] at l;subst l;cases o;cases e
  case non=>cases mJ c f;show RcNeAt.none_none
  case bl=>cases mL c f;show RcNeAt.none_bool _
  case int=>let⟨t,rfl⟩:=mK c f;show RcNeAt.none_int _ t
  case str=>let⟨t,rfl⟩:=mI c f;show RcNeAt.none_str _ t
  case tup=>let⟨b,it,rfl,g⟩:=oU I c f;show RcNeAt.none_tuple g i
  case lst=>let⟨b,it,rfl,g⟩:=oV I c f;show RcNeAt.none_list g i
  all_goals (cases n<;>cases he)
 case bl a=>
  simp![Rep] at l;subst l;cases o;cases e
  case non=>cases mJ c f;show RcNeAt.bool_none _
  case bl=>cases mL c f;show RcNeAt.bool_bool _ _
  case int=>let⟨t,rfl⟩:=mK c f;show RcNeAt.bool_int _ _ t
  case str=>let⟨t,rfl⟩:=mI c f;show RcNeAt.bool_str _ _ t
  case tup=>let⟨b,it,rfl,g⟩:=oU I c f;show RcNeAt.bool_tuple _ g i
  case lst=>let⟨b,it,rfl,g⟩:=oV I c f;show RcNeAt.bool_list _ g i
  all_goals (cases n<;>cases he)
 case int a=>
  simp![Rep] at l;subst l;let⟨t0,rfl⟩:=o;cases e
  case non=>cases mJ c f;show RcNeAt.int_none _ t0
  case bl=>cases mL c f;show RcNeAt.int_bool _ t0 _
  case int=>let⟨t,rfl⟩:=mK c f;show RcNeAt.int_int _ t0 _ t
  case str=>let⟨t,rfl⟩:=mI c f;show RcNeAt.int_str _ t0 _ t
  case tup=>let⟨b,it,rfl,g⟩:=oU I c f;show RcNeAt.int_tuple _ t0 g i
  case lst=>let⟨b,it,rfl,g⟩:=oV I c f;show RcNeAt.int_list _ t0 g i
  all_goals (cases n<;>cases he)
 case str a=>
  simp![Rep] at l;subst l;let⟨t0,rfl⟩:=o;cases e
  case non=>cases mJ c f;show RcNeAt.str_none _ t0
  case bl=>cases mL c f;show RcNeAt.str_bool _ t0 _
  case int=>let⟨t,rfl⟩:=mK c f;show RcNeAt.str_int _ t0 _ t
  case str=>let⟨t,rfl⟩:=mI c f;show RcNeAt.str_str _ t0 _ t
  case tup=>let⟨b,it,rfl,g⟩:=oU I c f;show RcNeAt.str_tuple _ t0 g i
  case lst=>let⟨b,it,rfl,g⟩:=oV I c f;show RcNeAt.str_list _ t0 g i
  all_goals (cases n<;>cases he)
 case tup ds=>
  cases n with
  | zero=>cases hd
  | succ n=>
  have G:A.in1.units+n<cLine:=by show A.units+1+n<cLine;lia
  simp![Rep] at l;let⟨a,xs,rfl,q,rs⟩:=l;cases o;let⟨its,p,ht,Z⟩:=I.tuple (bF.of q);have k:s.heap.IsTuple a its.toArray:=ht;cases e
  case non=>cases mJ c f;show RcNeAt.tuple_none k i
  case bl=>cases mL c f;show RcNeAt.tuple_bool _ k i
  case int=>let⟨t,rfl⟩:=mK c f;show RcNeAt.tuple_int _ t k i
  case str=>let⟨t,rfl⟩:=mI c f;show RcNeAt.tuple_str _ t k i
  case lst m=>let⟨b,it,rfl,g⟩:=oV I c f;show RcNeAt.tuple_list k g i
  case tup m=>
   simp![Rep] at c;let⟨b,ys,rfl,F,w⟩:=c;cases f;let⟨its',z,E,Z⟩:=I.tuple (bF.of F);have h:=RcNeAt.tuples (e:=λj=>bN (ds.getD j .non) (m.getD j .non)) k (show s.heap.IsTuple b its'.toArray from E) i λj J g=>by
    let⟨v1,a1,O,M⟩:=lN p rs J;let⟨v2,a2,N,L⟩:=lN z w g;show yY I n A.in1 _ _ v1 v2 _ _ (hd _ M) (he _ L) G O N a1 a2
   have r:its.toArray.size=ds.length:=by rw[cW,<-p.length,rs.length]
   have B:its'.toArray.size=m.length:=by rw[cW,<-z.length,w.length]
   rw[r,B,Js] at h;simpa only[bN] using h
  all_goals cases he
 case lst ds=>
  cases n with
  | zero=>cases hd
  | succ n=>
  have G:A.in1.units+n<cLine:=by show A.units+1+n<cLine;lia
  simp![Rep] at l;let⟨a,xs,rfl,q,rs⟩:=l;cases o;let⟨its,p,ht,Z⟩:=I.list q.sq;have k:=ht.isList;cases e
  case non=>cases mJ c f;show RcNeAt.list_none k i
  case bl=>cases mL c f;show RcNeAt.list_bool _ k i
  case int=>let⟨t,rfl⟩:=mK c f;show RcNeAt.list_int _ t k i
  case str=>let⟨t,rfl⟩:=mI c f;show RcNeAt.list_str _ t k i
  case tup m=>let⟨b,it,rfl,g⟩:=oU I c f;show RcNeAt.list_tuple k g i
  case lst m=>
   simp![Rep] at c;let⟨b,ys,rfl,F,w⟩:=c;cases f;let⟨its',z,E,Z⟩:=I.list F.sq;have r:its.toArray.size=ds.length:=by rw[cW,<-p.length,rs.length]
   have B:its'.toArray.size=m.length:=by rw[cW,<-z.length,w.length]
   by_cases C:ds.length=m.length
   .have h:=RcNeAt.lists (e:=λj=>bN (ds.getD j .non) (m.getD j .non)) k E.isList (by rw[r,B,C]) i λj J g=>by
     let⟨v1,a1,O,M⟩:=lN p rs J;let⟨v2,a2,N,L⟩:=lN z w g;show yY I n A.in1 _ _ v1 v2 _ _ (hd _ M) (he _ L) G O N a1 a2
    rw[r,<-zo ds m C] at h;simpa only[bN] using h
   have h:=RcNeAt.lists_lengths (A:=A) k E.isList (by rw[r,B];simpa using C) i;simp![bN,zp C];show h
  all_goals cases he
 all_goals (cases n<;>cases hd)
end
section
variable{X:Cx}
def oEq:O2:=λd e Q=>bR 9 d/\bR 9 e/\Q (.fz (.bl (bN d e)))
def Ae:O2:=λd e Q=>bR 9 d/\bR 9 e/\Q (.fz (.bl (!bN d e)))
theorem gG(f:X.A.units+64<cLine):gz X (compareOp .Eq) oEq:=by
 show⟨λx y H Q=>∃d e,bR 9 d/\bR 9 e/\Rep X.K H x d/\Rep X.K H y e/\Q (.bl (bN d e)) H,λg s σ H x y v u Q I b a h=>?_,λG H x y d e Q P s b a h k=>?_⟩
 .let⟨d,e,hd,he,c,re,q⟩:=h;show zt6 I 9 X.A d e x y v u hd he (by lia) c re b a _ _ _ _ ⟨.bl _,H,I,rfl,q⟩
 show⟨d,e,h.1,h.2.1,b.mono s,a.mono s,k _ _ _ G (.refl s) (bZ (fY _ _ _)) h.2.2⟩
theorem vU(f:X.A.units+64<cLine):gz X (compareOp .NotEq) Ae:=by
 show⟨λx y H Q=>∃d e,bR 9 d/\bR 9 e/\Rep X.K H x d/\Rep X.K H y e/\Q (.bl (!bN d e)) H,λg s σ H x y v u Q I b a h=>?_,λG H x y d e Q P s b a h k=>?_⟩
 .let⟨d,e,hd,he,c,re,q⟩:=h;show zpo I 9 X.A d e x y v u hd he (by lia) c re b a _ _ _ _ ⟨.bl _,H,I,rfl,q⟩
 show⟨d,e,h.1,h.2.1,b.mono s,a.mono s,k _ _ _ G (.refl s) (bZ (fY _ _ _)) h.2.2⟩
noncomputable def inD(d:D)(ds:List D):Bool:=ds.any λe=>bN e d
def HA(a:Bool):O2:=λd e Q=>match d,e with
 | .str x,.str y=>Q (.fz (.bl (if a then !(!(G9 y x 0 y.length 1).isEmpty) else !(G9 y x 0 y.length 1).isEmpty)))
 | d,.lst b=>bR 8 d/\(∀e∈b,bR 8 e)/\Q (.fz (.bl (if a then !inD d b else inD d b)))
 | d,.tup b=>bR 8 d/\(∀e∈b,bR 8 e)/\Q (.fz (.bl (if a then !inD d b else inD d b)))
 | _,_=>False
noncomputable def jV(X:Cx)(H:Hp)(d:D)(u:aa):Bool:=open Classical in if h:∃(v:V)(e:D),bR 8 e/\RelV v u/\Rep X.K H v e then bN h.choose_spec.choose d else false
theorem Sa{i:St}(I:Inv X p i H s)(g:bR 8 e)(c:RelV v u)(f:Rep X.K H v e):jV X H d u=bN e d:=by
 have h:∃(v:V)(e:D),bR 8 e/\RelV v u/\Rep X.K H v e:=⟨v,e,g,c,f⟩
 unfold jV;rw[dif_pos h];let⟨m,l,k⟩:=h.choose_spec.choose_spec;have n:h.choose=v:=RelV.inj l c;have j:∀b,b=v->∀a,bR 8 a->Rep X.K H b a->a=e:=λb hv a o r=>by subst hv;show Df I 8 _ e _ o g r f
 rw[j _ n _ m k]
theorem yX{f:St}(I:Inv X g f H s):∀{a c us},(∀e∈a,bR 8 e)->Vals c us->av X.K H c a->us.any (jV X H d)=inD d a
 | [],_,_,_,b,re=>by
  cases b
  .rfl
  simp![av] at re
 | e::a,_,_,h,b,re=>by
  cases b with
  | nil=>simp![av] at re
  | cons r t=>
   simp![av] at re;rw[vm,Sa I (h e (by show .head _)) r re.1,yX I (λx i=>h x (by show .tail _ ‹_›)) t re.2];rfl
theorem Dw{h:St}(I:Inv X q h H s)(hd:bR 8 d)(n:A.units+8<cLine)(i:Rep X.K H x d)(m:RelV x v)
  (b:∀e∈c,bR 8 e) (k:Vals a us) (l:av X.K H a c):∀u∈us.toArray,EqAt A s u v (jV X H d u):=λu p=>by
 let⟨j,o,e⟩:=Array.mem_iff_getElem.mp p;let⟨w,a1,g,f⟩:=lN k l o;rw[e] at a1;rw[Sa I (b _ f) a1 g];show yY I 8 A _ _ w x _ _ (b _ f) hd n g i a1 m
theorem zwD(j:X.A.units+64<cLine):cE X (compareOp .In) (λx y H Q=>∃p d c b,y=.ref p/\(bM X.K H p b\/bF X.K H p b)/\bR 8 d/\(∀e∈c,bR 8 e)/\Rep X.K H x d/\av X.K H b c/\Q (.bl (inD d c)) H):=by
 intro k s σ H x y v u Q I f i h;let⟨p,d,c,b,rfl,a,hd,he,g,re,q⟩:=h;cases i;rcases a with a | a
 .let⟨its,r,pl,hz⟩:=I.list a;show SeqAt.in_listAt (jV X H d) pl.isList (Dw I hd (by show X.A.units+1+8<cLine;lia) g f he r re) ⟨.bl _,H,I,rfl,?_⟩;rw[show its.toArray.any (jV X H d)=its.any (jV X H d) by simp,yX I he r re];show q
 let⟨its,r,pl,hz⟩:=I.tuple a;show SeqAt.in_tupleAt (jV X H d) pl (Dw I hd (by show X.A.units+1+8<cLine;lia) g f he r re) ⟨.bl _,H,I,rfl,?_⟩;rw[show its.toArray.any (jV X H d)=its.any (jV X H d) by simp,yX I he r re];show q
theorem zmI(j:X.A.units+64<cLine):cE X (compareOp .NotIn) (λx y H Q=>∃p d c b,y=.ref p/\(bM X.K H p b\/bF X.K H p b)/\bR 8 d/\(∀e∈c,bR 8 e)/\Rep X.K H x d/\av X.K H b c/\Q (.bl (!inD d c)) H):=by
 intro k s σ H x y v u Q I f i h;let⟨p,d,c,b,rfl,a,hd,he,g,re,q⟩:=h;cases i;rcases a with a | a
 .let⟨its,r,pl,hz⟩:=I.list a;show SeqAt.notIn_listAt (jV X H d) pl.isList (Dw I hd (by show X.A.units+1+8<cLine;lia) g f he r re) ⟨.bl _,H,I,rfl,?_⟩;rw[show its.toArray.any (jV X H d)=its.any (jV X H d) by simp,yX I he r re];show q
 let⟨its,r,pl,hz⟩:=I.tuple a;show SeqAt.notIn_tupleAt (jV X H d) pl (Dw I hd (by show X.A.units+1+8<cLine;lia) g f he r re) ⟨.bl _,H,I,rfl,?_⟩;rw[show its.toArray.any (jV X H d)=its.any (jV X H d) by simp,yX I he r re];show q
theorem Tt(i:X.A.units+64<cLine):gz X (compareOp .NotIn) (HA true):=by
 show⟨_,aau.or (zmI i),λG H x y d e Q P s c b h k=>?_⟩;unfold HA at h;split at h
 .simp![Rep] at c b;show .inl ⟨_,_,c,b,k _ _ _ G (.refl s) (bZ (fY _ _ _)) h⟩
 .simp![Rep] at b;let⟨a,ys,rfl,g,f⟩:=b;show .inr ⟨a,_,_,ys,rfl,.inl ((s.cm g).sq),h.1,h.2.1,c.mono s,f.mono s,k _ _ _ G (.refl s) (bZ (fY _ _ _)) h.2.2⟩
 .simp![Rep] at b;let⟨a,ys,rfl,g,f⟩:=b;show .inr ⟨a,_,_,ys,rfl,.inr (s.nq g),h.1,h.2.1,c.mono s,f.mono s,k _ _ _ G (.refl s) (bZ (fY _ _ _)) h.2.2⟩
 show h.elim
noncomputable def rm:D->Bool
 | .non=>true
 | _=>false
def qT(a:Bool):O2:=λd e Q=>match e with
 | .non=>Q (.fz (.bl (if a then !rm d else rm d)))
 | _=>False
theorem Um{K:ar}(r:Rep K G x d):decide (x=.non)=rm d:=by
 cases d<;>simp only[Rep] at r
 case non=>subst r;rfl
 case bl=>subst r;rfl
 case int=>subst r;rfl
 case str=>subst r;rfl
 case tup=>let⟨z,z,rfl,z⟩:=r;rfl
 case lst=>let⟨z,z,rfl,z⟩:=r;rfl
 case obj=>let⟨z,z,z,z,rfl,z⟩:=r;rfl
 case dic=>let⟨z,z,z,rfl,z⟩:=r;rfl
 case dit=>let⟨z,z,z,rfl,z⟩:=r;rfl
 case exc=>let⟨z,z,z,z,z,rfl,z⟩:=r;rfl
 case idn=>let⟨rfl,z⟩:=r;rfl
theorem vT:gz X (compareOp .Is) (qT false):=by
 show⟨_,ztV,λG H x y d e Q P s b a h k=>?_⟩;unfold qT at h;split at h
 .simp![Rep] at a;show⟨a,?_⟩;rw[Um b];show k _ _ _ G (.refl s) (bZ (fY _ _ _)) h
 show h.elim
theorem Dd:gz X (compareOp .IsNot) (qT true):=by
 show⟨_,zrF,λG H x y d e Q P s b a h k=>?_⟩;unfold qT at h;split at h
 .simp![Rep] at a;show⟨a,?_⟩;rw[Um b];show k _ _ _ G (.refl s) (bZ (fY _ _ _)) h
 show h.elim
end
section
variable{X:Cx}{a b c:ax}{ta tb tc:TD}{rest:List ax}
def vS(t:cU):cU:=λρ Q=>t ρ λk=>Q (!k)
def Hz(t u:cU):cU:=λρ Q=>t ρ λk=>if k=true then u ρ Q else Q false
def xK(t u:cU):cU:=λρ Q=>t ρ λk=>if k=true then Q true else u ρ Q
theorem oo(h:PB X a pa):PB X (.UnaryOp .Not a pos) (vS pa):=by
 let⟨t,p,q⟩:=h;show⟨_,ztE p,λρ σ e d G H Q P E h k=>q ρ σ e d G H _ _ E h λb H' f x c=>k _ H' f x c⟩
def sR(X:Cx)(e:ax)(t:cU):Prop:=∃tt,PW X e tt/\∀ρ σ c a G H Q P,aS X.K c a ρ σ G H->t ρ Q->
 (∀b H' d,Ext G H d H'->Q b->P b H')->tt σ H P
theorem sR.pb(h:sR X e t):PB X e t:=let⟨tt,p,q⟩:=h;⟨tt,p.pt,q⟩
theorem Dv(h:PB X a pa):sR X (.BoolOp .And [a] pos) pa:=let⟨tt,p,q⟩:=h;⟨tt,zrz p,q⟩
theorem rJ(h:PB X a pa):sR X (.BoolOp .Or [a] pos) pa:=let⟨tt,p,q⟩:=h;⟨tt,ztC p,q⟩
theorem y4(h:PB X a pa)(h':sR X (.BoolOp .And (b::rest) pos) Ea):sR X (.BoolOp .And (a::b::rest) pos) (Hz pa Ea):=by
 let⟨t,p,q⟩:=h;let⟨t',j,i⟩:=h';show⟨_,ztD p j,λρ σ e d G H Q P E h k=>q ρ σ e d G H _ _ E h λb H' f x c=>?_⟩;cases b with
 | true=>show i ρ σ e d f H' Q P (E.ext x) c λm n o g l=>k m n o (x.trans g) l
 | false=>show k false H' f x c
theorem pN(h:PB X a pa)(h':sR X (.BoolOp .Or (b::rest) pos) Ea):sR X (.BoolOp .Or (a::b::rest) pos) (xK pa Ea):=by
 let⟨t,p,q⟩:=h;let⟨t',j,i⟩:=h';show⟨_,ZM p j,λρ σ e d G H Q P E h k=>q ρ σ e d G H _ _ E h λb H' f x c=>?_⟩;cases b with
 | true=>show k true H' f x c
 | false=>show i ρ σ e d f H' Q P (E.ext x) c λm n o g l=>k m n o (x.trans g) l
def Ct(t:TD):TD:=λρ Q=>t ρ λr=>match r with
 | .fz (.bl k)=>Q (.fz (.bl (!k)))
 | _=>False
def tR(t u:TD):TD:=λρ Q=>t ρ λr=>match r with
 | .fz (.bl k)=>if k=true then u ρ Q else Q (.fz (.bl false))
 | _=>False
def ML(t u:TD):TD:=λρ Q=>t ρ λr=>match r with
 | .fz (.bl k)=>if k=true then Q (.fz (.bl true)) else u ρ Q
 | _=>False
theorem IJ(h:PD X a ta):PD X (.UnaryOp .Not a pos) (Ct ta):=by
 let⟨t,p,q⟩:=h;show⟨_,ztH p,λρ σ f d G H Q P E h k=>q ρ σ f d G H _ _ E h λv H' r g x c b=>?_⟩;split at b
 .rename_i kk;have e:v=.bl kk:=by simpa only[cK,Rep] using c
  show⟨kk,e,k _ H' _ g x (bZ (fY _ _ _)) b⟩
 show b.elim
theorem ng(h:PD X a ta):PD X (.BoolOp op [a] pos) ta:=let⟨t,p,q⟩:=h;⟨t,ztF p,q⟩
theorem pM(h:PD X a ta)(h':PD X (.BoolOp .And (b::rest) pos) tb):PD X (.BoolOp .And (a::b::rest) pos) (tR ta tb):=by
 let⟨t,p,q⟩:=h;let⟨t',n,m⟩:=h';show⟨_,ztG p n,λρ σ f d G H Q P E h k=>q ρ σ f d G H _ _ E h λv H' r y x j c=>?_⟩;split at c
 .rename_i kk;have e:v=.bl kk:=by simpa only[cK,Rep] using j
  show⟨kk,e,?_⟩;cases kk with
  | true=>show m ρ σ f d y H' Q P (E.ext x) c λs u l w g i o=>k s u l w (x.trans g) (i.lQ x.h) o
  | false=>grind
 show c.elim
theorem HZ(h:PD X a ta)(h':PD X (.BoolOp .Or (b::rest) pos) tb):PD X (.BoolOp .Or (a::b::rest) pos) (ML ta tb):=by
 let⟨t,p,q⟩:=h;let⟨t',o,n⟩:=h';show⟨_,ZJ p o,λρ σ f d G H Q P E h k=>q ρ σ f d G H _ _ E h λv H' r g x l c=>?_⟩;split at c
 .rename_i kk;have e:v=.bl kk:=by simpa only[cK,Rep] using l
  show⟨kk,e,?_⟩;cases kk with
  | true=>show k _ H' _ g x (bZ (fY _ _ _)) c
  | false=>show n ρ σ f d g H' Q P (E.ext x) c λu w m y i j s=>k u w m y (x.trans i) (j.lQ x.h) s
 show c.elim
def C4(o o':O2)(ta tb tc:TD):TD:=λρ Q=>ta ρ λb=>tb ρ λa=>o b.val a.val λr=>match r with
 | .fz (.bl k)=>if k=true then tc ρ λrc=>o' a.val rc.val Q else Q (.fz (.bl false))
 | _=>False
abbrev jX(K:ar)(t:TD)(b:TE):Prop:=∀ρ σ d c G H Q P,aS K d c ρ σ G H->t ρ Q->(∀v H' r a,Ext G H a H'->cK K a H' H v r->Q r->P v H')->b σ H P
theorem Ul{K:ar}{g g':Int->Int->Bool}(B:jX K ta q)(A:jX K tb p)(z:jX K tc o) :
  jX K (C4 (gK λi j=>.bl (g i j)) (gK λi j=>.bl (g' i j)) ta tb tc) (IG (kd λi j=>.bl (g i j)) (kd λi j=>.bl (g' i j)) q p o):=by
 show λρ σ n l G H Q P E h k=>B ρ σ n l G H _ _ E h λv1 H1 r1 Y x C I=>?_
 obtain⟨N,b,t,_⟩:=C.freeze x;show A ρ σ n l N H1 _ _ (E.ext b) I λv2 O T X w y a=>?_
 obtain⟨u,e,f,_⟩:=y.freeze w;unfold gK at a;split at a
 .rename_i i j M s;rw[M] at t;rw[s] at f;show⟨i,j,t,f,_,rfl,?_⟩;dsimp only at a;cases hk:g i j with
  | false=>
   rw[hk,if_neg ja] at a;show k _ _ _ u (b.trans e) (bZ (fY _ _ _)) a
  | true=>
   rw[hk,if_pos rfl] at a;show z ρ σ n l u O _ _ (E.ext (b.trans e)) a λR V S W v F c=>?_
   obtain⟨m,d,r,_⟩:=F.freeze v;rw[s] at c;split at c
   .rename_i U D L J;cases L;rw[J] at r;show⟨j,D,f,r,k _ _ _ m ((b.trans e).trans d) (bZ (fY _ _ _)) c⟩
   show c.elim
 show a.elim
theorem zt7{K:ar}(q:jX K t f)(ρ a i g G H Q P)(E:aS K i g ρ a G H)(h:fB t ρ Q)(k:∀b H' d,Ext G H d H'->Q b->P b H'):Ib f a H P:=by
 show q ρ a i g G H _ _ E h λv H' r d j r1 c=>?_
 split at c
 .rename_i kk;have e:v=.bl kk:=by simpa only[cK,Rep] using r1
  show⟨kk,e,k kk H' d j c⟩
 show c.elim
theorem zpp{g g':Int->Int->Bool}(n:cE X (compareOp op) (kd λi j=>.bl (g i j)))(r:cE X (compareOp d) (kd λi j=>.bl (g' i j)))(q:PD X a ta)(p:PD X b tb)(o:PD X c tc)(hm:lastMarks [op,d] [b,c]=false:=by with_unfolding_all rfl) :
  PD X (.Compare a [op,d] [b,c] pos) (C4 (gK λi j=>.bl (g i j)) (gK λi j=>.bl (g' i j)) ta tb tc):=by
 let⟨t1,m,h⟩:=q;let⟨s,l,f⟩:=p;let⟨t3,k,e⟩:=o;show⟨_,zo7 n r m l k hm,Ul h f e⟩
theorem Uk{g g':Int->Int->Bool}(n:cE X (compareOp op) (kd λi j=>.bl (g i j)))(r:cE X (compareOp d) (kd λi j=>.bl (g' i j)))(q:PD X a ta)(p:PD X b tb)(o:PD X c tc)(hm:lastMarks [op,d] [b,c]=false:=by with_unfolding_all rfl) :
  PB X (.Compare a [op,d] [b,c] pos) (fB (C4 (gK λi j=>.bl (g i j)) (gK λi j=>.bl (g' i j)) ta tb tc)):=by
 let⟨t1,m,h⟩:=q;let⟨s,l,f⟩:=p;let⟨t3,k,e⟩:=o;show⟨_,zo8 n r m l k hm,zt7 (Ul h f e)⟩
def fL:O2:=λd e Q=>match d,e with
 | .lst ds,.int i=>∃d,bA ds i\d/\Q (.fz d)
 | .tup ds,.int i=>∃d,bA ds i\d/\Q (.fz d)
 | .str z,.int i=>z.length<=sizeLine/\∃c,bA z.cps.toList i\c/\Q (.fz (.str ⟨#[c]⟩))
 | _,_=>False
theorem Jg{K:ar}(r:av K G xs ds)(h:bA ds i\d):∃v,bA xs i\v/\Rep K G v d:=by
 unfold bA at h ⊢;rw[r.length];cases e:iD ds.length i with
 | none=>rw[e] at h;cases h
 | some j=>
  rw[e] at h;show r.get h
theorem aK(z:PD X a ta)(w:PD X b tb)(t:y2 b:=by intro _ _;rfl):PD X (.Subscript a b pos) (bT fL ta tb):=by
 let⟨t1,o,m⟩:=z;let⟨A,n,l⟩:=w;show⟨_,yM Se o n t,C5 (r:=V2 X.K) (λG H x y d e Q P s g f h k=>?_) m l⟩;unfold fL at h;split at h
 .let⟨p,xs,rfl,j,rs⟩:=g;let⟨d,hd,q⟩:=h;let⟨v,hv,i⟩:=Jg rs hd;show .inl ⟨p,xs,_,v,rfl,f,(s.cm j).sq,hv,k _ _ _ G (.refl s) (bZ i) q⟩
 .let⟨p,xs,rfl,j,rs⟩:=g;let⟨d,hd,q⟩:=h;let⟨v,hv,i⟩:=Jg rs hd;show .inr (.inl ⟨p,xs,_,v,rfl,f,s.nq j,hv,k _ _ _ G (.refl s) (bZ i) q⟩)
 .let⟨hz,c,u,q⟩:=h;show .inr (.inr ⟨_,_,c,g,f,hz,u,k _ _ _ G (.refl s) (bZ (y7 _ _ _)) q⟩)
 show h.elim
def yI(i:Nat)(tb:TD):TD:=λρ Q=>match gt ρ i with
 | .ow ds=>tb ρ λa=>match a.val with
  | .int j=>∃d,bA ds j\d/\Q (.fz d)
  | _=>False
 | _=>False
theorem rC(i)(e:PD X b tb)(hN:X.N[i]?=some x:=by rfl)(hv:lV X.env.scope x:=by first | show Or.inl rfl | show Or.inr (Or.inl rfl) | show Or.inr (Or.inr rfl))(w:y2 b:=by intro _ _;rfl)(hd:(x==("__debug__":af))=false:=by decide)
  (u:(x==("__classdict__":af))=false:=by decide):PD X (.Subscript (.Name x t) b pos) (yI i tb):=by
 let⟨J,s,o⟩:=e;show⟨_,yM Se (pO hN hv hd u) s w,λρ σ F C G H Q P E h k=>?_⟩;unfold yI at h;split at h
 .rename_i ds hg;let⟨p,xs,z,e,L,K,y⟩:=E.ow i ds hg;show⟨_,z,o ρ σ F C G H _ _ E h λv H' r M l n c=>?_⟩;obtain⟨D,a,f,_⟩:=n.freeze l;split at c
  .rename_i j B;let⟨d,I,q⟩:=c;let⟨m,hw,A⟩:=Jg (y.mono a.g) I;rw[B] at f;show .inl ⟨p,xs,_,m,rfl,f,bM.of (a.h _ _ e),hw,k _ _ _ D a (bZ A) q⟩
  show c.elim
 show h.elim
variable{e:ax}{te:TD}{ts:dg}
def bH:dg:=λ_ Q=>Q []
def aM(te:TD)(ts:dg):dg:=λρ Q=>te ρ λr=>ts ρ λds=>Q (r.val::ds)
theorem aA:ik X [] bH:=⟨_,jk,λρ σ b a G H Q P E h k=>k [] H [] G (.refl E.e.s) av.nil h⟩
theorem aq(h:PD X e te)(q:ik X es ts)(p:starEach (e::es) X.env=(false,eval e X.env)::starEach es X.env:=by rfl):ik X (e::es) (aM te ts):=by
 let⟨t1,o,m⟩:=h;let⟨z,n,l⟩:=q;show⟨_,fZ o n p,λρ σ d c G H Q P E h k=>m ρ σ d c G H _ _ E h λv H' r A f j s=>?_⟩;let⟨x,b,i,Z⟩:=j.freeze f;show l ρ σ d c x H' _ _ (E.ext b) s λy u ds w a rs t=>?_
 show k _ u _ w (b.trans a) (av.cons (i.mono a.g) rs) t
def pE(ts:dg):TD:=λρ Q=>ts ρ λds=>ds.length<=sizeLine/\Q (.fz (.tup ds))
def rf(ts:dg):TD:=λρ Q=>ts ρ λds=>ds.length<=sizeLine/\Q (.ow ds)
theorem fF{e}(h:ik X es ts):PD X (.Tuple es e pos) (pE ts):=by
 let⟨t,p,q⟩:=h;show⟨_,yT p,λρ σ j i G H Q P E h k=>q ρ σ j i G H _ _ E h λa H' ds d x rs c=>⟨by rw[rs.length];show c.1,λp f=>?_⟩⟩;have b:Ext d H' (upd d p (.tup a)) (upd H' p (.tup a)):=.new x.s f;show k _ _ (.fz (.tup ds)) _ (x.trans b) ?_ c.2;show⟨p,a,rfl,cw,rs.mono b.g⟩
theorem iy(h:ik X es ts):PD X (.List es pos) (rf ts):=by
 let⟨t,p,q⟩:=h;show⟨_,Sf p,λρ σ e d G H Q P E h k=>q ρ σ e d G H _ _ E h λc H' ds f x rs b=>⟨by rw[rs.length];show b.1,λp a=>?_⟩⟩;show k _ _ (.ow ds) f (x.trans (.own x.s a)) ⟨p,c,rfl,x.h.free a,x.s.free a,cw,rs⟩ b.2
def jJ(X:Cx)(f:aa)(o:List D->(R->Prop)->Prop):Prop:=∃r,fk X f r/\∀G H a ds Q P,aZ G H->av X.K G a ds->o ds Q->
 (∀v H' b c,Ext G H c H'->cK X.K c H' H v b->Q b->P v H')->r a H P
def gO(o:List D->(R->Prop)->Prop)(ts:dg):TD:=λρ Q=>ts ρ λds=>o ds Q
theorem RP
  (j:∀G H a ds Q P,aZ G H->av X.K G a ds->o ds Q->(∀v H' c b,Ext G H b H'->cK X.K b H' H v c->Q c->P v H')->r a H P)
  (q:∀ρ σ e d G H Q P,aS X.K e d ρ σ G H->ts ρ Q->(∀a H' ds b,Ext G H b H'->av X.K b a ds->Q ds->P a H')->t σ H P):jX X.K (gO o ts) (Lc r t):=
 λρ σ e d G H Q P E h k=>q ρ σ e d G H _ _ E h λa H' ds b x rs l=>j b H' a ds Q P x.s rs l λv m c n f g i=>k v m c n (x.trans f) (g.lQ x.h) i
theorem c7{a:String}(g:jJ X (.builtin a) o)(hm:X.mg x=none)(hv:bootBuiltins x=some (.builtin a))(ha:ik X (e::es) ts)(hg:Gl X x:=by rfl)(hn:x≠"__name__":=by decide)(c:(x==("__debug__":af))=false:=by decide)
  (f:starEach (e::es) X.env=(false,eval e X.env)::starEach es X.env:=by rfl) (h:(backTo pos (starEach es X.env)).any (·.1)=false:=by rfl):PD X (.Call (.Name x p) (e::es) [] pos) (gO o ts):=by
 let⟨r,d,b⟩:=g;let⟨t,pp,q⟩:=ha;show⟨_,zq d hg hm hv pp hn c f h,RP b q⟩
theorem wJ(f:jJ X (.type T) o)(hm:X.mg x=none)(hv:bootBuiltins x=some (.type T))(ha:ik X (e::es) ts)(hg:Gl X x:=by rfl)(hn:x≠"__name__":=by decide)(b:(x==("__debug__":af))=false:=by decide)
  (d:starEach (e::es) X.env=(false,eval e X.env)::starEach es X.env:=by rfl) (g:(backTo pos (starEach es X.env)).any (·.1)=false:=by rfl):PD X (.Call (.Name x p) (e::es) [] pos) (gO o ts):=by
 let⟨r,c,a⟩:=f;let⟨t,pp,q⟩:=ha;show⟨_,zmw c hg hm hv pp hn b d g,RP a q⟩
end
theorem lI{a:St}:(a.set i x)[j]?=if i=j/\j<a.length then some x else a[j]?:=by
 by_cases h:i=j
 .subst h;by_cases b:i<a.length
  .simp[b]
  simp[b]
 simp[h]
section
variable{K:ar}{ρ:Ev}
theorem aS.put(E:aS K G0 H0 ρ σ G H)(x:Ext G H G' H')(O:cK K G' H' H v r):aS K G0 H0 (ρ.set i r.sl) (σ.set i (some v)) G' H':=by
 have Z:=E.ext x;have hl:=E.len;have B:∀j s,gt (ρ.set i r.sl) j=s->(i=j/\j<ρ.length/\s=r.sl)\/(¬(i=j/\j<ρ.length)/\gt ρ j=s):=λj s e=>by
  rw[mn] at e;by_cases h:i=j/\j<ρ.length
  .rw[if_pos h] at e;show .inl ⟨h.1,h.2,e.symm⟩
  rw[if_neg h] at e;show .inr ⟨h,e⟩
 show⟨Z.e,by cbv,λj d h=>?_,λj ds h=>?_,λj k ds S kz b m=>?_,?_⟩
 .rcases B j _ h with⟨b,m,t⟩ | ⟨b,m⟩
  .cases r with
   | ow=>cases t
   | ov=>cases t
   | fz d'=>
    cases t;show⟨v,by rw[lI,if_pos ⟨b,by cbv⟩],O⟩
  let⟨u,hu,ru⟩:=Z.fz j d m;show⟨u,by rw[lI,if_neg (by rw[hl];show b)];show hu,ru⟩
 .rcases B j _ h with⟨b,m,t⟩ | ⟨b,m⟩
  .cases r with
   | fz=>cases t
   | ov=>cases t
   | ow xI=>
    cases t;let⟨p,xs,rfl,a1,a2,N,Y⟩:=O;show⟨p,xs,by rw[lI,if_pos ⟨b,by cbv⟩],N,a2,E.e.h.free a1,Y⟩
  let⟨p,xs,y,w,M,J,b5⟩:=Z.ow j ds m;show⟨p,xs,by rw[lI,if_neg (by rw[hl];show b)];show y,w,M,J,b5⟩
 .have old:∀{j:Nat}{ds:List D},gt ρ j=.ow ds->∀S,r=.ow S->σ[j]?≠some (some v):=λ{j ds} h S e z=>by
   subst e;let⟨p,xs,rfl,a1,a2,N,Y⟩:=O;let⟨T,kR,y,w,M,J,b5⟩:=E.ow j ds h;rw[y] at z;cases z;rw[a1] at w;cases w
  rcases B j _ b with⟨F,Q,I⟩ | ⟨F,Q⟩
  .rcases B k _ m with⟨C,P,X⟩ | ⟨C,P⟩
   .exact absurd (F.symm.trans C) kz
   rw[lI,if_pos ⟨F,by cbv⟩,lI,if_neg (by rw[hl];show C)];cases r with
   | fz=>cases I
   | ov=>cases I
   | ow W=>show λz=>old P W rfl z.symm
  rcases B k _ m with⟨C,P,X⟩ | ⟨C,P⟩
  .rw[lI,if_neg (by rw[hl];show F),lI,if_pos ⟨C,by cbv⟩];cases r with
   | fz=>cases X
   | ov=>cases X
   | ow W=>show old Q W rfl
  rw[lI,if_neg (by rw[hl];show F),lI,if_neg (by rw[hl];show C)];show E.dj j k ds S kz Q P
 let⟨own,o1,o2⟩:=E.on;have Ek:∀j,¬(i=j/\j<ρ.length)->(σ.set i (some v))[j]?=σ[j]?:=λj h=>by rw[lI,if_neg (by rw[hl];show h)]
 have gen:∀L:List ae,(∀q∈L,H q=none)->(∀j ds p,i=j->j<ρ.length->r.sl=.ow ds->v=.ref p->p∈L)->
   (∀j o,i=j->j<ρ.length->r.sl=.ov o->∃p fp,v=.ref p/\(p::fp).Nodup/\lW K G' H' p fp o/\∀q∈p::fp,G' q=none/\q∈L)->
   ∃own:ae->Option Nat,(∀j ds p,gt (ρ.set i r.sl) j=.ow ds->(σ.set i (some v))[j]?\some (.ref p)->own p\j)/\∀j o,gt (ρ.set i r.sl) j=.ov o->∃p fp,(σ.set i (some v))[j]?\some (.ref p)/\(p::fp).Nodup/\lW K G' H' p fp o/\∀q∈p::fp,G' q=none/\H0 q=none/\own q\j:=by
  intro L U hw ho;show⟨λq=>if q∈L then some i else own q,λj ds p h A=>?_,λj o h=>?_⟩
  .rcases B j _ h with⟨b,m,t⟩ | ⟨b,m⟩
   .rw[lI,if_pos ⟨b,by cbv⟩] at A;have hv:v=.ref p:=by injection A with A;injection A
    dsimp only;rw[if_pos (hw j ds p b m t.symm hv),b]
   rw[Ek j b] at A;let⟨T,kR,y,w,l⟩:=E.ow j ds m;have aP:p∉L:=λz=>by
    rw[A] at y;cases y;rw[U p z] at w;cases w
   dsimp only;rw[if_neg aP];show o1 j ds p m A
  rcases B j _ h with⟨b,m,t⟩ | ⟨b,m⟩
  .let⟨p,fp,rfl,F,Q,I⟩:=ho j o b m t.symm;show⟨p,fp,by rw[lI,if_pos ⟨b,by cbv⟩],F,Q,λq f=>⟨(I q f).1,E.e.h.free (U q (I q f).2),?_⟩⟩;dsimp only;rw[if_pos (I q f).2,b]
  let⟨p,fp,y,w,M,J⟩:=o2 j o m;show⟨p,fp,by rw[Ek j b];show y,w,M.mono x.g λq _ u e=>x.h q u e,λq f=>⟨x.n q (J q f).1 (M.here q f),(J q f).2.1,?_⟩⟩;dsimp only;rw[if_neg (λz=>M.here q f (U q z))];show(J q f).2.2
 cases r with
 | fz d=>show gen [] (λq f=>by cases f) (λj ds p _ _ e=>by cases e) (λj o _ _ e=>by cases e)
 | ow xI=>
  let⟨p,xs,rfl,a1,a2,N,Y⟩:=O;show gen [p] (λq f=>?_) (λj ds T _ _ e e2=>?_) (λj o _ _ e=>by cases e)
  .simp![dD] at f;subst f;show a1
  cases e2;room
 | ov o'=>
  let⟨p,fp,rfl,a1,a2,N⟩:=O;show gen (p::fp) (λq f=>(N q f).1) (λj ds T _ _ e=>by cases e) (λj o _ _ e=>?_);cases e;show⟨p,fp,rfl,a1,a2,λq f=>⟨(N q f).2,f⟩⟩
noncomputable def eT(i:Nat)(ρ:Ev):Ev:=match gt ρ i with
 | .ow ds=>ρ.set i (.fz (.lst ds))
 | .ov o=>ρ.set i (.fz o.val)
 | _=>ρ
theorem t4(h:gt ρ i=s)(b:s≠.un):i<ρ.length:=by
 induction ρ generalizing i with
 | nil=>simp[gt] at h;show absurd h.symm b
 | cons a r d=>
  cases i with
  | zero=>simp
  | succ i=>simp;room
theorem bU.LC:∀{b dss},bU K G H b dss->∀q∈b,∃zs,H q\.lst zs
 | [],[],_,q,a=>by cases a
 | p::b,ds::dss,h,q,a=>by
  rcases bx.mp a with rfl | a
  .exact⟨_,h.1.choose_spec.1⟩
  show bU.LC h.2 q a
 | [],_::_,h,_,_=>by simp![bU] at h
 | _::_,[],h,_,_=>by simp![bU] at h
theorem aS.XW(i)(E:aS K G0 H0 ρ σ G H):∃L:List ae,(∀q∈L,G q=none)/\aS K G0 H0 (eT i ρ) σ (jH G H L) H/\(((∀o,gt ρ i=.ov o->(∃kvs,o=.dc kvs)\/(∃dss,o=.ll dss)\/∃a dss,o=.li a dss)->∀q∈L,H q≠none/\∀xs,¬Rd H q (.tup xs)))/\∀o p,gt ρ i=.ov o->σ[i]?\some (.ref p)->p∈L:=by
 unfold eT;split
 .rename_i ds hg;let⟨p,xs,N,M,y,P,w⟩:=E.ow i ds hg;have bj:i<ρ.length:=t4 hg ∅;have v:aZ G (upd G p (.lst xs)):=rG y;have t:∀j s,gt (ρ.set i (.fz (.lst ds))) j=s->(i=j/\s=.fz (.lst ds))\/(i≠j/\gt ρ j=s):=λj s e=>by
   rw[mn] at e;grind
  have U:jH G H [p]=upd G p (.lst xs):=by
   funext a
   by_cases ha:a=p
   .subst ha;rw[cw,mq (by room)];show M
   rw[aY ha,nh (by simpa using ha)]
  show⟨[p],λq m=>?_,?_,λ_ q m=>by
   simp![dD] at m;rw[m]
   show⟨(by rw[M];show nofun),λB e=>by rcases e with e | ⟨_,e⟩<;>(rw[M] at e;cases e)⟩,λo p z=>by rw[hg] at z;cases z⟩
  .simp![dD] at m;subst m;show y
  rw[U];show⟨⟨E.e.g.trans v,E.e.h,λb o e=>?_,λq S J=>?_⟩,by simp[E.len],λj d h=>?_,λj x h=>?_,λj k x fs T a1 a2=>?_,?_⟩
  .by_cases hb:b=p
   .subst hb;rw[cw] at e;rw[M];show e
   rw[aY hb] at e;show E.e.s b o e
  .rw[aY (λz=>J (by rw[z];show P))];show E.e.n q S J
  .rcases t j _ h with⟨e,f⟩ | ⟨e,f⟩
   .subst e;cases f;show⟨_,N,by show⟨p,xs,rfl,fU.of cw,w.mono v⟩⟩
   let⟨u,R,Q⟩:=E.fz j d f;show⟨u,R,Q.mono v⟩
  .rcases t j _ h with⟨e,f⟩ | ⟨e,f⟩
   .cases f
   let⟨r,B,A,F,I,D,V⟩:=E.ow j x f;have aP:r≠p:=λz=>by
    subst z;show E.dj i j ds x e hg f (by rw[N,A])
   show⟨r,B,A,F,by rw[aY aP];show I,D,V.mono v⟩
  .rcases t j _ a1 with⟨_,f⟩ | ⟨e,f⟩
   .cases f
   rcases t k _ a2 with⟨_,C⟩ | ⟨e3,C⟩
   .cases C
   show E.dj j k x fs T f C
  let⟨own,X,O⟩:=E.on;show⟨own,λj x r h hp=>?_,λj o h=>?_⟩
  .grind
  rcases t j _ h with⟨_,f⟩ | ⟨e,f⟩
  .cases f
  let⟨r,fp,A,F,I,D⟩:=O j o f;show⟨r,fp,A,F,I.mono v λq _ u e=>e,λq m=>⟨?_,(D q m).2⟩⟩;rw[aY λz=>?_];all_goals grind
 .rename_i o hg;let⟨own,X,O⟩:=E.on;let⟨p,fp,N,M,y,P⟩:=O i o hg;have bj:i<ρ.length:=t4 hg ∅;have hn:∀q∈p::fp,G q=none:=λq m=>(P q m).1
  have v:aZ G (jH G H (p::fp)):=wK hn;have t:∀j s,gt (ρ.set i (.fz o.val)) j=s->(i=j/\s=.fz o.val)\/(i≠j/\gt ρ j=s):=λj s e=>by
   rw[mn] at e;grind
  suffices W:aS K G0 H0 (ρ.set i (.fz o.val)) σ (jH G H (p::fp)) H from⟨p::fp,hn,W,λhd q m=>by
   rcases hd o hg with⟨kvs,rfl⟩ | ⟨dss,rfl⟩ | ⟨a,dss,rfl⟩
   .obtain⟨rfl,ks,U,w,_⟩:=y;simp only[dD] at m;rw[m];show⟨(by rw[w];show nofun),λB e=>by rcases e with e | ⟨_,e⟩<;>(rw[w] at e;cases e)⟩
   .obtain⟨zs,w⟩:∃zs,H q\.lst zs:=by
     rcases bx.mp m with rfl | m
     .exact⟨_,y.1⟩
     show bU.LC y.2 q m
    show⟨(by rw[w];show nofun),λB e=>by rcases e with e | ⟨_,e⟩<;>(rw[w] at e;cases e)⟩
   .obtain⟨zs,w⟩:∃zs,H q\.lst zs:=by
     rcases bx.mp m with rfl | m
     .exact⟨_,y.2.1⟩
     show bU.LC y.2.2 q m
    show⟨(by rw[w];show nofun),λB e=>by rcases e with e | ⟨_,e⟩<;>(rw[w] at e;cases e)⟩,λo' r _ e=>by rw[N] at e;cases e;room⟩
  show⟨⟨E.e.g.trans v,E.e.h,λb u e=>?_,λq S J=>?_⟩,by simp[E.len],λj d h=>?_,λj x h=>?_,λj k x fs T a1 a2=>?_,own,λj x r h hp=>?_,λj o' h=>?_⟩
  .by_cases hb:b∈p::fp
   .rw[mq hb] at e;show e
   rw[nh hb] at e;show E.e.s b u e
  .rw[nh (λz=>J (P q z).2.1)];show E.e.n q S J
  .rcases t j _ h with⟨e,f⟩ | ⟨e,f⟩
   .subst e;cases f;show⟨_,N,y.freeze hn⟩
   let⟨u,R,Q⟩:=E.fz j d f;show⟨u,R,Q.mono v⟩
  .rcases t j _ h with⟨e,f⟩ | ⟨e,f⟩
   .cases f
   let⟨r,B,A,F,I,D,V⟩:=E.ow j x f;show⟨r,B,A,F,?_,D,V.mono v⟩;rw[nh λz=>?_];all_goals grind
  .rcases t j _ a1 with⟨_,f⟩ | ⟨e,f⟩
   .cases f
   rcases t k _ a2 with⟨_,C⟩ | ⟨e3,C⟩
   .cases C
   show E.dj j k x fs T f C
  .grind
  rcases t j _ h with⟨_,f⟩ | ⟨e,f⟩
  .cases f
  let⟨r,cH,A,F,I,D⟩:=O j o' f;show⟨r,cH,A,F,I.mono v λq _ u e=>e,λq m=>⟨?_,(D q m).2⟩⟩;rw[nh λz=>?_];all_goals grind
 rename_i Z Y;have U:jH G H []=G:=by funext a;show nh ∅
 grind
theorem aS.A0(i)(E:aS K G0 H0 ρ σ G H):∃L:List ae,(∀q∈L,G q=none)/\aS K G0 H0 (eT i ρ) σ (jH G H L) H/\((∀o,gt ρ i=.ov o->(∃kvs,o=.dc kvs)\/(∃dss,o=.ll dss)\/∃a dss,o=.li a dss)->∀q∈L,H q≠none/\∀xs,¬Rd H q (.tup xs)):=
 let⟨L,a,b,c,_⟩:=E.XW i
 ⟨L,a,b,c⟩
theorem aS.freeze(i)(E:aS K G0 H0 ρ σ G H):∃G',aS K G0 H0 (eT i ρ) σ G' H/\aZ G G':=
 let⟨L,a,b,_⟩:=E.A0 i
 ⟨_,b,wK a⟩
theorem aS.change(E:aS K G0 H0 ρ σ G H)(hg:gt ρ i=.ow ds)(A:σ[i]?\some (.ref p))(O:av K G w t) :
  aS K G0 H0 (ρ.set i (.ow t)) σ G (upd H p (.lst w)):=by
 let⟨c,M,L,Y,J,I,X⟩:=E.ow i ds hg;rw[A] at L;cases L;have W:i<ρ.length:=t4 hg ∅;have f:∀j s,gt (ρ.set i (.ow t)) j=s->(i=j/\s=.ow t)\/(i≠j/\gt ρ j=s):=λj s e=>by
  rw[mn] at e;grind
 have P:aZ G (upd H p (.lst w)):=λb o e=>by rw[aY (e9 e J)];show E.e.s b o e
 show⟨⟨E.e.g,λb o e=>by rw[aY (e9 e I)];show E.e.h b o e,P,E.e.n⟩,by simp[E.len],λj d h=>?_,λj l h=>?_,λj k l fs v a1 a2=>?_,?_⟩
 .rcases f j _ h with⟨_,a⟩ | ⟨e,a⟩
  .cases a
  show E.fz j d a
 .rcases f j _ h with⟨e,a⟩ | ⟨e,a⟩
  .subst e;cases a;show⟨p,w,A,cw,J,I,O⟩
  let⟨c,y,x,F,C,B,Q⟩:=E.ow j l a;have R:c≠p:=λz=>by
   subst z;show E.dj i j ds l e hg a (by rw[A,x])
  show⟨c,y,x,by rw[aY R];show F,C,B,Q⟩
 .rcases f j _ a1 with⟨e,a⟩ | ⟨e,a⟩
  .subst e;rcases f k _ a2 with⟨m,r⟩ | ⟨m,r⟩
   .exact absurd m v
   show E.dj i k ds fs v hg r
  rcases f k _ a2 with⟨m,r⟩ | ⟨m,r⟩
  .subst m;show E.dj j i l ds v a hg
  show E.dj j k l fs v a r
 let⟨own,S,N⟩:=E.on;show⟨own,λj l c h U=>?_,λj o h=>?_⟩
 .grind
 rcases f j _ h with⟨_,a⟩ | ⟨e,a⟩
 .cases a
 let⟨c,fp,x,F,C,B⟩:=N j o a;show⟨c,fp,x,F,C.mono (aZ.refl _) λq T u m=>?_,B⟩;rw[aY λz=>?_];all_goals grind
theorem aS.sN(E:aS K G0 H0 ρ σ G H)(hg:gt ρ i=.ov o)(J:σ[i]?\some (.ref p))
  (R:∀fp,(p::fp).Nodup->lW K G H p fp o->∃l,(p::l).Nodup/\lW K G H' p l o'/\(∀q∈p::l,q∈p::fp\/H q=none)/\∀b,b∉p::fp->H b≠none->H' b=H b) :
  aS K G0 H0 (ρ.set i (.ov o')) σ G H':=by
 let⟨own,X,I⟩:=E.on;let⟨D,fp,O,W,V,t⟩:=I i o hg;rw[J] at O;cases O;let⟨l,U,T,N,M⟩:=R fp W V;have bj:i<ρ.length:=t4 hg ∅;have f:∀j s,gt (ρ.set i (.ov o')) j=s->(i=j/\s=.ov o')\/(i≠j/\gt ρ j=s):=λj s e=>by
  rw[mn] at e;grind
 have hk:∀(F:Hp),(∀q∈p::fp,F q=none)->aZ F H->aZ F H':=λF S s b u e=>by
  have hb:b∉p::fp:=λz=>by rw[S b z] at e;cases e
  rw[M b hb (by rw[s b u e];show nofun)];show s b u e
 show⟨⟨E.e.g,hk H0 (λq c=>(t q c).2.1) E.e.h,hk G (λq c=>(t q c).1) E.e.s,E.e.n⟩,by simp[E.len],λj d h=>?_,λj m h=>?_,λj k m fs Q a1 a2=>?_,λq=>if q∈p::l then some i else own q,λj m D h Y=>?_,λj w h=>?_⟩
 .rcases f j _ h with⟨_,a⟩ | ⟨e,a⟩
  .cases a
  show E.fz j d a
 .rcases f j _ h with⟨_,a⟩ | ⟨e,a⟩
  .cases a
  let⟨D,xs,C,B,A,r,Z⟩:=E.ow j m a;grind
 .rcases f j _ a1 with⟨_,a⟩ | ⟨e,a⟩
  .cases a
  rcases f k _ a2 with⟨_,x⟩ | ⟨y,x⟩
  .cases x
  show E.dj j k m fs Q a x
 .rcases f j _ h with⟨_,a⟩ | ⟨e,a⟩
  .cases a
  obtain⟨v,xs,C,B,_⟩:=E.ow j m a;grind
 rcases f j _ h with⟨e,a⟩ | ⟨e,a⟩
 .subst e;cases a;show⟨p,l,J,U,T,λq c=>?_⟩;dsimp only;rw[if_pos c];rcases N q c with z | z
  .exact⟨(t q z).1,(t q z).2.1,rfl⟩
  show⟨E.e.s.free z,E.e.h.free z,rfl⟩
 let⟨v,P,C,B,A,r⟩:=I j w a;have L:∀q∈v::P,q∉p::fp:=λq c z=>by
  grind
 show⟨v,P,C,B,A.mono (aZ.refl _) λq c u y=>?_,λq c=>⟨(r q c).1,(r q c).2.1,?_⟩⟩
 .rw[M q (L q c) (by rw[y];show nofun)];show y
 dsimp only;rw[if_neg λz=>?_]
 .exact(r q c).2.2
 rcases N q z with z | z
 .exact L q c z
 show A.here q c z
theorem aS.weak(E:aS K G0 H0 ρ σ G H)(f:ρ'.length=ρ.length)(w:∀i,gt ρ' i=.un\/gt ρ' i=gt ρ i):aS K G0 H0 ρ' σ G H:=by
 have g:∀i s,gt ρ' i=s->s≠.un->gt ρ i=s:=λi s e n=>by
  grind
 show⟨E.e,by rw[f];show E.len,λi d h=>E.fz i d (g i _ h ∅),λi d h=>E.ow i d (g i _ h ∅),λi j ds m c l k=>E.dj i j ds m c (g i _ l ∅) (g j _ k ∅),let⟨own,b,a⟩:=E.on;⟨own,λi ds p h=>b i ds p (g i _ h ∅),λi o h=>a i o (g i _ h ∅)⟩⟩
end
section
variable{X:Cx}{e:ax}{te:TD}
def cu(t u:TX):TX:=λD ρ=>t { D with nx:=u D } ρ
def j7:TX:=λD ρ=>D.nx ρ
theorem cY:fV X [] j7:=⟨_,zrA,λρ σ b a G H D E k h g=>g.nx ρ σ G H (aZ.refl _) k h⟩
theorem aC{st:bE}(n:PX X st t)(m:fV X a u):fV X (st::a) (cu t u):=by
 let⟨t1,j,f⟩:=n;let⟨q,i,e⟩:=m;show⟨_,Dy j i,λρ σ c b G H D E k h g=>f ρ σ c b G H _ _ k h ⟨λρ' o p H' d l h'=>e ρ' o c b p H' D E l h' (g.shift d),g.rt,g.bk,g.ct⟩⟩
theorem aN{st:bE}(c:PX X st t):fV X [st] t:=by
 let⟨t1,b,a⟩:=c;show⟨_,y3 b,a⟩
theorem Jf(i)(h:fV X a t):fV X a (λD ρ=>t D (eT i ρ)):=by
 let⟨t1,d,c⟩:=h;show⟨_,d,λρ σ j f G H D E k h g=>?_⟩;let⟨l,e,b⟩:=k.freeze i;show c _ σ j f l H D E e h (g.shift b)
def iQ(te:TD):TX:=λD ρ=>te ρ D.rt
theorem b9(h:PD X e te):PX X (.Return (some e) pos) (iQ te):=by
 let⟨t,p,q⟩:=h;show⟨_,CZ p,λρ σ d c G H D E k h g=>q ρ σ d c G H _ _ k h λv H' r f x a b=>g.rt v H' r f (k.e.trans x) (a.lQ k.e.h) b⟩
def pI(i:Nat):TX:=λD ρ=>match gt ρ i with
 | .ow ds=>D.rt (.ow ds)
 | _=>False
theorem ug(i)(hN:Nm X i x:=by walk_at"nm"):PX X (.Return (some (.Name x b)) pos) (pI i):=by
 show⟨_,CZ (jL hN),λρ σ q o G H D E k h g=>?_⟩;unfold pI at h;split at h
 .rename_i ds hg;let⟨p,xs,n,m,j,f,d⟩:=k.ow i ds hg;show⟨_,n,g.rt _ H (.ow ds) G k.e ⟨p,xs,rfl,f,j,m,d⟩ h⟩
 show h.elim
def HY(te:TD):TX:=λD ρ=>te ρ λ_=>D.nx ρ
def iA(c:cU)(t u:TX):TX:=λD ρ=>c ρ λb=>if b=true then t D ρ else u D ρ
theorem cS(q:PB X c tc)(ha:fV X a t)(hb:fV X b u):PX X (.If c a b pos) (iA tc t u):=by
 let⟨t0,p,m⟩:=q;let⟨t1,o,l⟩:=ha;let⟨r,n,j⟩:=hb;show⟨_,Ic p o n,λρ σ e d G H D E k h g=>m ρ σ e d G H _ _ k h λb H' i x f=>?_⟩;cases b with
 | true=>show l ρ σ e d i H' D E (k.ext x) f (g.shift x.g)
 | false=>show j ρ σ e d i H' D E (k.ext x) f (g.shift x.g)
def nZ(i:Nat)(te:TD):TX:=λD ρ=>te ρ λr=>D.nx (ρ.set i r.sl)
theorem gI(i)(l:PD X e te)(hN:X.N.Nodup:=by assumption)(hi:X.N[i]?\x:=by rfl)(c:Loc X.env.scope x:=by first | show Or.inl rfl | show Or.inr rfl)(d:swapsWith e (some (.Name x a)) pos.line X.env=pure false:=by rfl)(j:X.fn x=true\/X.env.scope.names.lookup x\.local:=by first | show .inl rfl | show .inr rfl | assumption) :
  PX X (.Assign [.Name x a] e pos) (nZ i te):=by
 let⟨t,p,q⟩:=l;show⟨_,Sj hN hi c p d j,λρ σ n m G H D E k h g=>q ρ σ n m G H _ _ k h λv H' r o x b f=>g.nx _ _ o H' x.g (k.put x b) f⟩
def fX(i:Nat)(te:TD):TX:=λD ρ=>te ρ λr=>D.nx (ρ.set i (.fz r.val))
theorem bu(i)(n:PD X e te)(hN:X.N.Nodup:=by assumption)(hi:X.N[i]?\x:=by rfl)(f:Loc X.env.scope x:=by first | show Or.inl rfl | show Or.inr rfl)(j:swapsWith e (some (.Name x a)) pos.line X.env=pure false:=by rfl)(m:X.fn x=true\/X.env.scope.names.lookup x\.local:=by first | show .inl rfl | show .inr rfl | assumption) :
  PX X (.Assign [.Name x a] e pos) (fX i te):=by
 let⟨t,p,q⟩:=n;show⟨_,Sj hN hi f p j m,λρ σ u o G H D E k h g=>q ρ σ u o G H _ _ k h λv H' r w x d l=>?_⟩;let⟨s,b,c,z⟩:=d.freeze x;show g.nx _ _ s H' b.g (k.put b (r:=.fz r.val) c) l
def qZ(i:Nat)(te:TD):TX:=λD ρ=>match gt ρ i with
 | .ow ds=>te ρ λr=>ds.length<sizeLine/\D.nx (ρ.set i (.ow (ds++[r.val])))
 | _=>False
theorem om(i)(B:PD X e te)(hN:Nm X i x:=by walk_at"nm")(C:starEach [e] X.env=(false,eval e X.env)::starEach [] X.env:=by rfl)
  (hb:∀{m t},PE X (.Name x n) m->PA X [e] t->PE X (.Call (.Attribute (.Name x n) "append" o) [e] [] b) (w5 X.K "list" uh m t):=by intro m t j f;show yO vJ yy yx wL j f) :
  PX X (.Expr (.Call (.Attribute (.Name x n) "append" o) [e] [] b) pos) (qZ i te):=by
 let⟨t,p,q⟩:=B;show⟨_,rK (hb (jL hN) (fZ p jk C)),λρ σ J F G H D E k h g=>?_⟩;unfold qZ at h;split at h
 .rename_i ds hg;let⟨a,xs,j,f,M,L,u⟩:=k.ow i ds hg;show⟨_,j,.inl ⟨rfl,xs,bM.of f⟩,?_⟩;show q ρ σ J F G H _ _ k h λv H' r N w z s=>?_
  obtain⟨I,d,y,_⟩:=z.freeze w;have A:=k.ext d;show⟨a,xs,v,rfl,rfl,d.h _ _ f,by rw[u.length];show s.1,?_⟩;show g.nx _ _ I _ d.g (A.change hg j ((u.mono d.g).append (av.cons y av.nil))) s.2
 show h.elim
end
section
variable{X:Cx}{tg:ax}
noncomputable abbrev dz:=D->Ev->(Ev->Prop)->Prop
noncomputable abbrev m3:=List D->Ev->(Ev->Prop)->Prop
def oZ(X:Cx)(tg:ax)(g:dz):Prop:=∃a,PG X tg a/\∀ρ σ e c G H d v Q P,aS X.K e c ρ σ G H->Rep X.K G v d->g d ρ Q->
 (∀ρ' b f H',aS X.K e c ρ' b f H'->Ext G H f H'->Q ρ'->P b H')->a v σ H P
def Cs(X:Cx)(a:List ax)(g:m3):Prop:=∃c,Ba X a c/\∀ρ σ f e G H ds b Q P,aS X.K f e ρ σ G H->av X.K G b ds->g ds ρ Q->
 (∀ρ' d h H',aS X.K f e ρ' d h H'->Ext G H h H'->Q ρ'->P d H')->c b σ H P
def jI(i:Nat):dz:=λd ρ Q=>Q (ρ.set i (.fz d))
theorem ba(i)(hN:X.N.Nodup:=by assumption)(hi:X.N[i]?\x:=by rfl)(a:Loc X.env.scope x:=by first | show Or.inl rfl | show Or.inr rfl)(b:X.fn x=true\/X.env.scope.names.lookup x\.local:=by first | show .inl rfl | show .inr rfl | assumption):oZ X (.Name x pos) (jI i):=
 ⟨_,Th hN hi a b,λρ σ f c G H d v Q P E r h k=>k _ _ G H (E.put (.refl E.e.s) (r:=.fz d) r) (.refl E.e.s) h⟩
noncomputable def lF:m3:=λds ρ Q=>match ds with
 | []=>Q ρ
 | _=>False
noncomputable def iw(t:dz)(u:m3):m3:=λds ρ Q=>match ds with
 | d::r=>t d ρ λρ'=>u r ρ' Q
 | []=>False
theorem kQ:Cs X [] lF:=by
 show⟨_,zrC,λρ σ c b G H ds a Q P E r h k=>?_⟩;unfold lF at h;split at h
 .cases a with
  | nil=>show⟨rfl,k _ _ G H E (.refl E.e.s) h⟩
  | cons=>simp![av] at r
 show h.elim
theorem c8(q:oZ X e t)(p:Cs X b u)(n:(assignEach (e::b) X.env).map (·.2)=assign e X.env::(assignEach b X.env).map (·.2):=by rfl):Cs X (e::b) (iw t u):=by
 let⟨t1,m,j⟩:=q;let⟨I,l,i⟩:=p;show⟨_,zo5 m l n,λρ σ d c G H ds a Q P E r h k=>?_⟩;unfold iw at h;split at h
 .cases a with
  | nil=>simp![av] at r
  | cons v a=>
   show⟨v,a,rfl,j ρ σ d c G H _ v _ _ E r.1 h λρ' z C H' F x o=>?_⟩;show i ρ' z d c C H' _ a Q P F (r.2.mono x.g) o λy s B A D f w=>k y s B A D (x.trans f) w
 show h.elim
def n6(n:Nat)(t:m3):dz:=λd ρ Q=>match d with
 | .tup ds=>ds.length=n/\t ds ρ Q
 | _=>False
theorem kP(i:X.calm=true)(h:Cs X b t)(hn:(assignEach b X.env).length=n:=by rfl)(j:(assignEach b X.env).findIdx? (·.1)=none:=by rfl):oZ X (.Tuple b k pos) (n6 n t):=by
 let⟨t1,f,c⟩:=h;show⟨_,ztI i f hn j,λρ σ m l G H d v Q P E r h k=>?_⟩;unfold n6 at h;split at h
 .let⟨a,xs,rfl,g,rs⟩:=r;show⟨a,xs,rfl,E.e.s.nq g,by rw[rs.length];show h.1,c ρ σ m l G H _ xs Q P E rs h.2 k⟩
 show h.elim
def Walk(K:ar)(J:It)(G:Hp)(ds:List D):Prop:=
 (∀i d a H',ds[i]?\d->aZ G a->aZ a H'->J.go i H'/\∀v b,J.DV i H' v b->∃c,Ext a H' c b/\Rep K c v d)/\∀a H',aZ G a->aZ a H'->J.stop ds.length H'
noncomputable abbrev eU:=Ev->(List D->Prop)->Prop
def PId(X:Cx)(tg a:ax)(c:eU):Prop:=∃ww,PI X tg a ww/\∀ρ σ e d G H Q P,aS X.K e d ρ σ G H->c ρ Q->
 (∀J H' ds b,Ext G H b H'->Walk X.K J b ds->Q ds->P J H')->ww σ H P
def wu(d:D)(Q:List D->Prop):Prop:=match d with
 | .lst ds=>Q ds
 | .tup ds=>Q ds
 | .str z=>Q (z.cps.toList.map λc=>.str ⟨#[c]⟩)
 | _=>False
def yG(te:TD):eU:=λρ Q=>te ρ λr=>wu r.val Q
theorem U6{K:ar}(h:fU K G a xs)(r:av K G xs ds):Walk K (Nx K a) G ds:=by
 show⟨λi d c H' hd s1 s2=>?_,λc H' s1 s2=>⟨xs,(s2.cm (s1.cm h)).sq,by rw[r.length];show aW _⟩⟩;let⟨v,hv,f⟩:=r.get hd;have b:bM K H' a xs:=(s2.cm (s1.cm h)).sq;show⟨⟨xs,v,b,hv⟩,λu j g=>?_⟩;let⟨e,y⟩:=g;subst e;have:=y xs b;rw[hv] at this;cases this;show⟨c,.refl s2,f.mono s1⟩
theorem zpr{K:ar}(h:bF K G a xs)(r:av K G xs ds):Walk K (Nw K a) G ds:=by
 show⟨λi d c H' hd s1 s2=>?_,λc H' s1 s2=>⟨xs,s2.kW (s1.kW h),by rw[r.length];show aW _⟩⟩;let⟨v,hv,f⟩:=r.get hd;have b:bF K H' a xs:=s2.kW (s1.kW h);show⟨⟨xs,v,b,hv⟩,λu j g=>?_⟩;let⟨e,y⟩:=g;subst e;have:=y xs b;rw[hv] at this;cases this;show⟨c,.refl s2,f.mono s1⟩
theorem zps{K:ar}(z):Walk K (Fi z) G (z.cps.toList.map λc=>.str ⟨#[c]⟩):=by
 show⟨λi d f H' hd s1 s2=>?_,λf H' s1 s2=>?_⟩
 .rw[bW] at hd;cases e:z.cps.toList[i]? with
  | none=>rw[e] at hd;cases hd
  | some c=>
   rw[e] at hd;cases hd;have b:z.cps[i]?\c:=by simpa using e
   show⟨(yz.mp b).1,λv k g=>?_⟩;let⟨h,j,a,rfl⟩:=g;subst h;rw[b] at a;cases a;show⟨f,.refl s2,y7 _ _ _⟩
 show _=_;show aO ..
theorem Vq{K:ar}(lo n):Walk K (Bc lo n) G ((aI n).map λ(i:Nat)=>.int (lo+i)):=by
 show⟨λi d a H' hd s1 s2=>?_,λa H' s1 s2=>?_⟩
 .rw[bW] at hd;cases e:(aI n)[i]? with
  | none=>rw[e] at hd;cases hd
  | some c=>
   rw[e] at hd;cases hd;let⟨j,h⟩:=cf.mp e;have g:i<n:=by simpa using j
   have f:c=i:=by rw[<-h];simp
   subst f;show⟨g,λv l b=>?_⟩;let⟨k,rfl⟩:=b;subst k;show⟨a,.refl s2,eQ _ _ _⟩
 show n<=_;simp
noncomputable def og(ds:List D):List D:=ds.mapIdx λi d=>.tup [.int (i:Nat),d]
theorem Jq{K:ar}(a:G t\.tup [x,y])(r1:Rep K G x d)(b:Rep K G y e):Rep K G (.ref t) (.tup [d,e]):=by
 show⟨t,[x,y],rfl,a,av.cons r1 (av.cons b av.nil)⟩
theorem zmM{K:ar}(h:fU K G a xs)(r:av K G xs ds):Walk K (Ny K a) G (og ds):=by
 show⟨λi d b H' hd s1 s2=>?_,λb H' s1 s2=>⟨xs,(s2.cm (s1.cm h)).sq,by rw[r.length];simp[og]⟩⟩;unfold og at hd;rw[Qk] at hd;cases e:ds[i]? with
 | none=>rw[e] at hd;cases hd
 | some d'=>
  rw[e] at hd;cases hd;let⟨v,hv,k⟩:=r.get e;have j:bM K H' a xs:=(s2.cm (s1.cm h)).sq;show⟨⟨xs,v,j,hv⟩,λu m l=>?_⟩;let⟨t,rfl,ht,y⟩:=l;let⟨x,f,rfl⟩:=y xs j;rw[hv] at f;cases f;have c:Ext b H' (upd b t (.tup [.int i,v])) (upd H' t (.tup [.int i,v])):=.new s2 ht;show⟨_,c,Jq cw (eQ _ _ _) ((k.mono s1).mono c.g)⟩
noncomputable def lE(ds a:List D):List D:=List.zipWith (λd e=>.tup [d,e]) ds a
theorem Uj{K:ar}(h:fU K G a xs)(r:av K G xs ds)(h':fU K G b ys)(m:av K G ys j):Walk K (Fh K a b) G (lE ds j):=by
 show⟨λi d l H' hd s1 s2=>?_,λl H' s1 s2=>⟨xs,ys,(s2.cm (s1.cm h)).sq,(s2.cm (s1.cm h')).sq,?_⟩⟩
 .unfold lE at hd;rw[Qt] at hd;cases e:ds[i]? with
  | none=>rw[e] at hd;cases hd
  | some d'=>
   cases k:j[i]? with
   | none=>rw[e,k] at hd;cases hd
   | some C=>
    rw[e,k] at hd;cases hd;let⟨v,hv,w⟩:=r.get e;let⟨f,n,A⟩:=m.get k;have p:bM K H' a xs:=(s2.cm (s1.cm h)).sq;have q:bM K H' b ys:=(s2.cm (s1.cm h')).sq;show⟨⟨xs,ys,v,f,p,q,hv,n⟩,λu E z=>?_⟩;let⟨t,rfl,ht,y⟩:=z;let⟨x,B,o,s,rfl⟩:=y xs ys p q;rw[hv] at o;rw[n] at s;cases o;cases s;have c:Ext l H' (upd l t (.tup [v,f])) (upd H' t (.tup [v,f])):=.new s2 ht;show⟨_,c,Jq cw ((w.mono s1).mono c.g) ((A.mono s1).mono c.g)⟩
 rw[r.length,m.length];unfold lE;rw[P6];lia
theorem cM(h:PD X l te):PId X tg l (yG te):=by
 let⟨t,p,q⟩:=h;show⟨_,Sb p,λρ σ n m G H Q P E h k=>q ρ σ n m G H _ _ E h λv H' r o x j c=>?_⟩;obtain⟨i,d,b,_⟩:=j.freeze x;unfold wu at c;split at c
 .rename_i ds e;rw[e] at b;let⟨a,xs,rfl,f,g⟩:=b;show .inl ⟨a,rfl,⟨xs,(d.s.cm f).sq⟩,k _ H' _ i d (U6 f g) c⟩
 .rename_i ds e;rw[e] at b;let⟨a,xs,rfl,f,g⟩:=b;show .inr (.inl ⟨a,rfl,⟨xs,d.s.nq f⟩,k _ H' _ i d (zpr (bF.of f) g) c⟩)
 .rename_i z e;rw[e] at b;show .inr (.inr ⟨z,b,k _ H' _ i d (zps z) c⟩)
 show c.elim
def RB(ts:dg):eU:=λρ Q=>ts ρ λds=>match ds with
 | [.int j]=>-(2 ^ 62)<=j/\j<2 ^ 62/\Q ((aI j.toNat).map λ(i:Nat)=>.int (0+i))
 | _=>False
theorem iu{K:ar}(h:av K G a [d]):∃v,a=[v]/\Rep K G v d:=by
 match a,h with
 | [],h=>simp![av] at h
 | [v],h=>show⟨v,rfl,h.1⟩
 | v::w::r,h=>simp![av] at h;show absurd h.2 ∅
theorem vV{K:ar}(h:av K G a [d,e]):∃v w,a=[v,w]/\Rep K G v d/\Rep K G w e:=by
 match a,h with
 | [],h=>simp![av] at h
 | v::r,h=>
  let⟨w,rfl,hw⟩:=iu h.2;show⟨v,w,rfl,h.1,hw⟩
theorem ni(hm:X.mg "range"=none)(ha:ik X [a] ts)(hg:Gl X "range":=by rfl)(d:starEach [a] X.env=[(false,eval a X.env)]:=by rfl):PId X tg (.Call (.Name "range" p) [a] [] pos) (RB ts):=by
 let⟨t,pp,q⟩:=ha;show⟨_,zmm hg hm pp d,λρ σ f e G H Q P E h k=>q ρ σ f e G H _ _ E h λi H' ds g x rs b=>?_⟩;split at b
 .let⟨v,rfl,c⟩:=iu rs;subst c;show⟨_,rfl,b.1,b.2.1,k _ H' _ g x (Vq 0 _) b.2.2⟩
 show b.elim
def RA(ts:dg):eU:=λρ Q=>ts ρ λds=>match ds with
 | [.int i,.int j]=>(-(2 ^ 62)<=i/\i<2 ^ 62/\-(2 ^ 62)<=j/\j<2 ^ 62)/\Q ((aI (j-i).toNat).map λ(n:Nat)=>.int (i+n))
 | _=>False
theorem zlA(hm:X.mg "range"=none)(ha:ik X [a,b] ts)(hg:Gl X "range":=by rfl)(f:starEach [a,b] X.env=[(false,eval a X.env),(false,eval b X.env)]:=by rfl)(e:starEach [b] X.env=[(false,eval b X.env)]:=by rfl):PId X tg (.Call (.Name "range" p) [a,b] [] pos) (RA ts):=by
 let⟨t,pp,q⟩:=ha;show⟨_,zmn hg hm pp f e,λρ σ j i G H Q P E h k=>q ρ σ j i G H _ _ E h λn H' ds l x rs c=>?_⟩;split at c
 .let⟨v,m,rfl,d,g⟩:=vV rs;subst d g;show⟨_,_,rfl,c.1,k _ H' _ l x (Vq _ _) c.2⟩
 show c.elim
def Ry(ts:dg):eU:=λρ Q=>ts ρ λds=>match ds with
 | [.lst a]=>Q (og a)
 | _=>False
theorem wG(hm:X.mg "enumerate"=none)(ha:ik X [a] ts)(hg:Gl X "enumerate":=by rfl)(g:starEach [a] X.env=[(false,eval a X.env)]:=by rfl):PId X (.Tuple b e tp) (.Call (.Name "enumerate" p) [a] [] pos) (Ry ts):=by
 let⟨t,pp,q⟩:=ha;show⟨_,zrV hg hm pp g,λρ σ l j G H Q P E h k=>q ρ σ l j G H _ _ E h λn H' ds m x rs c=>?_⟩;split at c
 .let⟨v,rfl,f⟩:=iu rs;let⟨a,xs,rfl,d,i⟩:=f;show⟨a,xs,rfl,x.s.cm d,k _ H' _ m x (zmM d i) c⟩
 show c.elim
def Ro(ts:dg):eU:=λρ Q=>ts ρ λds=>match ds with
 | [.lst a,.lst fs]=>Q (lE a fs)
 | _=>False
theorem zr0(hm:X.mg "zip"=none)(ha:ik X [a,b] ts)(hg:Gl X "zip":=by rfl)(l:starEach [a,b] X.env=[(false,eval a X.env),(false,eval b X.env)]:=by rfl)(j:starEach [b] X.env=[(false,eval b X.env)]:=by rfl) :
  PId X (.Tuple c g tp) (.Call (.Name "zip" p) [a,b] [] pos) (Ro ts):=by
 let⟨t,pp,q⟩:=ha;show⟨_,zt4 hg hm pp l j,λρ σ u r G H Q P E h k=>q ρ σ u r G H _ _ E h λz H' ds w x rs d=>?_⟩;split at d
 .let⟨v,y,rfl,i,o⟩:=vV rs;let⟨a,xs,rfl,f,n⟩:=i;let⟨b,ys,rfl,e,m⟩:=o;show⟨a,b,rfl,⟨xs,(x.s.cm f).sq⟩,⟨ys,(x.s.cm e).sq⟩,k _ H' _ w x (Uj f n e m) d⟩
 show d.elim
def rg(a:eU)(g:dz)(b:TX):TX:=λD ρ=>a ρ λds=>∃Iv:Nat->Ev->Prop,Iv 0 ρ/\
 (∀i d ρ',ds[i]?\d->Iv i ρ'->g d ρ' λc=>b { D with nx:=Iv (i+1),ct:=Iv (i+1),bk:=D.nx } c)/\∀ρ',Iv ds.length ρ'->D.nx ρ'
theorem fb(hp:PassesOwn (model X.prog X.w) X.A X.env X.xe)(hc:X.calm=true)(hi:PId X tg a O)(hg:oZ X tg g)(hb:fV X body P)
  (hs:∀x,foldedSetIterable a X.env x=pure x:=by intro _;rfl):PX X (.For tg a body [] pos) (rg O g P):=by
 let⟨t1,p1,q1⟩:=hi;let⟨t2,p2,Z⟩:=hg;let⟨t3,p3,Y⟩:=hb;show⟨_,ztN hp hc p1 p2 p3 hs,λρ σ p n G H D E k h F=>q1 ρ σ p n G H _ _ k h λJ H1 ds y z N hq=>?_⟩;let⟨Iv,i0,turn,fin⟩:=hq;show⟨λi m u H'=>m=ds.length-i/\i<=ds.length/\∃ρ' c,aS X.K p n ρ' u c H'/\aZ y c/\Iv i ρ',⟨ds.length,∅,du _,ρ,y,k.ext z,aZ.refl _,i0⟩,?_⟩;rintro i m u H' ⟨rfl,hi,ρ',c,r,q,iv⟩;by_cases I:i<ds.length
 .let⟨V,w2⟩:=N;let⟨go,S⟩:=V i ds[i] c H' (bC I) q r.e.s;show .inr ⟨go,λQ l=>∃t b,aS X.K p n t Q b l/\aZ y b/\Iv (i+1) t,λQ l ⟨t,b,k2,s2,C⟩=>⟨ds.length-(i+1),by grind,rfl,I,t,b,k2,s2,C⟩,λv l hy=>?_⟩;let⟨b,M,W⟩:=S v l hy;show Z ρ' u p n b l ds[i] v _ _ (r.ext M) W (turn i ds[i] ρ' (bC I) iv) λT l4 R H3 k3 U bp=>?_
  have s3:aZ y R:=(q.trans M.g).trans U.g;show Y T l4 p n R H3 _ _ k3 bp ⟨λd B o L s4 f j=>⟨d,o,f,s3.trans s4,j⟩,F.rt,λd B o L s4 f j=>F.nx d B o L ((z.g.trans s3).trans s4) f j,λd B o L s4 f j=>⟨d,o,f,s3.trans s4,j⟩⟩
 have e:i=ds.length:=by lia
 subst e;show .inl ⟨N.2 c H' q r.e.s,F.nx ρ' u c H' (z.g.trans q) r (fin ρ' iv)⟩
def Sq(c:cU)(e:TX):TX:=λD ρ=>∃W:Nat->Ev->Prop,(∃m,W m ρ)/\∀m ρ',W m ρ'->c ρ' λb=>if b=true then e { D with nx:=λd=>∃a,a<m/\W a d,ct:=λd=>∃a,a<m/\W a d,bk:=D.nx } ρ' else D.nx ρ'
theorem Jp(P:PassesOwn (model X.prog X.w) X.A X.env X.xe)(Q:PB X c tc)(hb:fV X body y):PX X (.While c body [] pos) (Sq tc y):=by
 let⟨t1,O,M⟩:=Q;let⟨t3,N,L⟩:=hb;show⟨_,zo6 P O N,λρ σ q p G H D E k h u=>?_⟩;obtain⟨W,⟨m0,J⟩,turn⟩:=h;show⟨λm j H'=>∃ρ' r,aS X.K q p ρ' j r H'/\aZ G r/\W m ρ',⟨m0,ρ,G,k,aZ.refl _,J⟩,?_⟩;rintro m j H' ⟨ρ',r,t,z,I⟩;show M ρ' j q p r H' _ _ t (turn m ρ' I) λb l d o B=>?_
 cases b with
 | true=>
  show⟨λC l=>∃a,a<m/\∃F d,aS X.K q p F C d l/\aZ G d/\W a F,λC l R=>R,?_⟩;have s2:aZ G d:=z.trans o.g;show L ρ' j q p d l _ _ (t.ext o) B ⟨λe s n x s4 f v=>by let⟨a,hm,i⟩:=v;show⟨a,hm,e,n,f,s2.trans s4,i⟩,u.rt,λe s n x s4 f i=>u.nx e s n x (s2.trans s4) f i,λe s n x s4 f v=>by let⟨a,hm,i⟩:=v;show⟨a,hm,e,n,f,s2.trans s4,i⟩⟩
 | false=>
  show u.nx ρ' j d l (z.trans o.g) (t.ext o) B
end
noncomputable def qY(ρ:Ev):Option Nat->Sl
 | none=>.un
 | some j=>match gt ρ j with
  | .fz d=>.fz d
  | _=>.un
noncomputable def cF(m:List (Option Nat))(ρ:Ev):Ev:=m.map (qY ρ)
theorem yW{m:List (Option Nat)}{ρ:Ev}{i:Nat}:gt (m.map (qY ρ)) i=match m[i]? with
  | some o=>qY ρ o
  | none=>.un:=by
 induction m generalizing i with
 | nil=>rfl
 | cons a r b=>
  cases i with
  | zero=>rfl
  | succ i=>show b
def jM(m:List (Option Nat))(g:dz):Prop:=∀d ρ Q,g d ρ Q->g d ρ λa=>Q a/\a.length=ρ.length/\∀j c,m[j]?\some c->gt a j=gt ρ j
def Dc(m:List (Option Nat))(g:m3):Prop:=∀ds ρ Q,g ds ρ Q->g ds ρ λa=>Q a/\a.length=ρ.length/\∀j c,m[j]?\some c->gt a j=gt ρ j
theorem cZ(h:m[i]?\none:=by rfl):jM m (jI i):=λd ρ Q q=>by
 show⟨q,by show tu ..,λj c a=>?_⟩;rw[mn,if_neg];rintro⟨e,_⟩;subst e;rw[h] at a;cases a
theorem Ui:Dc m lF:=λds ρ Q q=>by
 unfold lF at q ⊢;split at q
 .exact⟨q,rfl,λ_ _ _=>rfl⟩
 show q.elim
theorem zB(mono:∀d ρ Q a,(∀ρ',Q ρ'->a ρ')->t d ρ Q->t d ρ a)(p:∀d ρ Q a,(∀ρ',Q ρ'->a ρ')->u d ρ Q->u d ρ a)(o:jM m t)(n:Dc m u):Dc m (iw t u):=λds ρ Q q=>by
 unfold iw at q ⊢;split at q
 .refine mono _ _ _ _ (λρ' b=>?_) (o _ _ _ q);let⟨g,i,l⟩:=b;show p _ _ _ _ (λr b=>by let⟨f,h,k⟩:=b;show⟨f,h.trans i,λj c e=>(k j c e).trans (l j c e)⟩) (n _ _ _ g)
 show q.elim
theorem Uh(a:Dc m u):jM m (n6 n u):=λd ρ Q q=>by
 unfold n6 at q ⊢;split at q
 .exact⟨q.1,a _ _ _ q.2⟩
 show q.elim
theorem pS:∀d ρ Q a,(∀ρ',Q ρ'->a ρ')->jI i d ρ Q->jI i d ρ a:=λ_ _ _ _ h q=>h _ q
theorem zl:∀d ρ Q a,(∀ρ',Q ρ'->a ρ')->lF d ρ Q->lF d ρ a:=λ_ _ _ _ h q=>by
 unfold lF at q ⊢;split at q
 .exact h _ q
 show q.elim
theorem DN(mono:∀d ρ Q a,(∀ρ',Q ρ'->a ρ')->t d ρ Q->t d ρ a)(c:∀d ρ Q a,(∀ρ',Q ρ'->a ρ')->u d ρ Q->u d ρ a):∀d ρ Q a,(∀ρ',Q ρ'->a ρ')->iw t u d ρ Q->iw t u d ρ a:=λ_ _ _ _ h q=>by
 unfold iw at q ⊢;split at q
 .exact mono _ _ _ _ (λρ' b=>c _ _ _ _ h b) q
 show q.elim
theorem JY(h:m[i]?\none:=by rfl)(h':m[j]?\none:=by rfl):jM m (n6 n (iw (jI i) (iw (jI j) lF))):=
 Uh (zB pS (DN pS zl) (cZ h) (zB pS zl (cZ h') Ui))
theorem VB(h:m[i]?\none:=by rfl)(h':m[j]?\none:=by rfl)(a:m[k]?\none:=by rfl):jM m (n6 n (iw (jI i) (iw (jI j) (iw (jI k) lF)))):=
 Uh (zB pS (DN pS (DN pS zl)) (cZ h) (zB pS (DN pS zl) (cZ h') (zB pS zl (cZ a) Ui)))
def qv(X:Cx)(a:List ax)(t:cU):Prop:=∃tt,sS X a tt/\∀ρ σ d c G H Q P,aS X.K d c ρ σ G H->t ρ Q->
 (∀b H' e,Ext G H e H'->Q b->P b H')->tt σ H P
def qX:cU:=λ_ Q=>Q true
theorem eP:qv X [] qX:=⟨_,zrS,λρ σ b a G H Q P E h k=>k true H G (.refl E.e.s) h⟩
theorem rH(h:PB X c t):qv X [c] t:=let⟨tt,p,q⟩:=h;⟨tt,zrT p,q⟩
def kL(c:eU)(m:List (Option Nat))(g:dz)(tc:cU)(te:TD):TD:=λρ Q=>c ρ λds=>∃Iv:Nat->List D->Prop,Iv 0 []/\
 (∀i d acc,ds[i]?\d->Iv i acc->g d (cF m ρ) λa=>tc a λb=>if b=true then te a λr=>acc.length<sizeLine/\Iv (i+1) (acc++[r.val]) else Iv (i+1) acc)/\∀acc,Iv ds.length acc->Q (.ow acc)
theorem LD:gt (cF m ρ) i=.un\/∃j d,m[i]?\some j/\gt ρ j=.fz d/\gt (cF m ρ) i=.fz d:=by
 unfold cF;rw[yW];match m[i]? with
 | none=>show .inl rfl
 | some none=>show .inl rfl
 | some (some j)=>
  unfold qY;dsimp only;split
  .rename_i d h;show .inr ⟨j,d,rfl,h,rfl⟩
  show .inl rfl
def vd(ρ:Ev):Prop:=∀i,gt ρ i=.un\/∃d,gt ρ i=.fz d
theorem Wy:vd (cF m ρ):=λ_=>LD.imp id λ⟨_,d,_,_,h⟩=>⟨d,h⟩
theorem vd.ow(b:vd ρ)(h:gt ρ i=.ow a):False:=by
 rcases b i with e | ⟨d,e⟩<;>rw[e] at h<;>cases h
theorem vd.ov(b:vd ρ)(h:gt ρ i=.ov o):False:=by
 rcases b i with e | ⟨d,e⟩<;>rw[e] at h<;>cases h
theorem vd.X5{K:ar}(b:vd ρ)(e:Ext g c G H)(l:a.length=ρ.length)(f:∀i d,gt ρ i=.fz d->∃v,a[i]?\some v/\Rep K G v d):aS K g c ρ a G H:=
 ⟨e,l,f,λ_ _ h=>(b.ow h).elim,λ_ _ _ _ _ h=>(b.ow h).elim,λ_=>none,λ_ _ _ h=>(b.ow h).elim,λ_ _ h=>(b.ov h).elim⟩
theorem Ext.aad(x:Ext G H a H')(h:H p=none)(g:a p=none):Ext G H a (upd H' p o):=
 ⟨x.g,λb u e=>by rw[aY (e9 e h)];show x.h b u e,λb u e=>by rw[aY (e9 e g)];show x.s b u e,x.n⟩
structure vb(K:ar)(α:Type) where
 B:Hp->Hp->List V->List ae->List α->Prop
 sel:R->(α->Prop)->Prop
 res:List α->R
 nil:∀G H,B G H [] [] []
 len:∀{G H xs fp acc},B G H xs fp acc->xs.length=acc.length
 here:∀{G H xs fp acc},B G H xs fp acc->∀q∈fp,H q≠none
 mono:∀{G H G' H' xs fp acc},aZ G G'->(∀q∈fp,∀u,H q\u->H' q\u)->B G H xs fp acc->B G' H' xs fp acc
 snoc:∀{G H G' H' v r k xs fp acc},Ext G H G' H'->cK K G' H' H v r->sel r k->B G' H' xs fp acc->∃a G2 cH,k a/\Ext G H G2 H'/\B G2 H' (xs++[v]) (fp++cH) (acc++[a])/\cH.Nodup/\∀q∈cH,H q=none/\G2 q=none
 fin:∀{G H H1 D xs fp acc},H D\.lst xs->B G H xs fp acc->(D::fp).Nodup->(∀q∈D::fp,H1 q=none/\G q=none)->cK K G H H1 (.ref D) (res acc)
def zud{K:ar}(C:vb K c)(f:eU)(m:List (Option Nat))(g:dz)(tc:cU)(te:TD):TD:=λρ Q=>f ρ λds=>∃Iv:Nat->List c->Prop,Iv 0 []/\
 (∀i d acc,ds[i]?\d->Iv i acc->g d (cF m ρ) λe=>tc e λb=>if b=true then te e λr=>C.sel r λa=>acc.length<sizeLine/\Iv (i+1) (acc++[a]) else Iv (i+1) acc)/\∀acc,Iv ds.length acc->Q (C.res acc)
structure vb.At{K:ar}{α:Type}(C:vb K α)(G1 H1:Hp)(ρ:Ev)(D:ae)(Iv:List α->Prop)(σ:St)(H:Hp)(acc:List α)(xs:List V)(fp:List ae)(G:Hp):Prop where
 e:aS K G1 H1 ρ σ G H
 d:H D\.lst xs
 b:C.B G H xs fp acc
 nd:(D::fp).Nodup
 fr:∀q∈D::fp,H1 q=none/\G q=none
 iv:Iv acc
section
variable{X:Cx}{m:List (Option Nat)}{g:dz}
theorem Jo(C:vb X.K α)(hk:jM m g)
  (q1:∀ρ o I F G H Q P,aS X.K I F ρ o G H->wi ρ Q->(∀J H' ds l,Ext G H l H'->Walk X.K J l ds->Q ds->P J H')->ww o H P)
  (q2:∀s3 L ex ρ o I F G H d v Q P,aS X.K I F ρ o G H->Rep X.K G v d->g d ρ Q->(∀ρ' t l H',aS X.K I F ρ' t l H'->Ext G H l H'->Q ρ'->P t H')->gg s3 L ex v o H P)
  (q3:∀s3 L ex ρ o I F G H Q P,aS X.K I F ρ o G H->tc ρ Q->(∀b H' l,Ext G H l H'->Q b->P b H')->jl s3 L ex o H P)
  (q4:∀s3 L ex ρ' t p H1 l H' Q' P',Ext G H p H1->aS X.K p H1 ρ' t l H'->te ρ' Q'->(∀v w r Z,Ext l H' Z w->cK X.K Z w H' v r->Q' r->P' v w)->S s3 L ex t H' P')
  (E:aS X.K I F ρ o G H) (h:zud C wi m g tc te ρ Q) (k:∀v H' r l,Ext G H l H'->cK X.K l H' H v r->Q r->P v H'):m4 ww m gg jl S o H P:=by
 show q1 ρ o I F G H _ _ E h λJ H1 ds p M wk f D U s3 ex=>?_
 have MA:p D=none:=M.s.free U;show⟨λi n t H'=>n=ds.length-i/\i<=ds.length/\∃acc xs fp l,C.At p H1 (cF m ρ) D (f.choose i) t H' acc xs fp l,
  ⟨ds.length,rfl,du _,[],[],[],p,?_,cw,C.nil _ _,gu _ _,λq f=>?_,f.choose_spec.1⟩,?_⟩
 .refine Wy.X5 (.own M.s U) (by simp[oJ,cF]) λi d h=>?_
  rcases LD (m:=m) (ρ:=ρ) (i:=i) with e | ⟨j,d',e1,e2,e3⟩
  .rw[e] at h;cases h
  let⟨v,hv,rv⟩:=(E.ext M).fz j d' e2;rw[e3] at h;cases h;show⟨v,by unfold oJ;rw[bW,e1];simp[hv],rv⟩
 .rw[dD.mp f];show⟨U,MA⟩
 rintro i n t H' ⟨rfl,hi,acc,xs,fp,l,A⟩;by_cases bj:i<ds.length
 .have ht:=bC bj;let⟨go,yl⟩:=wk.1 i ds[i] l H' ht A.e.e.g A.e.e.s;show .inr ⟨go,λgU w=>∃acc xs fp l,C.At p H1 (cF m ρ) D (f.choose (i+1)) gU w acc xs fp l,λgU w T=>⟨ds.length-(i+1),⋯,rfl,bj,T⟩,λv w hy=>?_⟩;let⟨Z,x2,rv⟩:=yl v w hy;show q2 _ _ _ (cF m ρ) t p H1 Z w ds[i] v _ _ (A.e.ext x2) rv (hk _ _ _ (f.choose_spec.2.1 i ds[i] acc ht A.iv)) λxT l4 G3 L E3 x3 bp=>?_
  show q3 _ _ _ xT l4 p H1 G3 L _ _ E3 bp.1 λb H4 Y x4 EA=>?_
  have O:=(x2.trans x3).trans x4;have weak:∀j,gt (cF m ρ) j=.un\/gt (cF m ρ) j=gt xT j:=λj=>by
   rcases LD (m:=m) (ρ:=ρ) (i:=j) with e | ⟨c,d',e1,e2,e3⟩
   .exact .inl e
   show .inr (bp.2.2 j c e1).symm
  have A4:C.B Y H4 xs fp acc:=C.mono O.g (λq _ u e=>O.h _ _ e) A.b;have N:∀q∈D::fp,H1 q=none/\Y q=none/\H4 q≠none:=λq f=>by
   have hn:H' q≠none:=by
    rcases bx.mp f with rfl | f
    .rw[A.d];show nofun
    show C.here A.b q f
   show⟨(A.fr q f).1,O.n q (A.fr q f).2 hn,λz=>hn (O.h.free z)⟩
  have E4:=(E3.ext x4).weak (ρ':=cF m ρ) bp.2.1.symm weak;cases b with
  | false=>show⟨acc,xs,fp,Y,E4,O.h _ _ A.d,A4,A.nd,λq f=>⟨(N q f).1,(N q f).2.1⟩,EA⟩
  | true=>
   show q4 _ _ _ xT l4 p H1 Y H4 _ _ M (E3.ext x4) EA λv5 H5 r5 G5 x5 Ln Az=>?_
   let⟨a,G6,W,ka,x6,B6,fh,MD⟩:=C.snoc x5 Ln Az (C.mono x5.g (λq _ u e=>x5.h _ _ e) A4);have hn:∀q∈D::fp,q∉W:=λq h1 T=>(N q h1).2.2 (MD q T).1
   have EU:∀q∈D::(fp++W),H1 q=none/\G6 q=none:=λq f=>by
    rw[<-vB] at f;rcases cy.mp f with f | f
    .exact⟨(N q f).1,x6.n q (N q f).2.1 (N q f).2.2⟩
    show⟨E4.e.h.free (MD q f).1,(MD q f).2⟩
   have Wg:(D::(fp++W)).Nodup:=by
    rw[<-vB,l5];show⟨A.nd,fh,λx h1 y T e=>hn x h1 (e▸T)⟩
   show⟨xs,x6.h _ _ (O.h _ _ A.d),by rw[C.len A4];show ka.1,acc++[a],xs++[v5],fp++W,G6,?_,cw,C.mono (aZ.refl _) (λq f u e=>?_) B6,Wg,EU,ka.2⟩
   .have E6:=E4.ext x6;show Wy.X5 (E6.e.aad U (EU D (by show .head _)).2) E6.len E6.fz
   rw[aY (λz:q=D=>(dH.mp Wg).1 (z▸f))];show e
 have e:i=ds.length:=by lia
 subst e;show .inl ⟨wk.2 l H' A.e.e.g A.e.e.s,k _ H' (C.res acc) l (M.trans A.e.e) (C.fin A.d A.b A.nd λq f=>⟨M.h.free (A.fr q f).1,(A.fr q f).2⟩) (f.choose_spec.2.2 acc A.iv)⟩
noncomputable def Z4(K):vb K D where
 B:=λG _ xs fp acc=>fp=[]/\av K G xs acc
 sel:=λr k=>k r.val
 res:=.ow
 nil:=λ_ _=>⟨rfl,av.nil⟩
 len:=λh=>h.2.length
 here:=λh q a=>by rw[h.1] at a;cases a
 mono:=λg _ h=>⟨h.1,h.2.mono g⟩
 snoc:=λx i hk h=>by
  let⟨j,c,e,s2⟩:=i.freeze x;show⟨_,j,[],hk,c,⟨by rw[h.1];rfl,(h.2.mono s2).append (av.cons e av.nil)⟩,.nil,λq a=>by cases a⟩
 fin:=λd b _ f=>⟨_,_,rfl,(f _ (lA)).1,(f _ (lA)).2,d,b.2⟩
theorem zpu(B:iI X N' m scope)(hk:jM m g)
  (A:∀ρ c f e G H Q P,aS X.K f e ρ c G H->wi ρ Q->(∀J H' ds a,Ext G H a H'->Walk X.K J a ds->Q ds->P J H')->o c H P)
  (z:∀s3 l ex ρ c f e G H d v Q P,aS X.K f e ρ c G H->Rep X.K G v d->g d ρ Q->(∀ρ' j a H',aS X.K f e ρ' j a H'->Ext G H a H'->Q ρ'->P j H')->q s3 l ex v c H P)
  (y:∀s3 l ex ρ c f e G H Q P,aS X.K f e ρ c G H->tc ρ Q->(∀b H' a,Ext G H a H'->Q b->P b H')->p s3 l ex c H P)
  (x:∀s3 l ex ρ' j w H1 a H' s t,Ext G H w H1->aS X.K w H1 ρ' j a H'->te ρ' s->(∀v n r u,Ext a H' u n->cK X.K u n H' v r->s r->t v n)->i s3 l ex j H' t)
  (E:aS X.K f e ρ c G H) (h:kL wi m g tc te ρ Q) (k:∀v H' r a,Ext G H a H'->cK X.K a H' H v r->Q r->P v H'):m4 o m q p i c H P:=Jo (Z4 X.K) hk A z y x E h k
theorem C9(t:iI X N' m scope)(hk:jM m g)
  (s:∀ρ σ f e G H Q P,aS X.K f e ρ σ G H->wi ρ Q->(∀J H' ds a,Ext G H a H'->Walk X.K J a ds->Q ds->P J H')->l σ H P)
  (r:∀s3 c ex ρ σ f e G H d v Q P,aS X.K f e ρ σ G H->Rep X.K G v d->g d ρ Q->(∀ρ' j a H',aS X.K f e ρ' j a H'->Ext G H a H'->Q ρ'->P j H')->o s3 c ex v σ H P)
  (q:∀s3 c ex ρ σ f e G H Q P,aS X.K f e ρ σ G H->tc ρ Q->(∀b H' a,Ext G H a H'->Q b->P b H')->n s3 c ex σ H P)
  (p:∀s3 c ex,jX X.K te (i s3 c ex)):jX X.K (kL wi m g tc te) (m4 l m o n i):=λρ σ f e G H Q P E h k=>zpu t hk s r q (λs3 c ex ρ' j x H1 a H' u w _=>p s3 c ex ρ' j x H1 a H' u w) E h k
theorem fQ(h:X.calm=true)(c:iI X N' m scope)(hk:jM m g)(hi:PId X tg iter wi)(hg:∀s3 a ex,oZ (fj X N' scope s3 a ex) tg g)(ht:∀s3 a ex,qv (fj X N' scope s3 a ex) ifs tc)
  (b:∀s3 a ex,PD (fj X N' scope s3 a ex) elt te) (f:∀x,foldedSetIterable iter X.env x=pure x:=by intro _;rfl):PD X (.ListComp elt [⟨tg,iter,ifs,0⟩] scope pos) (kL wi m g tc te):=by
 let⟨ww,e,d⟩:=hi;show⟨_,zrU (g:=λs3 a ex=>(hg s3 a ex).choose) (tc:=λs3 a ex=>(ht s3 a ex).choose) (te:=λs3 a ex=>(b s3 a ex).choose) h c e (λs3 a ex=>(hg s3 a ex).choose_spec.1) (λs3 a ex=>(ht s3 a ex).choose_spec.1) (λs3 a ex=>(b s3 a ex).choose_spec.1) f,
  C9 c hk d (λs3 a ex=>(hg s3 a ex).choose_spec.2) (λs3 a ex=>(ht s3 a ex).choose_spec.2) (λs3 a ex=>(b s3 a ex).choose_spec.2)⟩
theorem Tq(i)(u:X.calm=true)(e:iI X N' m scope)(hk:jM m g)(hi:PId X tg iter wi)(hg:∀s3 a ex,oZ (fj X N' scope s3 a ex) tg g)(ht:∀s3 a ex,qv (fj X N' scope s3 a ex) ifs tc)
  (c:∀s3 a ex,PD (fj X N' scope s3 a ex) elt te) (hN:X.N.Nodup:=by assumption) (o:X.N[i]?\x:=by rfl) (p:Loc X.env.scope x:=by first | show Or.inl rfl | show Or.inr rfl) (q:∀x,foldedSetIterable iter X.env x=pure x:=by intro _;rfl)
  (n:swapsWith (.ListComp elt [⟨tg,iter,ifs,0⟩] scope pos) (some (.Name x b)) d.line X.env=pure true:=by rfl)
  (t:X.fn x=true\/X.env.scope.names.lookup x\.local:=by first | show .inl rfl | show .inr rfl | assumption) :
  PX X (.Assign [.Name x b] (.ListComp elt [⟨tg,iter,ifs,0⟩] scope pos) d) (nZ i (kL wi m g tc te)):=by
 let⟨ww,l,j⟩:=hi;show⟨_,wx (g:=λs3 a ex=>(hg s3 a ex).choose) (tc:=λs3 a ex=>(ht s3 a ex).choose) (te:=λs3 a ex=>(c s3 a ex).choose) hN o p u e l (λs3 a ex=>(hg s3 a ex).choose_spec.1) (λs3 a ex=>(ht s3 a ex).choose_spec.1) (λs3 a ex=>(c s3 a ex).choose_spec.1) q n t,λρ σ z y G H D E k h w=>?_⟩;show C9 e hk j (λs3 a ex=>(hg s3 a ex).choose_spec.2) (λs3 a ex=>(ht s3 a ex).choose_spec.2) (λs3 a ex=>(c s3 a ex).choose_spec.2) ρ σ z y G H _ _ k h λv H' r A x f s=>w.nx _ _ A H' x.g (k.put x f) s
theorem JG(i)(y:X.calm=true)(f:iI X N' m scope)(hk:jM m g)(hi:PId X tg iter wi)(hg:∀s3 a ex,oZ (fj X N' scope s3 a ex) tg g)(ht:∀s3 a ex,qv (fj X N' scope s3 a ex) ifs tc)
  (c:∀s3 a ex,PD (fj X N' scope s3 a ex) elt te) (hN:X.N.Nodup:=by assumption) (q:X.N[i]?\x:=by rfl) (s:Loc X.env.scope x:=by first | show Or.inl rfl | show Or.inr rfl) (t:∀x,foldedSetIterable iter X.env x=pure x:=by intro _;rfl)
  (p:swapsWith (.ListComp elt [⟨tg,iter,ifs,0⟩] scope pos) (some (.Name x b)) e.line X.env=pure true:=by rfl)
  (w:X.fn x=true\/X.env.scope.names.lookup x\.local:=by first | show .inl rfl | show .inr rfl | assumption) :
  PX X (.Assign [.Name x b] (.ListComp elt [⟨tg,iter,ifs,0⟩] scope pos) e) (fX i (kL wi m g tc te)):=by
 let⟨ww,o,n⟩:=hi;show⟨_,wx (g:=λs3 a ex=>(hg s3 a ex).choose) (tc:=λs3 a ex=>(ht s3 a ex).choose) (te:=λs3 a ex=>(c s3 a ex).choose) hN q s y f o (λs3 a ex=>(hg s3 a ex).choose_spec.1) (λs3 a ex=>(ht s3 a ex).choose_spec.1) (λs3 a ex=>(c s3 a ex).choose_spec.1) t p w,λρ σ C A G H D E k h z=>?_⟩;show C9 f hk n (λs3 a ex=>(hg s3 a ex).choose_spec.2) (λs3 a ex=>(ht s3 a ex).choose_spec.2) (λs3 a ex=>(c s3 a ex).choose_spec.2) ρ σ C A G H _ _ k h λv H' r F x l u=>?_
 let⟨B,d,j,Z⟩:=l.freeze x;show z.nx _ _ B H' d.g (k.put d (r:=.fz r.val) j) u
end
noncomputable abbrev bB:=List D->(R->Prop)->Prop
def xO(K:ar)(n:Nat)(t:bB):Sp:=λc H Q _=>∃G ds a,aZ G H/\av K G c ds/\ds.length=n/\t ds a/\∀v H' r b,Ext G H b H'->cK K b H' H v r->a r->Q v H'
noncomputable def lM(N:List af)(ds:List D):Ev:=ds.map Sl.fz++eI (N.length-ds.length) .un
theorem ziI{ds:List D}{l:List Sl}(h:gt (ds.map Sl.fz++l) i=s):(∃d,ds[i]?\d/\s=.fz d)\/(ds.length<=i/\gt l (i-ds.length)=s):=by
 induction ds generalizing i with
 | nil=>show .inr ⟨du _,by trivial⟩
 | cons d ds a=>
  cases i with
  | zero=>show .inl ⟨d,rfl,h.symm⟩
  | succ i=>
   simp![bO,vB,gt] at h;cbv
theorem zmO:gt (eI n Sl.un) i=.un:=by
 induction n generalizing i with
 | zero=>rfl
 | succ n a=>
  cases i with
  | zero=>rfl
  | succ i=>show a
theorem Ug{K:ar}(s:aZ G H)(r:av K G e ds):aS K G H (lM N ds) (start N e) G H:=by
 have k:=r.length;have c:∀{i:Nat}{t:Sl},gt (lM N ds) i=t->t≠.un->∃d,ds[i]?\d/\t=.fz d:=λ{i t} h n=>by
  rcases ziI h with h | ⟨_,h⟩
  .exact h
  rw[zmO] at h;show absurd h.symm n
 show⟨.refl s,by simp[start,lM,k],λi d h=>?_,λi f h=>?_,λi j f fs _ h=>?_,λ_=>none,λi f _ h=>?_,λi o h=>?_⟩
 .let⟨d',b,a⟩:=c h ∅;cases a;let⟨v,hv,g⟩:=r.get b;have hi:i<e.length:=(cf.mp hv).1;show⟨v,?_,g⟩;unfold start;rw[vL (by simpa using hi),bW,hv];rfl
 .let⟨d',b,a⟩:=c h ∅;cases a
 .let⟨d',b,a⟩:=c h ∅;cases a
 .let⟨d',b,a⟩:=c h ∅;cases a
 let⟨d',b,a⟩:=c h ∅;cases a
section
variable{K:ar}
theorem pQ{st:bE}(F:xR m K x a st f i)(S:lh N ps (bQ st))
  (body:∀d A outer s H E,cV k (A.deeper (envOfC a (bQ st) *...* f d))->fV (eZ eG P w K mg base N a (bQ st) f d A outer s H E).gL (gi st) T)
  (c:∀ds b,ds.length=ps.length->t ds b->T { nx:=λ_=>b (.fz .non),rt:=b } (lM N ds)):kE P w K mg base eG (k+1) f i ps (xO K ps.length t):=by
 show F.ok S (λj H Q E h=>?_) (λd A outer s H j Q E l h=>?_)
 .let⟨G,ds,b,z,r,g,z⟩:=h;rw[r.length,g]
 let⟨G,ds,b,s0,r,g,ht,k0⟩:=h;let⟨tt,p,q⟩:=body d A outer s H E l;show⟨tt,p,q _ _ G H G H _ _ (Ug s0 r) (c ds b g ht) ⟨λρ σ n H' _ e h=>k0 _ H' _ n e.e (bZ (Jh _ _)) h,k0,λ_ _ _ _ _ _ h=>h.elim,λ_ _ _ _ _ _ h=>h.elim⟩⟩
end
section
variable{k n:Nat}{f:ae}{t:bB}{e:ax}{ts:dg}
def eN(n:Nat)(t:bB)(ts:dg):TD:=λρ Q=>ts ρ λds=>ds.length=n/\t ds Q
theorem zr1(F:kE X.prog X.w X.K X.mg X.base eG k f fd ps (xO X.K n t))(i:cV k X.A)(hm:X.mg x=some (.ref f))(hk:nW X.K (.ref f)=true)(hb:Binds X.K fd ps [])(ha:ik X (e::es) ts)(hg:Gl X x:=by rfl)(g:(x==("__debug__":af))=false:=by decide)
  (j:starEach (e::es) X.env=(false,eval e X.env)::starEach es X.env:=by rfl) (l:(backTo pos (starEach es X.env)).any (·.1)=false:=by rfl):PD X (.Call (.Name x p) (e::es) [] pos) (eN n t ts):=by
 let⟨tt,pp,q⟩:=ha;show⟨_,Ji F i hg hm hk hb .nil Z7 pp g j l,λρ σ y o G H Q P E h k=>q ρ σ y o G H _ _ E h λB H' ds z x rs a=>?_⟩;rw[pj];show⟨z,ds,Q,x.s,rs,a.1,a.2,λv m r u b c d=>k v m r u (x.trans b) (c.lQ x.h) d⟩
end
open PySem.StrLaws
noncomputable def fP{a:Type}(xs:List a)(lo hi:Option Int):List a:=(xs.drop (HT.bI xs.length 0 lo)).take (HT.bI xs.length xs.length hi-HT.bI xs.length 0 lo)
noncomputable def mZ(z:af)(lo hi:Option Int):af:=⟨(fP z.cps.toList lo hi).toArray⟩
theorem rl(v)(n d:Nat):max 0 (min (if v<0 then v+(n:Int) else v) (n:Int))=((HT.bI n d (some v):Nat):Int):=by
 rw[<-HT.MO];by_cases h:v<0
 .lia
 lia
theorem zlB(z:af)(lo hi):(vM lo hi 1 z.length).filterMap (z.cps[·]?)=fP z.cps.toList lo hi:=by
 have f:z.cps.toList.length=z.length:=by simp[FD]
 have e:vM lo hi 1 z.length=sliceRange ((HT.bI z.length 0 lo:Nat):Int) ((HT.bI z.length z.length hi:Nat):Int) 1:=by
  unfold vM;cases lo with
  | none=>
   cases hi with
   | none=>rfl
   | some v=>simp![show((1:Int)>0) from by show di _,dF,rl v z.length z.length];rfl
  | some u=>
   cases hi with
   | none=>simp![show((1:Int)>0) from by show di _,dF,rl u z.length 0];rfl
   | some v=>simp![show((1:Int)>0) from by show di _,dF,rl v z.length z.length,rl u z.length 0]
 rw[e];unfold fP;rw[f];generalize ha:HT.bI z.length 0 lo=a;generalize hb:HT.bI z.length z.length hi=b;have d:b<=z.length:=by rw[<-hb];show HT.Lj _ _ (aW _) _
 by_cases c:a<=b
 .have:=sliced_plain z c d;rw[strSliceIndices_plain c d] at this;rw[<-this];unfold sliceRange;simp![show((1:Int)>0) from by show di _,dF];congr 1
  by_cases h:a<b
  .rw[if_pos (by cbv)];rw[show(((b:Int)-(a:Int)+1-1)/1).toNat=b-a by cbv];apply tK;intro k _;lia
  rw[if_neg (by cbv),show b-a=0 by cbv];rfl
 rw[show b-a=0 by ext,List.take_zero];unfold sliceRange;simp![show((1:Int)>0) from by show di _,dF];rw[if_neg ⋯];rfl
theorem zmQ(z lo hi):Fw z lo hi=mZ z lo hi:=by
 unfold Fw mZ;split
 .rename_i h;have h':(vM lo hi 1 z.length).length=z.length:=by show eq_of_beq ‹_›
  have b:z.cps.toList.length=z.length:=by simp[FD]
  have d:(fP z.cps.toList lo hi).length=z.length:=by
   unfold fP;rw[eJ,px,b];have e:vM lo hi 1 z.length=sliceRange ((HT.bI z.length 0 lo:Nat):Int) ((HT.bI z.length z.length hi:Nat):Int) 1:=by
    unfold vM;cases lo with
    | none=>
     cases hi with
     | none=>rfl
     | some v=>simp![show((1:Int)>0) from by show di _,dF,rl v z.length z.length];rfl
    | some u=>
     cases hi with
     | none=>simp![show((1:Int)>0) from by show di _,dF,rl u z.length 0];rfl
     | some v=>simp![show((1:Int)>0) from by show di _,dF,rl v z.length z.length,rl u z.length 0]
   rw[e] at h';unfold sliceRange at h';simp![show((1:Int)>0) from by show di _,dF,aO,jE] at h';have f:=HT.Lj z.length z.length (aW _) hi;by_cases c:((HT.bI z.length 0 lo:Nat):Int)<((HT.bI z.length z.length hi:Nat):Int)
   .lia
   simp at h';lia
  apply Str.ext';have c:fP z.cps.toList lo hi=z.cps.toList:=by
   unfold fP at d ⊢;rw[eJ,px,b] at d;rw[b];have a:HT.bI z.length 0 lo=0\/z.length=0:=by lia
   rcases a with a | a
   .rw[a,OF,N9];show o4 (by lia)
   have:z.cps.toList=[]:=vN (by trivial);rw[this];simp
  rw[c]
 rw[zlB]
section
variable{X:Cx}{e:ax}{te:TD}
theorem aai:sO X (λx lo hi H Q=>∃z,x=.str z/\z.length<=sizeLine/\Q (.str (mZ z lo hi)) H):=by
 intro m s σ H x v r n lo hi sl Q I a d pl pu h;let⟨z,rfl,hz,q⟩:=h;let⟨t,rfl⟩:=a;show⟨"str",_,F.slot_str_getitem.lookup,FC _ _ _,?_⟩;have part:∀{u:aa}{o:Option Int},IsPart u o->∃p:Option (Int×Tok),u=partValue p/\p.map (·.1)=o:=λh=>by
  cases h with
  | none=>show⟨none,rfl,rfl⟩
  | int i t=>show⟨some (i,t),rfl,rfl⟩
 let⟨c,rfl,j⟩:=part pl;let⟨b,rfl,g⟩:=part pu;let⟨o,e,f,hd⟩:=d;show wpAny_getItem_str_slice (l:=c) (u:=b) (st:=none) ⟨o,e,f,hd⟩ rfl ?_;have fin:∀t' k,EP X m σ Q (.str (Fw z lo hi) t') { s with toks:=k }:=λt' k=>⟨.str (mZ z lo hi),H,I.tok k,⟨t',by rw[zmQ]⟩,q⟩
 have hle:=gB (Txt.slice_le z lo hi) hz;subst j g;show post_val_or_str ⟨hle,fin⟩
noncomputable abbrev A7:=Ev->(Option Int->Prop)->Prop
def Fe(X:Cx)(e:Option ax)(t:A7):Prop:=∃tt,PO X e tt/\∀ρ σ b a G H Q P,aS X.K b a ρ σ G H->t ρ Q->(∀o H' c,Ext G H c H'->Q o->P o H')->tt σ H P
def Ad:A7:=λ_ Q=>Q none
def pK(te:TD):A7:=λρ Q=>te ρ λr=>match r.val with
 | .int i=>Q (some i)
 | _=>False
theorem ou:Fe X none Ad:=⟨_,zrN,λρ σ b a G H Q P E h k=>k none H G (.refl E.e.s) h⟩
theorem jN(h:PD X e te):Fe X (some e) (pK te):=by
 let⟨t,p,q⟩:=h;show⟨_,zrO p,λρ σ l g G H Q P E h k=>q ρ σ l g G H _ _ E h λv H' r m x d a=>?_⟩;obtain⟨j,c,b,_⟩:=d.freeze x;split at a
 .rename_i i f;rw[f] at b;show⟨i,b,k _ H' j c a⟩
 show a.elim
def uV(te:TD)(tl a:A7):TD:=λρ Q=>te ρ λr=>tl ρ λlo=>a ρ λhi=>match r.val with
 | .lst ds=>Q (.ow (fP ds lo hi))
 | .str z=>z.length<=sizeLine/\Q (.fz (.str (mZ z lo hi)))
 | .tup ds=>¬(HT.bI ds.length 0 lo=0/\HT.bI ds.length ds.length hi=ds.length)/\Q (.fz (.tup (fP ds lo hi)))
 | _=>False
theorem To{K:ar}(r:av K G xs ds)(lo hi):av K G (n4 xs lo hi) (fP ds lo hi):=by
 unfold n4 fP;rw[r.length];show(r.drop _).take _
theorem lO{lo hi:Option ax}(O:PD X e te)(N:Fe X lo tl)(hh:Fe X hi A):PD X (.Subscript e (.Slice lo hi none o) pos) (uV te tl A):=by
 let⟨t1,L,J⟩:=O;let⟨V,o,I⟩:=N;let⟨t3,K,F⟩:=hh;show⟨_,zpb (aaj.or (aai.or ztZ)) L o K,λρ σ u t G H Q P E h k=>J ρ σ u t G H _ _ E h λv H' r W x D M=>?_⟩;obtain⟨U,n,C,_⟩:=D.freeze x;show I ρ σ u t U H' _ _ (E.ext n) M λlo S T m R=>?_
 show F ρ σ u t T S _ _ ((E.ext n).ext m) R λhi B l y c=>?_
 have b:=(n.trans m).trans y;have d:=(C.mono m.g).mono y.g;split at c
 .rename_i ds i;rw[i] at d;let⟨a,xs,rfl,q,j⟩:=d;show .inl ⟨a,xs,rfl,(b.s.cm q).sq,λp f=>?_⟩;show k _ _ (.ow _) l (b.trans (.own b.s f)) ⟨p,_,rfl,b.h.free f,b.s.free f,cw,To j lo hi⟩ c
 .rename_i z i;rw[i] at d;show .inr (.inl ⟨z,d,c.1,k _ _ _ l b (bZ (y7 _ _ _)) c.2⟩)
 .rename_i ds i;rw[i] at d;let⟨a,xs,rfl,q,j⟩:=d;show .inr (.inr ⟨a,xs,rfl,b.s.nq q,by rw[j.length];show c.1,λp f=>?_⟩);have w:Ext l B (upd l p (.tup (n4 xs lo hi))) (upd B p (.tup (n4 xs lo hi))):=.new b.s f;show k _ _ (.fz _) _ (b.trans w) ?_ c.2;show⟨p,_,rfl,cw,(To j lo hi).mono w.g⟩
 show c.elim
def pD:bB:=λds Q=>match ds with
 | [.lst a]=>Q (.fz (.int a.length))
 | [.tup a]=>Q (.fz (.int a.length))
 | [.str z]=>z.length<=sizeLine/\Q (.fz (.int z.length))
 | _=>False
theorem ml:jJ X (.builtin "len") pD:=by
 show⟨_,X9.or zix,λG H e ds Q P s rs h k=>?_⟩;unfold pD at h;split at h
 .let⟨v,rfl,b⟩:=iu rs;let⟨a,xs,rfl,d,c⟩:=b;show .inl ⟨a,xs,rfl,.inl ((s.cm d).sq),?_⟩;rw[c.length];show k _ _ _ G (.refl s) (bZ (eQ _ _ _)) h
 .let⟨v,rfl,b⟩:=iu rs;let⟨a,xs,rfl,d,c⟩:=b;show .inl ⟨a,xs,rfl,.inr (s.nq d),?_⟩;rw[c.length];show k _ _ _ G (.refl s) (bZ (eQ _ _ _)) h
 .let⟨v,rfl,b⟩:=iu rs;subst b;show .inr ⟨_,rfl,h.1,k _ _ _ G (.refl s) (bZ (eQ _ _ _)) h.2⟩
 show h.elim
def CC(i:Nat):TD:=λρ Q=>match gt ρ i with
 | .ow ds=>Q (.fz (.int ds.length))
 | _=>False
theorem Dk(i)(hm:X.mg "len"=none)(hN:X.N[i]?=some x:=by rfl)(hv:lV X.env.scope x:=by first | show Or.inl rfl | show Or.inr (Or.inl rfl) | show Or.inr (Or.inr rfl))(hg:Gl X "len":=by rfl)(hd:(x==("__debug__":af))=false:=by decide)
  (c:(x==("__classdict__":af))=false:=by decide) (j:starEach [l8 x b] X.env=(false,eval (.Name x b) X.env)::starEach [] X.env:=by rfl):PD X (.Call (.Name "len" p) [.Name x b] [] pos) (CC i):=by
 show⟨_,zq X9 hg hm j4 (fZ (pO hN hv hd c) jk j),λρ σ o n G H Q P E h k=>?_⟩;unfold CC at h;split at h
 .rename_i ds hg;let⟨a,xs,g,f,m,l,d⟩:=E.ow i ds hg;show⟨_,g,a,xs,rfl,.inl (bM.of f),?_⟩;rw[d.length];show k _ _ _ G (.refl E.e.s) (bZ (eQ _ _ _)) h
 show h.elim
noncomputable def rj:List D->Option (List Bool)
 | []=>some []
 | .bl b::r=>(rj r).map (b::·)
 | _=>none
theorem JX:∀{ds bs},rj ds\bs->ds=bs.map D.bl
 | [],bs,h=>by simp[rj] at h;subst h;rfl
 | .bl b::r,bs,h=>by
  simp![rj,j3] at h;let⟨c,a,rfl⟩:=h;rw[JX a];rfl
 | .non::r,bs,h=>by trivial
 | .int _::r,bs,h=>by trivial
 | .str _::r,bs,h=>by trivial
 | .tup _::r,bs,h=>by trivial
 | .lst _::r,bs,h=>by trivial
 | .obj _ _::r,bs,h=>by trivial
 | .dic _::r,bs,h=>by trivial
 | .dit _::r,bs,h=>by trivial
 | .exc _ _::r,bs,h=>by trivial
 | .idn _ _::r,bs,h=>by trivial
theorem DM(bs):rj (bs.map D.bl)\bs:=by
 induction bs with
 | nil=>rfl
 | cons b r a=>simp[rj,a]
theorem Je{K:ar}:∀{bs:List Bool}{a},av K G a (bs.map D.bl)->a=bs.map V.bl
 | [],[],_=>rfl
 | b::bs,v::a,h=>by
  rw[h.1,Je h.2];rfl
 | [],_::_,h=>by trivial
 | _::_,[],h=>by trivial
theorem Ue{bs:List Bool}(h:Vals (bs.map V.bl) us){i:Nat}(hv:us[i]?\v):∃b,bs[i]?\b/\v=.bool b:=by
 have e:=h.length;have hi:i<us.length:=(cf.mp hv).1;have d:i<bs.length:=by cbv
 let⟨u,a,c⟩:=h.get (i:=i) (x:=V.bl bs[i]) (by simp[d]);rw[hv] at a;cases a;show⟨bs[i],by show bC ‹_›,c⟩
theorem Tn{s:ai}{h':aw}(hk:∀b x,b∉[*...*]->(s.heap.push o).get? b\x->h'.get? b\x):∀b x,s.heap.get? b\x->h'.get? b\x:=
 λb x e=>hk b x (λhm=>by rw[dD.mp hm] at e;show sY _ (aX e)) (aV _ e)
theorem zr2(bs:List Bool):((aI bs.length).all λi=>(bs[i]?).getD true)=bs.all id:=by
 rw[tq];simp![tF,cx,id];constructor
 .intro h b hb;let⟨i,hi,rfl⟩:=yr.mp hb;simpa[hi] using h i hi
 intro h i hi;simpa[hi] using h _ (ip hi)
theorem zr3(bs:List Bool):((aI bs.length).any λi=>(bs[i]?).getD false)=bs.any id:=by
 rw[tq];simp![nY,cx,id];constructor
 .rintro⟨i,hi,h⟩;show⟨bs[i],ip hi,by simpa[hi] using h⟩
 rintro⟨b,hb,h⟩;let⟨i,hi,rfl⟩:=yr.mp hb;show⟨i,hi,by simpa[hi] using h⟩
theorem zmT(j:X.calm=true):fk X (.builtin "all") (λxs H Q=>∃(p:ae)(bs:List Bool),xs=[.ref p]/\bM X.K H p (bs.map V.bl)/\Q (.bl (bs.all id)) H):=by
 intro o s σ H xs us Q I r h;let⟨p,bs,rfl,f,q⟩:=h;let⟨u,rfl,d⟩:=gH r;cases d;let⟨its,a,pl,hz⟩:=I.list f;have l:p< *...*:=by let⟨z,z,e,z⟩:=pl;show aX e
 have g:its.length=bs.length:=by rw[<-a.length,aO]
 show call_all_walk (tH pl.isList ?_);show⟨*...*,[*...*,p],[*...*],its.toArray.size,_,_,λi=>(bs[i]?).getD true,rfl,vg (A:=X.A.in1) (I.ok.hd j) _ p (bJ l) its.toArray,
  ⟨⟨_,b8 _ rfl,rfl,rfl⟩,pl.isList.push _⟩,λi v m n t k c=>?_,λh' tk hk=>?_⟩
 .let⟨b,e,rfl⟩:=Ue a (i:=i) (v:=v) (by simpa using k);simp![e,mV] at c;show l6 c
 rw[cW,g,zr2];show⟨.bl _,H,I.kept (Tn hk),rfl,q⟩
theorem zmU(j:X.calm=true):fk X (.builtin "any") (λxs H Q=>∃(p:ae)(bs:List Bool),xs=[.ref p]/\bM X.K H p (bs.map V.bl)/\Q (.bl (bs.any id)) H):=by
 intro o s σ H xs us Q I r h;let⟨p,bs,rfl,f,q⟩:=h;let⟨u,rfl,d⟩:=gH r;cases d;let⟨its,a,pl,hz⟩:=I.list f;have l:p< *...*:=by let⟨z,z,e,z⟩:=pl;show aX e
 have g:its.length=bs.length:=by rw[<-a.length,aO]
 show call_any_walk (tH pl.isList ?_);show⟨*...*,[*...*,p],[*...*],its.toArray.size,_,_,λi=>(bs[i]?).getD false,rfl,vg (A:=X.A.in1) (I.ok.hd j) _ p (bJ l) its.toArray,
  ⟨⟨_,b8 _ rfl,rfl,rfl⟩,pl.isList.push _⟩,λi v m n t k c=>?_,λh' tk hk=>?_⟩
 .let⟨b,e,rfl⟩:=Ue a (i:=i) (v:=v) (by simpa using k);simp![e,mV] at c;show l6 c
 rw[cW,g,zr3];show⟨.bl _,H,I.kept (Tn hk),rfl,q⟩
def qW:bB:=λds Q=>match ds with
 | [.lst a]=>match rj a with
  | some bs=>Q (.fz (.bl (bs.all id)))
  | none=>False
 | _=>False
def Hy:bB:=λds Q=>match ds with
 | [.lst a]=>match rj a with
  | some bs=>Q (.fz (.bl (bs.any id)))
  | none=>False
 | _=>False
theorem CB(e:X.calm=true):jJ X (.builtin "all") qW:=by
 show⟨_,zmT e,λG H f ds Q P s rs h k=>?_⟩;unfold qW at h;split at h
 .split at h
  .rename_i g bs hb;let⟨v,rfl,d⟩:=iu rs;let⟨a,xs,rfl,c,b⟩:=d;rw[JX hb] at b;rw[Je b] at c;show⟨a,bs,rfl,(s.cm c).sq,k _ _ _ G (.refl s) (bZ (fY _ _ _)) h⟩
  show h.elim
 show h.elim
theorem Z3(e:X.calm=true):jJ X (.builtin "any") Hy:=by
 show⟨_,zmU e,λG H f ds Q P s rs h k=>?_⟩;unfold Hy at h;split at h
 .split at h
  .rename_i g bs hb;let⟨v,rfl,d⟩:=iu rs;let⟨a,xs,rfl,c,b⟩:=d;rw[JX hb] at b;rw[Je b] at c;show⟨a,bs,rfl,(s.cm c).sq,k _ _ _ G (.refl s) (bZ (fY _ _ _)) h⟩
  show h.elim
 show h.elim
end
section
variable{e:ax}{te:TD}
noncomputable def iV:D->String
 | .non=>"NoneType"
 | .bl _=>"bool"
 | .int _=>"int"
 | .str _=>"str"
 | .tup _=>"tuple"
 | .lst _=>"list"
 | .obj _ _=>"object"
 | .dic _=>"dict"
 | .dit _=>"dict"
 | .exc _ _=>"object"
 | .idn _ _=>"object"
noncomputable def e8(t T:String):Bool:=(t==T)||(t=="bool"&&T=="int")
theorem rB{K:ar}(ht:t∈["NoneType","bool","int","str","tuple","list"])(a:T∈["bool","int","str","tuple","list"]):vv K (.type t) (.type T)=some (e8 t T):=by
 simp only[bx,gC,or_false] at ht a;rcases ht with rfl | rfl | rfl | rfl | rfl | rfl<;>rcases a with rfl | rfl | rfl | rfl | rfl<;>(first | rfl | decide | (decide +kernel))
noncomputable def lH:D->Bool
 | .obj _ _=>false
 | .dic _=>false
 | .dit _=>false
 | .exc _ _=>false
 | .idn _ _=>false
 | _=>true
theorem zpy(f:T∈["bool","int","str","tuple","list"]):fk X (.builtin "isinstance") (λxs H Q=>∃x d,xs=[x,.ty T]/\Rep X.K H x d/\lH d=true/\Q (.bl (e8 (iV d) T)) H):=by
 intro p s σ H xs us Q I r h;let⟨x,d,rfl,e,g,q⟩:=h;let⟨u,c,rfl,b,rc⟩:=oh r;cases (show c=jc T from rc);have fin:∀tk,EP X p σ Q (.bool (e8 (iV d) T)) { s with toks:=tk }:=λtk=>⟨.bl _,H,I.tok tk,rfl,q⟩
 cases d with
 | non=>subst e;cases (show u=iL from b);show tm Pt I.dy l9 (rB (by show .head _) f) (λz=>nomatch z) fin
 | bl y=>subst e;cases (show u=vk y from b);show tm Pr I.dy l9 (rB (by trivial) f) (λz=>nomatch z) fin
 | int i=>subst e;let⟨t,j⟩:=(show ∃t,u=o9 i t from b);cases j;show tm O9 I.dy l9 (rB (by trivial) f) (λz=>nomatch z) fin
 | str y=>subst e;let⟨t,j⟩:=(show ∃t,u=vf y t from b);cases j;show tm O8 I.dy l9 (rB (by trivial) f) (λz=>nomatch z) fin
 | tup ds=>
  let⟨a,xs,rfl,k,w⟩:=e;cases (show u=cI a from b);let⟨its,w,ht,w⟩:=I.tuple (bF.of k);let⟨o,m,l,w⟩:=ht;show tm PN I.dy ⟨o,m,l⟩ (rB (by trivial) f) (λz=>nomatch z) fin
 | lst ds=>
  let⟨a,xs,rfl,k,w⟩:=e;cases (show u=cI a from b);let⟨its,w,ht,w⟩:=I.list k.sq;let⟨o,n,m,l,w⟩:=ht;show tm Pq I.dy ⟨o,m,l⟩ (rB (by trivial) f) (λz=>nomatch z) fin
 | obj=>cases g
 | dic=>cases g
 | dit=>cases g
 | exc=>cases g
 | idn=>cases g
def qV(T:String)(te:TD):TD:=λρ Q=>te ρ λr=>lH r.val=true/\Q (.fz (.bl (e8 (iV r.val) T)))
theorem nc(m:PD X e te)(hm:X.mg "isinstance"=none)(o:X.mg a=none)(hv:bootBuiltins a=some (.type T))(n:T∈["bool","int","str","tuple","list"]:=by decide)(hg:Gl X "isinstance":=by rfl)(l:Gl X a:=by rfl)(hn:a≠"__name__":=by decide)
  (hd:(a==("__debug__":af))=false:=by decide) (f:starEach [e,l8 a b] X.env=(false,eval e X.env)::starEach [l8 a b] X.env:=by rfl) (j:starEach [l8 a b] X.env=(false,eval (.Name a b) X.env)::starEach [] X.env:=by rfl)
  (u:(backTo pos (starEach [l8 a b] X.env)).any (·.1)=false:=by rfl):PD X (.Call (.Name "isinstance" p) [e,.Name a b] [] pos) (qV T te):=by
 let⟨t,pp,q⟩:=m;show⟨_,zq (zpy n) hg hm Ge (fZ pp (fZ (Jj (v:=.ty T) l o hv rfl hn hd) jk j) f) (by decide) (by assumption) f u,λρ σ z w G H Q P E h k=>q ρ σ z w G H _ _ E h λv H' r A x i d=>?_⟩;let⟨y,c,g,Z⟩:=i.freeze x;show⟨v,r.val,rfl,g.mono c.s,d.1,k _ _ _ y c (bZ (fY _ _ _)) d.2⟩
end
section
variable{P:aD}{w:aB}{K:ar}{mg:af->Option aa}{base:aw}
structure Known(P:aD)(w:aB)(K:ar)(mg:af->Option aa)(base:aw)(k:Nat)(x:af)(n:Nat)(t:bB):Prop where
 ex:∃(f:ae)(fd:gF)(ps:List af),kE P w K mg base eG k f fd ps (xO K n t)/\mg x\.ref f/\nW K (.ref f)=true/\Binds K fd ps []
structure At(K:ar)(mg:af->Option aa)(x:af)(st:bE):Prop where
 ex:∃(f:ae)(fd:gF),Fl K x x st f fd/\mg x=some (.ref f)
theorem Yb{st:bE}{kV b pm d ct:aa}(X:K.In h)(G:h.Ns mainGlobals mg)(a:gA K mainGlobals x\some (.ref f))
  (l:K.lookup f\⟨e,od,.func (lB x x (nI st) (gi st) (bQ st) .none kV b pm i d ct),g⟩) (c:BA K d x=true) (k:nW K (.ref f)=true):At K mg x st:=
 ⟨f,_,XU l c k,yg X G a⟩
end
theorem bY(C:Known X.prog X.w X.K X.mg X.base k x n t)(b:cV k' X.A)(ha:ik X (e::es) ts)(hk:k<=k':=by decide)(hg:Gl X x:=by rfl)(a:(x==("__debug__":af))=false:=by decide)
  (c:starEach (e::es) X.env=(false,eval e X.env)::starEach es X.env:=by rfl) (d:(backTo pos (starEach es X.env)).any (·.1)=false:=by rfl):PD X (.Call (.Name x p) (e::es) [] pos) (eN n t ts):=by
 let⟨f,fd,ps,F,hm,kp,hb⟩:=C.ex;show zr1 F (b.mono hk) hm kp hb ha hg a c d
noncomputable def Tj(a:af->Option NameKind)(N N':List af)(m:List (Option Nat))(scope:fW):Bool:=
 (scope.kind==.function)&&(m.length==N'.length)&&(scope.names.all λy=>scope.names.lookup y.1==some y.2) &&
 (scope.names.all λy=>y.2 != .free||a y.1==some .cell||a y.1==some .free) &&
 ((m.zip N').all λp=>match p.1 with
   | none=>true
   | some j=>N[j]?==some p.2&&scope.names.lookup p.2==some .free)
theorem iI.of{N':List af}{m:List (Option Nat)}{scope:fW}(h:Tj X.env.kindOf X.N N' m scope=true):iI X N' m scope:=by
 unfold Tj at h;simp![gZ,beq_iff_eq,tF,Bool.or_eq_true,bne_iff_ne,ne_eq] at h;obtain⟨⟨⟨⟨g,f⟩,d⟩,c⟩,b⟩:=h;show⟨g,f,λy a=>d y a,λy a e=>?_,λi j x hm hN=>?_⟩
 .rcases c y a with(z | z) | z
  .exact absurd e z
  .exact .inl z
  show .inr z
 have hz:(some j,x)∈m.zip N':=by
  apply cz (i:=i);rw[Hh];show⟨hm,hN⟩
 have:=b _ hz;simpa using this
theorem zlC{K:ar}{b:List Int}(h:fU K G a (b.map V.int)):Rep K G (.ref a) (.lst (b.map D.int)):=by
 show⟨a,_,rfl,h,?_⟩;clear h;induction b with
 | nil=>show av.nil
 | cons n r c=>show av.cons (eQ _ _ _) c
def Ih(n:Nat):bB:=λds Q=>∃ns:List Int,ds=[.lst (ns.map .int)]/\ns.length<=n/\Q (.fz (.bl true))
theorem aac{l:PySem.W.OpenLaw}{K:Params->ar}
  (hn:l.most\n) (Q:n<=sizeLine) (P:d.params.defaults=[]) (C:cV k callerA) (D:∀w h,y w h->(K w.params).In h)
  (F:∀w mg fa h,(K w.params).In h->h.Ns mainGlobals mg->mg d.name\.ref fa->
   ∃fd:gF,(∀s u,BindsTo s fd ⟨[u],[]⟩ [(x,u)])/\∀base:aw,kE l.prog w (K w.params) mg base eG k fa fd [x] (xO (K w.params) 1 (Ih n))) :
  PySem.W.WalkO q c O y l.row.toRowW d [] (λf i=>NR f i):=by
 show Yj.abF hn P λw cN bL mg mb fa o pm cd doc a i ns G Y U hd S qj A hints hlen hg=>?_
 have KX:=D w _ Y;let⟨fd,hb,I⟩:=F w mg fa _ KX G.T.g qj;show zpe KX G.T.g G.T.b G.T.builtins G.T.nolimit hg A hints (gB hlen Q) C (λbase _ _=>I base) hb (λH X j=>?_) λH e R z=>z
 have E:fU (K w.params) H a (ns.map V.int):=by
  rcases j with j | ⟨o,its,m,t,h2,Z,M,L,J⟩
  .exact .inl j
  have e:=KX a o t;rw[A] at e;cases e;have p:Bj i.toArray _=Bj its m:=M;injection p with N e2
  subst N;show .inr ⟨_,_,t,L,J⟩
 show⟨H,[.lst (ns.map .int)],λr=>r=.fz (.bl true),aZ.refl _,av.cons (zlC E) av.nil,rfl,⟨ns,rfl,hlen,rfl⟩,λv H' r G' _ B e=>?_⟩;subst e;simpa only[cK,Rep] using B
theorem zue{K:ar}{st:bE}{T:aw->TX}(d:At K mg "law" st)(qj:mg "law"=some (.ref fa))(S:lh N [x] (bQ st))
  (hb:∀kV doc pm an a ct us,us.length=1->bindArgs (lB "law" "law" (nI st) (gi st) (bQ st) .none kV doc pm an a ct) ⟨us,[]⟩=pure ([x].zip us))
  (body:∀base f a A outer s H E,cV k (A.deeper (envOfC "law" (bQ st) *...* f a))->fV (eZ eG P w K mg base N "law" (bQ st) f a A outer s H E).gL (gi st) (T base))
  (b:∀base ds c,ds.length=1->t ds c->T base { nx:=λ_=>c (.fz .non),rt:=c } (lM N ds)) :
  ∃fd:gF,(∀s u,BindsTo s fd ⟨[u],[]⟩ [(x,u)])/\∀base:aw,kE P w K mg base eG (k+1) fa fd [x] (xO K 1 t):=by
 let⟨f,fd,F,hm⟩:=d.ex;rw[qj] at hm;cases hm;show⟨fd,λs u=>?_,λbase=>pQ F S (body base fa) (b base)⟩;let⟨e,od,kV,doc,pm,an,a,ct,g,rfl,lk,h⟩:=F.ex;show .of_eq (hb kV doc pm an a ct [u] rfl)
def yE(i:Nat)(t:TX):TX:=λD ρ=>t D (eT i ρ)
theorem yV(d):(R.fz d).val=d:=rfl
theorem m9(ds):(R.ow ds).val=.lst ds:=rfl
theorem Z2(d):(R.fz d).sl=.fz d:=rfl
theorem Z1(ds):(R.ow ds).sl=.ow ds:=rfl
theorem Ti{c:Type}(L:List c)(j f)(hw:∀n:List D->Prop,n (L.map j)->k ρ n)(s:L.length<=sizeLine)
  (h:∀x∈L,∀(o:D->Prop) p,(∀e,f x\e->o e)->(f x=none->p)->g (j x) (cF m ρ) λl=>tc l λb=>if b=true then te l λr=>o r.val else p)
  (q:Q (.ow (L.filterMap f))):kL k m g tc te ρ Q:=by
 show hw _ ⟨λi acc=>acc=(L.take i).filterMap f,rfl,λi d acc hd ha=>?_,λacc ha=>?_⟩
 .rw[bW] at hd;cases a:L[i]? with
  | none=>rw[a] at hd;cases hd
  | some x=>
   rw[a] at hd;cases hd;have e:L.take (i+1)=L.take i++[x]:=by rw[dM,a];rfl
   have hlen:acc.length<sizeLine:=by
    rw[ha];show qN (QL _ _) ?_;grind
   show h x (cz a) (λe=>acc.length<sizeLine/\acc++[e]=(L.take (i+1)).filterMap f) (acc=(L.take (i+1)).filterMap f)
    (λz hz=>⟨hlen,by rw[e,Qs,ha];simp[hz]⟩) (λhz=>by rw[e,Qs,ha];simp[hz])
 rw[aO,eY] at ha;rw[ha];show q
theorem fE{d:Type}(L:List d)(c f)(hw:∀j:List D->Prop,j (L.map c)->i ρ j)(l:L.length<=sizeLine)
  (h:∀x∈L,∀(b:D->Prop),b (f x)->g (c x) (cF m ρ) λo=>te o λr=>b r.val) (q:Q (.ow (L.map f))):kL i m g qX te ρ Q:=by
 show Ti L c (λx=>some (f x)) hw l (λx k b s n _=>?_) ?_
 .have:=h x k b (n _ rfl);trivial
 have e:L.filterMap (λx=>some (f x))=L.map f:=by
  induction L with
  | nil=>rfl
  | cons a r p=>simp
 rw[e];show q
theorem uq{j:Type}(L:List j)(i f p)(hw:∀o:List D->Prop,o (L.map i)->k ρ o)(l:L.length<=sizeLine)
  (h:∀x∈L,∀(c:D->Prop) d,(p x=true->c (f x))->(p x=false->d)->g (i x) (cF m ρ) λn=>tc n λb=>if b=true then te n λr=>c r.val else d)
  (q:Q (.ow ((L.filter p).map f))):kL k m g tc te ρ Q:=by
 show Ti L i (λx=>if p x=true then some (f x) else none) hw l (λx t c d u h0=>h x t c d (λz=>u _ (by show if_pos ‹_›)) (λz=>h0 (by simp[z]))) ?_;have e:L.filterMap (λx=>if p x=true then some (f x) else none)=(L.filter p).map f:=by
  clear h l hw q;induction L with
  | nil=>rfl
  | cons a r s=>by_cases z:p a=true<;>simp[z,s]
 rw[e];show q
theorem Ud{D:DE}(ds)(hw:∀c:List L2.D->Prop,c ds->a ρ c)(Iv:Nat->Ev->Prop)(e:Iv 0 ρ)
  (turn:∀i d ρ',ds[i]?\d->Iv i ρ'->g d ρ' λf=>b { D with nx:=Iv (i+1),ct:=Iv (i+1),bk:=D.nx } f) (fin:∀ρ',Iv ds.length ρ'->D.nx ρ'):rg a g b D ρ:=hw _ ⟨Iv,e,turn,fin⟩
theorem kb{c:Type}{D:DE}(L:List c)(a)(hw:∀h:List L2.D->Prop,h (L.map a)->e ρ h)(Iv:Nat->Ev->Prop)(j:Iv 0 ρ)
  (turn:∀i x ρ',L[i]?\x->Iv i ρ'->g (a x) ρ' λk=>f { D with nx:=Iv (i+1),ct:=Iv (i+1),bk:=D.nx } k) (fin:∀ρ',Iv L.length ρ'->D.nx ρ'):rg e g f D ρ:=by
 show Ud (L.map a) hw Iv j (λi d ρ' hd iv=>?_) (λρ' iv=>fin ρ' (by simpa using iv));rw[bW] at hd;cases b:L[i]? with
 | none=>rw[b] at hd;cases hd
 | some x=>rw[b] at hd;cases hd;show turn i x ρ' b iv
theorem Kj{D:DE}(n)(hw:∀c:List L2.D->Prop,c ((aI n).map λ(i:Nat)=>.int (0+i))->a ρ c)(Iv:Nat->Ev->Prop)(k:Iv 0 ρ)
  (turn:∀i ρ',i<n->Iv i ρ'->g (.int i) ρ' λl=>b { D with nx:=Iv (i+1),ct:=Iv (i+1),bk:=D.nx } l) (fin:∀ρ',Iv n ρ'->D.nx ρ'):rg a g b D ρ:=by
 show kb (aI n) (λ(i:Nat)=>.int (0+i)) hw Iv k (λi x ρ' d iv=>?_) (λρ' iv=>fin ρ' (by simpa using iv));let⟨j,h⟩:=cf.mp d;have f:i<n:=by simpa using j
 have e:x=i:=by rw[<-h];simp
 subst e;rw[pd];show turn x ρ' f iv
theorem p24:(10:Int) ^ NN 24=1000000000000000000000000:=by cbv
theorem p30:(10:Int) ^ NN 30=1000000000000000000000000000000:=by cbv
theorem zug:tS 10 24=True:=by simp![tS,eq_iff_iff,iff_true];decide
theorem zuh:tS 10 30=True:=by simp![tS,eq_iff_iff,iff_true];decide
theorem zpz:100000<=sizeLine:=by decide
section
variable{e:ax}{es:List ax}
def Rn(t:TD):TD:=λρ Q=>t ρ λr=>match r.val with
 | .int i=>Q (.fz (.int (-i)))
 | _=>False
theorem II(h:PD X e te):PD X (.UnaryOp .USub e pos) (Rn te):=by
 let⟨t,p,q⟩:=h;show⟨_,ZD ztT p,λρ σ l g G H Q P E h k=>q ρ σ l g G H _ _ E h λv H' r m x d a=>?_⟩;obtain⟨j,c,b,_⟩:=d.freeze x;split at a
 .rename_i i f;rw[f] at b;show⟨i,b,k _ _ _ j c (bZ (eQ _ _ _)) a⟩
 show a.elim
def wa:bB:=λds Q=>match ds with
 | [.lst es]=>Q (.ow es)
 | [.tup es]=>Q (.ow es)
 | _=>False
theorem IH:jJ X (.type "list") wa:=by
 show⟨_,ziy,λG H e ds Q P s rs h k=>?_⟩;unfold wa at h;split at h
 .let⟨v,rfl,b⟩:=iu rs;let⟨a,xs,rfl,d,c⟩:=b;show⟨a,xs,rfl,.inl (s.cm d).sq,wD s c h k⟩
 .let⟨v,rfl,b⟩:=iu rs;let⟨a,xs,rfl,d,c⟩:=b;show⟨a,xs,rfl,.inr (s.nq d),wD s c h k⟩
 show h.elim
def Hx:bB:=λds Q=>match ds with
 | [.int i]=>Q (.fz (.int i))
 | [.bl b]=>Q (.fz (.int (if b then 1 else 0)))
 | _=>False
theorem Z0:jJ X (.type "int") Hx:=by
 show⟨_,zms,λG H b ds Q P s rs h k=>?_⟩;unfold Hx at h;split at h
 .let⟨v,rfl,a⟩:=iu rs;subst a;show .inl ⟨_,rfl,k _ _ _ G (.refl s) (bZ (eQ _ _ _)) h⟩
 .let⟨v,rfl,a⟩:=iu rs;subst a;show .inr ⟨_,rfl,k _ _ _ G (.refl s) (bZ (eQ _ _ _)) h⟩
 show h.elim
noncomputable def lL:List D->Option (List Int)
 | []=>some []
 | .int b::r=>(lL r).map (b::·)
 | _=>none
theorem ur:∀{ds bs},lL ds\bs->ds=bs.map D.int
 | [],bs,h=>by simp[lL] at h;subst h;rfl
 | .int b::r,bs,h=>by
  simp![lL,j3] at h;let⟨c,a,rfl⟩:=h;rw[ur a];rfl
 | .non::r,bs,h=>by trivial
 | .bl _::r,bs,h=>by trivial
 | .str _::r,bs,h=>by trivial
 | .tup _::r,bs,h=>by trivial
 | .lst _::r,bs,h=>by trivial
 | .obj _ _::r,bs,h=>by trivial
 | .dic _::r,bs,h=>by trivial
 | .dit _::r,bs,h=>by trivial
 | .exc _ _::r,bs,h=>by trivial
 | .idn _ _::r,bs,h=>by trivial
theorem wW(bs):lL (bs.map D.int)\bs:=by
 induction bs with
 | nil=>rfl
 | cons b r a=>simp[lL,a]
theorem uk{K:ar}:∀{bs:List Int}{a},av K G a (bs.map D.int)->a=bs.map V.int
 | [],[],_=>rfl
 | b::bs,v::a,h=>by
  rw[h.1,uk h.2];rfl
 | [],_::_,h=>by trivial
 | _::_,[],h=>by trivial
theorem Ki(hi:IntsAre a b):∃xs:Array (Int×Tok),a.toArray=intItems xs/\b=xs.toList.map (·.1):=by
 let⟨xs,e⟩:=hi.allInts.items;show⟨xs,e,by rw[<-hi.numsOf,<-nums_intItems,<-e]⟩
theorem zmZ(g:X.calm=true):fk X (.builtin "sum") (λxs H Q=>∃(p:ae)(ns:List Int),xs=[.ref p]/\bM X.K H p (ns.map V.int)/\Q (.int ns.sum) H):=by
 intro j s σ H xs us Q I r h;let⟨p,ns,rfl,f,q⟩:=h;let⟨u,rfl,c⟩:=gH r;cases c;let⟨its,b,pl,hz⟩:=I.list f;let⟨ys,e,d⟩:=Ki (rL b);have a:=pl.isList;rw[e] at a;show sum_intListG (I.ok.hd g) a λh' tk t' hk=>?_
 have i:preSum (numAt ys) ys.size=ns.sum:=by
  rw[preSum_eq,o4 ∅,d]
 rw[i];show⟨.int _,H,I.kept hk,⟨_,rfl⟩,q⟩
theorem zm0(k:X.calm=true):fk X (.builtin "min") (λxs H Q=>∃(p:ae)(ns:List Int),xs=[.ref p]/\bM X.K H p (ns.map V.int)/\ns≠[]/\∀M,M∈ns->(∀a∈ns,M<=a)->Q (.int M) H):=by
 intro o s σ H xs us Q I r h;let⟨p,ns,rfl,g,n,q⟩:=h;let⟨u,rfl,f⟩:=gH r;cases f;let⟨its,d,pl,hz⟩:=I.list g;let⟨ys,e,b⟩:=Ki (rL d);have c:=pl.isList;rw[e] at c;have hsz:0<ys.size:=by
  grind
 show min_intList (I.ok.hd k) c hsz λv h' tk hv hk=>?_
 let⟨t,rfl⟩:=intItems_at hv;let⟨m,l⟩:=argBest_lt (numAt ys) (ys.size-1);show⟨.int _,H,I.kept hk,⟨_,rfl⟩,q _ ?_ λa ha=>?_⟩
 .rw[b,Bi];show getD_mem (by rw[aO,jF];ext)
 rw[b] at ha;let⟨j,i,rfl⟩:=Fv ha;rw[aO,jF] at i;rw[<-Bi];show l j (by lia)
theorem zm1(k:X.calm=true):fk X (.builtin "max") (λxs H Q=>∃(p:ae)(ns:List Int),xs=[.ref p]/\bM X.K H p (ns.map V.int)/\ns≠[]/\∀M,M∈ns->(∀a∈ns,a<=M)->Q (.int M) H):=by
 intro o s σ H xs us Q I r h;let⟨p,ns,rfl,g,n,q⟩:=h;let⟨u,rfl,f⟩:=gH r;cases f;let⟨its,d,pl,hz⟩:=I.list g;let⟨ys,e,b⟩:=Ki (rL d);have c:=pl.isList;rw[e] at c;have hsz:0<ys.size:=by
  grind
 show max_intList (I.ok.hd k) c hsz λv h' tk hv hk=>?_
 let⟨t,rfl⟩:=intItems_at hv;let⟨m,l⟩:=argBest_gt (numAt ys) (ys.size-1);show⟨.int _,H,I.kept hk,⟨_,rfl⟩,q _ ?_ λa ha=>?_⟩
 .rw[b,Bi];show getD_mem (by rw[aO,jF];ext)
 rw[b] at ha;let⟨j,i,rfl⟩:=Fv ha;rw[aO,jF] at i;rw[<-Bi];show l j (by lia)
def Cr:bB:=λds Q=>match ds with
 | [.lst es]=>match lL es with
  | some ns=>Q (.fz (.int ns.sum))
  | none=>False
 | _=>False
theorem CO(e:X.calm=true):jJ X (.builtin "sum") Cr:=by
 show⟨_,zmZ e,λG H f ds Q P s rs h k=>?_⟩;unfold Cr at h;split at h
 .split at h
  .rename_i es bs hb;let⟨v,rfl,d⟩:=iu rs;let⟨a,xs,rfl,c,b⟩:=d;rw[ur hb] at b;rw[uk b] at c;show⟨a,bs,rfl,(s.cm c).sq,k _ _ _ G (.refl s) (bZ (eQ _ _ _)) h⟩
  show h.elim
 show h.elim
def yD:bB:=λds Q=>match ds with
 | [.lst es]=>match lL es with
  | some ns=>ns≠[]/\∀M,M∈ns->(∀a∈ns,M<=a)->Q (.fz (.int M))
  | none=>False
 | [.int i,.int j]=>Q (.fz (.int (if j<i then j else i)))
 | _=>False
def yC:bB:=λds Q=>match ds with
 | [.lst es]=>match lL es with
  | some ns=>ns≠[]/\∀M,M∈ns->(∀a∈ns,a<=M)->Q (.fz (.int M))
  | none=>False
 | [.int i,.int j]=>Q (.fz (.int (if j>i then j else i)))
 | _=>False
theorem Ig(c:X.calm=true):jJ X (.builtin "min") yD:=by
 show⟨_,(zm0 c).or (zmr c),λG H j ds Q P s rs h k=>?_⟩;unfold yD at h;split at h
 .split at h
  .rename_i es bs hb;let⟨v,rfl,b⟩:=iu rs;let⟨a,xs,rfl,e,d⟩:=b;rw[ur hb] at d;rw[uk d] at e;show .inl ⟨a,bs,rfl,(s.cm e).sq,h.1,λM i g=>k _ _ _ G (.refl s) (bZ (eQ _ _ _)) (h.2 M i g)⟩
  show h.elim
 .let⟨v,u,rfl,b,f⟩:=vV rs;subst b f;show .inr ⟨_,_,rfl,k _ _ _ G (.refl s) (bZ (eQ _ _ _)) h⟩
 show h.elim
theorem yP(c:X.calm=true):jJ X (.builtin "max") yC:=by
 show⟨_,(zm1 c).or (zmq c),λG H j ds Q P s rs h k=>?_⟩;unfold yC at h;split at h
 .split at h
  .rename_i es bs hb;let⟨v,rfl,b⟩:=iu rs;let⟨a,xs,rfl,e,d⟩:=b;rw[ur hb] at d;rw[uk d] at e;show .inl ⟨a,bs,rfl,(s.cm e).sq,h.1,λM i g=>k _ _ _ G (.refl s) (bZ (eQ _ _ _)) (h.2 M i g)⟩
  show h.elim
 .let⟨v,u,rfl,b,f⟩:=vV rs;subst b f;show .inr ⟨_,_,rfl,k _ _ _ G (.refl s) (bZ (eQ _ _ _)) h⟩
 show h.elim
noncomputable def ua:List D->Option (List af)
 | []=>some []
 | .str b::r=>(ua r).map (b::·)
 | _=>none
theorem Vp:∀{ds bs},ua ds\bs->ds=bs.map D.str
 | [],bs,h=>by simp[ua] at h;subst h;rfl
 | .str b::r,bs,h=>by
  simp![ua,j3] at h;let⟨c,a,rfl⟩:=h;rw[Vp a];rfl
 | .non::r,bs,h=>by trivial
 | .bl _::r,bs,h=>by trivial
 | .int _::r,bs,h=>by trivial
 | .tup _::r,bs,h=>by trivial
 | .lst _::r,bs,h=>by trivial
 | .obj _ _::r,bs,h=>by trivial
 | .dic _::r,bs,h=>by trivial
 | .dit _::r,bs,h=>by trivial
 | .exc _ _::r,bs,h=>by trivial
 | .idn _ _::r,bs,h=>by trivial
theorem zlE(bs):ua (bs.map D.str)\bs:=by
 induction bs with
 | nil=>rfl
 | cons b r a=>simp[ua,a]
theorem Uc{K:ar}:∀{bs:List af}{a},av K G a (bs.map D.str)->a=bs.map V.str
 | [],[],_=>rfl
 | b::bs,v::a,h=>by
  rw[h.1,Uc h.2];rfl
 | [],_::_,h=>by trivial
 | _::_,[],h=>by trivial
theorem zlF:∀{us},Vals (c.map V.str) us->StrsAre us c:=by
 induction c with
 | nil=>
  intro us h;cases h;show .nil
 | cons n r d=>
  intro us h;cases h with
  | cons a b=>
   let⟨t,rfl⟩:=a;show .cons _ _ (d b)
theorem U5{K:ar}(bs:List Int):av K G (bs.map V.int) (bs.map D.int):=by
 induction bs with
 | nil=>show av.nil
 | cons b r a=>show av.cons (eQ _ _ _) a
end
theorem U4:bootBuiltins "set"=some (.type "set"):=by rfl
theorem gQ.look{K:ar}:∀{a fs d},gQ K H a fs->fs.lookup f\d->∃v,a.lookup f\v/\Rep K H v d
 | [],[],d,_,h=>by trivial
 | (x,v)::a,(y,d')::fs,d,r,h=>by
  obtain⟨⟨rfl,r1⟩,b⟩:=r;rw[yn] at h ⊢;cases hb:f==x with
  | true=>rw[hb] at h;cases h;show⟨v,rfl,r1⟩
  | false=>rw[hb] at h;show gQ.look b h
 | [],_::_,_,r,_=>by simp![gQ] at r
 | _::_,[],_,r,_=>by simp![gQ] at r
noncomputable def kK:D->Bool
 | .non=>true
 | .bl _=>true
 | .int _=>true
 | .str _=>true
 | _=>false
def Rx(i:Nat)(te:TD):TD:=λρ Q=>te (eT i ρ) λr=>match r with
 | .fz d=>kK d=true/\Q (.fz d)
 | _=>False
def Rw(i:Nat)(t:cU):cU:=λρ Q=>t (eT i ρ) Q
theorem ze{K:ar}(h:kK d=true)(r:Rep K G v d):Rep K a v d:=by
 cases d<;>first | (show r) | cases h
noncomputable def less(G:Hp)(L:List ae):Hp:=λa=>if a∈L then none else G a
theorem Du(i:∀q∈L,G q=none)(x:Ext (jH G H L) H a H'):Ext G H (less a L) H':=by
 show⟨λb u e=>?_,x.h,λb u e=>?_,λq f d=>?_⟩
 .have hb:b∉L:=λz=>by rw[i b z] at e;cases e
  unfold less;rw[if_neg hb];show x.g b u (by rw[nh hb];show e)
 .unfold less at e;split at e
  .cases e
  show x.s b u e
 unfold less;split
 .rfl
 rename_i c;show x.n q (by rw[nh c];show f) d
theorem aS.Wr{K:ar}(i)(E:aS K d b ρ a G H):∃c,aS K d b (eT i ρ) a c H/\∀e H',Ext c H e H'->∃g,Ext G H g H':=
 let⟨L,f,h,_⟩:=E.A0 i
 ⟨_,h,λe H' x=>⟨_,Du f x⟩⟩
theorem TC(i)(h:PD X e te):PD X e (Rx i te):=by
 let⟨tt,p,q⟩:=h;show⟨tt,p,λρ σ l f G H Q P E h k=>?_⟩;let⟨j,n,back⟩:=E.Wr i;show q _ σ l f j H _ _ n h λv H' r m x c a=>?_
 split at a
 .rename_i d;let⟨g,b⟩:=back m H' x;show k v H' (.fz d) g b (ze a.1 c) a.2
 show a.elim
theorem TB(i)(h:PB X e t):PB X e (Rw i t):=by
 let⟨tt,p,q⟩:=h;show⟨tt,p,λρ σ j d G H Q P E h k=>?_⟩;let⟨g,m,back⟩:=E.Wr i;show q _ σ j d g H _ _ m h λb H' l x c=>?_
 let⟨f,a⟩:=back l H' x;show k b H' f a c
theorem zhD(t:SetTable)(n):(t.orStandIn n).led=t.led:=by
 unfold PM;split<;>rfl
theorem zlG(t a h x):(layNew t a h x).2.1.led=t.led:=by
 unfold layNew;split
 .exact zhD _ _
 rfl
theorem ziO{t t':SetTable}(h:t.relaid c a\(t',b)):t'.led=t.led/\t'.plain=t.plain:=by
 unfold OU Oj at h;cases d:Pp (PL a-1) c with
 | none=>rw[d] at h;cases h
 | some owner=>
  rw[d] at h;cases h;show⟨rfl,rfl⟩
theorem U3(c:s.heap.get? a=some { cls:=.type "set",dict:=none,data:=.set e d t,slots:=#[] })(hb:b.size<scanBound)
  (h:∀h',j6 a s.heap h'->h'.get? a=some { cls:=.type "set",dict:=none,data:=.set b (d+1) t',slots:=#[] }->Q () { s with heap:=h' }):↥(storeSet a b t') Q E s:=by
 show wpAny_storeSet_of c rfl ?_ (BS hb);show h _ (qO s.heap a (NQ b t')) ?_;have:=kG (NQ b t') c (by rfl);show this
section
variable{w:aB}{s:ai}
noncomputable abbrev m8(w:aB):aL:={ cls:=.type "set",dict:=none,data:=.set #[] 0 (.fresh 0 0 (!(w.params.followText "set-order"))) }
theorem zpB(a)(h:Q1 (.ref *...*) { s with heap:=s.heap.push (m8 w) }) :
  codeAny (model prog w) A (.call (.builtin "set.__new__") ⟨[.type "set",a],[]⟩) (wants Q1 E) s:=by
 show Gb ?_;show aj (ya (PySem.F.newCall_set_1 a) (az ⟨jB PySem.F.plain_set_new _,i8 PySem.F.entry_set_new ?_⟩));have c:=PySem.sub_set_self;let⟨b,g,d,tk,os⟩:=s;wp_walk
 show vA (az ?_);show aj (wpAny_alloc (az ?_));show az h
end
theorem uA:Slot "set_iterator" "__next__" "set_iterator.__next__":=
 .of (owner:="set_iterator") (n:="__next__") (by kernel_rfl) (by decide +kernel) (by decide +kernel) (by decide +kernel) (by first | show .inl (by decide +kernel) | show .inr (by decide +kernel)) (by kernel_rfl)
theorem Tz:Slot "set_iterator" "__iter__" "set_iterator.__iter__":=
 .of (owner:="set_iterator") (n:="__iter__") (by kernel_rfl) (by decide +kernel) (by decide +kernel) (by decide +kernel) (by first | show .inl (by decide +kernel) | show .inr (by decide +kernel)) (by kernel_rfl)
theorem Tx:entryFor table "set_iterator.__next__"=some Builtin.«set_iterator.__next__»:=entryFor_of_fast (by kernel_rfl)
theorem zr6:entryFor table "set_iterator.__iter__"=some Builtin.«dict_keyiterator.__iter__»:=OE (id':="dict_keyiterator.__iter__") (by kernel_rfl) rfl (by decide +kernel) (by kernel_rfl)
theorem zpC:entryFor table "set.__iter__"=some Builtin.«frozenset.__iter__»:=OE (id':="frozenset.__iter__") (by kernel_rfl) rfl (by decide +kernel) (by kernel_rfl)
theorem Tw(a):argsOk "set_iterator.__next__" ⟨[a],[]⟩:=by kernel_rfl
theorem zr7(a):argsOk "set_iterator.__iter__" ⟨[a],[]⟩:=by kernel_rfl
section
variable{s:ai}
theorem Kh{b:Type}:∀{l:List b}{i} h,(l[i]::l.eraseIdx i).Perm l
 | a::r,0,_=>.refl _
 | a::r,i+1,h=>by
  show(OD _ _ _).trans ((Kh (by simpa using h)).cons a)
theorem zlH(hn:n≠0)(h:∀i d,i<n->Q i { s with drawn:=d }):wpAny M A (choose src n) Q E s:=λa p _=>by
 show⟨hn,h _ _ (Bn _ (Nat.pos_of_ne_zero hn))⟩
theorem U2:∀n xs s (Q:List b->ai->Prop),xs.length<=n->(∀ys d,ys.Perm xs->Q ys { s with drawn:=d })->wpAny M A (drawOrder n xs) Q E s
 | 0,xs,s,Q,a,q=>by
  have:xs=[]:=vN (by cbv);subst this;show az (q [] s.drawn (.refl _))
 | n+1,[],s,Q,a,q=>by
  show az (q [] s.drawn (.refl _))
 | n+1,x::r,s,Q,a,q=>by
  show aj (zlH ∅ λi d hi=>?_);rw[bC hi];show aj (U2 n _ _ _ (by rw[Qj];split<;>simp at a ⊢<;>cbv) λys d' c=>az ?_);show q _ d' ((c.cons _).trans (Kh hi))
theorem Tv(f):∀n k left (out:Array b),left.length=n->(FO f n k left out).toList.Perm (out.toList++left)
 | 0,k,left,out,h=>by
  have:left=[]:=vN h;subst this;simp[FO]
 | n+1,k,left,out,h=>by
  unfold FO;have a:f k%left.length<left.length:=Bn _ (by cbv);rw[bC a];show(Tv f n (k+1) _ _ (by rw[Qj,if_pos a];cbv)).trans ?_;rw[GA,BU];show(OC _).append (Kh a)
theorem U1(f)(xs:Array a):(pickOrder f xs).toList.Perm xs.toList:=by
 have:=Tv f xs.size 0 xs.toList #[] ∅;simpa[pickOrder] using this
noncomputable abbrev n8(first:aa)(i:Nat)(S:ae)(n a:Nat):aL:={ cls:=.type "set_iterator",data:=.fields #[first,.int i 0,.ref S,.int n 0,.int a 0] }
theorem Ub{K:Fin->ai->Prop}(hh:A.handled=none)(f:s.heap.get? I\o)(hd:o.data=.fields c)(hv:2<c.size)
  (g:∀h',x9 I s.heap h'->Q none { s with heap:=h' }) :
  wpAny (model prog w) A.in1 (do setField (.ref I) 2 .none;raiseNew (<-newExc (.type "StopIteration") []):Sem Fin) K (λe d=>↥(do if <-isInstance e (.type "StopIteration") then pure none else throw e:Sem (Option aa)) Q E d) s:=by
 show aj (qH f hd hv ?_);show aj ?_;show aj (i9 ?_ (by size_fits));show aj (m:=firstArgMember _ _) (ya (a:=iL) (by first | rfl | (rfl)) ?_);show i9 ?_ (by size_fits);show aj (FY ?_);rw[show A.in1.handled=none from hh];show aj (az (FI ?_));show aj (BM (T:="StopIteration") (b:=true) ⟨_,b8 _ rfl,rfl⟩ F5 ?_);show az (g _ (((qO ..).extBut.push _).push _))
end
section
variable{s:ai}
abbrev Fq(vals:List aa):Nat->aa->Prop:=λi v=>vals[i]?=some v
theorem Jd(b:s.heap.get? I\n8 first i S n c)(q:Q (.ref I) s):↥(pyIter (.ref I)) Q E s:=by
 have a:s.TypeIs (.ref I) "set_iterator":=⟨_,b,rfl⟩
 show Gz a Tz (j1 Tz a zr6 ?_ (zr7 _));show az ⟨_,rfl,"set_iterator",_,a,uA.lookup,q⟩
theorem zvN{b:Type}{a:Array b}(h:a.size=1):∃e,a=#[e]:=⟨a[0]'(by cbv),Array.ext (by trivial) λi hi _=>by
 have:i=0:=by cbv
 subst this;rfl⟩
end
theorem zm9{a:Array (Int×aa)}{ps:List Nat}(b:ps.Perm (aI a.size)):(ps.map λp=>(a.getD p (0,.none)).2).Perm (a.toList.map (·.2)):=by
 show(b.map _).trans ?_;have e:(aI a.size).map (λp=>(a.getD p (0,.none)).2)=a.toList.map (·.2):=by
  apply tE;all_goals cbv
 rw[e]
theorem zpD(d:s.TypeIs (.ref a) "set")(h:Q false s):↥(YT (.ref a)) Q E s:=by
 show aj (OS d PySem.F.slot_set_len.lookup ?_);generalize c:("set.__len__":String)=f;wp_delta
 subst c;show aj (BM (T:="set") (b:=true) d (by kernel_rfl) ?_);show vy (λe=>absurd e (by decide)) (λ_=>vy (λ_=>?_) (λe=>absurd (by rfl) e));show aj (pe d (az h))
theorem Inv.draw{a:St}(I:Inv X b a H s)(d):Inv X b a H { s with drawn:=d }:=
 ⟨I.ok,I.os,I.bare,I.base,I.loc,I.cell,I.free,I.jT,I.pin,I.aJ,I.len⟩
section
variable{X:Cx}{e i':ax}{te ti:TD}
def zwG(i:Nat):TX:=λD ρ=>match gt ρ i with
 | .ow _=>D.nx (ρ.set i (.ow []))
 | _=>False
def Dt(i:Nat):TX:=λD ρ=>match gt ρ i with
 | .ow ds=>D.nx (ρ.set i (.ow ds.reverse))
 | _=>False
theorem Vm(i)(hN:Nm X i x:=by walk_at"nm")
  (hb:∀{e},PE X (.Name x f) e->PE X (.Call (.Attribute (.Name x f) "reverse" j) [] [] b) (Q8 X.K "list" TU e):=by intro e d;show zt1 vJ PySem.F.slot_list_reverse PySem.F.type_list_reverse zlt d) :
  PX X (.Expr (.Call (.Attribute (.Name x f) "reverse" j) [] [] b) pos) (Dt i):=by
 show⟨_,rK (hb (jL hN)),λρ σ r q G H D E k h g=>?_⟩;unfold Dt at h;split at h
 .rename_i ds hg;let⟨a,xs,d,m,p,o,n⟩:=k.ow i ds hg;show⟨_,d,.inl ⟨rfl,xs,bM.of m⟩,a,xs,rfl,rfl,m,g.nx _ _ G _ (aZ.refl _) (k.change hg d n.reverse) h⟩
 show h.elim
def rA(i:Nat)(ti te:TD):TX:=λD ρ=>match gt ρ i with
 | .ow ds=>te ρ λr=>ti ρ λrk=>match rk.val with
  | .int k=>∃j,iD ds.length k\j/\D.nx (ρ.set i (.ow (ds.set j r.val)))
  | _=>False
 | _=>False
theorem zd(i)(hi:PD X i' ti)(P:PD X e te)(hN:Nm X i x:=by walk_at"nm")
  (ha:∀v,assign (.Subscript (.Name x d) i' b) X.env v=(do
   let ov <-holding [v] (eval (.Name x d) X.env)
   let iv <-holding [v,ov] (eval i' X.env)
   standAt b
   holding [v,ov,iv] (setItem ov iv v)
   release [v,ov,iv] []):=by intro _;rfl)
  (M:swapsWithSole [.Subscript (.Name x d) i' b] e pos.line X.env=pure false:=by rfl) (hw:swappedStores [.Subscript (.Name x d) i' b] e X.env=pure none:=by rfl)
  (m:(assignEach [.Subscript (.Name x d) i' b] X.env).map (·.2)=[assign (.Subscript (.Name x d) i' b) X.env]:=by rfl) :
  PX X (.Assign [.Subscript (.Name x d) i' b] e pos) (rA i ti te):=by
 let⟨t,p,q⟩:=P;let⟨U,F,K⟩:=hi;show⟨_,ztL p (ztJ (jL hN) F set_list ha) M hw m,λρ σ A z G H D E k h g=>?_⟩;unfold rA at h;split at h
 .rename_i ds hg;let⟨a,xs,m,Q,W,V,y⟩:=k.ow i ds hg;show q ρ σ A z G H _ _ k h λv H' r G' C J N=>?_
  obtain⟨T,s,I,_⟩:=J.freeze C;show⟨_,m,K ρ σ A z T H' _ _ (k.ext s) N λu Y rk Z B L f=>?_⟩;obtain⟨S,o,w,_⟩:=L.freeze B;split at f
  .rename_i kk R;let⟨j,O,f⟩:=f;rw[R] at w;have n:=s.trans o;show⟨a,xs,kk,j,rfl,w,n.h _ _ Q,by rw[y.length];show O,?_⟩;show g.nx _ _ S _ n.g ((k.ext n).change hg m ((y.mono n.g).set j (I.mono o.g))) f
  show f.elim
 show h.elim
end
section
variable{κ:Type}[DecidableEq κ]
noncomputable def eL(kvs:List (κ×V))(k:κ):Option V:=(kvs.find? λkv=>decide (kv.1=k)).map (·.2)
noncomputable def mi(kvs:List (κ×V))(k:κ)(v:V):List (κ×V):=
 if (kvs.any λkv=>decide (kv.1=k))=true then kvs.map (λkv=>if kv.1=k then(kv.1,v) else kv) else kvs++[(k,v)]
theorem Ua{p:κ×V}{r:List (κ×V)}{k:κ}(e:p.1=k):eL (p::r) k\p.2:=by simp[eL,jD,e]
theorem T9{p:κ×V}{r:List (κ×V)}{k:κ}(e:¬p.1=k):eL (p::r) k=eL r k:=by simp[eL,jD,e]
theorem zjO(kvs:List (κ×V))(k:κ)(v:V):(mi kvs k v).length<=kvs.length+1:=by
 unfold mi;grind
theorem mQ.Wv(r:mQ o u):o.isSome=u.isSome:=by
 cases o with
 | none=>cases u with
  | none=>rfl
  | some _=>show(show False from r).elim
 | some _=>cases u with
  | none=>show(show False from r).elim
  | some _=>rfl
theorem KV.val{kvs:List (κ×V)}{d:List (κ×aa)}(r:KV kvs d)(k:κ):mQ (eL kvs k) (valueAt d k):=by
 unfold KV at r;induction r with
 | nil=>show l9
 | @cons p q ps a h t g=>
  let⟨f,i⟩:=h;by_cases e:p.1=k
  .have c:q.1=k:=f.symm.trans e;have b:valueAt (q::a) k\q.2:=by simp[valueAt,jD,c]
   rw[Ua e,b];show i
  have c:¬q.1=k:=λz=>e (f.trans z)
  have b:valueAt (q::a) k=valueAt a k:=by simp[valueAt,jD,c]
  rw[T9 e,b];show g
theorem KV.any{kvs:List (κ×V)}{a:List (κ×aa)}(r:KV kvs a)(k:κ):(kvs.any λkv=>decide (kv.1=k))=a.any λkv=>decide (kv.1=k):=by
 unfold KV at r;induction r with
 | nil=>rfl
 | cons h t b=>rw[vm,vm,b,h.1]
theorem KV.D8{kvs:List (κ×V)}{a:List (κ×aa)}(r:KV kvs a)(k:κ){y:V}{u:aa}(c:RelV y u) :
  KV (kvs.map λkv=>if kv.1=k then(kv.1,y) else kv) (a.map λkv=>if kv.1=k then(kv.1,u) else kv):=by
 unfold KV at r ⊢;induction r with
 | nil=>show .nil
 | @cons p q ps d h t b=>
  rw[bO,bO];show .cons ?_ b;grind
theorem KV.put{kvs:List (κ×V)}{a:List (κ×aa)}(r:KV kvs a)(k:κ){y:V}{u:aa}(b:RelV y u):KV (mi kvs k y) (stored a k u):=by
 unfold mi stored;rw[r.any k];by_cases e:(a.any λkv=>decide (kv.1=k))=true
 .rw[if_pos e,if_pos e];show r.D8 k b
 rw[if_neg e,if_neg e];show NX r ⟨rfl,b⟩
theorem KV.keys{kvs:List (κ×V)}{a:List (κ×aa)}(r:KV kvs a):kvs.map (·.1)=a.map (·.1):=by
 unfold KV at r;induction r with
 | nil=>rfl
 | cons h t b=>rw[bO,bO,b,h.1]
theorem KV.length{kvs:List (κ×V)}{a:List (κ×aa)}(r:KV kvs a):kvs.length=a.length:=By r
end
theorem v8(r:RelV (kV k) u):(eR P w).is k u=true:=by
 cases k with
 | inl i=>let⟨t,e⟩:=(show ∃t,u=o9 i t from r);subst e;show zjB P w i t
 | inr x=>let⟨t,e⟩:=(show ∃t,u=vf x t from r);subst e;show zjC P w x t
def vR(i:ax):Prop:=∀ov iv,subscripted i false ov iv=operate [ov,iv] (getItem ov iv)
theorem S4
  (m:typeLookup (.type T) "__getitem__"=pure (some (.builtin k))) (l:vR slice)
  (h:↥(eval a env) (λo f=>↥(eval slice env) (λi b=>b.TypeIs o T/\↥(getItem o i) Q E b) E f) E s) :
  ↥(eval (.Subscript a slice pos) env) Q E s:=by
 show FE (eW h (λo f j=>eW j (λi b c=>?_) λ_ _ x=>x) λ_ _ x=>x);let⟨e,c⟩:=c;unfold subscriptTail;show aj ?_;rw[getitemInPython_of_ne e.not_modules];show aj (OS e m ?_);have fin:↥(subscripted slice false o i) (λr d=>↥(letTemporaryGo a o r >>= λ_=>pure r) Q E d) E b:=by
  rw[l o i];show wpAny_operating (eW c (λr d g=>aj (wpAny_letTemporaryGo (az g))) λ_ _ x=>x)
 first
  | show az (aj fin)
  | show aj (az (aj fin))
  | show aj fin
structure M2(X:Cx)(o:ax)(m:af)(apos:aG)(e f:ax)(de:aG):Prop where
 base:attributeBase o m X.env (eval o X.env)=eval o X.env
 few:((backTo de (starEach [e,f] X.env)).all (λx=>!x.1)&&(backToKw de (keywordEach [] X.env)).all (λx=>x.1.isSome)
  && decide (([e,f]:List ax).length+([]:List Keyword).length+(if ([]:List Keyword).isEmpty then 0 else 1)<30))=true
 line:(apos.endLine==de.line)=true
 trees:backTo de (starEach [e,f] X.env)=[(false,eval e X.env),(false,eval f X.env)]
theorem CM(ok:dB P w H h)(e:Rd H a (.dK kvs b)):kvs.length<=sizeLine/\(a==sysModules)=false/\∃c,KV kvs c/\h.DictAt (eR P w) a c b:=
 show dX P w H h a (.dK kvs b) from e.ok ok
theorem v7(ok:dB P w H h)(e:Rd H a (.dK kvs i)):kvs.length<=sizeLine/\(a==sysModules)=false/\∃b,KV kvs b/\h.DictOf (eR P w) a b:=
 let⟨g,f,b,d,c⟩:=CM ok e
 ⟨g,f,b,d,c.dictOf⟩
theorem Ie(ok:dB P w H h)(e:H a\.dK kvs c):kvs.length<=sizeLine/\(a==sysModules)=false/\∃b,KV kvs b/\h.DictOf (eR P w) a b:=v7 ok (.inl e)
def mS(H:Hp)(a:ae)(y:V)(r:Option V):Prop:=∃kvs b k,Rd H a (.dK kvs b)/\y=kV k/\r=eL kvs k
theorem mS.k{k:Key}(e:H a\.dK kvs b):mS H a (kV k) (eL kvs k):=⟨kvs,b,k,.inl e,rfl,rfl⟩
section
variable{σ:St}
theorem Inv.big(I:Inv X J' σ H s):sysModules< *...*:=by
 have h:mainGlobals< *...*:=(I.mod.glob.keeps I.bk).lt;show nV (by decide) h
theorem znb(I:Inv X J' σ H s)(g:mS H a y (some v))(f:RelV y u)(h:∀b c,Inv X J' σ H c->RelV v b->Q b c):wpAny (model X.prog X.w) A (getItem (.ref a) u) Q E s:=by
 let⟨kvs,n,k,e,j,l⟩:=g;subst j;let⟨z,hd,d,rel,m⟩:=v7 I.aJ e;let⟨b,hw,i⟩:=mQ.some_of (v:=v) (o:=valueAt d k) (by rw[l];show rel.val k);show wpAny_getItem_of (v8 f) m.mapOf hw (h b _ (I.tok _) i)
theorem Zs(I:Inv X J' σ H s)(g:mS H a y o)(c:RelV y u)(h:∀b,Inv X J' σ H b->Q (.bool o.isSome) b):wpAny (model X.prog X.w) A (compareOp .In u (.ref a)) Q E s:=by
 let⟨kvs,j,k,e,d,l⟩:=g;subst d;let⟨z,hd,i,rel,f⟩:=v7 I.aJ e;show wpAny_in_of (v8 c) hd f.mapOf ?_;rw[<-(rel.val k).Wv,<-l];show h _ (I.tok _)
theorem zr9(I:Inv X J' σ H s)(g:mS H a y o)(c:RelV y u)(h:∀b,Inv X J' σ H b->Q (.bool (!o.isSome)) b):wpAny (model X.prog X.w) A (compareOp .NotIn u (.ref a)) Q E s:=by
 let⟨kvs,j,k,e,d,l⟩:=g;subst d;let⟨z,hd,i,rel,f⟩:=v7 I.aJ e;show wpAny_notIn_of (v8 c) hd f.mapOf ?_;rw[<-(rel.val k).Wv,<-l];show h _ (I.tok _)
theorem S3(I:Inv X J' σ H s)(c:Bb (H a))(d:j6 a s.heap h')(f:∃q,h'.get? a\q)(new:dX X.prog X.w (upd H a ob) h' a ob) :
  Inv X J' σ (upd H a ob) { s with heap:=h',toks:=t' }:=
 I.write (x:=a) (e:=a) c (.inl rfl) (λb q hb z=>(d.2 b hb).trans z) f new
theorem HN{h':aw}(e:h'.DictOf (eR P w) a c):∃b,h'.DictAt (eR P w) a c b:=let⟨o,d,b,r⟩:=e;⟨b,o,d,r⟩
theorem Iz(z:kvs.length<=sizeLine)(hd:(a==sysModules)=false)(c:KV kvs b)(e:h'.DictAt (eR P w) a b d) :
  dX P w H' h' a (.dK kvs d):=⟨z,hd,b,c,e⟩
theorem zne{o:Nat}(I:Inv X J' σ H s)(e:H a\.dK kvs o)(l:kvs.length<sizeLine)(i:RelV (kV k) u)(j:RelV v r)(h:∀d b,Inv X J' σ (upd H a (.dK (mi kvs k v) b)) d->Q () d) :
  wpAny (model X.prog X.w) A (setItem (.ref a) u r) Q E s:=by
 let⟨z,hd,g,rel,p⟩:=Ie I.aJ e;have hz:g.length<=sizeLine:=by rw[<-rel.length];show z
 have hl:(mi kvs k v).length<=sizeLine:=by have:=zjO kvs k v;room
 show wpAny_setItem_pairs (hsz:=hz) (v8 i) p λh' f m=>?_
 have he:∃q,h'.get? a\q:=let⟨q,_,_,n,_⟩:=f;⟨q,n⟩
 let⟨b,t⟩:=HN f;show h _ b (S3 I (by rw[e];show l9) m he (Iz hl hd (rel.put k j) t))
end
def ZZ(c ty:TE):TE:=λσ H Q=>c σ H λx H1=>ty σ H1 λy b=>∃a v,x=.ref a/\mS b a y (some v)/\Q v b
def ZY(d ty c:TE):TS:=λD σ H=>c σ H λv H1=>d σ H1 λx g=>ty σ g λy b=>∃a kvs f k,x=.ref a/\b a\.dK kvs f/\y=kV k/\kvs.length<sizeLine/\∀e,D.nx σ (upd b a (.dK (mi kvs k v) e))
def IsD(H:Hp)(a:ae):Prop:=∃kvs b,Rd H a (.dK kvs b)
theorem zum{f:St}(I:Inv X i f H s)(d:IsD H a) :
  s.TypeIs (.ref a) "dict"/\(∀b,cI a=.ref b->∃ob,s.heap.get? b=some ob/\ob.dict=none)/\(a==sysModules)=false:=by
 let⟨kvs,k,e⟩:=d;let⟨z,hd,j,z,c⟩:=v7 I.aJ e;show⟨c.typeIs,λb q=>?_,hd⟩;cases q;let⟨ob,z,z,h,g,z⟩:=c;show⟨ob,h,g.2.1⟩
section
variable{o i e value:ax}
theorem S2(q:PE X o td)(hi:PE X i ty)(p:vR i):PE X (.Subscript o i pos) (ZZ td ty):=by
 intro c s σ H Q I h;show S4 PySem.F.slot_dict_getitem.lookup p (aR (q c s σ H _ I h) λu s1 b=>?_);let⟨x,H1,I1,j,n⟩:=b;show aR (hi c s1 σ H1 _ I1 n) λiv s2 b=>?_
 let⟨y,w,d,f,a,v,ex,g,m⟩:=b;subst ex;obtain rfl:u=cI a:=j;let⟨kvs,r,k,e,Z⟩:=id g;show⟨(zum d ⟨kvs,r,e⟩).1,znb d g f λz A t l=>⟨v,w,t,l,m⟩⟩
theorem S1(t:PE X o td)(hi:PE X i ty)(hv:PE X value tv)(q:swapsWith value (some (.Subscript o i pos')) pos.line X.env=pure false) :
  PS X (.Assign [.Subscript o i pos'] value pos) (ZY td ty tv):=by
 intro c s σ H D I h;show wpAny_Assign_Subscript (aR (hv c s σ H _ I h) λr s1 b=>?_) q;let⟨v,H1,I1,f,n⟩:=b;show aR (t c s1 σ H1 _ I1 n) λu s2 b=>?_
 let⟨x,C,B,e,m⟩:=b;show aR (hi c s2 σ C _ B m) λiv s3 b=>?_
 let⟨y,F,A,d,a,kvs,E,k,ex,g,w,l,j⟩:=b;subst ex w;obtain rfl:u=cI a:=e;show zne A g l d f λs4 p z=>⟨σ,_,z,j p⟩
theorem zpF(h:aw)(hb:sysModules<h.objs.size):dX P w H (h.push { cls:=.type "dict",data:=.dict #[] }) h.objs.size (.dK [] 0):=
 ⟨du _,beq_eq_false_iff_ne.mpr (Ne.symm (bJ hb)),[],.nil,_,#[],b8 _ rfl,⟨rfl,rfl,rfl⟩,rfl,λ_ he=>by simp at he,Pairs.nil,vq⟩
def zun:TE:=λ_ H Q=>∀p,H p=none->Q (.ref p) (upd H p (.dK [] 0))
theorem zpG:PE X (.Dict [] [] pos) zun:=λb s σ H Q I h=>
 O7 ⟨.ref *...*,_,I.laid (a:=*...*) (o:=.dK [] 0) (t':=s.toks) (λ_ _ q=>aV _ q) (aW _) (zpF s.heap I.big),rfl,h _ (I.aJ.fresh (aW _))⟩
end
theorem znh:fk X (.builtin "len") (λxs H Q=>∃a kvs b,xs=[V.ref a]/\H a=some (.dK kvs b)/\Q (.int kvs.length) H):=by
 intro f s σ H xs us Q I r h;let⟨a,kvs,b,rfl,ha,q⟩:=h;let⟨u,rfl,c⟩:=gH r;cases c;let⟨z,hd,e,rel,d⟩:=v7 I.aJ (.inl ha);show call_len_dict hd d (by rw[<-rel.length];rw[sizeLine_eq] at z;lia) ?_;rw[<-rel.length];show⟨.int kvs.length,H,I.tok _,⟨_,rfl⟩,q⟩
end L2
namespace PySem
open Sem (wp)
theorem VF:typeLookup (.type "list") "keys"=pure none:=by kernel_rfl
theorem VH
  (j:s.heap.get? a=some o) (l:o.cls=.type "list") (p:o.data=.seq xs k) (hd:o.dict=none) (b:typeLookup (.type "list") name=pure none) (f:(["__module__","__name__","__qualname__","__doc__","__annotations__"]:List af).contains name=false) (r:A.handled=none)
  (h:∀h' tk e,Heap.NewExcOf s.heap h' e "AttributeError"->Q none { s with heap:=h',toks:=tk }) (hsz:name.length+100<=sizeLine:=by size_fits) :
  ↥(getAttr? (.ref a) name) Q E s:=by
 let⟨c,t,dat,sl⟩:=o;simp only at l p hd;subst l p hd;let⟨q,g,d,tk,os⟩:=s;have m:∀i,(⟨q,g,d,i,os⟩:ai).TypeIs (.ref a) "list":=λ_=>⟨_,j,rfl⟩
 have f1:=sub_AttributeError;have x:=F.slot_list_getattribute.lookup;have f4:=F.slot_list_getattribute.bind (.ref a);have v:=am_list_getattr_none;unfold getAttr? getAttrBy? getAttrBy;repeat(any_goals (first | assumption | show m _ | ((with_reducible show wpAny _ _ (call (Bw "list.__getattribute__") _ _) _ _ _);show xZ F.slot_list_getattribute (m _) am_entry_list_getattribute (F.args_list_getattribute_2 _ _) (meets_getattribute_miss_list a xs k sl name _ b f hsz) ⟨j,r,λh' i e n=>?_⟩) | wp_step))
 let⟨t',u,he⟩:=n.there;show wpAny _ _ (getattributeRaised _ _ _ _ _ _ _) _ _ _;unfold getattributeRaised;repeat(any_goals (first | assumption | wp_step))
 show h _ _ _ n.of
theorem DT:entryFor table "dict.update.loop"=some Builtin.«dict.update.loop»:=entryFor_of_tree (by kernel_rfl)
theorem DS:plainId "dict.update.loop"=true:=by decide +kernel
section
variable{prog:aD}{w:aB}{K:Type}[DecidableEq K]{knd:KeyKind prog w K}{A:aT}{R:Result->ai->Prop}{I:ae}{fp wr:List ae}{G:Array GenState->Array GenState->Prop}{n:Nat}{P:Nat->aa->Prop}{St:Nat->ai->Prop}
theorem zjP{kvs:List (K×aa)}(hn:(kvs.map (·.1)).Nodup){i:Nat}{k:K}{y:aa}(e:kvs[i]?\(k,y)):stored (kvs.take i) k y=kvs.take (i+1):=by
 have d:(kvs.take i).any (λkv=>kv.1=k)=false:=by
  rw[Gy];intro z;rw[nY] at z;let⟨p,b,hk⟩:=z;let⟨j,c,a⟩:=tJ b;rw[eJ] at c;have hi:i<kvs.length:=(cf.mp e).1;have f:(kvs.map (·.1))[j]'(by grind)=(kvs.map (·.1))[i]'(by cbv):=by
   rw[pq,pq];rw[Gx] at a;rw[a,(cf.mp e).2];simpa using hk
  show l7.mp hn j i (by rw[aO];lia) (by cbv) (by grind) f
 unfold stored;rw[d];rw[dM,e];rfl
theorem zpH(W:WalksS prog w A.in1 I fp wr G n P St)(S:ae)(t:S∉fp)(u:aw)(kvs:List (K×aa))(M:kvs.length=n)(hn:(kvs.map (·.1)).Nodup)(hsz:kvs.length<=sizeLine)
  (J:∀i v,P i v->∃k y key a,kvs[i]?\(k,y)/\v=.ref a/\knd.is k key=true/\u.IsTuple a #[key,y]/\a≠S/\a∉wr) :
  ∀(m i:Nat)(s:ai),n-i=m->i<=n->St i s->s.heap.DictOf knd S (kvs.take i)->(∀b o,b≠S->b∉wr->u.get? b\o->s.heap.get? b\o)->
   (∀c,Moved (S::wr) G s c->c.heap.DictOf knd S kvs->R (.ok (.ret .none)) c)->codeAny (model prog w) A (.builtin "dict.update.loop" ⟨[.ref S,.ref I,rawInt (i:Int),.none],[]⟩) R s:=by
 have l:S∉wr:=λh=>t (W.sub _ h)
 have more:∀b∈wr,b∈S::wr:=λb hb=>eh _ hb
 intro m;induction m with
 | zero=>
  intro i s hk hi st T iP q;have e:i=n:=by grind
  subst e;show i8 DT ?_;show aj (W.done s _ _ st λc hm=>?_);rw[<-M,eY] at T;show aj (az (az (q c (hm.mono more) ?_)));let⟨o,g,j,f,r⟩:=T;show⟨o,g,j,hm.heap S _ l f,r⟩
 | succ m L=>
  intro i s hk hi st T iP q;have B:i<n:=by grind
  show i8 DT ?_;show aj (W.item i s _ _ B st λv c U X hm=>?_);let⟨k,y,key,a,F,rfl,H,Q,Mw,D⟩:=J i v U;have Z:c.heap.DictOf knd S (kvs.take i):=by
   let⟨o,g,j,f,r⟩:=T;show⟨o,g,j,hm.heap S _ l f,r⟩
  let⟨o,N,O,nn,hd⟩:=Q;have x:c.heap.get? a=some o:=hm.heap a o D (iP a o Mw D N);show aj (eX ?_);show aj (tf ?_);show aj (pe (T:="tuple") ⟨o,x,O⟩ ?_);show aj (jZ x hd ?_);show az ?_;show eX (P5 (hsz:=by rw[eJ];lia) H Z λh' C d=>?_);rw[zjP hn F] at C;show az ⟨jB DS _,L (i+1) _ (by grind) B (W.frame _ c _ _ X (iM _) λb hb o e=>?_) C (λb o p E e=>?_) λs2 V Y=>?_⟩
  .rw[d.2 b (λz:b=S=>t (by rw[<-z];show hb))];show e
  .rw[d.2 b p];show hm.heap b o E (iP b o p E e)
  show q s2 (Moved.trans W.gtrans ((hm.mono more).then_heap (iM _) λb o hb e=>?_) V) Y;rw[d.2 b (λz:b=S=>hb (by rw[z];show lA))];show e
end
section
variable{prog:aD}{w:aB}{K:Type}[DecidableEq K]{knd:KeyKind prog w K}{A:aT}{E:aa->ai->Prop}{s:ai}
theorem zlK{l:ae}{items:List aa}{kvs:List (K×aa)}{Q:aa->ai->Prop}(hh:A.handled=none)(N:∃o n,s.heap.get? l=some o/\o.cls=.type "list"/\o.dict=none/\o.data=.seq items.toArray n)(X:kvs.length=items.length)(hn:(kvs.map (·.1)).Nodup)(hsz:kvs.length<=sizeLine)
  (I:∀(i:Nat)(v:aa),items[i]?\v->∃k y key a,kvs[i]?\(k,y)/\v=.ref a/\knd.is k key=true/\s.heap.IsTuple a #[key,y])
  (h:∀h' tk,h'.DictOf knd *...* kvs->(∀b o,s.heap.get? b\o->h'.get? b\o)->Q (.ref *...*) { s with heap:=h',toks:=tk }) :
  ↥(call (.type "dict") [.ref l]) Q E s:=by
 let⟨ol,nl,x,p,H,t⟩:=N;show OB (Q₁:=λobj C=>obj=.ref *...*/\C={ s with heap:=s.heap.push { cls:=.type "dict",data:=.dict #[] } }) O6 (Qi _) Po (O5 _ ⟨rfl,rfl⟩) ?_;rintro obj C ⟨rfl,rfl⟩;have j:(s.heap.push { cls:=.type "dict",data:=.dict #[] }).DictOf knd *...* []:=OR s.heap;show⟨j.typeIs,PJ _ _,?_⟩;have m:(s.heap.push { cls:=.type "dict",data:=.dict #[] }).get? l=some ol:=aV _ x;show aj ?_;show aj (Ca j.typeIs ?_);show az ?_;show aj (pe (T:="list") ⟨_,m,p⟩ ?_);show aj (VH m p t H VF (by rfl) (by simpa using hh) ?_);intro h' tk e ne;show aj (kH ?_);have kp:∀b o,(s.heap.push { cls:=.type "dict",data:=.dict #[] }).get? b=some o->h'.get? b=some o:=ne.keeps
 have B:h'.IsList l items.toArray:=⟨_,kp _ _ m,p,nl,t⟩
 have D:h'.DictOf knd *...* []:=by
  let⟨o,f,g,c,r⟩:=j;show⟨o,f,g,kp _ _ c,r⟩
 have u:l< *...*:=aX x;have d:*...*<h'.objs.size:=by
  let⟨o,f,g,c,r⟩:=D;show aX c
 show aj (tH B (az ⟨jB DS _,?_⟩));have V:l≠h'.objs.size:=bJ (nV u d);have L:*...*∉[h'.objs.size,l]:=by
  simp![bx,gC,or_false,not_or];show⟨bJ d,jd u⟩
 have U:A.in1.in1.handled=none:=by simpa using hh
 show zpH ((vg U _ l V items.toArray).toS) *...* L s.heap kvs (by trivial) hn hsz (λi v hv=>?_) (items.toArray.size-0) 0 _ rfl (du _)
  ⟨⟨_,b8 _ rfl,rfl,rfl⟩,(B.push _)⟩ (by
   let⟨o,f,g,c,r⟩:=D;show⟨o,f,g,aV _ c,r⟩) (λb o W Y e=>aV _ (kp _ _ (aV _ e))) ?_
 .rw[yv] at hv;let⟨k,y,key,a,c,q,O,z⟩:=I i v hv;have ha:a< *...*:=by let⟨o,M,Z⟩:=z;show aX M
  show⟨k,y,key,a,c,q,O,z,bJ ha,?_⟩;simp![dD];show bJ (nV ha d)
 intro F hm T;let⟨q,g',d',J,G⟩:=F;have R:g'=s.gens:=hm.gens;have S:d'=s.drawn:=hm.drawn;have P:G=s.os:=hm.os;subst R S P;show⟨rfl,h q J T λb o e=>?_⟩;have hb:b< *...*:=aX e;show hm.heap b o ?_ (aV _ (kp _ _ (aV _ e)));simp![bx,gC,or_false,not_or];show⟨bJ hb,bJ (nV hb d)⟩
end
end PySem
namespace L2
open PySem PySem.Spec PyProof.Rows
noncomputable def jf:D->Option Key
 | .int i=>some (.inl i)
 | .str x=>some (.inr x)
 | _=>none
noncomputable def tP:Key->D
 | .inl i=>.int i
 | .inr x=>.str x
theorem rF{K:ar}(r:Rep K G v d)(h:jf d\k):v=kV k:=by
 cases d<;>simp only[jf,fA,reduceCtorEq] at h<;>subst h<;>simp only[Rep] at r<;>subst r<;>rfl
noncomputable def look(kvs:List (Key×D))(k:Key):Option D:=(kvs.find? λkv=>decide (kv.1=k)).map (·.2)
noncomputable def je(kvs:List (Key×D))(k:Key)(d:D):List (Key×D):=
 if (kvs.any λkv=>decide (kv.1=k))=true then kvs.map (λkv=>if kv.1=k then(kv.1,d) else kv) else kvs++[(k,d)]
section
variable{K:ar}{G:Hp}
theorem aU.length:∀{ks kvs},aU K G ks kvs->ks.length=kvs.length
 | [],[],_=>rfl
 | a::ks,b::kvs,h=>by
  simp![cL,aU.length h.2]
 | [],_::_,h=>by simp![aU] at h
 | _::_,[],h=>by simp![aU] at h
theorem aU.nil:aU K G [] []:=by simp![aU]
theorem aU.any(k):∀{ks kvs},aU K G ks kvs->(ks.any λkv=>decide (kv.1=k))=kvs.any λkv=>decide (kv.1=k)
 | [],[],_=>rfl
 | a::ks,b::kvs,h=>by
  rw[vm,vm,h.1.1,aU.any k h.2]
 | [],_::_,h=>by simp![aU] at h
 | _::_,[],h=>by simp![aU] at h
theorem aU.snoc(r:Rep K G v d):∀{ks kvs},aU K G ks kvs->aU K G (ks++[(k,v)]) (kvs++[(k,d)])
 | [],[],_=>by simp![BF,aU];show⟨⟨trivial,r⟩,trivial⟩
 | a::ks,b::kvs,h=>by
  show⟨h.1,aU.snoc r h.2⟩
 | [],_::_,h=>by simp![aU] at h
 | _::_,[],h=>by simp![aU] at h
theorem aU.D8(r:Rep K G v d):∀{ks kvs},aU K G ks kvs->aU K G (ks.map λkv=>if kv.1=k then(kv.1,v) else kv) (kvs.map λkv=>if kv.1=k then(kv.1,d) else kv)
 | [],[],_=>by trivial
 | a::ks,b::kvs,h=>by
  simp![bO,aU];show⟨?_,aU.D8 r h.2⟩;rw[h.1.1];split
  .exact⟨rfl,r⟩
  show⟨h.1.1,h.1.2⟩
 | [],_::_,h=>by assumption
 | _::_,[],h=>by assumption
theorem aU.put(h:aU K G ks kvs)(r:Rep K G v d):aU K G (mi ks k v) (je kvs k d):=by
 unfold mi je;rw[h.any k];split
 .exact h.D8 r
 show h.snoc r
theorem aU.look{k:Key}{d:D}:∀{ks:List (Key×V)}{kvs:List (Key×D)},aU K G ks kvs->look kvs k\d->∃v,eL ks k\v/\Rep K G v d
 | [],[],_,e=>by trivial
 | a::ks,b::kvs,h,e=>by
  simp![aU] at h;unfold L2.look at e;unfold eL;rw[jD] at e ⊢;rw[h.1.1];by_cases hk:b.1=k
  .simp_all
  simp![hk,decide_false] at e ⊢;show aU.look h.2 e
 | [],_::_,h,_=>by simp![aU] at h
 | _::_,[],h,_=>by simp![aU] at h
theorem aU.isSome(k):∀{ks kvs},aU K G ks kvs->(eL ks k).isSome=(L2.look kvs k).isSome
 | [],[],_=>rfl
 | a::ks,b::kvs,h=>by
  unfold L2.look eL;rw[jD,jD,h.1.1];by_cases hk:b.1=k
  .simp![hk,decide_true,fO,PQ]
  simp![hk,decide_false];show aU.isSome k h.2
 | [],_::_,h=>by simp![aU] at h
 | _::_,[],h=>by simp![aU] at h
end
section
variable{X:Cx}{e i':ax}{te ti tv:TD}
def rh:TD:=λ_ Q=>Q (.ov (.dc []))
theorem ue:PD X (.Dict [] [] pos) rh:=by
 show⟨_,zpG,λρ σ c b G H Q P E h k=>λd hd=>?_⟩;show k _ _ (.ov (.dc [])) G (.own E.e.s hd) ⟨d,[],rfl,by show gu _ _,⟨rfl,[],0,cw,aU.nil⟩,λq a=>?_⟩ h;simp![dD] at a;subst a;show⟨hd,E.e.s.free hd⟩
def pG(a:Bool):O2:=λd e Q=>match e with
 | .dic kvs=>∃k,jf d\k/\Q (.fz (.bl (if a then !(look kvs k).isSome else(look kvs k).isSome)))
 | _=>False
theorem zuo(f:X.A.units+64<cLine):cE X (compareOp .In) (λx y H Q=>∃a o,y=.ref a/\mS H a x o/\Q (.bl o.isSome) H):=by
 intro i s σ H x y v u Q I c b h;let⟨a,o,rfl,g,q⟩:=h;cases b;show Zs I g c λe d=>⟨.bl _,H,d,rfl,q⟩
theorem zni(f:X.A.units+64<cLine):cE X (compareOp .NotIn) (λx y H Q=>∃a o,y=.ref a/\mS H a x o/\Q (.bl (!o.isSome)) H):=by
 intro i s σ H x y v u Q I c b h;let⟨a,o,rfl,g,q⟩:=h;cases b;show zr9 I g c λe d=>⟨.bl _,H,d,rfl,q⟩
theorem ZX(g:X.A.units+64<cLine):gz X (compareOp .In) (pG false):=by
 show⟨_,zuo g,λG H x y d e Q P s c b h k=>?_⟩;unfold pG at h;split at h
 .let⟨a,ks,i,rfl,f,rk⟩:=b;let⟨key,hk,q⟩:=h;rw[rF c hk];show⟨a,_,rfl,mS.k (k:=key) (s _ _ f),?_⟩;rw[rk.isSome key];show k _ _ _ G (.refl s) (bZ (fY _ _ _)) q
 show h.elim
theorem JF(g:X.A.units+64<cLine):gz X (compareOp .NotIn) (pG true):=by
 show⟨_,zni g,λG H x y d e Q P s c b h k=>?_⟩;unfold pG at h;split at h
 .let⟨a,ks,i,rfl,f,rk⟩:=b;let⟨key,hk,q⟩:=h;rw[rF c hk];show⟨a,_,rfl,mS.k (k:=key) (s _ _ f),?_⟩;rw[rk.isSome key];show k _ _ _ G (.refl s) (bZ (fY _ _ _)) q
 show h.elim
def tZ(te ti:TD):TD:=λρ Q=>te ρ λr=>ti ρ λrk=>match r.val with
 | .dic kvs=>∃k d,jf rk.val\k/\look kvs k\d/\Q (.fz d)
 | _=>False
theorem pP(S:X.A.units+64<cLine)(J:PD X e te)(hi:PD X i' ti)(D:vR i':=by intro _ _;rfl):PD X (.Subscript e i' pos) (tZ te ti):=by
 let⟨t,p,q⟩:=J;let⟨R,z,y⟩:=hi;show⟨_,S2 p z D,λρ σ l j G H Q P E h k=>q ρ σ l j G H _ _ E h λv H1 r V n x F=>?_⟩;obtain⟨O,f,i,_⟩:=x.freeze n;show y ρ σ l j O H1 _ _ (E.ext f) F λu M rk U m B b=>?_
 obtain⟨N,c,C,_⟩:=B.freeze m;split at b
 .rename_i kvs L;let⟨key,d,hk,I,b⟩:=b;rw[L] at i;let⟨a,ks,T,rfl,ha,o⟩:=i;rw[rF C hk];let⟨w,hw,K⟩:=(aU.mono c.g _ _ o).look I;show⟨a,w,rfl,?_,k w M (.fz d) N (f.trans c) K b⟩;rw[<-hw];show mS.k (k:=key) (c.s _ _ (c.g _ _ ha))
 show b.elim
def tY(i:Nat)(ti:TD):TD:=λρ Q=>match gt ρ i with
 | .ov (.dc kvs)=>ti ρ λrk=>∃k d,jf rk.val\k/\look kvs k\d/\Q (.fz d)
 | _=>False
theorem zsc(I:X.A.units+64<cLine)(i)(hi:PD X i' ti)(s:vR i':=by intro _ _;rfl)(hN:Nm X i x:=by walk_at"nm"):PD X (.Subscript (.Name x o) i' pos) (tY i ti):=by
 let⟨D,n,m⟩:=hi;show⟨_,S2 (jL hN) n s,λρ σ C z G H Q P E h k=>?_⟩;unfold tY at h;split at h
 .rename_i kvs hg;let⟨own,F,p⟩:=E.on;obtain⟨a,fp,v,L,⟨rfl,ks,J,ha,j⟩,K⟩:=p i _ hg;show⟨_,v,m ρ σ C z G H _ _ E h λu y rk M f q e=>?_⟩;obtain⟨B,b,r,_⟩:=q.freeze f;let⟨key,d,hk,hl,e⟩:=e;rw[rF r hk];let⟨w,hw,t⟩:=(aU.mono b.g _ _ j).look hl;show⟨a,w,rfl,?_,k w y (.fz d) B b t e⟩;rw[<-hw];show mS.k (k:=key) (b.h _ _ ha)
 show h.elim
def qU(i:Nat)(ti tv:TD):TX:=λD ρ=>match gt ρ i with
 | .ov (.dc kvs)=>tv ρ λr=>ti ρ λrk=>∃k,jf rk.val\k/\kvs.length<sizeLine/\D.nx (ρ.set i (.ov (.dc (je kvs k r.val))))
 | _=>False
theorem t9(hu:X.A.units+64<cLine)(i)(hi:PD X i' ti)(V:PD X e tv)(hN:Nm X i x:=by walk_at"nm")
  (U:swapsWith e (some (.Subscript (.Name x w) i' s)) pos.line X.env=pure false:=by rfl) :
  PX X (.Assign [.Subscript (.Name x w) i' s] e pos) (qU i ti tv):=by
 let⟨t,p,q⟩:=V;let⟨t2,K,O⟩:=hi;show⟨_,S1 (jL hN) K p U,λρ σ C B G H D E k h g=>?_⟩;unfold qU at h;split at h
 .rename_i kvs hg;let⟨own,o1,P⟩:=k.on;obtain⟨a,fp,y,b2,⟨rfl,ks,W,ha,L⟩,b4⟩:=P i _ hg;show q ρ σ C B G H _ _ k h λv H' r G' I N f=>?_
  obtain⟨G2,o,M,_⟩:=N.freeze I;show⟨_,y,O ρ σ C B G2 H' _ _ (k.ext o) f λu H3 rk G3 F S j=>?_⟩;obtain⟨Z,n,T,_⟩:=S.freeze F;let⟨key,hk,hlen,j⟩:=j;have d:=o.trans n;show⟨a,ks,W,key,rfl,d.h _ _ ha,rF T hk,by rw[L.length];show hlen,λR=>?_⟩;show g.nx _ _ Z _ d.g ((k.ext d).sN hg y λfp nd ow=>?_) j;let⟨rfl,J,X3,Q,m⟩:=ow;have Y:J=ks:=by
   have:=(d.h _ _ ha).symm.trans Q;injection this with this
   injection this with this
   show this.symm
  subst Y;show⟨[],by trivial,⟨rfl,_,R,cw,m.put (M.mono n.g)⟩,λq f=>.inl f,λb hb _=>aY λz=>hb (by show z▸.head _)⟩
 show h.elim
def tX:bB:=λds Q=>match ds with
 | [.dic kvs]=>Q (.fz (.int kvs.length))
 | _=>False
theorem zup:jJ X (.builtin "len") tX:=by
 show⟨_,znh,λG H b ds Q P s r h k=>?_⟩;unfold tX at h;split at h
 .rename_i kvs;cases b with
  | nil=>simp![av] at r
  | cons v b=>
   cases b with
   | cons=>show r.2.elim
   | nil=>
    obtain⟨⟨a,ks,c,rfl,ha,rk⟩,_⟩:=r;show⟨a,ks,c,rfl,s _ _ ha,?_⟩;rw[rk.length];show k _ _ _ G (.refl s) (bZ (eQ _ _ _)) h
 show h.elim
def tW(i:Nat):TX:=λD ρ=>match gt ρ i with
 | .ov o=>D.rt (.ov o)
 | _=>False
theorem Dj(i)(hN:Nm X i x:=by walk_at"nm"):PX X (.Return (some (.Name x f)) pos) (tW i):=by
 show⟨_,CZ (jL hN),λρ σ t s G H D E k h g=>?_⟩;unfold tW at h;split at h
 .rename_i o hg;let⟨own,r,j⟩:=k.on;let⟨a,fp,p,n,m,d⟩:=j i _ hg;show⟨_,p,g.rt _ H (.ov o) G k.e ⟨a,fp,rfl,n,m,λq b=>⟨(d q b).2.1,(d q b).1⟩⟩ h⟩
 show h.elim
end
section
variable{K:ar}
theorem bU.length:∀{a dss},bU K G H a dss->a.length=dss.length
 | [],[],_=>rfl
 | q::a,ds::dss,h=>by
  simp![cL,bU.length h.2]
 | [],_::_,h=>by simp![bU] at h
 | _::_,[],h=>by simp![bU] at h
theorem bU.snoc:∀{a dss},bU K G H a dss->H p\.lst zs->av K G zs ds->bU K G H (a++[p]) (dss++[ds])
 | [],[],_,c,b=>by show⟨⟨zs,c,b⟩,trivial⟩
 | q::a,d::dss,h,c,b=>by
  show⟨h.1,bU.snoc h.2 c b⟩
 | [],_::_,h,_,_=>by simp![bU] at h
 | _::_,[],h,_,_=>by simp![bU] at h
theorem bU.get:∀{a dss}{j:Nat}{ds},bU K G H a dss->dss[j]?\ds->∃q xs,a[j]?\q/\H q\.lst xs/\av K G xs ds
 | [],[],j,ds,_,e=>by trivial
 | q::a,b::dss,0,ds,h,e=>by
  simp![bU] at h;cbv
 | q::a,b::dss,j+1,ds,h,e=>by
  simp![Cd] at e ⊢;show bU.get h.2 e
 | [],_::_,_,_,h,_=>by simp![bU] at h
 | _::_,[],_,_,h,_=>by simp![bU] at h
theorem bU.set(b:av K G ys c):∀{a dss j},bU K G H a dss->a.Nodup->a[j]?\q->bU K G (upd H q (.lst ys)) a (dss.set j c)
 | [],[],j,_,_,e=>by trivial
 | r::a,ds::dss,0,h,nd,e=>by
  simp![tN,fA] at e;subst e;show⟨⟨ys,cw,b⟩,h.2.mono (aZ.refl _) λp d xs e=>?_⟩;rw[aY (λz:p=r=>(dH.mp nd).1 (z▸d))];show e
 | r::a,ds::dss,j+1,h,nd,e=>by
  show⟨?_,bU.set b h.2 (dH.mp nd).2 e⟩;obtain⟨⟨xs,g,f⟩,_⟩:=h;show⟨xs,?_,f⟩;rw[aY (λz:r=q=>(dH.mp nd).1 (z▸cz e))];show g
 | [],_::_,_,h,_,_=>by simp![bU] at h
 | _::_,[],_,h,_,_=>by assumption
end
def Iy(c:eU)(m:List (Option Nat))(g:dz)(tc:cU)(te:TD):TD:=λρ Q=>c ρ λds=>∃Iv:Nat->List (List D)->Prop,Iv 0 []/\
 (∀i d acc,ds[i]?\d->Iv i acc->g d (cF m ρ) λa=>tc a λb=>if b=true then te a λr=>match r with
  | .ow e=>acc.length<sizeLine/\Iv (i+1) (acc++[e])
  | _=>False
  else Iv (i+1) acc)/\∀acc,Iv ds.length acc->Q (.ov (.ll acc))
section
variable{m:List (Option Nat)}{wi:eU}{g:dz}{tc:cU}
noncomputable def ZW(K):vb K (List D) where
 B:=λG H xs fp acc=>xs=fp.map V.ref/\bU K G H fp acc
 sel:=λr k=>match r with
  | .ow c=>k c
  | _=>False
 res:=λacc=>.ov (.ll acc)
 nil:=λ_ _=>⟨rfl,by simp![bU]⟩
 len:=λh=>by rw[h.1,aO,h.2.length]
 here:=λh=>h.2.here
 mono:=λg hh h=>⟨h.1,h.2.mono g λq a _=>hh q a _⟩
 snoc:=λ{G H n H' v r k xs fp acc} x e hk h=>by
  cases r with
  | ow c=>
   let⟨p,zs,rfl,m,l,j,i⟩:=e;show⟨c,n,[p],hk,x,⟨by rw[h.1,cO];rfl,h.2.snoc j i⟩,gu _ _,λq a=>by rw[dD.mp a];show⟨m,l⟩⟩
  | fz=>show hk.elim
  | ov=>show hk.elim
 fin:=λd b nd f=>⟨_,_,rfl,nd,⟨by rw[<-b.1];show d,b.2⟩,f⟩
theorem zpJ(x:iI X N' m scope)(hk:jM m g)
  (s:∀ρ σ f e G H Q P,aS X.K f e ρ σ G H->wi ρ Q->(∀J H' ds a,Ext G H a H'->Walk X.K J a ds->Q ds->P J H')->l σ H P)
  (r:∀s3 c ex ρ σ f e G H d v Q P,aS X.K f e ρ σ G H->Rep X.K G v d->g d ρ Q->(∀ρ' j a H',aS X.K f e ρ' j a H'->Ext G H a H'->Q ρ'->P j H')->o s3 c ex v σ H P)
  (q:∀s3 c ex ρ σ f e G H Q P,aS X.K f e ρ σ G H->tc ρ Q->(∀b H' a,Ext G H a H'->Q b->P b H')->n s3 c ex σ H P)
  (p:∀s3 c ex,jX X.K te (i s3 c ex)):jX X.K (Iy wi m g tc te) (m4 l m o n i):=λρ σ f e G H Q P E h k=>Jo (ZW X.K) hk s r q (λs3 c ex ρ' j w H1 a H' t u _=>p s3 c ex ρ' j w H1 a H' t u) E h k
theorem T8(i)(u:X.calm=true)(e:iI X N' m scope)(hk:jM m g)(hi:PId X tg iter wi)(hg:∀s3 a ex,oZ (fj X N' scope s3 a ex) tg g)(ht:∀s3 a ex,qv (fj X N' scope s3 a ex) ifs tc)
  (c:∀s3 a ex,PD (fj X N' scope s3 a ex) elt te) (hN:X.N.Nodup:=by assumption) (o:X.N[i]?\x:=by rfl) (p:Loc X.env.scope x:=by first | show Or.inl rfl | show Or.inr rfl) (q:∀x,foldedSetIterable iter X.env x=pure x:=by intro _;rfl)
  (n:swapsWith (.ListComp elt [⟨tg,iter,ifs,0⟩] scope pos) (some (.Name x b)) d.line X.env=pure true:=by rfl)
  (t:X.fn x=true\/X.env.scope.names.lookup x\.local:=by first | show .inl rfl | show .inr rfl | assumption) :
  PX X (.Assign [.Name x b] (.ListComp elt [⟨tg,iter,ifs,0⟩] scope pos) d) (nZ i (Iy wi m g tc te)):=by
 let⟨ww,l,j⟩:=hi;show⟨_,wx (g:=λs3 a ex=>(hg s3 a ex).choose) (tc:=λs3 a ex=>(ht s3 a ex).choose) (te:=λs3 a ex=>(c s3 a ex).choose) hN o p u e l (λs3 a ex=>(hg s3 a ex).choose_spec.1) (λs3 a ex=>(ht s3 a ex).choose_spec.1) (λs3 a ex=>(c s3 a ex).choose_spec.1) q n t,λρ σ z y G H D E k h w=>?_⟩;show zpJ e hk j (λs3 a ex=>(hg s3 a ex).choose_spec.2) (λs3 a ex=>(ht s3 a ex).choose_spec.2) (λs3 a ex=>(c s3 a ex).choose_spec.2) ρ σ z y G H _ _ k h λv H' r A x f s=>w.nx _ _ A H' x.g (k.put x f) s
end
section
variable{X:Cx}{e i':ax}{te ti:TD}
def tV(i:Nat)(ti te:TD):TX:=λD ρ=>match gt ρ i with
 | .ov (.ll dss)=>ti ρ λrk=>match rk.val with
  | .int k=>∃j ds,iD dss.length k\j/\dss[j]?\ds/\te ρ λr=>ds.length<sizeLine/\D.nx (ρ.set i (.ov (.ll (dss.set j (ds++[r.val])))))
  | _=>False
 | _=>False
theorem S0(i)(hi:PD X i' ti)(he:PD X e te)(hN:Nm X i x:=by walk_at"nm")(L7:y2 i':=by intro _ _;rfl)(bX:starEach [e] X.env=(false,eval e X.env)::starEach [] X.env:=by rfl)
  (hb:∀{s t},PE X (.Subscript (.Name x A) i' y) s->PA X [e] t->PE X (.Call (.Attribute (.Subscript (.Name x A) i' y) "append" B) [e] [] d) (w5 X.K "list" uh s t):=by intro s t h1 h2;show yO vJ yy yx wL h1 h2) :
  PX X (.Expr (.Call (.Attribute (.Subscript (.Name x A) i' y) "append" B) [e] [] d) pos) (tV i ti te):=by
 let⟨t,p,q⟩:=he;let⟨t2,W,Y⟩:=hi;show⟨_,rK (hb (yM Ej (jL hN) W L7) (fZ p jk bX)),λρ σ R Q G H D E k h g=>?_⟩;unfold tV at h;split at h
 .rename_i dss hg;let⟨own,o1,o2⟩:=k.on;obtain⟨a,fp,P,b2,⟨ha,I⟩,b4⟩:=o2 i _ hg;show⟨_,P,Y ρ σ R Q G H _ _ k h λu H1 rk G1 U Z f=>?_⟩;obtain⟨G2,n,F,_⟩:=Z.freeze U;split at f
  .rename_i kk e1;let⟨j,ds,hj,iZ,f⟩:=f;rw[e1] at F;let⟨w,xs,o,N,M⟩:=I.get iZ;have ic:bA (fp.map V.ref) kk\.ref w:=by
    unfold bA;rw[aO,I.length,hj];simp[o]
   show⟨a,fp.map V.ref,kk,_,rfl,F,bM.of (n.h _ _ ha),ic,.inl ⟨rfl,xs,bM.of (n.h _ _ N)⟩,?_⟩;show q ρ σ R Q G2 H1 _ _ (k.ext n) f λv H3 r G3 T iC O=>?_
   obtain⟨G4,S,iB,_⟩:=iC.freeze T;have m:=n.trans S;show⟨w,xs,v,rfl,rfl,m.h _ _ N,by rw[M.length];show O.1,?_⟩;show g.nx _ _ G4 _ m.g ((k.ext m).sN hg P λL nd ow=>?_) O.2;let⟨C,js⟩:=ow;have e3:L=fp:=by
    have:=(m.h _ _ ha).symm.trans C;injection this with this
    injection this with this
    show((vF λa b h=>by cases h;rfl).mp this).symm
   subst e3;have J:=dH.mp nd;show⟨L,nd,⟨?_,js.set ((M.mono m.g).append (av.cons iB av.nil)) J.2 o⟩,λq hq=>.inl hq,λb hb _=>aY λz=>hb (by rw[z];show eh _ (cz o))⟩;rw[aY (λz:a=w=>J.1 (z▸cz o))];show C
  show f.elim
 show h.elim
def HM(b a:TD):TD:=λρ Q=>b ρ λd=>a ρ λc=>match c with
 | .ow ds=>Q (.ov (.tl d.val ds))
 | _=>False
theorem SY(ha:PD X a m)(hb:PD X b l)(R:starEach [a,b] X.env=(false,eval a X.env)::starEach [b] X.env:=by rfl)(A:starEach [b] X.env=(false,eval b X.env)::starEach [] X.env:=by rfl):PD X (.Tuple [a,b] f pos) (HM m l):=by
 let⟨t1,I,C⟩:=ha;let⟨U,F,B⟩:=hb;show⟨_,yT (fZ I (fZ F jk A) R),λρ σ x w G H Q P E h k=>?_⟩;show C ρ σ x w G H _ _ E h λv H1 y Y f D L=>?_
 obtain⟨T,e,J,_⟩:=D.freeze f;show B ρ σ x w T H1 _ _ (E.ext e) L λu W V S j K i=>?_
 split at i
 .rename_i ds;let⟨q,xs,rfl,O,N,t,M⟩:=K;show⟨by show 2<=sizeLine;decide,λp c=>?_⟩;have d:=e.trans j;have n:p≠q:=λz=>by rw[z,t] at c;cases c
  show k _ _ (.ov (.tl y.val ds)) S (d.trans (.own d.s c)) ⟨p,[q],rfl,by simp[n],⟨q,v,xs,rfl,cw,J.mono j.g,by rw[aY n.symm];show t,M⟩,λr o=>?_⟩ i;simp![bx,gC,or_false] at o;rcases o with rfl | rfl
  .exact⟨d.h.free c,d.s.free c⟩
  show⟨e.h.free O,N⟩
 show i.elim
end
noncomputable def CL:R->Bool
 | .fz d=>kK d
 | .ow ds=>ds.all kK
 | .ov (.dc kvs)=>kvs.all λp=>kK p.2
 | _=>false
def C3(i:Nat)(te:TD):TD:=λρ Q=>te (eT i ρ) λr=>CL r=true/\Q r
theorem JW{K:ar}:∀{a ds},ds.all kK=true->av K G a ds->av K b a ds
 | [],[],_,_=>av.nil
 | v::a,d::ds,h,r=>by
  rw[Bx,gZ] at h;show av.cons (ze h.1 r.1) (JW h.2 r.2)
 | [],_::_,_,r=>by simp![av] at r
 | _::_,[],_,r=>by simp![av] at r
theorem U0{K:ar}:∀{ks kvs},(kvs.all λp=>kK p.2)=true->aU K G ks kvs->aU K a ks kvs
 | [],[],_,_=>aU.nil
 | v::b,d::ds,h,r=>by
  rw[Bx,gZ] at h;show⟨⟨r.1.1,ze h.1 r.1.2⟩,U0 h.2 r.2⟩
 | [],_::_,_,r=>by simp![aU] at r
 | _::_,[],_,r=>by simp![aU] at r
theorem SX{K:ar}(i)(q:jX K te l):jX K (C3 i te) l:=by
 intro ρ σ u t G H Q P E h k;let⟨L,n,y,z⟩:=E.A0 i;show q _ σ u t _ H _ _ y h λv H' r w x e b=>?_
 have m:=Du n x;show k v H' r (less w L) m ?_ b.2;have a:=b.1;cases r with
 | fz d=>show ze a e
 | ow ds=>
  let⟨p,xs,rfl,j,g,f,c⟩:=e;show⟨p,xs,rfl,j,?_,f,JW a c⟩;unfold less;split
  .rfl
  show g
 | ov o=>
  cases o with
  | dc kvs=>
   obtain⟨p,fp,rfl,j,⟨rfl,ks,s,g,f⟩,c⟩:=e;show⟨p,[],rfl,j,⟨rfl,ks,s,g,U0 a f⟩,λq b=>⟨(c q b).1,?_⟩⟩;unfold less;split
   .rfl
   show(c q b).2
  | ll=>cases a
  | dl=>cases a
  | tl=>cases a
  | ld=>cases a
  | dt=>cases a
  | tp=>cases a
  | ob=>cases a
  | dq=>cases a
  | li=>cases a
theorem zpL(i)(h:PD X e te):PD X e (C3 i te):=let⟨tt,p,q⟩:=h;⟨tt,p,SX i q⟩
theorem JE(j i)(w:X.calm=true)(e:iI X N' m scope)(hk:jM m g)(hi:PId X tg iter wi)(hg:∀s3 a ex,oZ (fj X N' scope s3 a ex) tg g)(ht:∀s3 a ex,qv (fj X N' scope s3 a ex) ifs tc)
  (c:∀s3 a ex,PD (fj X N' scope s3 a ex) elt te) (hN:X.N.Nodup:=by assumption) (p:X.N[i]?\x:=by rfl) (q:Loc X.env.scope x:=by first | show Or.inl rfl | show Or.inr rfl) (s:∀x,foldedSetIterable iter X.env x=pure x:=by intro _;rfl)
  (o:swapsWith (.ListComp elt [⟨tg,iter,ifs,0⟩] scope pos) (some (.Name x b)) d.line X.env=pure true:=by rfl)
  (u:X.fn x=true\/X.env.scope.names.lookup x\.local:=by first | show .inl rfl | show .inr rfl | assumption) :
  PX X (.Assign [.Name x b] (.ListComp elt [⟨tg,iter,ifs,0⟩] scope pos) d) (nZ i (C3 j (kL wi m g tc te))):=by
 let⟨ww,n,l⟩:=hi;show⟨_,wx (g:=λs3 a ex=>(hg s3 a ex).choose) (tc:=λs3 a ex=>(ht s3 a ex).choose) (te:=λs3 a ex=>(c s3 a ex).choose) hN p q w e n (λs3 a ex=>(hg s3 a ex).choose_spec.1) (λs3 a ex=>(ht s3 a ex).choose_spec.1) (λs3 a ex=>(c s3 a ex).choose_spec.1) s o u,λρ σ A z G H D E k h y=>?_⟩;show SX j (C9 e hk l (λs3 a ex=>(hg s3 a ex).choose_spec.2) (λs3 a ex=>(ht s3 a ex).choose_spec.2) (λs3 a ex=>(c s3 a ex).choose_spec.2)) ρ σ A z G H _ _ k h λv H' r B x f t=>y.nx _ _ B H' x.g (k.put x f) t
section
variable{e i':ax}{te ti:TD}
noncomputable def wC:List (Key×D)->Option (List Int)
 | []=>some []
 | (.inl i,_)::r=>(wC r).map (i::·)
 | _=>none
noncomputable def pU:List (Key×V)->Option (List Int)
 | []=>some []
 | (.inl i,_)::r=>(pU r).map (i::·)
 | _=>none
theorem VA{K:ar}:∀{ks kvs},aU K G ks kvs->pU ks=wC kvs
 | [],[],_=>rfl
 | (a,v)::ks,(b,d)::kvs,h=>by
  obtain⟨⟨rfl,_⟩,c⟩:=h;cases a with
  | inl i=>simp![pU,wC,VA c]
  | inr x=>rfl
 | [],_::_,h=>by simp![aU] at h
 | _::_,[],h=>by simp![aU] at h
theorem Vz:∀{ks ns},pU ks\ns->∀(i:Nat) k x,ks[i]?\(k,x)->∃n,ns[i]?\n/\k=.inl n
 | [],ns,h,i,k,x,e=>by trivial
 | (.inl a,v)::ks,ns,h,i,k,x,e=>by
  simp![pU,j3] at h;let⟨ms,b,rfl⟩:=h;cases i with
  | zero=>
   cbv
  | succ i=>
   show Vz b i k x e
 | (.inr a,v)::ks,ns,h,i,k,x,e=>by trivial
theorem VE:∀{ks ns},pU ks\ns->ns.length=ks.length
 | [],ns,h=>by simp[pU] at h;subst h;rfl
 | (.inl a,v)::ks,ns,h=>by
  simp![pU,j3] at h;let⟨ms,b,rfl⟩:=h;simp[VE b]
 | (.inr a,v)::ks,ns,h=>by trivial
theorem znn(O:X.calm=true):fk X (.builtin "min") (λxs H Q=>∃a ks m ns,xs=[V.ref a]/\H a=some (.dK ks m)/\pU ks=some ns/\ns≠[]/\∀M,M∈ns->(∀b∈ns,M<=b)->Q (.int M) H):=by
 intro U s σ H xs us Q I r h;let⟨a,ks,S,ns,rfl,ha,hn,R,q⟩:=h;let⟨u,rfl,N⟩:=gH r;cases N;let⟨z,hd,d,rel,P⟩:=Ie I.aJ ha;let⟨o,F,m,p,C⟩:=P;have dat:s.heap.DictAt (eR X.prog X.w) a d m:=⟨o,F,p,C⟩
 have K:a< *...*:=aX p;have hlen:d.length=ns.length:=by rw[<-rel.length,VE hn]
 have T:0<ns.length:=yq.mpr R;have D:∀(i:Nat) k x,d[i]?\(k,x)->∃n,ns[i]?\n/\k=.inl n:=λi k x e=>by
  have hi:i<ks.length:=by rw[rel.length];show(cf.mp e).1
  let⟨n,g,c⟩:=Vz hn i ks[i].1 ks[i].2 (by rw[bC hi]);show⟨n,g,?_⟩;have hk:ks.map (·.1)=d.map (·.1):=rel.keys;have G:=congrArg (λl=>l[i]?) hk;simp![bW,bC hi,e,fO,fA] at G;rw[<-G,c]
 show call_min_walk (Pn hd dat ?_)
 show⟨_,_,_,_,_,_,_,rfl,F4 (knd:=eR X.prog X.w) (A:=X.A.in1) (by simpa using I.ok.hd O) _ a (bJ K) d m,⟨⟨_,b8 _ rfl,rfl,rfl⟩,?_⟩,λb hb=>?_,by cbv,
  CmpOf.ints_lt (λi=>ns.getD i 0) (λi v y=>?_),λv h' tk y hk=>?_⟩
 .exact⟨o,F,aV _ p,C⟩
 .show b<(s.heap.push _).objs.size;rw[gX];simp![bx,gC,or_false] at hb;rcases hb with rfl | rfl
  .exact BL _
  show j2 K
 .let⟨k,x,e,hk⟩:=y;let⟨n,g,rfl⟩:=D i k x e;rw[o7,g];rcases mw (show t6 (.inl n) v=true from hk) with⟨j,t,c,f⟩ | ⟨j,t,c,f⟩
  .cases c;show⟨t,f⟩
  cases c
 let⟨g,c⟩:=argBest_lt (λi=>ns.getD i 0) (d.length-1);let⟨k,x,e,L⟩:=y;let⟨n,B,rfl⟩:=D _ k x e;obtain⟨j,t,E,rfl⟩:∃j t,(dv n:Key)=dv j/\v=o9 j t:=by
  rcases mw (show t6 (.inl n) v=true from L) with⟨j,t,c,f⟩ | ⟨j,t,c,f⟩
  .exact⟨j,t,c,f⟩
  cases c
 cases E;show⟨.int n,H,I.kept (λb o' J=>hk b o' ?_ (aV _ J)),⟨_,rfl⟩,q n (cz B) λb hb=>?_⟩
 .simp![dD];show bJ (aX J)
 let⟨j,E,rfl⟩:=Fv hb;have f:=c j (by lia);rw[show n=ns.getD (argBest (λi j=>decide (ns.getD i 0<ns.getD j 0)) (d.length-1)) 0 by rw[o7,B];rfl];show f
def HL:bB:=λds Q=>match ds with
 | [.dic kvs]=>match wC kvs with
  | some ns=>ns≠[]/\∀M,M∈ns->(∀b∈ns,M<=b)->Q (.fz (.int M))
  | none=>False
 | _=>False
theorem zuq(e:X.calm=true):jJ X (.builtin "min") HL:=by
 show⟨_,znn e,λG H b ds Q P s r h k=>?_⟩;unfold HL at h;split at h
 .rename_i kvs;split at h
  .rename_i ns hn;cases b with
   | nil=>simp![av] at r
   | cons v b=>
    cases b with
    | cons=>show r.2.elim
    | nil=>
     obtain⟨⟨a,ks,f,rfl,ha,rk⟩,_⟩:=r;show⟨a,ks,f,ns,rfl,s _ _ ha,by rw[VA rk];show hn,h.1,λM d c=>k _ _ _ G (.refl s) (bZ (eQ _ _ _)) (h.2 M d c)⟩
  show h.elim
 show h.elim
end
section
variable{X:Cx}{e i':ax}{te ti:TD}
noncomputable def pairsOf:List D->Option (List (Key×D))
 | []=>some []
 | .tup [k,v]::r=>match jf k with
  | some key=>(pairsOf r).map ((key,v)::·)
  | none=>none
 | _=>none
def kC(K:ar)(H:Hp):List V->List (Key×V)->Prop
 | [],[]=>True
 | y::ys,p::ps=>(∃b,y=.ref b/\bF K H b [kV p.1,p.2])/\kC K H ys ps
 | _,_=>False
theorem kC.length{K:ar}:∀{ys ps},kC K H ys ps->ys.length=ps.length
 | [],[],_=>rfl
 | y::ys,p::ps,h=>by
  simp![cL,kC.length h.2]
 | [],_::_,h=>by simp![kC] at h
 | _::_,[],h=>by simp![kC] at h
theorem kC.vals{g:St}(I:Inv X x g H s):∀{ys ps us},kC X.K H ys ps->Vals ys us->
  ∃c:List (Key×aa),KV ps c/\∀(i:Nat) u,us[i]?\u->∃k y key a,c[i]?\(k,y)/\u=.ref a/\(eR X.prog X.w).is k key=true/\s.heap.IsTuple a #[key,y]
 | [],[],us,_,r=>by
  cases r;show⟨[],by show .nil,λi u e=>by trivial⟩
 | y::ys,p::ps,us,h,r=>by
  obtain⟨⟨b,rfl,hb⟩,v⟩:=h;cases r with
  | cons n m=>
   rename_i j us;cases (show j=cI b from n);let⟨c,k1,t⟩:=kC.vals I v m;obtain⟨its,l,ht,_⟩:=I.tuple hb;let⟨f,d,rfl,q,o⟩:=oh l;show⟨(p.1,d)::c,?_,λi u e=>?_⟩
   .exact .cons ⟨rfl,o⟩ k1
   cases i with
   | zero=>
    simp![tN,fA] at e;subst e;show⟨p.1,d,f,b,rfl,rfl,v8 q,by simpa using (show s.heap.IsTuple b [f,d].toArray from ht)⟩
   | succ i=>
    show t i u e
 | [],_::_,_,h,_=>by simp![kC] at h
 | _::_,[],_,h,_=>by simp![kC] at h
theorem zlL(m:X.calm=true):fk X (.type "dict") (λxs H Q=>∃p ys ks,xs=[V.ref p]/\bM X.K H p ys/\kC X.K H ys ks/\(ks.map (·.1)).Nodup/\∀l c,H l=none->Q (.ref l) (upd H l (.dK ks c))):=by
 intro B s σ H xs us Q I r h;let⟨p,ys,ks,rfl,k,f,hn,q⟩:=h;let⟨u,rfl,i⟩:=gH r;cases i;let⟨its,d,pl,hz⟩:=I.list k;let⟨b,kv,j⟩:=f.vals I d;have hlen:b.length=its.length:=by rw[<-kv.length,<-f.length,d.length]
 have e:ks.map (·.1)=b.map (·.1):=kv.keys;let⟨o,n,y,x,v,t⟩:=pl;have g:b.length<=sizeLine:=by rw[hlen,<-d.length];show hz
 show zlK (knd:=eR X.prog X.w) (kvs:=b) (items:=its) (I.ok.hd m) ⟨o,n,y,x,v,t⟩ hlen (by rw[<-e];show hn) g j λh' tk z kp=>?_
 have hf:H *...*=none:=I.aJ.fresh (aW _);let⟨c,A⟩:=HN z;show⟨.ref *...*,_,I.laid (a:=*...*) (o:=.dK ks c) (t':=tk) kp (aW _) (Iz (by rw[kv.length];show g) ?_ kv A),rfl,q _ c hf⟩;have hb:=I.big;simpa using jd hb
def HK:bB:=λds Q=>match ds with
 | [.lst a]=>match pairsOf a with
  | some kvs=>(kvs.map (·.1)).Nodup/\Q (.ov (.dc kvs))
  | none=>False
 | _=>False
theorem JV{K:ar}(s:aZ G H):∀{c ys kvs},pairsOf c\kvs->av K G ys c->∃ks,kC K H ys ks/\aU K G ks kvs
 | [],ys,kvs,h,r=>by
  simp![pairsOf,fA] at h;subst h;cases ys with
  | nil=>show⟨[],by simp![kC],aU.nil⟩
  | cons=>simp![av] at r
 | e::c,ys,kvs,h,r=>by
  cases ys with
  | nil=>simp![av] at r
  | cons y ys=>
   unfold pairsOf at h;split at h
   .rename_i hh;cases hh
   .rename_i k v j heq;cases heq;cases hk:jf k with
    | none=>rw[hk] at h;cases h
    | some key=>
     rw[hk] at h;simp![j3] at h;let⟨i,g,rfl⟩:=h;let⟨ks,f,d⟩:=JV s g r.2;have r1:=r.1;let⟨b,xs,rfl,hb,a⟩:=r1;match xs,a with
     | [a1,a2],a=>
      show⟨(key,a2)::ks,?_,?_⟩
      .refine⟨⟨b,rfl,?_⟩,f⟩;rw[<-rF a.1 hk];show s.nq hb
      simp![aU];show⟨⟨trivial,a.2.1⟩,d⟩
     | [],a=>simp![av] at a
     | [_],a=>show a.2.elim
     | _::_::_::_,a=>show a.2.2.elim
   cases h
theorem aU.keys{K:ar}:∀{ks kvs},aU K G ks kvs->ks.map (·.1)=kvs.map (·.1)
 | [],[],_=>rfl
 | a::ks,b::kvs,h=>by
  simp![bO,h.1.1,aU.keys h.2]
 | [],_::_,h=>by simp![aU] at h
 | _::_,[],h=>by simp![aU] at h
theorem zur(j:X.calm=true):jJ X (.type "dict") HK:=by
 show⟨_,zlL j,λG H b ds Q P s r h k=>?_⟩;unfold HK at h;split at h
 .rename_i n;split at h
  .rename_i kvs i;cases b with
   | nil=>simp![av] at r
   | cons v b=>
    cases b with
    | cons=>show r.2.elim
    | nil=>
     obtain⟨⟨a,ys,rfl,ha,f⟩,_⟩:=r;let⟨ks,g,d⟩:=JV s i f;show⟨a,ys,ks,rfl,(s.cm ha).sq,g,by rw[d.keys];show h.1,λl m c=>?_⟩;show k _ _ (.ov (.dc kvs)) G (.own s c) ⟨l,[],rfl,by show gu _ _,⟨rfl,ks,m,cw,d⟩,λq e=>?_⟩ h.2;simp![dD] at e;subst e;show⟨c,s.free c⟩
  show h.elim
 show h.elim
def zwH(j i:Nat)(ti:TD):TX:=λD ρ=>match gt ρ i with
 | .ow ds=>ti ρ λrk=>match rk.val with
  | .int k=>∃n d,-(2 ^ 63)<=k/\k<2 ^ 63/\iD ds.length k\n/\ds[n]?\d/\D.nx ((ρ.set i (.ow (ds.eraseIdx n))).set j (.fz d))
  | _=>False
 | _=>False
def vQ(b a:TD):TD:=λρ Q=>b ρ λd=>a ρ λc=>match d,c.val with
 | .ow ds,.int k=>-(2 ^ 63)<=k/\k<2 ^ 63/\ds.length*k.toNat<=sizeLine/\Q (.ow (eI k.toNat ds).flatten)
 | _,_=>False
theorem av.rep{K:ar}(h:av K H a ds):∀k:Nat,av K H (eI k a).flatten (eI k ds).flatten
 | 0=>av.nil
 | k+1=>by
  show h.append (av.rep h k)
theorem zus(ha:PD X a m)(hb:PD X b j):PD X (.BinOp a .Mult b pos) (vQ m j):=by
 let⟨t1,B,y⟩:=ha;let⟨K,A,x⟩:=hb;show⟨_,RO zt2 B A,λρ σ r q G H Q P E h k=>?_⟩;show y ρ σ r q G H _ _ E h λv H1 M J i z C=>?_
 show x ρ σ r q J H1 _ _ (E.ext i) C λu R L S t w c=>?_
 obtain⟨I,e,n,_⟩:=w.freeze t;split at c
 .rename_i ds kk D;let⟨p,xs,rfl,O,N,F,o⟩:=z;rw[D] at n;have d:=i.trans e;show⟨p,kk,xs,rfl,n,e.h _ _ F,c.1,c.2.1,by rw[o.length];show c.2.2.1,λl f=>?_⟩;show k _ _ (.ow _) I (d.trans (.own d.s f)) ⟨l,_,rfl,d.h.free f,d.s.free f,cw,(o.mono e.g).rep kk.toNat⟩ c.2.2.2
 show c.elim
end
noncomputable def Nz(a:ae)(ks:List (Key×V))(b:Nat):It:=⟨λi H=>i<ks.length/\H a\.dK ks b,λi H v H'=>H'=H/\∃k x,ks[i]?\(k,x)/\v=kV k,λi H=>i=ks.length/\H a\.dK ks b⟩
theorem zsg(h:(eR P w).is k u=true):RelV (kV k) u:=by
 rcases mw (show t6 k u=true from h) with⟨i,t,rfl,rfl⟩ | ⟨i,t,rfl,rfl⟩
 .exact⟨t,rfl⟩
 show⟨t,rfl⟩
theorem zno{K:ar}{D:ax}:Turn P w K D (Nz a ks g) [it] it (λi h=>h.IsKeyIter it a i ks.length g) where
 mem:=by show .head _
 obj:=λi h st b hb=>by
  have e:b=it:=by simpa using hb
  subst e;let⟨o,e,c,d⟩:=st;show⟨o,e,λv z=>by rw[d] at z;cases z⟩
 keep:=λi h h' st k=>by
  let⟨o,e,r⟩:=st;show⟨o,k it (by show .head _) o e,r⟩
 item:=by
  intro X p hw t n i C s σ H E I hf st hg;subst p hw t;let⟨hi,ha⟩:=(show i<ks.length/\H a\.dK ks g from hg)
  let⟨z,hd,f,rel,dat⟩:=CM I.aJ (.inl ha);have hlen:ks.length=f.length:=rel.length;have u:a≠it:=λz=>by rw[z,(hf it (by show .head _)).1] at ha;cases ha
  rw[hlen] at st;show(F4 (knd:=eR X.prog X.w) (A:=X.A) (I.ok.hd n) it a u f g).item i s _ _ (by cbv) ⟨st,dat⟩ λv h' tk hv B kk=>?_
  let⟨k,x,G,hk⟩:=hv;have I1:Inv X C σ H { s with heap:=h',toks:=tk }:=I.uv kk hf;let⟨o,e,L,d⟩:=id B.1;have m:∃j,ks[i]?\(k,j):=by
   have F:ks.map (·.1)=f.map (·.1):=rel.keys;have y:=congrArg (λl=>l[i]?) F;simp![bW,bC hi,G,fO,fA] at y;show⟨ks[i].2,by rw[bC hi,<-y]⟩
  let⟨j,J⟩:=m;show⟨_,rfl,yN (s:={ s with heap:=h',toks:=tk }) e L d (by rfl) ⟨kV k,H,I1,zsg hk,⟨rfl,k,j,J,rfl⟩,?_,λb hb=>(hf b hb).1⟩⟩;rw[hlen];show B.1
 done:=by
  intro X p hw t n i C s σ H E I hf st hg;subst p hw t;let⟨hi,ha⟩:=(show i=ks.length/\H a\.dK ks g from hg)
  let⟨z,hd,f,rel,dat⟩:=CM I.aJ (.inl ha);have hlen:ks.length=f.length:=rel.length;have u:a≠it:=λz=>by rw[z,(hf it (by show .head _)).1] at ha;cases ha
  subst hi;rw[hlen] at st;show(F4 (knd:=eR X.prog X.w) (A:=X.A) (I.ok.hd n) it a u f g).done s _ _ ⟨st,dat⟩ λh' tk kk=>⟨rfl,I.uv kk hf⟩
 self:=λA i s Q E st q=>Qh st q
def ZV(tl:TE):TI:=λσ H R=>tl σ H λx H1=>∃a ks b,x=.ref a/\H1 a\.dK ks b/\R (Nz a ks b) H1
theorem zsh(f:PE X l tl):PI X tg l (ZV tl):=by
 intro i s σ H R I h;show aR (f i s σ H _ I h) λv s1 g=>?_
 let⟨x,H1,I1,r1,d⟩:=g;let⟨a,ks,j,e,ha,q⟩:=d;subst e;cases r1;let⟨z,hd,c,rel,dat⟩:=CM I1.aJ (.inl ha);have hlen:ks.length=c.length:=rel.length;show Pn hd dat ?_;show⟨s1.heap.objs.size,[s1.heap.objs.size],_,_,H1,rfl,I1.kept (t':=s1.toks) λb o e=>aV _ e,zno,⟨_,b8 _ rfl,rfl,by rw[hlen];rfl⟩,λb hb=>?_,q⟩;have e:b=s1.heap.objs.size:=by simpa using hb
 subst e;show I1.oS (aW _) (I1.aJ.fresh (aW _))
theorem zsi{K:ar}(k):Rep K G (kV k) (tP k):=by
 cases k<;>simp only[tP,Rep]<;>rfl
theorem znp{K:ar}(h:G a\.dK ks b)(r:aU K G ks kvs):Walk K (Nz a ks b) G (kvs.map λp=>tP p.1):=by
 have j:=r.length;show⟨λi d c H' hd s1 s2=>?_,λc H' s1 s2=>⟨by rw[aO];show j.symm,s2 _ _ (s1 _ _ h)⟩⟩;rw[bW] at hd;have hi:i<kvs.length:=by
  cases e:kvs[i]? with
  | none=>rw[e] at hd;cases hd
  | some p=>show(cf.mp e).1
 show⟨⟨by cbv,s2 _ _ (s1 _ _ h)⟩,λv m f=>?_⟩;let⟨rfl,k,x,g,rfl⟩:=f;show⟨c,.refl s2,?_⟩;have hk:=congrArg (λl=>l[i]?) r.keys;simp![bW,g,fO] at hk;rw[bC hi] at hk hd;simp![fO,fA] at hk hd;rw[<-hd,<-hk];show zsi k
def yB(te:TD):eU:=λρ Q=>te ρ λr=>match r.val with
 | .dic kvs=>Q (kvs.map λp=>tP p.1)
 | _=>False
theorem Di(h:PD X l te):PId X tg l (yB te):=by
 let⟨t,p,q⟩:=h;show⟨_,zsh p,λρ σ o m G H Q P E h k=>q ρ σ o m G H _ _ E h λv H' r u x g b=>?_⟩;obtain⟨n,c,d,_⟩:=g.freeze x;split at b
 .rename_i kvs e;rw[e] at d;let⟨a,ks,j,rfl,f,i⟩:=d;show⟨a,ks,j,rfl,c.s _ _ f,k _ H' _ n c (znp f i) b⟩
 show b.elim
end L2
namespace HT
open PySem PyProof.Rows
noncomputable def bo:List Int->List Int->Bool
 | [],[]=>false
 | [],_::_=>false
 | _::_,[]=>true
 | x::xs,y::ys=>if x=y then bo xs ys else decide (y<x)
theorem Wq(x y xs ys):bo (x::xs) (y::ys)=if x=y then bo xs ys else decide (y<x):=rfl
theorem zhI:bo [] []=false:=rfl
theorem zgG(y ys):bo [] (y::ys)=false:=rfl
theorem zgH(x xs):bo (x::xs) []=true:=rfl
theorem zpM(A s a t c u prog w E Q)(h:Q (.bool (decide (c<a))) s) :
  ↥(richCompare .Gt (.int a t) (.int c u)) Q E s:=
 (P4 h:↥(compareOp .Gt (.int a t) (.int c u)) Q E s)
section
open PySem.SeqAt
open PySem.AutoSeq1 (wpAny_loadPart')
open PySem.MeetsSeq PySem.MeetsSeq2 PySem.MeetsSeq3
theorem zhJ(l b items j n J N O sl I m o)(hi:IntsAre items.toList m)(G:IntsAre j.toList o) :
  Meets (Builtin.«tuple.__gt__» ⟨[.ref l,.ref b],[]⟩)
   (λ_ R s=>s.heap.get? l=some { cls:=.type "tuple",dict:=N,data:=.seq items n,slots:=sl }/\s.heap.get? b=some { cls:=.type "tuple",dict:=O,data:=.seq j J,slots:=I }/\
    R (.ok (.ret (.bool (bo m o)))) s):=
 .of_wp λprog w A R s h=>by
  let⟨p,g,d,tk,os⟩:=s;let⟨M,hb,h⟩:=h;have f2:=AutoSeq1.sub_tuple_tuple;have S:items.size=m.length:=by rw[<-hi.length];simp
  have Q:j.size=o.length:=by rw[<-G.length];simp
  wp_walk using Qw M,Qw hb,wpAny_forIn_list _ (λrest b v=>b.1=none/\v=⟨p,g,d,tk,os⟩/\∃(k ws:List aa)(i f:List Int),rest=k.zip ws/\
   IntsAre k i/\IntsAre ws f/\i.length+j.size=f.length+items.size/\R (.ok (.ret (.bool (bo i f)))) ⟨p,g,d,tk,os⟩) _
  case turn=>
   rintro⟨y,x⟩ rest b v ⟨z,rfl,k,ws,i,f,hz,F,r,hlen,hR⟩;cases F with
   | nil=>rw[List.zip_nil_left] at hz;cases hz
   | cons a t D=>
    cases r with
    | nil=>rw[List.zip_nil_right] at hz;cases hz
    | cons c u E=>
     rw[PH] at hz;injection hz with B P
     injection B with K L
     subst K L;rw[Wq] at hR;simp![cL] at hlen;let⟨e,he,H⟩:=zo9 A.in1 ⟨p,g,d,tk,os⟩ a t c u;show aj (he prog w _ _ ?_);cases e with
     | true=>
      rw[if_pos (H.mp rfl)] at hR;wp_walk
      show⟨rfl,rfl,_,_,_,_,P,D,E,by lia,hR⟩
     | false=>
      rw[if_neg (λq=>absurd (H.mpr q) ja)] at hR;have C:=zpM A.in1 ⟨p,g,d,tk,os⟩ a t c u prog w;wp_walk using C
      show⟨_,rfl,by simpa using hR⟩
  case fin=>
   rintro⟨U,T⟩ v ⟨z,rfl,k,ws,i,f,hz,F,r,hlen,hR⟩;simp only at z;subst z;have hv:bo i f=decide (j.size<items.size):=by
    cases F with
    | nil=>
     cases r with
     | nil=>
      simp![nX] at hlen;rw[zhI];show(kF (by cbv)).symm
     | cons c u hw=>
      simp![nX,cL] at hlen;rw[zgG];show(kF (by cbv)).symm
    | cons a t hv=>
     cases r with
     | nil=>
      simp![nX,cL] at hlen;rw[zgH];show(decide_eq_true (by lia)).symm
     | cons c u hw=>
      rw[PH] at hz;cases hz
   rw[hv] at hR;wp_walk
   show⟨_,rfl,by trivial⟩
  case h=>
   show⟨rfl,rfl,items.toList,j.toList,m,o,rfl,hi,G,by lia,h⟩
end
theorem abu(o:IsTup s.heap l items)(hb:IsTup s.heap b d)(hi:IntsAre items.toList a)(p:IntsAre d.toList c)
  (m:A.units<cLine) (h:Q (.bool (bo a c)) s):↥(compareOp .Gt (.ref l) (.ref b)) Q E s:=by
 obtain⟨⟨cls,q,data,sl⟩,e,f,n,hd⟩:=id o;obtain⟨⟨r,t,data2,j⟩,g,i,k,hd2⟩:=id hb;simp only at f hd i hd2;subst f hd i hd2;show richCompare_meets_room (op:=.Gt) ⟨_,e,rfl⟩ ⟨_,g,rfl⟩ PySem.F.slot_tuple_gt PySem.F.entry_tuple_gt (PySem.F.args_tuple_gt_2 _ _) (zhJ l b items d n k q t sl j a c hi p)
  ⟨e,g,show vk (bo a c)≠Value.notImplemented/\Q (.bool (bo a c)) s from⟨(λx=>nomatch x),h⟩⟩ m
end HT
namespace L2
open PySem PySem.Spec PyProof.Rows
def HJ(prog:aD)(w:aB)(A:aT)(op:CmpOp)(P:Nat->aa->Prop)(c:aw->Prop)(bt:Nat->Nat->Bool):Prop:=
 ∀i j b a z Q E,c z.heap->P i b->P j a->Q (.bool (bt i j)) z->↥(richCompare op b a) Q E z
section
variable{St:Nat->aw->Prop}
theorem zpN(W:Walks prog w A.in1 I fp wr n P St)(bt S)(s:HJ prog w A.in1 .Gt P Hk bt)(i:S∉fp)(H)(f9:∀h h',Hk h->(∀b o,b∉wr->b≠S->h.get? b\o->h'.get? b\o)->Hk h') :
  ∀m j z best c,n-(j+1)=m->j<n->St (j+1) z.heap->Hk z.heap->P (argBest bt j) best->z.heap.get? S=some { cls:=.type "list",dict:=none,data:=.seq #[best,best] c,slots:=#[] }->
   (∀v h' tk,P (argBest bt (n-1)) v->(∀b o,b∉wr->b≠S->z.heap.get? b\o->h'.get? b\o)->Rz (.ok (.ret v)) { z with heap:=h',toks:=tk })->
   codeAny (model prog w) A (.builtin "max.loop" ⟨[.ref I,.none,.ref S],H⟩) Rz z:=by
 have E:S∉wr:=λh=>i (W.sub _ h)
 intro m;induction m with
 | zero=>
  intro j z best c em G st hk pb k fin;have D:j+1=n:=by grind
  show i8 BK ?_;show aj (jZ k rfl ?_);show aj (tf (W.done z _ _ (D▸st) λr tk kp=>?_));have g:=kp S _ E k;show aj ?_;show tj g rfl (aj (sW (az ?_)));show fin best _ tk (by rw[<-D];show pb) λb o a d e=>(g8 _ _ (Ne.symm d)).trans (kp b o a e)
 | succ m C=>
  intro j z best c em G st hk pb k fin;have t:j+1<n:=by ext
  show i8 BK ?_;show aj (jZ k rfl ?_);show aj (tf (W.item (j+1) z _ _ t st λv r tk pv y kp=>?_));have g:=kp S _ E k;have B:Hk r:=f9 _ _ hk λb o a _ e=>kp b o a e
  show wpAny _ A.in1 (tryCatch (holding [v,v] (richCompare .Gt v best >>= _)) _ >>= _) _ _ _;show aj (tf (eX (aj (s (j+1) (argBest bt j) v best _ _ _ B pv pb ?_))));show aj (eX (l6 ?_));show aj (sW (az ?_));cases hb:bt (j+1) (argBest bt j) with
  | true=>
   show aj ?_;show tj g rfl (aj (sW ?_));have F:∀f b o,b∉wr->b≠S->z.heap.get? b\o->(r.update S f).get? b\o:=λf b o a d e=>(g8 _ _ (Ne.symm d)).trans (kp b o a e)
   show az ⟨jB BJ _,C (j+1) _ v _ (by grind) t (W.frame _ _ _ y λb J o e=>?_) (f9 _ _ hk (F _)) (by simp![argBest,hb,dF];show pv) (kG _ g rfl) λl q p x u=>?_⟩
   .exact(g8 _ _ (λh:S=b=>i (by rw[h];show J))).trans e
   show fin l q p x λb o a d e=>u b o a d (F _ b o a d e)
  | false=>
   show aj (sW ?_);show az ⟨jB BJ _,C (j+1) _ best c (by grind) t y B (by simp![argBest,hb,eK,dG];show pb) g λl q p x u=>?_⟩;show fin l q p x λb o a d e=>u b o a d (kp b o a e)
theorem zpO(W:Walks prog w A.in1 I fp wr n P St)(bt S)(i:HJ prog w A.in1 .Gt P Hk bt)(a:S∉fp)(k)(f9:∀h h',Hk h->(∀b o,b∉wr->b≠S->h.get? b\o->h'.get? b\o)->Hk h')(pos:0<n)(st:St 0 z.heap)(hk:Hk z.heap)
  (l:z.heap.get? S=some { cls:=.type "list",dict:=none,data:=.seq #[] c,slots:=#[] })
  (fin:∀v h' tk,P (argBest bt (n-1)) v->(∀b o,b∉wr->b≠S->z.heap.get? b\o->h'.get? b\o)->Rz (.ok (.ret v)) { z with heap:=h',toks:=tk }) :
  codeAny (model prog w) A (.builtin "max.loop" ⟨[.ref I,.none,.ref S],k⟩) Rz z:=by
 have x:S∉wr:=λh=>a (W.sub _ h)
 show i8 BK ?_;show aj (jZ l rfl ?_);show aj (tf (W.item 0 z _ _ pos st λv t tk pv q kp=>?_));have j:=kp S _ x l;show wpAny _ A.in1 (updateSeq S (λ_=>#[v,v]) >>= _) _ _ _;show aj ?_;show tj j rfl ?_;have m:∀f b o,b∉wr->b≠S->z.heap.get? b\o->(t.update S f).get? b\o:=λf b o g d e=>(g8 _ _ (Ne.symm d)).trans (kp b o g e)
 show az ⟨jB BJ _,zpN W bt S i a k f9 _ 0 _ v _ rfl pos (W.frame _ _ _ q λb u o e=>?_) (f9 _ _ hk (m _)) pv (kG _ j rfl) λp s r B y=>?_⟩
 .exact(g8 _ _ (λh:S=b=>a (by rw[h];show u))).trans e
 show fin p s r B λb o g d e=>y b o g d (m _ b o g d e)
theorem zsk(W:Walks prog w A.in1 I fp wr 0 P St)(S)(a:S∉fp)(d)(st:St 0 z.heap)(f:z.heap.get? S=some { cls:=.type "list",dict:=none,data:=.seq #[] c,slots:=#[] })
  (fin:∀h' tk,(∀b o,b∉wr->z.heap.get? b\o->h'.get? b\o)->Rz (.ok (.ret d)) { z with heap:=h',toks:=tk }) :
  codeAny (model prog w) A (.builtin "max.loop" ⟨[.ref I,.none,.ref S],[("default",d)]⟩) Rz z:=by
 show i8 BK ?_;show aj (jZ f rfl ?_);show aj (tf (W.done z _ _ st λe tk kp=>?_));show aj (kH (az (fin e tk kp)))
end
section
variable{prog:aD}{w:aB}{A:aT}{E:aa->ai->Prop}{s:ai}
theorem ziW{a:String}{b:Builtin}{args:List aa}{d:List (af×aa)}{Q:aa->ai->Prop}(hk:builtinKind a=none)(j:plainId a=true)(hb:entryFor table a\b)(ha:argsOk a ⟨args,d⟩)
  (h:wpAny (model prog w) A.in1 (b ⟨args,d⟩) (λfin c=>match fin with
   | .done f=>(match (Except.ok f:Result) with | .ok (.ret v)=>Q v c | .ok _=>False | .error e=>E e c)
   | .again i=>i.quiet=true/\codeAny (model prog w) A i (λr c=>match r with | .ok (.ret v)=>Q v c | .ok _=>False | .error e=>E e c) c) E s) :
  ↥(call (.builtin a) args d) Q E s:=by
 show nU (tM j hb ?_);simp![checkBuiltinCall,hk];cases g:Manifest.signature? a with
 | none=>show az h
 | some sig=>
  have k:Bind.checkArgs a sig ⟨args,d⟩=pure ():=by simpa only[argsOk,g] using ha
  simp![k];show az h
theorem zlM(x d):argsOk "max" ⟨[x],[("default",d)]⟩:=by kernel_rfl
theorem zsl(hh:A.handled=none)(g:s.heap.IsList l items.toArray)(j:HJ prog w A.in1 .Gt (λi v=>items.toArray[i]?\v) (λh=>∀b o,s.heap.get? b\o->h.get? b\o) bt)
  (n:items=[]->∀h' tk,(∀b o,s.heap.get? b\o->h'.get? b\o)->Q d { s with heap:=h',toks:=tk })
  (m:∀v h' tk,items[argBest bt (items.length-1)]?\v->(∀b o,s.heap.get? b\o->h'.get? b\o)->Q v { s with heap:=h',toks:=tk }) :
  ↥(call (.builtin "max") [.ref l] [("default",d)]) Q E s:=by
 show ziW F.kind_max F.plain_max F.entry_max (zlM _ _) ?_;show aj (ya (show YS "max" ["key","default"] 0 ⟨[],[("default",d)]⟩=pure [none,some d] from rfl) ?_);show aj (az ?_);show aj (tH g ?_);show aj (i9 ?_);have p:l< *...*:=by let⟨z,e,z⟩:=g;show aX e
 have W:=vg (prog:=prog) (w:=w) (A:=A.in1) hh *...* l (bJ p) items.toArray;have c:∀b o,s.heap.get? b=some o->b∉[*...*]/\b≠(s.heap.push { cls:=.type "list_iterator",data:=.fields #[.ref l,.int 0 0] }).objs.size:=λb o e=>by
  have:=aX e;show⟨λhm=>?_,λh=>?_⟩
  .simp_all
  rw[gX] at h;show bJ (j2 this) h
 show az ⟨jB BJ _,?_⟩;have k:=W.frame 0 _ (((s.heap.push { cls:=.type "list_iterator",data:=.fields #[.ref l,.int 0 0] }).push { cls:=.type "list",dict:=none,data:=.seq #[] 0,slots:=#[] })) (⟨⟨_,b8 _ rfl,rfl,rfl⟩,g.push _⟩) λb _ o e=>aV _ e
 have off:(s.heap.push { cls:=.type "list_iterator",data:=.fields #[.ref l,.int 0 0] }).objs.size∉[*...*,l]:=λhm=>by
  rw[gX] at hm;grind
 cases he:items with
 | nil=>
  subst he;show zsk W _ off d k (b8 _ rfl) λh' tk kp=>?_
  show n rfl h' tk λb o e=>kp b o (c b o e).1 (aV _ (aV _ e))
 | cons x xs=>
  show zpO W bt _ j off _ (λh h' a b f o e=>b f o (c f o e).1 (c f o e).2 (a f o e)) (by rw[he];show il _) k (λb o e=>aV _ (aV _ e)) (b8 _ rfl) λv h' tk pv kp=>?_
  show m v h' tk (by simpa using pv) λb o e=>kp b o (c b o e).1 (c b o e).2 (aV _ (aV _ e))
end
end L2
namespace HT
theorem Al:∀t:List Int,bo t t=false
 | []=>rfl
 | a::t=>by unfold bo;simp[Al t]
theorem Eh:∀a b:List Int,bo a b=true->bo b a=false
 | [],[],h=>rfl
 | [],_::_,h=>by cases h
 | _::_,[],h=>by rfl
 | x::xs,y::ys,h=>by
  unfold bo at h ⊢;by_cases e:x=y
  .subst e;simpa using Eh xs ys (by simpa using h)
  have d:¬y=x:=λx=>e x.symm
  simp[e,d] at h ⊢;room
theorem Eg:∀a b c:List Int,bo a b=false->bo b c=false->bo a c=false
 | [],[],c,h,d=>d
 | [],_::_,[],h,d=>by rfl
 | [],_::_,_::_,h,d=>by rfl
 | _::_,[],_,h,_=>by cases h
 | x::xs,y::ys,[],h,d=>by cases d
 | x::xs,y::ys,z::zs,h,d=>by
  unfold bo at h d ⊢;have e:=Eg xs ys zs;grind
end HT
namespace L2
open PySem PySem.Spec PyProof.Rows
theorem SW(bt)(a:∀i,bt i i=false)(c:∀i j,bt i j=true->bt j i=false)(tr:∀i j k,bt i j=false->bt j k=false->bt i k=false):∀n,argBest bt n<=n/\∀j,j<=n->bt j (argBest bt n)=false
 | 0=>⟨aW _,λj b=>by cases Nat.le_zero.mp b;show a 0⟩
 | n+1=>by
  let⟨e,d⟩:=SW bt a c tr n;cases hb:bt (n+1) (argBest bt n) with
  | true=>
   simp![argBest,hb,dF];grind
  | false=>
   simp![argBest,hb,eK,dG];grind
def Rm(K:ar)(H:Hp)(k:Bool)(x:V)(t:List Int):Prop:=(k=true/\∃n,x=.int n/\t=[n])\/(k=false/\∃b,x=.ref b/\bF K H b (t.map V.int))
def CK(K:ar)(x y:V)(H:Hp)(Q:VK):Prop:=∃a xs b k,x=.ref a/\bM K H a xs/\xs.length=b.length/\(∀(i:Nat) x t,xs[i]?\x->b[i]?\t->Rm K H k x t)/\(b=[]->Q y H)/\
 ∀(i:Nat) t v,b[i]?\t->xs[i]?\v->(∀u∈b,HT.bo u t=false)->Q v H
section
variable{pos p kp:aG}{e e2:ax}
theorem znr(U:X.calm=true)(hu:X.A.units+64<cLine){C:St}(I:Inv X J C H s)(g:RelV x u)(O:RelV y d)(h:CK X.K x y H Q) :
  ⇑(call (.builtin "max") [u] [("default",d)]) (EP X J C Q) X.xe s:=by
 let⟨a,xs,b,k,rfl,S,hlen,hk,h0,Z⟩:=h;cases g;let⟨its,D,pl,hz⟩:=I.list S;have T:=pl.isList;have ln:xs.length=its.length:=D.length;have at_:∀(i:Nat) v,its[i]?\v->∃x t,xs[i]?\x/\b[i]?\t/\RelV x v/\Rm X.K H k x t/\t=b.getD i []:=λi v hv=>by
  have hi:i<its.length:=(cf.mp hv).1;have f:xs[i]?=some xs[i]:=bC (by cbv);have ht:b[i]?=some b[i]:=bC (by lia);let⟨v',F,g⟩:=D.get f;rw[hv] at F;cases F;show⟨_,_,f,ht,g,hk i _ _ f ht,by rw[o7,ht];rfl⟩
 show zsl (bt:=λi j=>HT.bo (b.getD i []) (b.getD j [])) (I.ok.hd U) T ?_ (λhe h' tk kp=>?_) λv h' tk hv kp=>?_
 .intro i j N M z Q' E' L hi B q;let⟨x1,t1,V,V,r1,k1,e1⟩:=at_ i N (by simpa using hi);let⟨x2,t2,V,V,E,G,e2⟩:=at_ j M (by simpa using B);replace q:Q' (.bool (HT.bo (b.getD i []) (b.getD j []))) z:=q
  rw[<-e1,<-e2] at q;rcases k1 with⟨p,o,rfl,rfl⟩ | ⟨p,b1,rfl,s1⟩
  .rcases G with⟨c,n,rfl,rfl⟩ | ⟨c,_⟩
   .let⟨c1,rfl⟩:=r1;let⟨c2,rfl⟩:=E;show P4 ?_;have:HT.bo [o] [n]=decide (o>n):=by
     unfold HT.bo;by_cases e:o=n
     .subst e;simp[HT.Al]
     show if_neg ‹_›
    rw[<-this];show q
   rw[p] at c;cases c
  rcases G with⟨c,_⟩ | ⟨c,b2,rfl,s2⟩
  .rw[p] at c;cases c
  cases r1;cases E;let⟨i1,v1,m,V⟩:=I.tuple s1;let⟨i2,v2,l,V⟩:=I.tuple s2;let⟨R,g1,m⟩:=m;let⟨P,g2,l⟩:=l;show HT.abu (A:=X.A.in1) ⟨R,L _ _ g1,m⟩ ⟨P,L _ _ g2,l⟩ (rL v1) (rL v2) (by show X.A.units+1<cLine;lia) q
 .subst he;show⟨y,H,I.kept kp,O,h0 (QH.mp (by rw[<-hlen,ln];rfl))⟩
 let⟨x,t,f,ht,r,V,e⟩:=at_ _ v hv;show⟨x,H,I.kept kp,r,Z _ t x ht f λu LR=>?_⟩;let⟨h3,Y⟩:=SW (λi j=>HT.bo (b.getD i []) (b.getD j [])) (λi=>HT.Al _) (λi j=>HT.Eh _ _) (λi j k=>HT.Eg _ _ _) (its.length-1);let⟨j,B,rfl⟩:=tJ LR;have W:=Y j (by lia);rw[e];have e7:b.getD j []=b[j]:=by rw[o7,bC B];rfl
 rw[<-e7];show W
def Cq(P:V->Hp->Prop):List V->Hp->Prop:=λa H=>match a with
 | [x]=>P x H
 | _=>False
theorem SV(h:Cq P a H):∃x,a=[x]:=by
 unfold Cq at h;split at h
 .exact⟨_,rfl⟩
 show h.elim
def ZU(K:ar)(b a:TE):TE:=λσ H Q=>b σ H λx H1=>a σ H1 λy c=>CK K x y c Q
theorem zsm(o:X.calm=true)(n:X.A.units+64<cLine)(ha:PE X e g)(hb:PE X e2 b)(hm:X.mg "max"=none)(hg:Gl X "max":=by rfl)(c:starEach [e] X.env=(false,eval e X.env)::starEach [] X.env:=by rfl) :
  PE X (.Call (.Name "max" p) [e] [⟨some "default",e2,kp⟩] pos) (ZU X.K g b):=by
 intro j s σ H Q I h;show mU (kO I hg hm (u:=.builtin "max") rfl ?_);show callWith_kw ?_ (by rw[c];rfl) (by rw[c];rfl);show aR (fZ ha jk c pos j s σ H (Cq λx H1=>b σ H1 λy a=>CK X.K x y a Q) I h) λus s1 f=>?_
 let⟨v,H1,I1,r,q⟩:=f;let⟨x,rfl⟩:=SV q;let⟨u,rfl,l⟩:=gH r;show aR (zrL hb ztX pos j s1 σ H1 (Cq λy a=>CK X.K x y a Q) I1 q) λws s2 f=>?_
 let⟨zs,a,t,k,i⟩:=f;let⟨y,rfl⟩:=SV i;let⟨d,rfl,m⟩:=gH k;show znr o n t l m i
noncomputable def mj:List D->Option (List (List Int))
 | []=>some []
 | .tup c::r=>match lL c,mj r with
  | some a,some b=>some (a::b)
  | _,_=>none
 | _=>none
noncomputable def vZ(a:List D):Option (Bool×List (List Int)):=match lL a with
 | some ns=>some (true,ns.map λn=>[n])
 | none=>(mj a).map λt=>(false,t)
noncomputable def kD:Bool->List Int->D
 | true,t=>.int (t.headD 0)
 | false,t=>.tup (t.map D.int)
def vY(v d:D)(Q:R->Prop):Prop:=match v with
 | .lst b=>match vZ b with
  | some (k,a)=>(a=[]->Q (.fz d))/\∀t∈a,(∀u∈a,HT.bo u t=false)->Q (.fz (kD k t))
  | none=>False
 | _=>False
def CJ(b a:TD):TD:=λρ Q=>b ρ λr=>a ρ λc=>vY r.val c.val Q
theorem JD{K:ar}:∀{f c d},mj f\c->av K G d f->d.length=c.length/\∀(i:Nat) x t,d[i]?\x->c[i]?\t->Rep K G x (.tup (t.map D.int))/\∃b,x=.ref b/\bF K G b (t.map V.int)
 | [],c,[],h,_=>by simp![mj,fA] at h;subst h;show⟨rfl,λi x t e=>by trivial⟩
 | .tup f::r,c,v::d,h,rs=>by
  simp![mj] at h;split at h
  .rename_i a b ha hb;simp![fA] at h;subst h;let⟨m,l⟩:=JD hb rs.2;show⟨by simp[m],λi x t g e2=>?_⟩;cases i with
   | zero=>
    simp![tN,fA] at g e2;subst g e2;have r1:=rs.1;rw[ur ha] at r1;show⟨r1,?_⟩;let⟨p,xs,rfl,j,k⟩:=r1;rw[uk k] at j;show⟨p,rfl,bF.of j⟩
   | succ i=>
    show l i x t g e2
  cases h
 | [],_,_::_,_,rs=>by simp![av] at rs
 | _::_,_,[],_,rs=>by simp![av] at rs
 | .int _::_,_,_::_,h,_=>by trivial
 | .str _::_,_,_::_,h,_=>by trivial
 | .lst _::_,_,_::_,h,_=>by trivial
 | .non::_,_,_::_,h,_=>by trivial
 | .bl _::_,_,_::_,h,_=>by trivial
 | .obj _ _::_,_,_::_,h,_=>by trivial
 | .dic _::_,_,_::_,h,_=>by trivial
 | .dit _::_,_,_::_,h,_=>by trivial
 | .exc _ _::_,_,_::_,h,_=>by trivial
 | .idn _ _::_,_,_::_,h,_=>by trivial
theorem Jc(W:X.calm=true)(T:X.A.units+64<cLine)(ha:PD X e te)(hb:PD X e2 te2)(hm:X.mg "max"=none)(hg:Gl X "max":=by rfl)(U:starEach [e] X.env=(false,eval e X.env)::starEach [] X.env:=by rfl) :
  PD X (.Call (.Name "max" p) [e] [⟨some "default",e2,kp⟩] pos) (CJ te te2):=by
 let⟨t1,N,L⟩:=ha;let⟨t2,M,K⟩:=hb;show⟨_,zsm W T N M hm hg U,λρ σ D C G H Q P E h k=>L ρ σ D C G H _ _ E h λv H' r G' I J V=>?_⟩;obtain⟨G2,j,y,_⟩:=J.freeze I;show K ρ σ D C G2 H' _ _ (E.ext j) V λv3 H3 r3 G3 F S d=>?_
 obtain⟨l,f,z,_⟩:=S.freeze F;unfold vY at d;split at d
 .rename_i es q;split at d
  .rename_i kk bc hk;rw[q] at y;have fJ:=y.mono f.g;let⟨a,xs,rfl,w,u⟩:=fJ;unfold vZ at hk;split at hk
   .rename_i ns R;let⟨rfl,rfl⟩:=hk;rw[ur R] at u;rw[uk u] at w;show⟨a,_,ns.map λn=>[n],true,rfl,(f.s.cm w).sq,∅,λi x t c e2=>?_,λe=>k _ _ _ l (j.trans f) (bZ z) (d.1 e),λi t v c e2 o=>?_⟩
    .simp![bW,j3] at c e2;let⟨n,c,rfl⟩:=c;let⟨m,e2,rfl⟩:=e2;rw[c] at e2;cases e2;show .inl ⟨rfl,n,rfl,rfl⟩
    have O:=cz c;simp![bW,j3] at c e2;let⟨n,c,rfl⟩:=c;let⟨m,e2,rfl⟩:=e2;rw[c] at e2;cases e2;show k _ _ _ l (j.trans f) (bZ (eQ _ _ _)) (d.2 _ O o)
   simp![j3,Prod.mk.injEq] at hk;let⟨t',ht,rfl,rfl⟩:=hk;let⟨Z,B⟩:=JD ht u;show⟨a,xs,t',false,rfl,(f.s.cm w).sq,Z,λi x t c e2=>?_,λe=>k _ _ _ l (j.trans f) (bZ z) (d.1 e),λi t v c e2 o=>?_⟩
   .obtain⟨_,b,rfl,Y⟩:=B i x t c e2;show .inr ⟨rfl,b,rfl,f.s.kW Y⟩
   show k _ _ _ l (j.trans f) (bZ (B i v t e2 c).1) (d.2 t (cz c) o)
  show d.elim
 show d.elim
end
def T7:Sl->Prop
 | .ov (.dc _)=>True
 | .ov _=>False
 | _=>True
def Iw(i:Nat)(te:TD):TD:=λρ Q=>T7 (gt ρ i)/\te (eT i ρ) λr=>match r with
 | .fz (.tup ds)=>ds.all kK=true/\Q (.fz (.tup ds))
 | .fz d=>kK d=true/\Q (.fz d)
 | _=>False
theorem zpR(c:aZ G H)(f:aZ b H)(g:∀q∈L,b q≠none)(d:∀q∈L,∀xs,¬Rd b q (.tup xs))(h:G p\.tup xs):less G L p\.tup xs:=by
 have a:p∉L:=λa=>by
  cases e:b p with
  | none=>show g p a e
  | some u=>
   have i:=f p u e;show d p a xs ?_;left;have:=c _ _ h;rw[i] at this;rw[e,this]
 unfold less;rw[if_neg a];show h
theorem zpS{K:ar}(i)(q:jX K te g):jX K (Iw i te) g:=by
 intro ρ σ y w G H Q P E h k;let⟨L,p,z,n⟩:=E.A0 i;have l:∀q∈L,H q≠none/\∀xs,¬Rd H q (.tup xs):=n λo m=>by
  have:=h.1;rw[m] at this;cases o with
  | dc kvs=>show .inl ⟨kvs,rfl⟩
  | ll=>show this.elim
  | dl=>show this.elim
  | tl=>show this.elim
  | ld=>show this.elim
  | dt=>show this.elim
  | tp=>show this.elim
  | ob=>show this.elim
  | dq=>show this.elim
  | li=>show this.elim
 show q _ σ y w _ H _ _ z h.2 λv H' r e x j b=>?_
 have f:=Du p x;split at b
 .rename_i ds;show k v H' _ (less e L) f ?_ b.2;have c:Rep K e v (.tup ds):=j;let⟨a,xs,rfl,u,t⟩:=c;show⟨a,xs,rfl,zpR x.s x.h (λq b=>(l q b).1) (λq b=>(l q b).2) u,JW b.1 t⟩
 .rename_i d _;show k v H' (.fz d) (less e L) f (bZ (ze b.1 j)) b.2
 show b.elim
section
variable{X:Cx}{e:ax}{te:TD}
theorem zpT(i)(h:PD X e te):PD X e (Iw i te):=let⟨tt,p,q⟩:=h;⟨tt,p,zpS i q⟩
def Rv(i:Nat)(te:TD):TX:=λD ρ=>te ρ λr=>match gt ρ i with
 | .ow ds=>D.rt (.ov (.tl r.val ds))
 | _=>False
theorem zsn(i)(h:PD X e te)(hN:Nm X i x:=by walk_at"nm")(M:starEach [e,.Name x b] X.env=(false,eval e X.env)::starEach [.Name x b] X.env:=by rfl)(y:starEach [.Name x b] X.env=(false,eval (.Name x b) X.env)::starEach [] X.env:=by rfl) :
  PX X (.Return (some (.Tuple [e,.Name x b] j tp)) pos) (Rv i te):=by
 let⟨t1,C,A⟩:=h;show⟨_,CZ (yT (fZ C (fZ (jL hN) jk y) M)),λρ σ P N G H D E k h g=>?_⟩;show A ρ σ P N G H _ _ k h λv H1 w Q j B m=>?_
 obtain⟨O,u,F,_⟩:=B.freeze j;split at m
 .rename_i ds hg;have d:=k.ext u;let⟨q,xs,L,t,K,J,I⟩:=d.ow i ds hg;show⟨_,L,by show 2<=sizeLine;decide,λp f=>?_⟩;have n:p≠q:=λz=>by rw[z,t] at f;cases f
  show g.rt _ _ (.ov (.tl w.val ds)) O (d.e.trans (.own d.e.s f)) ⟨p,[q],rfl,by simp[n],⟨q,v,xs,rfl,cw,F,by rw[aY n.symm];show t,I⟩,λr o=>?_⟩ m;simp![bx,gC,or_false] at o;rcases o with rfl | rfl
  .exact⟨d.e.h.free f,d.e.s.free f⟩
  show⟨J,K⟩
 show m.elim
end
section
variable{e:ax}{te:TD}
theorem wB{K:ar}(ht:t∈["NoneType","bool","int","str","tuple","list"])(b:S∈["bool","int","str","tuple","list"])(a:T∈["bool","int","str","tuple","list"]):OA K (.type t) [.type S,.type T]=some (e8 t S||e8 t T):=by
 simp only[OA,rB ht b,rB ht a];cases e8 t S<;>cases e8 t T<;>rfl
theorem znu(g:S∈["bool","int","str","tuple","list"])(f:T∈["bool","int","str","tuple","list"]):fk X (.builtin "isinstance") (λxs H Q=>∃x d p,xs=[x,.ref p]/\bF X.K H p [.ty S,.ty T]/\Rep X.K H x d/\lH d=true/\Q (.bl (e8 (iV d) S||e8 (iV d) T)) H):=by
 intro E s σ H xs us Q I r h;let⟨x,d,p,rfl,B,e,j,q⟩:=h;let⟨u,c,rfl,b,rc⟩:=oh r;cases (show c=cI p from rc);let⟨cs,w,ht,Z⟩:=I.tuple B;let⟨D,C,rfl,r1,A⟩:=oh w;cases (show D=jc S from r1);cases (show C=jc T from A);obtain⟨⟨cls,F,data,sl⟩,g1,g2,n,g3⟩:=ht;simp only at g2 g3;subst g2 g3;have fin:∀tk,EP X E σ Q (.bool (e8 (iV d) S||e8 (iV d) T)) { s with toks:=tk }:=λtk=>⟨.bl _,H,I.tok tk,rfl,q⟩
 cases d with
 | non=>subst e;cases (show u=iL from b);show vx Pt I.dy l9 g1 (wB (by show .head _) g f) (λz=>nomatch z) fin
 | bl y=>subst e;cases (show u=vk y from b);show vx Pr I.dy l9 g1 (wB (by trivial) g f) (λz=>nomatch z) fin
 | int i=>subst e;let⟨t,k⟩:=(show ∃t,u=o9 i t from b);cases k;show vx O9 I.dy l9 g1 (wB (by trivial) g f) (λz=>nomatch z) fin
 | str y=>subst e;let⟨t,k⟩:=(show ∃t,u=vf y t from b);cases k;show vx O8 I.dy l9 g1 (wB (by trivial) g f) (λz=>nomatch z) fin
 | tup ds=>
  let⟨a,xs,rfl,l,Z⟩:=e;cases (show u=cI a from b);let⟨its,Z,ht,Z⟩:=I.tuple (bF.of l);let⟨o,v,m,Z⟩:=ht;show vx PN I.dy ⟨o,v,m⟩ g1 (wB (by trivial) g f) (λz=>nomatch z) fin
 | lst ds=>
  let⟨a,xs,rfl,l,Z⟩:=e;cases (show u=cI a from b);let⟨its,Z,ht,Z⟩:=I.list l.sq;let⟨o,n,v,m,Z⟩:=ht;show vx Pq I.dy ⟨o,v,m⟩ g1 (wB (by trivial) g f) (λz=>nomatch z) fin
 | obj=>cases j
 | dic=>cases j
 | dit=>cases j
 | exc=>cases j
 | idn=>cases j
def CI(S T:String)(te:TD):TD:=λρ Q=>te ρ λr=>lH r.val=true/\Q (.fz (.bl (e8 (iV r.val) S||e8 (iV r.val) T)))
theorem SU(L:PD X e te)(hm:X.mg "isinstance"=none)(I:X.mg b=none)(O:X.mg a=none)(j:bootBuiltins b=some (.type S))(i:bootBuiltins a=some (.type T))(N:S∈["bool","int","str","tuple","list"]:=by decide)(M:T∈["bool","int","str","tuple","list"]:=by decide)
  (hg:Gl X "isinstance":=by rfl) (F:Gl X b:=by rfl) (J:Gl X a:=by rfl) (A:b≠"__name__":=by decide) (Z:a≠"__name__":=by decide) (Y:(b==("__debug__":af))=false:=by decide) (l:(a==("__debug__":af))=false:=by decide)
  (z:starEach [e,xX [.Name b d,.Name a c] f g] X.env=(false,eval e X.env)::starEach [xX [.Name b d,.Name a c] f g] X.env:=by rfl) (D:starEach [xX [.Name b d,.Name a c] f g] X.env=(false,eval (xX [.Name b d,.Name a c] f g) X.env)::starEach [] X.env:=by rfl)
  (m:starEach [l8 b d,.Name a c] X.env=(false,eval (.Name b d) X.env)::starEach [l8 a c] X.env:=by rfl) (n:starEach [l8 a c] X.env=(false,eval (.Name a c) X.env)::starEach [] X.env:=by rfl)
  (R:(backTo pos (starEach [xX [.Name b d,.Name a c] f g] X.env)).any (·.1)=false:=by rfl):PD X (.Call (.Name "isinstance" p) [e,.Tuple [.Name b d,.Name a c] f g] [] pos) (CI S T te):=by
 let⟨t,pp,q⟩:=L;show⟨_,zq (znu N M) hg hm Ge (fZ pp (fZ (yT (fZ (Jj (v:=.ty S) F I j rfl A Y) (fZ (Jj (v:=.ty T) J O i rfl Z l) jk n) m)) jk D) z) (by decide) (by assumption) z R,λρ σ W U G H Q P E h k=>q ρ σ W U G H _ _ E h λv H' r G' x C y=>?_⟩;obtain⟨V,w,B,_⟩:=C.freeze x;show⟨by show 2<=sizeLine;decide,λp K=>?_⟩;have u:=w.trans (Ext.own (o:=.tup [.ty S,.ty T]) w.s K);show⟨v,r.val,p,rfl,bF.of cw,B.mono u.s,y.1,k _ _ _ V u (bZ (fY _ _ _)) y.2⟩
end
end L2
namespace Ts
open PySem PyProof.Rows
variable{A:aT}{E:aa->ai->Prop}{s:ai}
variable(rk:α->Int)
variable{A:aT}{E:aa->ai->Prop}{s:ai}
def oY(rk:Keyed->Int)(l:List Keyed):Prop:=l.Pairwise λx y=>rk x<=rk y
noncomputable abbrev dk:Keyed:=(iL,iL)
variable{A:aT}{E:aa->ai->Prop}{s:ai}
variable{A:aT}{E:aa->ai->Prop}{s:ai}
noncomputable def kr(rk:Keyed->Int)(xs:Array Keyed)(i:Nat):Int:=rk (xs.getD i dk)
variable{A:aT}{E:aa->ai->Prop}{s:ai}
variable{A:aT}{E:aa->ai->Prop}{s:ai}
variable{A:aT}{E:aa->ai->Prop}{s:ai}
variable{A:aT}{E:aa->ai->Prop}{s:ai}
open PySem.W
section
variable{n N:Nat}{r:Nat->Int}{cmp:Nat->Nat->(Bool->ai->Prop)->ai->Prop}{s:ai}{p:Array Nat}{i j k m:Nat}
noncomputable def kp(r:Nat->Int)(p:Array Nat)(i:Nat):Int:=r (p.getD i 0)
def Pm(n:Nat)(p:Array Nat):Prop:=p.toList.Perm (aI n)
def Up(r:Nat->Int)(p:Array Nat)(m:Nat):Prop:=∀i j,i<=j->j<m->kp r p i<=kp r p j
abbrev Dn(r:Nat->Int):Array Nat->Nat->Prop:=Up λx=>-r x
abbrev Cm(n:Nat)(r:Nat->Int)(cmp:Nat->Nat->(Bool->ai->Prop)->ai->Prop)(s:ai):Prop:=∀i j C,i<n->j<n->C (decide (r i<r j)) s->cmp i j C s
theorem Pm.size(h:Pm n p):p.size=n:=by have:=h.length_eq;simpa using this
theorem Pm.lt(h:Pm n p)(hn:0<n)(i):p.getD i 0<n:=by
 by_cases hi:i<p.size
 .have e:p.getD i 0=p[i]:=by simp[xW,hi]
  rw[e];show cx.mp (h.mem_iff.mp ∅)
 have e:p.getD i 0=0:=by simp[xW,hi]
 rw[e];show hn
theorem Pm.to(h:Pm n p)(k:q.Perm p):Pm n q:=(Array.perm_iff_toList_perm.mp k).trans h
theorem zc(h:p[i]?=q[j]?):kp r p i=kp r q j:=by
 unfold kp;rw[QW,QW,h]
theorem iT:kp (λx=>-r x) p i=-kp r p i:=rfl
theorem Up.more(u:Up r p m)(d:1<=m)(h:kp r p (m-1)<=kp r p m):Up r p (m+1):=λi j a c=>by
 by_cases e:j<m
 .exact u i j a e
 obtain rfl:j=m:=by lia
 by_cases b:i=j
 .subst b;show di _
 show ye (u i (j-1) (by lia) ⋯) h
theorem Up.same(u:Up r p m)(h:∀i,kp r q i=kp r p i):Up r q m:=λi j a b=>by rw[h,h];show u i j a b
theorem Iu(b:j<=p.size)(k):kp r (kas_rev p i j) k=if i<=k/\k<j then kp r p (i+j-1-k) else kp r p k:=by
 have e:=getElem?_mirror_all (i:=i) b k;by_cases a:i<=k/\k<j
 .rw[if_pos a] at e ⊢;show zc e
 rw[if_neg a] at e ⊢;show zc e
theorem Ir(b:j<=p.size)(a:∀k,i<=k->k<j->kp r p k=kp r p (j-1))(k):kp r (kas_rev p i j) k=kp r p k:=by
 rw[Iu b];by_cases h:i<=k/\k<j
 .rw[if_pos h,a _ ⋯ ⋯,a k h.1 h.2]
 rw[if_neg h]
theorem Up.turn(u:Dn r p m)(hm:m<=p.size):Up r (kas_rev p 0 m) m:=λi j d b=>by
 rw[Iu hm,Iu hm,if_pos ⟨du _,by room⟩,if_pos ⟨du _,b⟩];have:=u (0+m-1-j) (0+m-1-i) (by grind) (by grind);rw[iT,iT] at this;cbv
theorem Pm.rev(h:Pm n p):Pm n (kas_rev p i j):=h.to (mirror_perm _ _ _ _)
theorem Iq(d:Cm n r cmp s)(hn:0<n)(c:Pm n p):∀k m,1<=m->m+k=N->Up r p m->(∀a,1<=a->a<=N->Up r p a->(a<N->kp r p a<kp r p (a-1))->G a s)->(kas_asc p k m).kasWp cmp G s
 | 0,m,b,e,u,g=>g m b (by cbv) u (by cbv)
 | k+1,m,b,e,u,g=>by
  show d _ _ _ (c.lt hn _) (c.lt hn _) ?_;by_cases h:kp r p m<kp r p (m-1)
  .rw[show decide (r (p.getD m 0)<r (p.getD (m-1) 0))=true from decide_eq_true h];show g m b (by lia) u λ_=>h
  rw[show decide (r (p.getD m 0)<r (p.getD (m-1) 0))=false from kF h];show Iq d hn c k (m+1) (by show il _) (by grind) (u.more b (by cbv)) g
theorem Dh(u:Cm n r cmp s)(hn:0<n)(hN:N<=n)(g:∀p m q,Pm n p->1<=m->m<=N->Dn r p m->q<m->(∀t,t<=q->kp r p (m-1-t)=kp r p (m-1))->G (p,m,q) s) :
  ∀k p m q,Pm n p->1<=m->m+k=N->Dn r p m->q<m->(∀t,t<=q->kp r p (m-1-t)=kp r p (m-1))->(kas_desc k p m q).kasWp cmp G s
 | 0,p,m,q,f,o,e,d,w,eq=>g p m q f o (by cbv) d w eq
 | k+1,p,m,q,f,o,e,d,w,eq=>by
  have hsz:=f.size;show u _ _ _ (f.lt hn _) (f.lt hn _) ?_;by_cases h:kp r p m<kp r p (m-1)
  .rw[show decide (r (p.getD m 0)<r (p.getD (m-1) 0))=true from decide_eq_true h];by_cases c:q>0
   .rw[if_pos c];have v:=Ir (r:=r) (p:=p) (i:=m-(q+1)) (j:=m) (by lia) λx a b=>by
     have:=eq (m-1-x) ⋯;rwa [show m-1-(m-1-x)=x by lia] at this
    show Dh u hn hN g k _ (m+1) 0 f.rev (by show il _) (by lia) (Up.more (d.same λx=>by rw[iT,iT,v]) o ?_) (by cbv) λt ht=>by rw[show t=0 by cbv];rfl
    rw[iT,iT,v,v];lia
   rw[if_neg c];show Dh u hn hN g k _ (m+1) 0 f (by show il _) (by lia) (Up.more d o ?_) (by cbv) λt ht=>by rw[show t=0 by cbv];rfl
   rw[iT,iT];lia
  rw[show decide (r (p.getD m 0)<r (p.getD (m-1) 0))=false from kF h];show u _ _ _ (f.lt hn _) (f.lt hn _) ?_;by_cases y:kp r p (m-1)<kp r p m
  .rw[show decide (r (p.getD (m-1) 0)<r (p.getD m 0))=true from decide_eq_true y];show g p m q f o (by lia) d w eq
  rw[show decide (r (p.getD (m-1) 0)<r (p.getD m 0))=false from kF y];show Dh u hn hN g k _ (m+1) (q+1) f (by show il _) (by lia) (Up.more d o ?_) (by room) λt ht=>?_
  .rw[iT,iT];cbv
  by_cases t0:t=0
  .subst t0;rfl
  have:=eq (t-1) (by cbv);rw[show m+1-1-t=m-1-(t-1) by lia,this,show m+1-1=m by cbv];lia
section
variable{G:Nat×Array Nat->ai->Prop}(g:∀m p,Pm n p->1<=m->m<=N->Up r p m->G (m,p) s)
include g
theorem T6(h:Cm n r cmp s)(hn:0<n)(hN:N<=n)(e:Pm n p)(i:1<=m)(hm:m<=N)(d:Dn r p m):(kas_tail3 m N p).kasWp cmp G s:=by
 unfold kas_tail3;rw[yh];show Iq (N:=N) h hn e.rev (N-m) m i (by cbv) (Up.turn d (by rw[e.size];room)) λf a b u _=>g f _ e.rev a b u
theorem Vy(f:Cm n r cmp s)(hn:0<n)(hN:N<=n)(e:Pm n p)(hm:m+1<=N)(d:Dn r p (m+1)):(kas_descPart m N p).kasWp cmp G s:=by
 unfold kas_descPart;rw[yh];show Dh f hn hN (λp m q e h hm d l eq=>?_) (N-(m+1)) p (m+1) 0 e (by show il _) (by cbv) d (by cbv) λt ht=>by rw[show t=0 by cbv];rfl
 have hsz:=e.size;by_cases c:q>0
 .rw[if_pos c];have k:=Ir (r:=r) (p:=p) (i:=m-(q+1)) (j:=m) (by lia) λx a b=>by
   have:=eq (m-1-x) (by grind);rwa [show m-1-(m-1-x)=x by lia] at this
  show T6 g f hn hN e.rev h hm (d.same λx=>by rw[iT,iT,k])
 rw[if_neg c];show T6 g f hn hN e h hm d
theorem zpV(o:Cm n r cmp s)(hn:0<n)(hN:N<=n)(w:1<=N)(d:Pm n p):(kas_count N p).kasWp cmp G s:=by
 unfold kas_count;rw[yh];show Iq (N:=N) o hn d (N-1) 1 (aW _) (by cbv) (λi j a b=>by rw[show i=j by cbv];show di _) λm a b u hd=>?_
 by_cases e:m=N
 .rw[if_pos (by show if_pos ‹_›)];show g m p d a b u
 rw[if_neg (by simpa using e)];have hsz:=d.size;by_cases c:m>1
 .rw[if_pos c];show o _ _ _ (d.lt hn _) (d.lt hn _) ?_;by_cases h:kp r p 0<kp r p (m-1)
  .rw[show decide (r (p.getD 0 0)<r (p.getD (m-1) 0))=true from decide_eq_true h];show g m p d a b u
  rw[show decide (r (p.getD 0 0)<r (p.getD (m-1) 0))=false from kF h];have same:∀x,0<=x->x<m->kp r p x=kp r p (m-1):=λx _ v=>by
   have:=u 0 x (du _) v;have:=u x (m-1) (by lia) (by lia);lia
  have f:=Ir (r:=r) (p:=p) (i:=0) (j:=m) (by lia) same;show Vy g o hn hN d.rev (by lia) (Up.more (λi j t q=>?_) a ?_)
  .rw[iT,iT,f,f,same i (du _) (by room),same j (du _) q];show di _
  rw[iT,iT,f,f];lia
 obtain rfl:m=1:=by lia
 show Vy g o hn hN d (by lia) (Up.more (λi j t q=>by rw[show i=j by cbv];show di _) (aW _) ?_);rw[iT,iT];lia
end
theorem JC(j:Cm n r cmp s)(hn:0<n)(d:Pm n p)(u:Up r p k)(g:∀l,l<=k->(∀i,i<l->kp r p i<=kp r p k)->(∀i,l<=i->i<k->kp r p k<kp r p i)->G l s) :
  ∀f l h,l<=h->h<=k->h-l<=f->(∀i,i<l->kp r p i<=kp r p k)->(∀i,h<=i->i<k->kp r p k<kp r p i)->(kas_place p k f l h).kasWp cmp G s
 | 0,l,h,a,b,c,lo,hi=>g l (by room) lo λi x y=>hi i (by lia) y
 | f+1,l,h,a,b,c,lo,hi=>by
  unfold kas_place;by_cases e:l>=h
  .rw[if_pos e];show g l (by room) lo λi x y=>hi i (by room) y
  rw[if_neg e];show j _ _ _ (d.lt hn _) (d.lt hn _) ?_;by_cases q:kp r p k<kp r p ((l+h)/2)
  .rw[show decide (r (p.getD k 0)<r (p.getD ((l+h)/2) 0))=true from decide_eq_true q];show JC j hn d u g f l _ (by lia) (by lia) (by grind) lo λi x y=>PZ q (u _ i x y)
  rw[show decide (r (p.getD k 0)<r (p.getD ((l+h)/2) 0))=false from kF q];show JC j hn d u g f _ h (by lia) b (by grind) (λi x=>ye (u i _ (by room) (by lia)) (Int.not_lt.mp q)) hi
theorem So(d:Cm n r cmp s)(hn:0<n)(g:∀p,Pm n p->Up r p n->G p s):∀f p k,Pm n p->k+f=n->Up r p k->(kas_bin f p k).kasWp cmp G s
 | 0,p,k,b,e,u=>g p b (by rwa [show n=k by show .symm ‹_›])
 | f+1,p,k,b,e,u=>by
  unfold kas_bin;rw[yh];show JC d hn b u (λl t lo hi=>?_) k 0 k (du _) (aW _) (by cbv) (λi h=>by cbv) λi h h'=>by ext
  have hb:∀i,kp r (bubble p k (k-l)) i=if i=l then kp r p k else if l<i/\i<=k then kp r p (i-1) else kp r p i:=λi=>by
   have e:=getElem?_bubble (xs:=p) (src:=k) (by rw[b.size];lia) (k-l) (by cbv) i;rw[show k-(k-l)=l by ext] at e;by_cases c:i=l
   .rw[if_pos c] at e ⊢;show zc e
   rw[if_neg c] at e ⊢;by_cases a:l<i/\i<=k
   .rw[if_pos a] at e ⊢;show zc e
   rw[if_neg a] at e ⊢;show zc e
  show So d hn g f _ (k+1) (b.to (bubble_perm _ _ _)) (by lia) λi j q v=>?_
  rw[hb,hb];by_cases c:i=l
  .rw[if_pos c];by_cases a:j=l
   .rw[if_pos a];show di _
   rw[if_neg a,if_pos (by lia)];show Oa (hi _ (by lia) (by lia))
  rw[if_neg c];by_cases o:l<i/\i<=k
  .rw[if_pos o,if_neg (by lia),if_pos (by lia)];show u _ _ ⋯ ⋯
  rw[if_neg o];by_cases a:j=l
  .rw[if_pos a];show lo i (by lia)
  rw[if_neg a];by_cases m:l<j/\j<=k
  .rw[if_pos m];show u _ _ (by lia) ⋯
  rw[if_neg m];show u _ _ q (by lia)
theorem zso(d:Cm n r cmp s)(hn:0<n)(g:∀p,Pm n p->Up r p n->G p s):(kas_sort n).kasWp cmp G s:=by
 unfold kas_sort;rw[yh];show zpV (λm p c a b u=>?_) d hn (aW n) hn (show Pm n _ by unfold Pm;simp);by_cases e:m<n
 .rw[if_pos e,show max m 1=m by cbv];show So d hn g _ p m c (by cbv) u
 rw[if_neg e];show g p c (by rwa [show n=m by lia])
end
section
variable{prog:aD}{w:aB}{A:aT}{E:aa->ai->Prop}{s:ai}
structure Ky(prog:aD)(w:aB)(A:aT)(s:ai)(κ:SortKind)(ok:Keyed->Prop)(rk:Keyed->Int):Prop where
 key:∀x y (C:Bool->ai->Prop),ok x->ok y->C (decide (rk x<rk y)) s->↥(keyLt' κ x.1 y.1) C (λ_ _=>False) s
def sP(n:Nat):Prop:=∀{prog w A E s κ rk it}(R:Ky prog w A s κ (λx=>x∈it) rk){Q},it.size=n->
 (∀a,(arrOf a).toList.Perm it.toList->oY rk (arrOf a).toList->failedOf a=none->Q () a)->wpS (model prog w) A E s sortRuns' Q (NP κ it #[] 7 none)
structure Ask(prog:aD)(w:aB)(A:aT)(E:aa->ai->Prop)(vs:List aa)(rk:Keyed->Int)(s:ai):Prop where
 ask:2<=vs.length->∃κ,(∀Q':SortKind->ai->Prop,Q' κ s->↥(keyKind' vs.toArray) Q' E s)/\Ky prog w A s κ (λx=>x∈pairsOf vs) rk
theorem znz{rk:Keyed->Int}(h:l.length<2):oY rk l:=by
 cases l with
 | nil=>show .nil
 | cons a r=>
  cases r with
  | nil=>show gu _ _
  | cons b t=>
   simp![cL] at h;lia
theorem Wn{rk:Keyed->Int}(g:s.heap.get? a=some (seqObj "list" d.toArray n))(hl:d.length<=sizeLine)(u:2<=d.length->sP d.length)
  (R:∀h',(∀b o,b≠a->s.heap.get? b\o->h'.get? b\o)->Ask prog w A E d rk { s with heap:=h' })
  (h:∀f:SortSt,(arrOf f).toList.Perm (pairsOf d).toList->oY rk (arrOf f).toList->P (.done (.ret .none)) { s with heap:=sortedHeap s.heap a d ((arrOf f).map (·.2)) }) :
  ↥(Builtin.«list.sort» ⟨[.ref a],[]⟩) P E s:=by
 rw[list_sort_plain];have ha:a< *...*:=aX g;show aj (listItems_at g rfl ?_);show aj (FX g rfl ?_ (by trivial) (du _));obtain⟨m,q⟩:∃m,(s.heap.update a (j5 λ_=>#[])).get? a=some (seqObj "list" #[] m):=⟨_,get?_update_seq g (λ_=>#[])⟩
 show aj (FH q rfl ?_);show aj (F3 ?_ (by show hl));show aj (Bv ?_ (du _));show eX ?_;have j:(((s.heap.update a (j5 λ_=>#[])).push (seqObj "tuple" d.toArray 0)).push (seqObj "list" #[] 0)).get? a=some (seqObj "list" #[] m):=by
  rw[BR _ _ _ (by rw[Bm,Gn];show bJ (j2 ha)),BR _ _ _ (by rw[Gn];show bJ ha)];show q
 have v:=R (((s.heap.update a (j5 λ_=>#[])).push (seqObj "tuple" d.toArray 0)).push (seqObj "list" #[] 0)) (λb o hb e=>aV _ (aV _ ((g8 _ _ (Ne.symm hb)).trans e)));have fin:=h;by_cases i:d.toArray.size<2
 .rw[if_pos i,if_pos i];show aj (az ?_);show aj (az ?_);show aj (FH j rfl ?_);show aj (FX j rfl ?_ (du _) (by rw[Oz];show(pairsOf d).size<=_;rw[Bq];show GD hl));simp![bne_self_eq_false,eK,dG];show az (fin (NP general' (d.toArray.zip d.toArray) #[] 7 none) (OC _) ?_);show oY rk (pairsOf d).toList;show znz (by rw[jF,Bq];room)
 rw[if_neg i,if_neg i];let⟨κ,r,kr⟩:=v.ask (by show yk ‹_›);show aj (r _ ?_)
 show aj (eW (u (by show yk ‹_›) kr
  (Q:=λ_ f=>(arrOf f).toList.Perm (pairsOf d).toList/\oY rk (arrOf f).toList/\failedOf f=none) (Bq d) λf a1 a2 x=>⟨a1,a2,x⟩) ?_ λ_ _ e=>e)
 rintro⟨⟨⟩,f⟩ y ⟨rfl,p,t,hf⟩;show aj (FH j rfl ?_)
 show aj (FX j rfl ?_ (du _) (by
  rw[Oz,<-jF,p.length_eq,jF,Bq];show GD hl))
 rw[hf];simp![bne_self_eq_false,eK,dG];show az (fin f p t)
theorem aah{rk:Keyed->Int}(i:s.heap.IsList l a.toArray)(hz:a.length<=sizeLine)(g:2<=a.length->sP a.length)
  (R:∀h',(∀b o,s.heap.get? b\o->h'.get? b\o)->Ask prog w A.in1.in1 E a rk { s with heap:=h' })
  (h:∀c:SortSt,(arrOf c).toList.Perm (pairsOf a).toList->oY rk (arrOf c).toList->Q (.ref (*...*+1)) { s with heap:=sortedAll s.heap a ((arrOf c).map (·.2)) }) :
  ↥(call (.builtin "sorted") [.ref l]) Q E s:=by
 show Hg FG FN FL (FK _) ?_;show aj (m:=checkCount "sorted" 1 1 _) (az ?_);show aj (collect_list i ?_ hz);show aj (Bv ?_ hz);have hsz:((s.heap.push (seqObj "list" #[] 0)).update *...* (j5 (·++a.toArray))).objs.size=*...*+1:=by
  rw[Gn,Bm]
 have f:(((s.heap.push (seqObj "list" #[] 0)).update *...* (j5 (·++a.toArray))).push (seqObj "list" a.toArray 0)).get? (*...*+1)=some (seqObj "list" a.toArray 0):=by
  rw[<-hsz];show b8 _ rfl
 have keep:∀b o,s.heap.get? b=some o->(((s.heap.push (seqObj "list" #[] 0)).update *...* (j5 (·++a.toArray))).push (seqObj "list" a.toArray 0)).get? b=some o:=λb o q=>by
  have d:b< *...*:=aX q;rw[BR _ _ _ (by rw[hsz];show bJ (j2 d)),Heap.get?_update_ne _ _ _ _ (bJ d),BR _ _ _ (bJ d)];show q
 rw[hsz];show aj (eX (j1 F2 ⟨_,f,rfl⟩ Ga (Wn (rk:=rk) f hz g (λh' k=>R h' λb o e=>k b o (bJ (j2 (aX e))) (keep b o e)) λc a1 a2=>⟨_,rfl,?_⟩) (F1 _)));show az ⟨_,rfl,h c a1 a2⟩
end
end Ts
namespace HT
theorem Wo:∀a b:List Int,lexLt a b=bo b a
 | [],[]=>rfl
 | [],_::_=>rfl
 | _::_,[]=>rfl
 | x::xs,y::ys=>by
  unfold lexLt bo;rw[Wo xs ys];by_cases e:x=y
  .subst e;rfl
  have c:¬y=x:=λz=>e z.symm
  simp[e,c]
end HT
namespace Ts
open PySem PySem.W PyProof.Rows
section
variable{w:aB}{A:aT}{s:ai}
theorem zpW(hv:IntsAre g d)(hw:IntsAre ws c)(i)(f:fin=decide (d.length<c.length))(q:Q (HT.lexLt d c) s):KatLex prog w A true fin Q (g.zip ws) i s:=by
 induction hv generalizing ws c i with
 | nil=>
  subst f;cases hw with
  | nil=>show Ft q
  | cons b u hw=>show Ft (by trivial)
 | cons a t hv h=>
  cases hw with
  | nil=>subst f;show Ft (by trivial)
  | cons b u hw=>
   show kat_cons (Pd ?_);rw[HT.aaG] at q;by_cases e:a=b
   .rw[if_pos e] at q;subst e;simp![Fs,decide_true];show kat_yes (h hw (i+1) (by rw[f];simp) q)
   rw[if_neg e] at q;simp![beq_eq_false_iff_ne.mpr e,kF e];show kat_no ?_;cases i with
   | zero=>show oneLt_int q
   | succ i=>show kat_one _ _ (HT.aao A s a t b u prog w _ _ q)
noncomputable def f7(h:aw)(v:aa):List Int:=match v with
 | .ref a=>match h.get? a with
  | some o=>match o.data with
   | .seq xs _=>numsOf xs.toList
   | _=>[]
  | none=>[]
 | _=>[]
def TupAt(h:aw)(v:aa):Prop:=∃a o xs n,v=.ref a/\h.get? a=some o/\o.cls=.type "tuple"/\o.data=.seq xs n/\IntsAre xs.toList (f7 h v)/\f7 h v≠[]
noncomputable def pW(h:aw)(a:List (List Int))(x:Keyed):Int:=(a.countP λt=>HT.bo (f7 h x.1) t:Nat)
theorem Lo{d:List (List Int)}(ha:a∈d):(d.countP λt=>HT.bo a t)<(d.countP λt=>HT.bo b t)↔HT.bo b a=true:=by
 constructor
 .intro h;cases hb:HT.bo b a with
  | true=>rfl
  | false=>
   have:(d.countP λt=>HT.bo b t)<=(d.countP λt=>HT.bo a t):=by
    show Qq λt _ ht=>?_
    cases e:HT.bo a t with
    | true=>rfl
    | false=>
     have:=HT.Eg b a t hb e;rw[this] at ht;cases ht
   room
 intro h;have sub:∀t,HT.bo a t=true->HT.bo b t=true:=λt ht=>by
  cases e:HT.bo b t with
  | true=>rfl
  | false=>
   have:=HT.Eg b t a e (HT.Eh a t ht);rw[this] at h;cases h
 induction d with
 | nil=>cases ha
 | cons c r f=>
  rw[yj,yj];rcases bx.mp ha with rfl | ha
  .have le:(r.countP λt=>HT.bo a t)<=(r.countP λt=>HT.bo b t):=Qq λt _ ht=>sub t ht
   rw[HT.Al,h];room
  cases e:HT.bo a c with
  | true=>rw[sub c e];room
  | false=>simp only[eK,dG];split<;>room
theorem UZ(k:∀b o,h.get? b\o->h'.get? b\o):∀{its},(∀v∈its,TupAt h v)->∃fs,KatTups h' its fs/\fs.length=its.length/\∀v∈fs,∃n t,v=o9 n t
 | [],_=>⟨[],.nil,rfl,λv hv=>by cases hv⟩
 | v::r,hv=>by
  let⟨fs,j,i,g⟩:=UZ k (its:=r) λx c=>hv x (eh _ c)
  let⟨a,o,xs,n,rfl,e,f,hd,hi,d⟩:=hv v lA;generalize f7 h (.ref a)=t at hi d;generalize c:xs.toList=l at hi;cases hi with
  | nil=>show absurd rfl d
  | cons m u p=>
   have h0:xs[0]?\.int m u:=by rw[<-yu,c];rfl
   show⟨.int m u::fs,KatTups.cons (k _ _ e) f hd h0 j,by simp[i],λx c=>by
    rcases bx.mp c with rfl | c
    .exact⟨_,_,rfl⟩
    .exact g x c⟩
theorem Yc(k:∀b o,h.get? b\o->h'.get? b\o)(hv:∀v∈its,TupAt h v):Ask prog w A E its (pW h (its.map (f7 h))) { s with heap:=h' }:=by
 show⟨λD=>⟨tuples' (jc "int" != jc "tuple"),λH q=>?_,⟨λx y Q l j q=>?_⟩⟩⟩
 .let⟨fs,u,G,r⟩:=UZ k hv;show kat_kind (s:={ s with heap:=h' }) (T:=.type "int") u (by lia) (λv hv=>?_) (by rfl) q;let⟨n,t,rfl⟩:=r v hv;show Looks.of_pure rfl
 have mem:∀z,z∈pairsOf its->TupAt h z.1/\z.1∈its:=λz hz=>by
  have:z.1∈its:=by
   unfold pairsOf at hz;have i:z∈its.zip its:=by simpa using hz
   show(yi i).1
  show⟨hv _ this,this⟩
 obtain⟨⟨a,C,xs,n,g,ga,ca,B,d,_⟩,p⟩:=mem x l;obtain⟨⟨b,ob,ys,m,f,gb,F,db,c,_⟩,mb⟩:=mem y j;have e:decide (pW h (its.map (f7 h)) x<pW h (its.map (f7 h)) y)=HT.lexLt (f7 h x.1) (f7 h y.1):=by
  rw[HT.Wo,tq,iJ];unfold pW;rw[Int.ofNat_lt];show Lo (g7 p)
 rw[e] at q;rw[g,f];rw[g,f] at q;rw[g] at d;rw[f] at c;show kat_lt (k _ _ ga) B (k _ _ gb) db (zpW d c 0 ?_ q);rw[<-d.length,<-c.length];simp
end
theorem V1(t:2<=n)(h:n<64):sP n:=by
 intro prog w A E s κ rk it R Q hn q;have mem:∀i,i<n->kas_item it i∈it:=λi hi=>by
  have e:kas_item it i=it[i]:=by unfold kas_item;simp[xW,hn,hi]
  rw[e];show Array.getElem_mem _
 have hit:(FP (aI n)).map (kas_item it)=it:=by rw[<-hn];show kas_range it
 have hl:(aI n).map (kas_item it)=it.toList:=by
  have:=congrArg FU hit;simpa using this
 have:=kas_runs (prog:=prog) (w:=w) (A:=A) (E:=E) (κ:=κ) (it:=it) (Q:=λu st b=>b=s/\Q u st) (G:=λp b=>b=s/\Pm n p/\Up (λi=>rk (kas_item it i)) p n) (s:=s) t h (λp st b hz ha hf ⟨e,f,d⟩=>⟨e,?_⟩)
  (zso (r:=λi=>rk (kas_item it i)) (λi j C hi g o=>R.key _ _ C (mem i hi) (mem j g) o) (by room) λp f d=>⟨rfl,f,d⟩)
 .unfold kas_st at this;rw[hit] at this;show this
 show q st ?_ ?_ hf
 .rw[ha,BI,<-hl];show f.map _
 rw[ha,BI];show l7.mpr λi j hi g x=>?_
 have m:i<p.size:=by simpa using hi
 have v:j<p.size:=by simpa using g
 have:=d i j (by room) (by cbv);unfold kp at this;simp![xW,m,v,dif_pos] at this;cbv
end Ts
namespace L2
open PySem PySem.Spec PyProof.Rows
theorem zA{d j:Type}{f:d->j}{a b:List j}(h:a.Perm b):∀{L},b=L.map f->∃c:List d,c.Perm L/\a=c.map f:=by
 induction h with
 | nil=>intro L e;show⟨[],by rw[show L=[] from by simpa using e.symm],rfl⟩
 | cons x h n=>
  intro L e;cases L with
  | nil=>cases e
  | cons y L=>
   injection e with p o
   let⟨c,m,k⟩:=n o;show⟨y::c,m.cons y,by rw[bO,p,k]⟩
 | swap x y l=>
  intro L e;match L,e with
  | [],e=>cases e
  | [_],e=>cases e
  | u::v::L,e=>
   simp![bO,sV.injEq] at e;show⟨v::u::L,OD u v L,by simp[e]⟩
 | trans m k i g=>
  intro L e;let⟨L2,a1,a2⟩:=g e;let⟨s,r,q⟩:=i a2;show⟨s,r.trans a1,q⟩
section
variable{X:Cx}{pos:aG}{e:ax}{te:TD}
theorem Jb{a:Type}{f:a->V}{g:a->aa}:∀{L:List a},(∀q∈L,RelV (f q) (g q))->Vals (L.map f) (L.map g)
 | [],_=>.nil
 | q::L,h=>.cons (h q lA) (Jb λx b=>h x (eh _ b))
theorem zlP:fk X (.builtin "sorted") (λxs H Q=>∃p ps,xs=[.ref p]/\bM X.K H p (ps.map (·.1))/\(∀q∈ps,q.2≠[]/\∃b,q.1=.ref b/\bF X.K H b (q.2.map V.int))/\(2<=ps.length->Ts.sP ps.length)/\
  ∀w:List (V×List Int),w.Perm ps->w.Pairwise (λx y=>HT.bo x.2 y.2=false)->∀l,H l=none->Q (.ref l) (upd H l (.lst (w.map (·.1))))):=by
 intro J' s σ H xs us Q I r h;let⟨p,ps,rfl,hq,hk,hr,q⟩:=h;let⟨u,rfl,Y⟩:=gH r;cases Y;let⟨its,E,pl,hz⟩:=I.list hq;have A:ps.length=its.length:=by rw[<-E.length,aO]
 obtain⟨d,n,g⟩:∃d:List ((V×List Int)×aa),ps=d.map (·.1)/\its=d.map (·.2):=
  ⟨ps.zip its,(Gm (by cbv)).symm,(Gk (by cbv)).symm⟩
 have rel:∀z∈d,RelV z.1.1 z.2:=λz hz=>by
  let⟨i,hi⟩:=tL hz;have c:(ps.map (·.1))[i]?\z.1.1:=by rw[n];simp[hi]
  let⟨v',G,W⟩:=E.get c;have m:its[i]?\z.2:=by rw[g];simp[hi]
  rw[m] at G;cases G;show W
 have tup:∀z∈d,Ts.TupAt s.heap z.2/\Ts.f7 s.heap z.2=z.1.2:=λz hz=>by
  let⟨R,b,O,sq⟩:=hk z.1 (by rw[n];show g7 hz);have D:=rel z hz;obtain⟨i1,v1,Z,_⟩:=I.tuple sq;let⟨o1,g1,c1,n1,P⟩:=Z;obtain⟨⟨zv,S⟩,zw⟩:=z;simp only at O D v1 R ⊢;subst O;cases D;have L:=rL v1;have e:Ts.f7 s.heap (.ref b)=S:=by
   unfold Ts.f7;simp![g1,P];show L.numsOf
  show⟨⟨b,o1,_,n1,rfl,g1,c1,P,by rw[e];show L,by rw[e];show R⟩,e⟩
 show Ts.aah (rk:=Ts.pW s.heap (its.map (Ts.f7 s.heap))) pl.isList (by rw[<-A,<-aO (f:=(·.1))];show hz) (by rw[<-A];show hr) (λh' k=>Ts.Yc k λv hv=>?_) λB M j=>?_
 .rw[g] at hv;let⟨z,hz,rfl⟩:=a9.mp hv;show(tup z hz).1
 have ep:(vI its).toList=d.map λz=>((z.2,z.2):Keyed):=by
  unfold vI;rw[g];simp![List.zip_toArray];clear n g rel tup M j;induction d with
  | nil=>rfl
  | cons a r J=>simp at J ⊢;show J
 let⟨t,c,m⟩:=zA (M.trans (OQ ep)) rfl;have C:∀z∈t,RelV z.1.1 z.2:=λz hz=>rel z (c.subset hz)
 have out:((arrOf B).map (·.2)).toList=t.map (·.2):=by
  rw[BI,m,bV];rfl
 let⟨en,he⟩:=sortedAll_at s.heap its ((arrOf B).map (·.2));have hf:H (*...*+1)=none:=I.aJ.fresh (iM _)
 have F:=q (t.map (·.1)) (by rw[n];show c.map _) (by
  rw[g6];unfold Ts.oY at j;rw[m,g6] at j;show j.imp_of_mem λ{a b} ha hb N=>?_
  have U:=(tup a (c.subset ha)).2;have T:=(tup b (c.subset hb)).2;have mb:Ts.f7 s.heap b.2∈its.map (Ts.f7 s.heap):=g7 (by rw[g];show g7 (c.subset hb));unfold Ts.pW at N;cases hg:HT.bo a.1.2 b.1.2 with
  | false=>rfl
  | true=>
   rw[<-U,<-T] at hg;have:=(Ts.Lo mb).mpr hg;simp only at N;lia) _ hf
 rw[bV] at F;show⟨.ref (*...*+1),_,I.laid (a:=*...*+1) (o:=.lst (t.map ((·.1)∘(·.1)))) (t':=s.toks) (λb o e=>sortedAll_old e) (iM _) ?_,rfl,F⟩
 show⟨by
  rw[aO,c.length_eq];have:d.length=its.length:=by rw[g,aO]
  rw[this,<-A,<-aO (f:=(·.1))];show hz,((arrOf B).map (·.2)).toList,en,?_,?_⟩
 .rw[out];show Jb C
 show he
def zvf:bB:=λds Q=>match ds with
 | [.lst c]=>match mj c with
  | some b=>(∀t∈b,t≠[])/\∀a:List (List Int),a.Perm b->a.Pairwise (λx y=>HT.bo x y=false)->Q (.ow (a.map λt=>.tup (t.map D.int)))
  | none=>False
 | _=>False
theorem Ja{a:Type}{K:ar}{f:a->V}{g:a->D}:∀{L:List a},(∀q∈L,Rep K G (f q) (g q))->av K G (L.map f) (L.map g)
 | [],_=>av.nil
 | q::L,h=>av.cons (h q lA) (Ja λx b=>h x (eh _ b))
def DG:bB:=λds Q=>match ds with
 | [.lst c]=>match mj c with
  | some b=>b.length<64/\(∀t∈b,t≠[])/\∀a:List (List Int),a.Perm b->a.Pairwise (λx y=>HT.bo x y=false)->Q (.ow (a.map λt=>.tup (t.map D.int)))
  | none=>False
 | _=>False
theorem zpX{Q:R->Prop}{P:VK}(s:aZ G H)(A:av X.K G j [.lst o])(ht:mj o\c)(hn:∀t∈c,t≠[])(C:2<=c.length->Ts.sP c.length)
  (q:∀g:List (List Int),g.Perm c->g.Pairwise (λx y=>HT.bo x y=false)->Q (.ow (g.map λt=>.tup (t.map D.int)))) (k:∀v H' m u,Ext G H u H'->cK X.K u H' H v m->Q m->P v H') :
  ∃(p:ae)(ps:List (V×List Int)),j=[.ref p]/\bM X.K H p (ps.map (·.1))/\(∀q∈ps,q.2≠[]/\∃b,q.1=.ref b/\bF X.K H b (q.2.map V.int))/\(2<=ps.length->Ts.sP ps.length)/\
   ∀d:List (V×List Int),d.Perm ps->d.Pairwise (λx y=>HT.bo x.2 y.2=false)->∀l,H l=none->P (.ref l) (upd H l (.lst (d.map (·.1)))):=by
 let⟨v,rfl,w⟩:=iu A;let⟨a,xs,rfl,I,F⟩:=w;let⟨J,E⟩:=JD ht F;have r:(xs.zip c).map (·.1)=xs:=Gm (by cbv);have h:(xs.zip c).map (·.2)=c:=Gk (by cbv);have el:(xs.zip c).length=c.length:=by cbv
 have hz:∀q∈xs.zip c,Rep X.K G q.1 (.tup (q.2.map D.int))/\∃b,q.1=.ref b/\bF X.K G b (q.2.map V.int):=λq f=>by
  let⟨i,hi⟩:=tL f;have a1:xs[i]?\q.1:=by rw[<-r];simp![bW,hi];rfl
  have a2:c[i]?\q.2:=by rw[<-h];simp![bW,hi];rfl
  show E i _ _ a1 a2
 show⟨a,xs.zip c,rfl,by rw[r];show(s.cm I).sq,λz f=>⟨hn _ (by rw[<-h];show g7 f),?_⟩,by rw[el];show C,λd n B=>?_⟩
 .let⟨Z,b,e,sq⟩:=hz z f;show⟨b,e,s.kW sq⟩
 show wD s (ds:=(d.map (·.2)).map λt=>.tup (t.map D.int)) ?_ (q (d.map (·.2)) (by rw[<-h];show n.map _) (by rw[g6];show B)) k;rw[bV];show Ja λq f=>(hz q (n.subset f)).1
theorem Vl(_:X.calm=true):jJ X (.builtin "sorted") DG:=by
 show⟨_,zlP,λG H a ds Q P s rs h k=>?_⟩;unfold DG at h;split at h
 .split at h
  .rename_i c d ht;show zpX s rs ht h.2.1 (λb=>Ts.V1 (by cbv) h.1) h.2.2 k
  show h.elim
 show h.elim
end
section
variable{K:ar}
theorem cB.length:∀{a dss},cB K G H a dss->a.length=dss.length
 | [],[],_=>rfl
 | q::a,ds::dss,h=>by
  simp![cL,cB.length h.2]
 | [],_::_,h=>by simp![cB] at h
 | _::_,[],h=>by simp![cB] at h
theorem cB.snoc:∀{a dss},cB K G H a dss->H p\.dK zs d->aU K G zs ds->cB K G H (a++[p]) (dss++[ds])
 | [],[],_,c,b=>by show⟨⟨zs,d,c,b⟩,trivial⟩
 | q::a,e::dss,h,c,b=>by
  show⟨h.1,cB.snoc h.2 c b⟩
 | [],_::_,h,_,_=>by simp![cB] at h
 | _::_,[],h,_,_=>by simp![cB] at h
theorem cB.get:∀{a dss}{j:Nat}{ds},cB K G H a dss->dss[j]?\ds->∃q ks c,a[j]?\q/\H q\.dK ks c/\aU K G ks ds
 | [],[],j,ds,_,e=>by trivial
 | q::a,b::dss,0,ds,h,e=>by
  simp![cB] at h;cbv
 | q::a,b::dss,j+1,ds,h,e=>by
  simp![Cd] at e ⊢;show cB.get h.2 e
 | [],_::_,_,_,h,_=>by simp![cB] at h
 | _::_,[],_,_,h,_=>by simp![cB] at h
theorem cB.set(c:aU K G ys d):∀{a dss j},cB K G H a dss->a.Nodup->a[j]?\q->cB K G (upd H q (.dK ys b)) a (dss.set j d)
 | [],[],j,_,_,e=>by trivial
 | r::a,ds::dss,0,h,nd,e=>by
  simp![tN,fA] at e;subst e;show⟨⟨ys,b,cw,c⟩,h.2.mono (aZ.refl _) λp f u e=>?_⟩;rw[aY (λz:p=r=>(dH.mp nd).1 (z▸f))];show e
 | r::a,ds::dss,j+1,h,nd,e=>by
  show⟨?_,cB.set c h.2 (dH.mp nd).2 e⟩;obtain⟨⟨ks,b,i,g⟩,_⟩:=h;show⟨ks,b,?_,g⟩;rw[aY (λz:r=q=>(dH.mp nd).1 (z▸cz e))];show i
 | [],_::_,_,h,_,_=>by simp![cB] at h
 | _::_,[],_,h,_,_=>by assumption
end
def IC(c:eU)(m:List (Option Nat))(g:dz)(tc:cU)(te:TD):TD:=λρ Q=>c ρ λds=>∃Iv:Nat->List (List (Key×D))->Prop,Iv 0 []/\
 (∀i d acc,ds[i]?\d->Iv i acc->g d (cF m ρ) λa=>tc a λb=>if b=true then te a λr=>match r with
  | .ov (.dc e)=>acc.length<sizeLine/\Iv (i+1) (acc++[e])
  | _=>False
  else Iv (i+1) acc)/\∀acc,Iv ds.length acc->Q (.ov (.ld acc))
section
variable{m:List (Option Nat)}{wi:eU}{g:dz}{tc:cU}
noncomputable def ZT(K):vb K (List (Key×D)) where
 B:=λG H xs fp acc=>xs=fp.map V.ref/\cB K G H fp acc
 sel:=λr k=>match r with
  | .ov (.dc e)=>k e
  | _=>False
 res:=λacc=>.ov (.ld acc)
 nil:=λ_ _=>⟨rfl,by simp![cB]⟩
 len:=λh=>by rw[h.1,aO,h.2.length]
 here:=λh=>h.2.here
 mono:=λg hh h=>⟨h.1,h.2.mono g hh⟩
 snoc:=λ{G H m H' v r k xs fp acc} x a hk h=>by
  split at hk
  .obtain⟨p,c,rfl,_,⟨rfl,ks,n,l,j⟩,i⟩:=a;show⟨_,m,[p],hk,x,⟨by rw[h.1,cO];rfl,h.2.snoc l j⟩,gu _ _,i⟩
  show hk.elim
 fin:=λd b nd f=>⟨_,_,rfl,nd,⟨by rw[<-b.1];show d,b.2⟩,f⟩
theorem zpY(x:iI X N' m scope)(hk:jM m g)
  (s:∀ρ σ f e G H Q P,aS X.K f e ρ σ G H->wi ρ Q->(∀J H' ds a,Ext G H a H'->Walk X.K J a ds->Q ds->P J H')->l σ H P)
  (r:∀s3 c ex ρ σ f e G H d v Q P,aS X.K f e ρ σ G H->Rep X.K G v d->g d ρ Q->(∀ρ' j a H',aS X.K f e ρ' j a H'->Ext G H a H'->Q ρ'->P j H')->o s3 c ex v σ H P)
  (q:∀s3 c ex ρ σ f e G H Q P,aS X.K f e ρ σ G H->tc ρ Q->(∀b H' a,Ext G H a H'->Q b->P b H')->n s3 c ex σ H P)
  (p:∀s3 c ex,jX X.K te (i s3 c ex)):jX X.K (IC wi m g tc te) (m4 l m o n i):=λρ σ f e G H Q P E h k=>Jo (ZT X.K) hk s r q (λs3 c ex ρ' j w H1 a H' t u _=>p s3 c ex ρ' j w H1 a H' t u) E h k
theorem zpZ(i)(u:X.calm=true)(e:iI X N' m scope)(hk:jM m g)(hi:PId X tg iter wi)(hg:∀s3 a ex,oZ (fj X N' scope s3 a ex) tg g)(ht:∀s3 a ex,qv (fj X N' scope s3 a ex) ifs tc)
  (c:∀s3 a ex,PD (fj X N' scope s3 a ex) elt te) (hN:X.N.Nodup:=by assumption) (o:X.N[i]?\x:=by rfl) (p:Loc X.env.scope x:=by first | show Or.inl rfl | show Or.inr rfl) (q:∀x,foldedSetIterable iter X.env x=pure x:=by intro _;rfl)
  (n:swapsWith (.ListComp elt [⟨tg,iter,ifs,0⟩] scope pos) (some (.Name x b)) d.line X.env=pure true:=by rfl)
  (t:X.fn x=true\/X.env.scope.names.lookup x\.local:=by first | show .inl rfl | show .inr rfl | assumption) :
  PX X (.Assign [.Name x b] (.ListComp elt [⟨tg,iter,ifs,0⟩] scope pos) d) (nZ i (IC wi m g tc te)):=by
 let⟨ww,l,j⟩:=hi;show⟨_,wx (g:=λs3 a ex=>(hg s3 a ex).choose) (tc:=λs3 a ex=>(ht s3 a ex).choose) (te:=λs3 a ex=>(c s3 a ex).choose) hN o p u e l (λs3 a ex=>(hg s3 a ex).choose_spec.1) (λs3 a ex=>(ht s3 a ex).choose_spec.1) (λs3 a ex=>(c s3 a ex).choose_spec.1) q n t,λρ σ z y G H D E k h w=>?_⟩;show zpY e hk j (λs3 a ex=>(hg s3 a ex).choose_spec.2) (λs3 a ex=>(ht s3 a ex).choose_spec.2) (λs3 a ex=>(c s3 a ex).choose_spec.2) ρ σ z y G H _ _ k h λv H' r A x f s=>w.nx _ _ A H' x.g (k.put x f) s
end
section
variable{X:Cx}{e i' i2:ax}{te ti tk:TD}
def HI(i:Nat)(ti tk te:TD):TX:=λD ρ=>match gt ρ i with
 | .ov (.ld a)=>te ρ λr=>ti ρ λrk=>match rk.val with
  | .int n=>∃j kvs,iD a.length n\j/\a[j]?\kvs/\tk ρ λb=>∃k,jf b.val\k/\kvs.length<sizeLine/\D.nx (ρ.set i (.ov (.ld (a.set j (je kvs k r.val)))))
  | _=>False
 | _=>False
theorem zsq(hu:X.A.units+64<cLine)(i)(hi:PD X i' ti)(hk:PD X i2 tk)(he:PD X e te)(hN:Nm X i x:=by walk_at"nm")(L7:y2 i':=by intro _ _;rfl)(hs:swapsWith e (some (.Subscript (.Subscript (.Name x N) i' M) i2 L)) pos.line X.env=pure false:=by rfl) :
  PX X (.Assign [.Subscript (.Subscript (.Name x N) i' M) i2 L] e pos) (HI i ti tk te):=by
 let⟨t,p,q⟩:=he;let⟨t2,uE,q2⟩:=hi;let⟨t3,s,q3⟩:=hk;show⟨_,S1 (yM Ej (jL hN) uE L7) s p hs,λρ σ C B G H D E k h g=>?_⟩;unfold HI at h;split at h
 .rename_i mM hg;let⟨own,o1,o2⟩:=k.on;obtain⟨a,fp,U,b2,⟨ha,Q⟩,b4⟩:=o2 i _ hg;show q ρ σ C B G H _ _ k h λv H' r G' Z rr w=>?_
  obtain⟨G2,K,rv,_⟩:=rr.freeze Z;show⟨_,U,q2 ρ σ C B G2 H' _ _ (k.ext K) w λu H3 rk G3 Y iC f=>?_⟩;obtain⟨G4,J,P,_⟩:=iC.freeze Y;split at f
  .rename_i kk e1;let⟨j,kvs,hj,iZ,f⟩:=f;rw[e1] at P;let⟨o,ks,ep,m,c2,T⟩:=Q.get iZ;have ic:bA (fp.map V.ref) kk\.ref o:=by
    unfold bA;rw[aO,Q.length,hj];simp[m]
   have y:=K.trans J;show⟨a,fp.map V.ref,kk,_,rfl,P,bM.of (y.h _ _ ha),ic,?_⟩;show q3 ρ σ C B G4 H3 _ _ (k.ext y) f λu5 H5 r5 G5 W Ln F=>?_
   obtain⟨G6,I,n,_⟩:=Ln.freeze W;let⟨key,hk,hlen,F⟩:=F;have d:=y.trans I;show⟨o,ks,ep,key,rfl,d.h _ _ c2,rF n hk,by rw[T.length];show hlen,λij=>?_⟩;show g.nx _ _ G6 _ d.g ((k.ext d).sN hg U λS nd ow=>?_) F;let⟨O,js⟩:=ow;have e3:S=fp:=by
    have:=(d.h _ _ ha).symm.trans O;injection this with this
    injection this with this
    show((vF λa b h=>by cases h;rfl).mp this).symm
   subst e3;have R:=dH.mp nd;show⟨S,nd,⟨?_,js.set (aU.put (aU.mono d.g _ _ T) (rv.mono (J.trans I).g)) R.2 m⟩,λq w=>.inl w,λb hb _=>aY λz=>hb (by rw[z];show eh _ (cz m))⟩;rw[aY (λz:a=o=>R.1 (z▸cz m))];show O
  show f.elim
 show h.elim
end
theorem znB:fV X a (λ_ _=>False):=⟨λ_ _ _=>False,λ_ _ _ _ _ _ h=>h.elim,λ_ _ _ _ _ _ _ _ _ h _=>h.elim⟩
theorem JU:∀{ks us},Vals (ks.map kV) us->ItemsAre (eR P w) ks us
 | [],_,r=>by rw[Bt] at r;cases r;show .nil
 | k::ks,_,r=>by
  rw[bO] at r;cases r with
  | cons h t=>show .cons (v8 h) (JU t)
abbrev KT(H:Hp):List (List Key×V)->List (List Key×ae×aa)->Prop:=Paired λp q=>p.1=q.1/\H q.2.1\.tup (p.1.map kV)/\RelV p.2 q.2.2
theorem KT.val(r:KT H kvs xs)(k):mQ (eL kvs k) ((atKey xs k).map (·.2)):=by
 induction r with
 | nil=>show l9
 | @cons p q ps a h t f=>
  let⟨d,y,g⟩:=h;by_cases e:p.1=k
  .have c:q.1=k:=d.symm.trans e;have b:atKey (q::a) k\q.2:=by simp[atKey,jD,c]
   rw[Ua e,b];show g
  have c:¬q.1=k:=λz=>e (d.trans z)
  have b:atKey (q::a) k=atKey a k:=by simp[atKey,jD,c]
  rw[T9 e,b];show f
theorem KT.keeps(r:KT H kvs xs)(ht:∀b ys,H b\.tup ys->H' b\.tup ys):KT H' kvs xs:=
 Paired.Wk r λ_ _ z=>⟨z.1,ht _ _ z.2.1,z.2.2⟩
theorem ZS(ok:dB P w H h)(e:Rd H a u):dX P w H h a u:=e.ok ok
theorem Sn(ok:dB P w H h)(e:H a\.tup (ks.map kV)):(tupleKind (eR P w)).is h ks a:=by
 let⟨z,its,r,o,d,c,n,b⟩:=(show dX P w H h a (.tup (ks.map kV)) from ok a _ e)
 show⟨o,its.toArray,n,d,c,b,by simpa using JU r⟩
end L2
namespace PySem
open Sem (wp)
section
variable{prog:aD}{w:aB}{K:Type}[DecidableEq K]{knd:HeapKind prog w K}{A:aT}{E:aa->ai->Prop}{s:ai}
theorem zfT{d a:ae}{xs:List (K×ae×aa)}{k:K}{b:aa}{Q:aa->ai->Prop}(q:knd.room A)(g:knd.is s.heap k a)(hm:s.heap.DictOfH knd d xs)
  (there:∀p,atKey xs k\p->Q p.2 { s with toks:=s.toks+knd.draws k })
  (new:atKey xs k=none->∀h',h'.DictOfH knd d (storedH xs k a b)->j6 d s.heap h'->Q b { s with heap:=h',toks:=s.toks+knd.draws k })
  (hsz:xs.length<=sizeLine):↥(dictSetDefault d (.ref a) b) Q E s:=by
 let⟨o,i,C,f,B,hd,he,v,hn⟩:=hm;unfold dictSetDefault;try with_reducible show eX ?_
 show aj (knd.pyHash q g (aj (wpAny_dictFind_heap (s:={ s with toks:=s.toks+knd.draws k }) q g f hd he v hn (λt=>?_) λj p r=>?_)))
 .have e:=atKey_none_of_get t;have nw:=new e;rw[storedH_new e] at nw;have l:k∉xs.map (·.1):=not_mem_keys_of_get t;have D:i.size<=sizeLine:=by have:=size_of_entries he;cbv
  show aj (kH (aj (wpAny_updateDictKeys (hz:=D) (s:={ s with toks:=s.toks+knd.draws k }) f hd (az (nw _ ⟨_,_,C+1,kG _ f (Obj.isFreed_of_dict (Qf hd _)),
   B.mapDictKeys _,Qf hd _,by simp[he,entryOfKey],λx c=>?_,?_⟩ (qO ..))))))
  .have keep:∀{m:K}{u:ae},knd.is s.heap m u->knd.is (s.heap.update d (Obj.mapDictKeys λi=>i.push ⟨knd.hash k,.ref a,b⟩)) m u:=λh=>knd.keeps h f hd (qO ..)
   rcases cy.mp c with c | c
   .exact keep (v x c)
   rw[dD.mp c];show keep g
  rw[cO,l5];show⟨hn,by show gu _ _,λx c y n z=>l (by rw[List.map_singleton,dD] at n;rw[<-show x=k from z.trans n];show c)⟩
 show aj (BQ (s:={ s with toks:=s.toks+knd.draws k }) f hd ?_);rw[entry_at he j,r];show aj (kH (az (there p (atKey_of_get hn r))))
theorem zda{d a:ae}(hd:(d==sysModules)=false)(b:aa) :
  MeetsIn prog w (Builtin.«dict.setdefault» ⟨[.ref d,.ref a,b],[]⟩) (λA R s=>∃k xs,knd.room A.in1/\knd.is s.heap k a/\s.heap.DictOfH knd d xs/\xs.length<=sizeLine/\
   (∀p,atKey xs k\p->R (.ok (.ret p.2)) { s with toks:=s.toks+knd.draws k })/\
   (atKey xs k=none->∀h',h'.DictOfH knd d (storedH xs k a b)->j6 d s.heap h'->R (.ok (.ret b)) { s with heap:=h',toks:=s.toks+knd.draws k })):=
 .of_wp λA R s ⟨k,xs,e,hk,hm,hz,h,g⟩=>by
  show aj ?_;show aj (Ca hm.typeIs ?_);show az ?_;show wpAny _ _ (if (d==sysModules)=true then _ else(dictSetDefault d (.ref a) b >>= _)) _ _ s;rw[if_neg (by rw[hd];show ja)];show aj (zfT e hk hm (λp f=>az ⟨p.2,rfl,h p f⟩) (λhn h' c i=>az ⟨b,rfl,g hn h' c i⟩) hz)
end
def jY(h:aw)(d:ae)(a:Array DictEntry)(b:Nat):Prop:=∃o,h.get? d\o/\o.ExactDict/\o.data=.dict a b
theorem jY.kept(x:jY h d a b)(k:∀o,h.get? d\o->h'.get? d\o):jY h' d a b:=let⟨o,c,r⟩:=x;⟨o,k o c,r⟩
section
variable{s:ai}
theorem jY.ty(x:jY s.heap d es ep):s.TypeIs (.ref d) "dict":=let⟨o,a,b,_⟩:=x;⟨o,a,b.1⟩
theorem zp0(hd:(d==sysModules)=false)(x:jY s.heap d es ep)
  (q:Q (.ref *...*) { s with heap:=s.heap.push { cls:=.type "dict_keyiterator",data:=.fields #[.ref d,.int 0 0,.int es.size 0,.int ep 0] } }):↥(pyIter (.ref d)) Q E s:=by
 let⟨od,b,z,a⟩:=id x;show Gz x.ty O4 (j1 O4 x.ty F.entry_dict_iter ?_ (F.args_dict_iter_1 _));show aj (m:=YO _ _) ?_;show aj (Ca x.ty (show wpAny _ _ (pure (cI d)) _ _ s from az ?_));show wpAny _ _ (Qp d >>= _) _ _ s;unfold Qp;rw[if_neg (by rw[hd];show ja)];show aj (az (aj (BQ b a (aj (F9 b a (aj (i9 (az ⟨_,rfl,"dict_keyiterator",_,⟨_,b8 _ rfl,rfl⟩,F.slot_dict_keyiterator_next.lookup,?_⟩))))))));trivial
theorem zp1(t:s.heap.IsKeyIter it d i es.size ep)(x:jY s.heap d es ep)(hi)
  (q:∀h',h'.IsKeyIter it d (i+1) es.size ep->j6 it s.heap h'->Q (some es[i].key) { s with heap:=h' }):↥(pyNext (.ref it)) Q E s:=by
 let⟨g,b,f,a⟩:=id t;let⟨od,e,z,c⟩:=id x;show aj (ph (o6 (name:=gW "__next__") t.typeIs Ck
  (j1 Ck t.typeIs Q0 ?_ (Q2 _))))
 show aj (az (aj (aj ?_)));show aj (Cn t.typeIs (az (aj (Bz b a ?_))));show aj (az (aj (BQ e c ?_)));rw[if_neg ∅];show aj (az (aj (F9 e c ?_)));rw[if_neg ∅];show az ?_;simp![show ¬((i:Int)<0) from by cbv,dG,qL,nR hi];show aj (aj (Cn t.typeIs (az (aj (Qo t.typeIs ?_)))));show wpAny _ _ (setField (.ref it) 1 (rawInt ((i:Int)+1)) >>= _) _ _ s;show aj (qH b a ∅ ?_);have t':(s.heap.update it (sX (·.setIfInBounds 1 (rawInt ((i:Int)+1))))).IsKeyIter it d (i+1) es.size ep:=
  ⟨_,kG _ b (B9 (tI a _)),(Gw ..).trans f,by rw[tI a];rfl⟩
 show aj (eX (aj (Qo (s:={ s with heap:=s.heap.update it (sX (·.setIfInBounds 1 (rawInt ((i:Int)+1)))) }) t'.typeIs ?_)));show az (az ⟨_,rfl,az (q _ t' (qO ..))⟩)
theorem zsr(hh:A.handled=none)(t:s.heap.IsKeyIter it d i es.size ep)(x:jY s.heap d es ep)(hi:es.size<=i)
  (q:∀h',x9 it s.heap h'->Q none { s with heap:=h' }):↥(pyNext (.ref it)) Q E s:=by
 let⟨h,c,j,e⟩:=id t;let⟨od,g,z,f⟩:=id x;show aj (ph (o6 (name:=gW "__next__") t.typeIs Ck
  (j1 Ck t.typeIs Q0 ?_ (Q2 _))))
 show aj (az (aj (aj ?_)));show aj (Cn t.typeIs (az (aj (Bz c e ?_))));show aj (az (aj (BQ g f ?_)));rw[if_neg ∅];show aj (az (aj (F9 g f ?_)));rw[if_neg ∅];show az ?_;simp only[show ¬((i:Int)<0) from by cbv,dG,qL,GZ hi];show aj (aj (Cn t.typeIs (az ?_)));show wpAny _ _ (setField (.ref it) 0 .none >>= _) _ _ s;show aj (qH c e (by show il _) ?_);show aj ?_;show aj (i9 (aj (m:=firstArgMember _ _) (ya (a:=iL) (by first | rfl | (rfl)) (i9 ?_ (by size_fits)))) (by size_fits));show aj (FY ?_);rw[show A.in1.handled=none from hh];show aj (az (FI ?_));show aj (BM (T:="StopIteration") (b:=true) ⟨_,b8 _ rfl,rfl⟩ F5 ?_);show az (q _ (((qO ..).extBut.push _).push _))
theorem UY(hh:A.handled=none)(I d)(g:d≠I)(es ep) :
  Walks prog w A I [I,d] [I] es.size (λi v=>∃h:i<es.size,v=es[i].key) (λi h=>h.IsKeyIter I d i es.size ep/\jY h d es ep) where
 sub:=λb hb=>by simp at hb;show hb▸.head _
 frame:=λ_ _ _ st hk=>⟨st.1.at λo e=>hk I (by show .head _) o e,st.2.kept λo e=>hk d (by show .tail _ (.head _)) o e⟩
 item:=λi s Q E hi st a=>zp1 st.1 st.2 hi λh' t' f=>a _ h' s.toks ⟨hi,rfl⟩ ⟨t',st.2.kept λo e=>f.extBut _ _ g e⟩ λb o hb e=>f.extBut b o (λh=>hb (by show h▸.head _)) e
 done:=λs Q E st a=>zsr hh st.1 st.2 (aW _) λh' c=>a h' s.toks λb o hb e=>c b o (λh=>hb (by show h▸.head _)) e
 self:=λ_ _ _ _ st a=>Qh st.1 a
end
end PySem
namespace L2
open PySem PySem.Spec PyProof.Rows
def IsT(H:Hp)(a:ae):Prop:=∃kvs bs,Rd H a (.dT kvs bs)
theorem CT(ok:dB P w H h)(e:Rd H a (.dT kvs bs)):kvs.length<=sizeLine/\(a==sysModules)=false/\
  ∃xs,xs.map (λx=>x.2.1)=bs.1/\KT H kvs xs/\h.DictOfH (tupleKind (eR P w)) a xs:=by
 let⟨z,y,xs,u,r,o,n,s,k,j,i,g,f⟩:=(show dX P w H h a (.dT kvs bs) from ZS ok e)
 have all:∀{l:List (List Key×V)}{m:List (List Key×ae×aa)},KT H l m->∀x∈m,(tupleKind (eR P w)).is h x.1 x.2.1:=λ{l m} q=>by
  induction q with
  | nil=>show λx b=>nomatch b
  | @cons p q ps v c t d=>
   intro x b;cases b with
   | head=>show Sn ok (by rw[<-c.1];show c.2.1)
   | tail _ b=>show d x b
 show⟨z,y,xs,u,r,o,n,s,k,j,i,g,all r,f.1⟩
def ZR:TE:=λ_ H Q=>∀p,H p=none->Q (.ref p) (upd H p (.dT [] ([],0)))
section
variable{X:Cx}{e i':ax}{te ti:TD}
theorem zss:PE X (.Dict [] [] pos) ZR:=λb s σ H Q I h=>by
 have ok:dX X.prog X.w (upd H *...* (.dT [] ([],0))) (s.heap.push { cls:=.type "dict",data:=.dict #[] }) *...* (.dT [] ([],0)):=
  ⟨du _,beq_eq_false_iff_ne.mpr (Ne.symm (bJ I.big)),[],rfl,.nil,_,#[],0,b8 _ rfl,⟨rfl,rfl,rfl⟩,rfl,rfl,vq,rfl⟩
 show O7 ⟨.ref *...*,_,I.laid (a:=*...*) (o:=.dT [] ([],0)) (t':=s.toks) (λ_ _ q=>aV _ q) (aW _) ok,rfl,h _ (I.aJ.fresh (aW _))⟩
theorem zuv{f:St}(I:Inv X i f H s)(d:IsT H a) :
  s.TypeIs (.ref a) "dict"/\(∀b,cI a=.ref b->∃ob,s.heap.get? b=some ob/\ob.dict=none)/\(a==sysModules)=false:=by
 let⟨kvs,bs,e⟩:=d;let⟨z,hd,xs,z,z,c⟩:=CT I.aJ e;show⟨c.typeIs,λb q=>?_,hd⟩;cases q;let⟨ob,z,z,h,g,z⟩:=c;show⟨ob,h,g.2.1⟩
def ZQ(e ty d:TE):TE:=λσ H Q=>e σ H λx H1=>∃a,x=.ref a/\IsT H1 a/\ty σ H1 λy g=>d σ g λz c=>∃kvs bs k b,c a\.dT kvs bs/\y=.ref b/\c b\.tup (k.map kV)/\kvs.length<sizeLine/\
 (∀v,eL kvs k\v->Q v c)/\(eL kvs k=none->∀f,Q z (upd c a (.dT (kvs++[(k,z)]) (bs.1++[b],f))))
theorem zst{E ty D:TE}(hu:X.A.units+64<cLine)(ho:PE X o E)(he:PE X e ty)(hf:PE X f D)(m:M2 X o "setdefault" g e f P):PE X (.Call (.Attribute o "setdefault" g) [e,f] [] P) (ZQ E ty D):=by
 intro B s σ H Q I h;show wpAny_Call_method m.base m.few m.line QG QY PySem.F.type_dict_setdefault (aR (ho B s σ H _ I h) λu s1 j=>?_);let⟨x,H1,I1,U,a,ex,d,Z⟩:=j;subst ex;obtain rfl:u=cI a:=U;let⟨t1,S,l⟩:=zuv I1 d;show⟨t1,S,?_⟩;rw[m.trees];show Cc rfl (Ql (vG (aR (he B s1 σ H1 _ I1 Z) λiv s2 j=>?_)));let⟨y,H2,I2,T,Y⟩:=j;show vG (aR (hf B s2 σ H2 _ I2 Y) λN s3 j=>?_);let⟨z,C,t,J,kvs,bs,k,b,hk,ey,hb,hl,W,V⟩:=j;show yp ?_;subst ey;obtain rfl:iv=cI b:=T;let⟨hz,hd,xs,bq,rel,R⟩:=CT t.aJ (.inl hk);have hlen:kvs.length=xs.length:=By rel;show N8 QY R.typeIs PySem.F.entry_dict_setdefault (PySem.F.args_dict_setdefault_3 _ _ _) (zda (knd:=tupleKind (eR X.prog X.w)) hd N)
  ⟨k,xs,PF (by grind),Sn t.aJ hb,R,by rw[<-hlen];show hz,λp hp=>?_,λhn h' EZ hs=>?_⟩
 .have r:=rel.val k;rw[hp] at r;cases i:eL kvs k with
  | none=>rw[i] at r;show r.elim
  | some x=>
   rw[i] at r;show⟨x,C,t.tok _,r,W x i⟩
 have r:=rel.val k;rw[hn] at r;cases i:eL kvs k with
 | some=>rw[i] at r;show r.elim
 | none=>
  let⟨q,es,n,K,h2,h3,M,l,L⟩:=EZ;rw[storedH_new hn] at M L;have v:KT C (kvs++[(k,z)]) (xs++[(k,b,N)]):=NX rel ⟨rfl,hb,J⟩;have ok:dX X.prog X.w (upd C a (.dT (kvs++[(k,z)]) (bs.1++[b],n))) h' a (.dT (kvs++[(k,z)]) (bs.1++[b],n)):=by
   show⟨by simp;room,hd,_,by rw[cO,bq];rfl,v.keeps λc ys O=>?_,q,es,n,K,h2,h3,M,L,rfl⟩;rw[aY (ZO O hk (λz=>nomatch z))];show O
  show⟨z,_,S3 t (by rw[hk];show l9) hs ⟨q,K⟩ ok,J,V i n⟩
def Ru:TD:=λ_ Q=>Q (.ov (.dt []))
theorem zp3:PD X (.Dict [] [] pos) Ru:=by
 show⟨_,zss,λρ σ c b G H Q P E h k=>λd hd=>?_⟩;show k _ _ (.ov (.dt [])) G (.own E.e.s hd) ⟨d,[],rfl,by show gu _ _,⟨[],([],0),cw,trivial,rfl,rfl,by trivial⟩,λq a=>?_⟩ h;simp![dD] at a;subst a;show⟨hd,E.e.s.free hd⟩
def Rt(ts:dg):TD:=λρ Q=>ts ρ λds=>ds.length<=sizeLine/\Q (.ov (.tp ds))
theorem zsu{e}(h:ik X c ts):PD X (.Tuple c e pos) (Rt ts):=by
 let⟨t,p,q⟩:=h;show⟨_,yT p,λρ σ i g G H Q P E h k=>q ρ σ i g G H _ _ E h λf H' ds d x rs a=>⟨by rw[rs.length];show a.1,λp b=>?_⟩⟩;have hg:d p=none:=x.s.free b;show k _ _ (.ov (.tp ds)) d (x.trans (.own x.s b)) ⟨p,[],rfl,by show gu _ _,⟨rfl,f,cw,rs⟩,λq a=>?_⟩ a.2;simp![dD] at a;subst a;show⟨x.h.free b,hg⟩
theorem zlQ{k:List Key}{j:Nat}(h:ks[j]?\(k,v))(c:∀b<j,∀p,ks[b]?\p->p.1≠k):eL ks k\v:=by
 induction ks generalizing j with
 | nil=>trivial
 | cons a ks d=>
  unfold eL;rw[jD];cases j with
  | zero=>
   cbv
  | succ j=>
   have ha:a.1≠k:=c 0 (il _) a rfl;simp![ha,decide_false];show d h λb e p f=>c (b+1) (Nat.succ_lt_succ e) p (by trivial)
theorem DR{k:List Key}:(ks.any λkv=>decide (kv.1=k))=(eL ks k).isSome:=by
 induction ks with
 | nil=>rfl
 | cons a ks b=>
  unfold eL;grind
theorem UX{b a:Type}{ks:List (List Key×b)}{kvs:List (List Key×a)}(h:ks.map (·.1)=kvs.map (·.1))(k):(ks.any λkv=>decide (kv.1=k))=kvs.any λkv=>decide (kv.1=k):=by
 have d:(ks.any λkv=>decide (kv.1=k))=(ks.map (·.1)).any λx=>decide (x=k):=by rw[yd];rfl
 have c:(kvs.any λkv=>decide (kv.1=k))=(kvs.map (·.1)).any λx=>decide (x=k):=by rw[yd];rfl
 rw[d,c,h]
theorem jz.snoc(hb:H b\.tup (k.map kV)):∀{ps bs},jz H ps bs->jz H (ps++[(k,v)]) (bs++[b])
 | [],[],_=>⟨hb,trivial⟩
 | p::ps,c::bs,h=>⟨h.1,jz.snoc hb h.2⟩
 | [],_::_,h=>h.elim
 | _::_,[],h=>h.elim
theorem znC{k:List Key}(h:eL ks k=none):eL (ks++[(k,v)]) k\v:=by
 unfold eL at h ⊢;rw[Pk];rw[Cb] at h;rw[h];simp
noncomputable def pJ:List D->Option (List Key)
 | []=>some []
 | d::r=>match jf d,pJ r with
  | some k,some ks=>some (k::ks)
  | _,_=>none
theorem JT{K:ar}:∀{ds a ks},av K G a ds->pJ ds\ks->a=ks.map kV
 | [],[],ks,_,h=>by simp![pJ,fA] at h;subst h;rfl
 | d::ds,v::a,ks,r,h=>by
  simp![pJ] at h;split at h
  .rename_i k e c b;simp![fA] at h;subst h;rw[rF r.1 c,JT r.2 b];rfl
  cases h
 | [],_::_,_,r,_=>by simp![av] at r
 | _::_,[],_,r,_=>by simp![av] at r
noncomputable def ji(kvs:List (List Key×List D))(k:List Key):List (List Key×List D):=if (kvs.any λkv=>decide (kv.1=k))=true then kvs else kvs++[(k,[])]
def Rk(i j:Nat)(te:TD):TX:=λD ρ=>match gt ρ i,gt ρ j with
 | .ov (.dt kvs),.ov (.tp a)=>∃k n ds,pJ a\k/\kvs.length<sizeLine/\(ji kvs k)[n]?\(k,ds)/\(∀b<n,∀p,(ji kvs k)[b]?\p->p.1≠k)/\
  te ((ρ.set j (.fz (.tup a))).set i (.ov (.dt (ji kvs k)))) λr=>ds.length<sizeLine/\D.nx ((ρ.set j (.fz (.tup a))).set i (.ov (.dt ((ji kvs k).set n (k,ds++[r.val])))))
 | _,_=>False
theorem zuy(hu:X.A.units+64<cLine)(i j)(he:PD X e te)(hN:Nm X i x:=by walk_at"nm")
  (hN2:Nm X j y:=by walk_at"nm")
  (bX:starEach [e] X.env=(false,eval e X.env)::starEach [] X.env:=by rfl) (m:M2 X (.Name x O) "setdefault" N (.Name y Z) (.List [] p3) p4:=by show⟨rfl,rfl,rfl,rfl⟩)
  (hb:∀{ta t},PE X (.Call (.Attribute (.Name x O) "setdefault" N) [.Name y Z,.List [] p3] [] p4) ta->PA X [e] t->PE X (.Call (.Attribute (.Call (.Attribute (.Name x O) "setdefault" N) [.Name y Z,.List [] p3] [] p4) "append" p5) [e] [] F) (w5 X.K "list" uh ta t):=by intro ta t h1 h2;show yO vJ yy yx wL h1 h2) :
  PX X (.Expr (.Call (.Attribute (.Call (.Attribute (.Name x O) "setdefault" N) [.Name y Z,.List [] p3] [] p4) "append" p5) [e] [] F) pos) (Rk i j te):=by
 let⟨t,p,q⟩:=he;show⟨_,rK (hb (zst hu (jL hN) (jL hN2) (Sf jk) m) (fZ p jk bX)),λρ σ G0 H0 G H D E k h g=>?_⟩;unfold Rk at h;split at h
 .rename_i kvs es hg S;let⟨own,o1,o2⟩:=k.on;obtain⟨a,fp,R,b2,⟨ks,bs,ha,sC,sA,Md,hr⟩,b4⟩:=o2 i _ hg;obtain⟨bb,fpj,Q,c2,⟨_,vs,hb,rvs⟩,c4⟩:=o2 j _ S;let⟨key,n,ds,lT,hlen,hj,abj,fS⟩:=h;obtain⟨L,hL,k2,_,mD⟩:=k.XW j;have s2:aZ G (jH G H L):=wK hL;have XT:jH G H L bb\.tup vs:=by rw[mq (mD _ _ S Q)];show hb
  generalize jH G H L=G2 at k2 s2 XT;have abB:eT j ρ=ρ.set j (.fz (.tup es)):=by unfold eT;rw[S];rfl
  rw[abB] at k2;have nE:j≠i:=λz=>by rw[z,hg] at S;cases S
  have bj:i<ρ.length:=t4 hg ∅;have ju:gt (ρ.set j (.fz (.tup es))) i=.ov (.dt kvs):=by rw[mn,if_neg (λz=>nE z.1)];show hg
  have W8:i<(ρ.set j (.fz (.tup es))).length:=by rw[tu];show bj
  have i5:=JT rvs lT;have W:ks.length=kvs.length:=by have:=congrArg yb sA;simpa using this
  generalize WA:ρ.set j (.fz (.tup es))=ρ' at k2 ju W8 fS;have E2:=k2;show⟨_,R,a,rfl,⟨ks,bs,.inl ha⟩,_,Q,?_⟩
  -- behind acw
  have fin:∀(J:Hp)(v:V)(Q5:VK),aS X.K G0 H0 (ρ'.set i (.ov (.dt (ji kvs key)))) σ G2 J->(∀u U,J a\.dT u U->eL u key\v)->(∀H',E.nx σ H'->Q5 .non H')->
    DZ X.K "list" v J/\t σ J λw H6=>uh v [w] H6 Q5:=by
   intro J v Q5 E5 hv5 hQ5;have Xo:gt (ρ'.set i (.ov (.dt (ji kvs key)))) i=.ov (.dt (ji kvs key)):=by rw[mn,if_pos ⟨rfl,W8⟩]
   obtain⟨acx,_,o5⟩:=E5.on;obtain⟨a',fp5,Q,c2,⟨u,U,d1,dk,d2,d3,d4⟩,c4⟩:=o5 i _ Xo;rw[R] at Q;cases Q;let⟨I,xs,f1,f2,f3⟩:=d4.get (j:=n) (ds:=ds) (by rw[bW,hj];rfl);have hk5:u[n]?\(key,.ref I):=by
    have d:=congrArg (λl=>l[n]?) d2;have B:=congrArg (λl=>l[n]?) d3;simp![bW,hj,f1,fO] at d B;cases W:u[n]? with
    | none=>rw[W] at d;cases d
    | some p=>
     rw[W] at d B;simp![fO,fA] at d B;let⟨O,N⟩:=p;simp only at d B;rw[d,B]
   have hv:v=.ref I:=by
    have d:=zlQ hk5 λj' hj' p hp z=>by
     have d:=congrArg (λl=>l[j']?) d2;simp![bW,hp,fO] at d;cases ht:(ji kvs key)[j']? with
     | none=>rw[ht] at d;cases d
     | some p'=>
      rw[ht] at d;simp![fO,fA] at d;show abj j' hj' p' ht (by rw[<-d];show z)
    rw[hv5 u U d1] at d;injection d
   subst hv;show⟨.inl ⟨rfl,xs,bM.of f2⟩,q _ σ G0 H0 G2 J _ _ E5 fS λw H7 r G7 x7 rr7 WU=>?_⟩;obtain⟨G8,M,rv8,_⟩:=rr7.freeze x7;show⟨I,xs,w,rfl,rfl,M.h _ _ f2,by rw[f3.length];show WU.1,hQ5 _ (g.nx _ _ G8 _ (s2.trans M.g) ?_ WU.2)⟩;have E9:=(E5.ext M).sN (o':=.dt ((ji kvs key).set n (key,ds++[r.val]))) (H':=upd H7 I (.lst (xs++[w]))) Xo R λC nd ow=>?_
   .rw[List.set_set] at E9;show E9
   let⟨Y,xJ,d,ek,B,e3,e4⟩:=ow;have MJ:Y=u:=by
    have:=(M.h _ _ d1).symm.trans d;injection this with this
    injection this with this
    show this.symm
   subst MJ;have efp:C=fp5:=(vF λa b h=>by cases h;rfl).mp (e3.symm.trans d3);subst efp;have fh:=dH.mp nd;have nA:I∈C:=cz f1;show⟨C,nd,⟨Y,xJ,?_,ek,?_,e3,?_⟩,λq f=>.inl f,λb hb _=>aY λz=>hb (by rw[z];show eh _ nA)⟩
   .rw[aY (λz:a=I=>fh.1 (z▸nA))];show d
   .rw[B,qD];apply qK;intro m;rw[lz];split
    .rename_i hn;subst hn;rw[bW,hj];simp![fO,aO];rw[if_pos (cf.mp hj).1]
    rfl
   rw[qD];show e4.set ((f3.mono M.g).append (av.cons rv8 av.nil)) fh.2 f1
  show⟨du _,λl hl=>?_⟩;have T:a≠l:=λz=>by rw[<-z,ha] at hl;cases hl
  have hlb:bb≠l:=λz=>by rw[<-z,hb] at hl;cases hl
  show⟨ks,bs,key,bb,by rw[aY T];show ha,rfl,by rw[aY hlb,<-i5];show hb,by rw[W];show hlen,λv hv=>?_,λhn ep=>?_⟩
  .have ht:ji kvs key=kvs:=by
    unfold ji;rw[if_pos];rw[<-UX sA,DR,hv];rfl
   have E3:=E2.ext (.own E2.e.s hl (o:=.lst []));have E4:aS X.K G0 H0 (ρ'.set i (.ov (.dt (ji kvs key)))) σ G2 (upd H l (.lst [])):=by
    rw[ht];show E3.sN ju R λC nd ow=>⟨C,nd,ow,λq f=>.inl f,λ_ _ _=>rfl⟩
   show fin _ v (λ_ H'=>E.nx σ H') E4 (λu U P=>?_) λH' h'=>h'
   rw[aY T,ha] at P;cases P;show hv
  have ER:(kvs.any λkv=>decide (kv.1=key))=false:=by rw[<-UX sA,DR,hn];rfl
  have acV:(ks.any λkv=>decide (kv.1=key))=false:=by rw[DR,hn];rfl
  have ht:ji kvs key=kvs++[(key,[])]:=by
   unfold ji;rw[ER];rfl
  have E4:aS X.K G0 H0 (ρ'.set i (.ov (.dt (ji kvs key)))) σ G2 (upd (upd H l (.lst [])) a (.dT (ks++[(key,.ref l)]) (bs.1++[bb],ep))):=by
   rw[ht];show E2.sN ju R λC nd ow=>?_
   let⟨Y,xJ,d,ek,B,e3,e4⟩:=ow;have MJ:Y=ks/\xJ=bs:=by
    have:=ha.symm.trans d;injection this with this
    injection this with aaf aae
    show⟨aaf.symm,aae.symm⟩
   let⟨rfl,rfl⟩:=MJ;have Xa:l∉a::C:=λz=>by
    rcases bx.mp z with z | z
    .exact T z.symm
    show e4.here l z hl
   have haf:a∉C:=(dH.mp nd).1;show⟨C++[l],?_,⟨_,_,cw,?_,by simp[B],by simp[e3],?_⟩,λq f=>?_,λb hb hn=>?_⟩
   .rw[dH] at nd ⊢;show⟨λz=>?_,?_⟩
    .rcases cy.mp z with z | z
     .exact nd.1 z
     simp at z;show T z
    rw[l5];show⟨nd.2,by show gu _ _,λx hx y hy=>?_⟩;simp at hy;subst hy;show λz=>Xa (eh _ (z▸hx))
   .exact jz.snoc (by rw[<-i5];show XT) ek
   .rw[cO];show bU.snoc (zs:=[]) (e4.mono (aZ.refl _) λq f xs e=>?_) ?_ av.nil
    .rw[aY (λz:q=a=>haf (z▸f)),aY (λz:q=l=>Xa (eh _ (z▸f)))];show e
    rw[aY T.symm];show cw
   .rcases bx.mp f with rfl | f
    .exact .inl (by room)
    rcases cy.mp f with f | f
    .exact .inl (eh _ f)
    simp at f;subst f;show .inr hl
   rw[aY (λz:b=a=>hb (by rw[z];room)),aY (λz:b=l=>hn (by rw[z];show hl))]
  show fin _ _ (λ_ H'=>E.nx σ H') E4 (λu U P=>?_) λH' h'=>h'
  rw[cw] at P;cases P;have:=DR (ks:=ks) (k:=key);show znC hn
 show h.elim
end
section
variable{prog:aD}{w:aB}{A:aT}{E:aa->ai->Prop}{s:ai}
theorem zlR{R:Result->ai->Prop}{a:ae}{c:Array DictEntry}{d:Nat}(T:jY s.heap a c d)(ha:(a==sysModules)=false)(hz:c.size<=sizeLine)(hh:A.handled=none)(S:ae)(G:S≠a)(res:aa)(B:Nat)(x:s.heap.get? S=some { cls:=.type "list",data:=.seq #[] B })
  (hR:∀h' tk (acc:Array aa) i,(∀b o,b≠S->s.heap.get? b=some o->h'.get? b=some o)->h'.get? S=some { cls:=.type "list",dict:=none,data:=.seq acc i,slots:=#[] }->acc.toList=c.toList.map (·.key)->R (.ok (.ret res)) { s with heap:=h',toks:=tk }) :
  wpAny (model prog w) A.in1 (QV (.ref S) (.ref a) res) (λfin g=>match fin with | .done f=>R (.ok f) g | .again i=>i.quiet=true/\codeAny (model prog w) A i R g) (λe g=>R (.error e) g) s:=by
 have P:S< *...*:=aX x;have q:a< *...*:=by let⟨o,e,Z⟩:=T;show aX e
 show aj (pe (T:="dict") T.ty ?_);have L:QK (.ref S) (.ref a)=false:=by show if_neg ‹_›
 have K:(jc "dict"==jc "list")=false:=by rfl
 have J:(jc "dict"==jc "tuple")=false:=by assumption
 simp![L,K,J,Oi,eK,dG];show aj (zp0 ha T ?_);generalize y:*...*=I at P q;generalize C:s.heap.push { cls:=.type "dict_keyiterator",data:=.fields #[.ref a,.int 0 0,.int c.size 0,.int d 0] }=h0;have old:∀b o,s.heap.get? b=some o->h0.get? b=some o:=λb o e=>by rw[<-C];show aV _ e
 have n:h0.IsKeyIter I a 0 c.size d:=by rw[<-C,<-y];show⟨_,b8 _ rfl,rfl,rfl⟩
 have st:h0.IsKeyIter I a 0 c.size d/\jY h0 a c d:=⟨n,T.kept λo e=>old _ _ e⟩
 have u:S∉[I,a]:=λz=>by
  cbv
 have go:∀(h:aw)(p tk:Nat),(h.IsKeyIter I a 0 c.size d/\jY h a c d)->(∀b o,b≠S->s.heap.get? b=some o->h.get? b=some o)->h.get? S=some { cls:=.type "list",data:=.seq #[] p }->
   codeAny (model prog w) A (.builtin "list.extend.loop" ⟨[.ref S,.ref I,res],[]⟩) R { s with heap:=h,toks:=tk }:=by
  intro h p tk O hk E;show Qe (UY (A:=A.in1) hh I a (bJ q) c d).toS hz S u res c.size 0 _ #[] p rfl (du _) O E (NW _) λg m i hm F t=>?_
  rw[Oh hm];show hR g.heap g.toks m i (λb o hb e=>hm.heap b o (λl=>?_) (hk b o hb e)) F ?_
  .rcases bx.mp l with N | l
   .exact hb N
   have:=aX e;rw[y] at this;show bJ this (dD.mp l)
  apply qK;intro j;rw[bW,yu,yu];by_cases v:j<m.size
  .let⟨H,M⟩:=t.2 j m[j] (by simp[v]);rw[nR v,nR H,M];rfl
  have:=t.1;cbv
 have k:=old _ _ x;show aj (eX (PySem.W.kdl_hint_dict (s:={ s with heap:=h0 }) (jY.ty (s:={ s with heap:=h0 }) st.2) ?_));show vy (λ_=>?_) (λ_=>az ⟨jB Cg _,go _ B _ st (λb o _ e=>old b o e) k⟩);show aj (kH (aj ?_));show aj (tj k rfl ?_);have D:=kG (j5 (·.push iL)) k rfl;show tj (hz:=by seq_fits) D rfl ?_;have Q:=kG (j5 (·.pop)) D rfl;show az ⟨jB Cg _,go _ _ _ ?_ (λb o hb e=>?_) Q⟩
 .refine(UY (prog:=prog) (w:=w) (A:=A.in1) hh I a (bJ q) c d).frame 0 _ _ st λb hb o e=>?_
  have r:b≠S:=λh=>u (h▸hb)
  show(g8 _ _ (Ne.symm r)).trans ((g8 _ _ (Ne.symm r)).trans e)
 show(g8 _ _ (Ne.symm hb)).trans ((g8 _ _ (Ne.symm hb)).trans (old _ _ e))
theorem zjY{R:List aa->ai->Prop}(T:jY s.heap a i l)(ha:(a==sysModules)=false)(hz:i.size<=sizeLine)(hh:A.handled=none)
  (h:∀h' tk, *...*<h'.objs.size->(∀b o,s.heap.get? b\o->h'.get? b\o)->R (i.toList.map (·.key)) { s with heap:=h',toks:=tk }):↥(collect (.ref a)) R E s:=by
 have n:a< *...*:=by let⟨o,e,z⟩:=T;show aX e
 show aj (F0 (i8 Qd ?_));show aj (i9 (az ⟨jB QF _,i8 O3 ?_⟩));have k:(s.heap.push { cls:=.type "list",data:=.seq ([]:List aa).toArray }).get? *...*=some { cls:=.type "list",data:=.seq #[] }:=b8 _ rfl;have key:=zlR (prog:=prog) (w:=w) (A:=A) (s:={ s with heap:=s.heap.push { cls:=.type "list",data:=.seq ([]:List aa).toArray } })
  (R:=λ(q:Result)(j:ai)=>∃(h':aw)(tk:Nat)(acc:Array aa)(g:Nat),q=.ok (.ret (.ref *...*))/\j={ s with heap:=h',toks:=tk }/\
   (∀b o,s.heap.get? b=some o->h'.get? b=some o)/\h'.get? *...*=some { cls:=.type "list",dict:=none,data:=.seq acc g,slots:=#[] }/\acc.toList=i.toList.map (·.key))
  (T.kept λo e=>aV _ e) ha hz hh *...* (jd n) (.ref *...*) 0 k
  (λh' tk acc g hk c d=>⟨h',tk,acc,g,rfl,rfl,λb o e=>hk b o (bJ (aX e)) (aV _ e),c,d⟩)
 show eW key (λfin j x=>?_) λe j x=>?_
 .cases fin with
  | done f=>
   let⟨h',tk,acc,g,e,rfl,hk,c,d⟩:=x;cases e;show aj (vh c (az ?_));rw[d];show h h' tk (aX c) hk
  | again p=>
   show⟨x.1,pf x.2 λq s2 y=>?_⟩;let⟨h',tk,acc,g,rfl,rfl,hk,c,d⟩:=y;show aj (vh c (az ?_));rw[d];show h h' tk (aX c) hk
 let⟨z,z,z,z,m,z⟩:=x;cases m
theorem zlS(T:jY s.heap a c n)(ha:(a==sysModules)=false)(hz:c.size<=sizeLine)(hh:A.handled=none)(k:2<=c.size->Ts.sP c.size)
  (R:∀h' tk,(∀b o,s.heap.get? b\o->h'.get? b\o)->Ts.Ask prog w A.in1.in1 E (c.toList.map (·.key)) rk { s with heap:=h',toks:=tk })
  (h:∀(p:ae) h' tk (arr:Array Keyed) e, *...*<=p->(∀b o,s.heap.get? b=some o->h'.get? b=some o)->arr.toList.Perm (vI (c.toList.map (·.key))).toList->Ts.oY rk arr.toList->h'.get? p=some (seqObj "list" (arr.map (·.2)) e)->Q (.ref p) { s with heap:=h',toks:=tk }) :
  ↥(call (.builtin "sorted") [.ref a]) Q E s:=by
 show Hg FG FN FL (FK _) ?_;show aj (m:=checkCount "sorted" 1 1 _) (az (aj (zjY (A:=A.in1) T ha hz hh λh' tk r hk=>?_)));have f:(c.toList.map (·.key)).length=c.size:=by show aO ..
 generalize c.toList.map (·.key)=d at R h f;show aj (Bv ?_ (by rw[f];show hz));have g:(h'.push (seqObj "list" d.toArray 0)).get? h'.objs.size=some (seqObj "list" d.toArray 0):=b8 _ rfl;have old:∀b o,s.heap.get? b=some o->b≠h'.objs.size/\(h'.push (seqObj "list" d.toArray 0)).get? b=some o:=λb o e=>⟨bJ (aX (hk b o e)),aV _ (hk b o e)⟩
 show aj (eX (j1 F2 ⟨_,g,rfl⟩ Ga (Ts.Wn (s:={ s with heap:=h'.push (seqObj "list" d.toArray 0),toks:=tk }) (rk:=rk) g (by rw[f];show hz) (by rw[f];show k) (λl j=>R l tk λb o e=>j b o (old b o e).1 (old b o e).2) λi a1 a2=>⟨_,rfl,?_⟩) (F1 _)));let⟨q,t⟩:=Og (out:=(arrOf i).map (·.2)) g;show az ⟨_,rfl,h _ _ tk (arrOf i) q (qE r) (λb o e=>?_) a1 a2 t⟩;have hb:b<h'.objs.size:=aX (hk b o e);rw[Oy (bJ hb) (by rw[Bm];show j2 hb)];show(old b o e).2
end
theorem znD(tup:∀z∈d,Ts.f7 h z.2=z.1.2)(m:c.Perm (vI (d.map (·.2))).toList)(g:Ts.oY (Ts.pW h ((d.map (·.2)).map (Ts.f7 h))) c) :
  ∃e:List ((V×List Int)×aa),e.Perm d/\c.map (·.2)=e.map (·.2)/\(e.map (·.1)).Pairwise (λx y=>HT.bo x.2 y.2=false):=by
 have n:(vI (d.map (·.2))).toList=d.map λz=>((z.2,z.2):Keyed):=by
  unfold vI;grind
 let⟨e,f,i⟩:=zA (m.trans (OQ n)) rfl;show⟨e,f,by rw[i,bV];rfl,?_⟩;rw[g6];unfold Ts.oY at g;rw[i,g6] at g;show g.imp_of_mem λ{a b} ha hb j=>?_
 have l:=tup a (f.subset ha);have k:=tup b (f.subset hb);have mb:Ts.f7 h b.2∈(d.map (·.2)).map (Ts.f7 h):=g7 (g7 (f.subset hb));unfold Ts.pW at j;cases hg:HT.bo a.1.2 b.1.2 with
 | false=>rfl
 | true=>
  rw[<-l,<-k] at hg;have:=(Ts.Lo mb).mpr hg;simp only at j;lia
section
variable{e i':ax}{te ti:TD}
theorem T5:∀{h:List d}{j:List c},Paired F h j->∀{i:Nat}{a b},h[i]?\a->j[i]?\b->F a b
 | _,_,.nil,i,a,b,e,_=>by trivial
 | _,_,.cons r t,0,a,b,g,f=>by
  cbv
 | _,_,.cons r t,i+1,a,b,g,f=>by
  show T5 t g f
theorem R9(t:List Int):(t.map (λi=>(dv i:Key))).map kV=t.map V.int:=by rw[bV];rfl
theorem zjZ(Y:X.calm=true):fk X (.builtin "sorted") (λxs H Q=>∃(p:ae)(kvs:List (List Key×V))(bs:List ae×Nat)(c:List (List Int)),xs=[.ref p]/\Rd H p (.dT kvs bs)/\kvs.map (·.1)=c.map (λt=>t.map dv)/\(∀t∈c,t≠[])/\
  (2<=c.length->Ts.sP c.length)/\∀A:List (ae×List Int),A.Perm (bs.1.zip c)->A.Pairwise (λx y=>HT.bo x.2 y.2=false)->∀l,H l=none->Q (.ref l) (upd H l (.lst (A.map λq=>V.ref q.1)))):=by
 intro J' s σ H xs us Q I r h;let⟨p,kvs,bs,c,rfl,W,B,aP,U,q⟩:=h;let⟨u,rfl,M⟩:=gH r;cases M;let⟨hz,hd,ws,n,rel,o,d,ep,h1,h2,Z,F,h5,h6⟩:=CT I.aJ W;have l1:kvs.length=ws.length:=By rel;have l2:kvs.length=c.length:=by have:=congrArg yb B;simpa using this
 have S:bs.1.length=ws.length:=by rw[<-n,aO]
 have m:d.size=c.length:=by rw[<-jF,F,aO];cbv
 have K:d.toList.map (·.key)=bs.1.map cI:=by rw[F,<-n,bV,bV];rfl
 have T:jY s.heap p d ep:=⟨o,h1,h2,Z⟩
 -- each acE tuple
 have at_:∀(b:ae)(t:List Int),(b,t)∈bs.1.zip c->H b\.tup (t.map V.int):=λb t hm=>by
  let⟨i,hi⟩:=tL hm;rw[Hh] at hi;let⟨hb,ht⟩:=hi;have j:i<ws.length:=by rw[<-S];show(cf.mp hb).1
  have hw:ws[i]?=some ws[i]:=bC j;have L:kvs[i]?\(kvs[i]'(by cbv)):=bC (by cbv);have pr:(kvs[i]'(by cbv)).1=ws[i].1/\H ws[i].2.1\(.tup ((kvs[i]'(by cbv)).1.map kV))/\RelV (kvs[i]'(by cbv)).2 ws[i].2.2:=T5 rel L hw;have eb:ws[i].2.1=b:=by
   have:=congrArg (λl=>l[i]?) n;simp![bW,hw,hb,fO,fA] at this;show this
  have et:(kvs[i]'(by cbv)).1=t.map dv:=by
   have:=congrArg (λl=>l[i]?) B;simp![bW,L,ht,fO,fA] at this;show this
  rw[<-eb,pr.2.1,et,R9]
 obtain⟨g,w⟩:∃g:List ((V×List Int)×aa),g=(bs.1.zip c).map λq=>((V.ref q.1,q.2),cI q.1):=⟨_,rfl⟩
 have G:bs.1.map cI=g.map (·.2):=by
  rw[w,bV];have:(bs.1.zip c).map (·.1)=bs.1:=Gm (by cbv);conv=>lhs;rw[<-this]
  rw[bV];rfl
 have tup:∀z∈g,Ts.TupAt s.heap z.2/\Ts.f7 s.heap z.2=z.1.2:=λz hz=>by
  rw[w] at hz;obtain⟨⟨b,t⟩,hm,rfl⟩:=a9.mp hz;obtain⟨i1,v1,O,_⟩:=I.tuple (bF.of (at_ b t hm));let⟨P,g1,c1,R,J⟩:=O;have C:=rL v1;have e:Ts.f7 s.heap (.ref b)=t:=by
   unfold Ts.f7;simp![g1,J];show C.numsOf
  show⟨⟨b,P,_,R,rfl,g1,c1,J,by rw[e];show C,by rw[e];show aP t (yi hm).2⟩,e⟩
 show zlS (rk:=Ts.pW s.heap ((d.toList.map (·.key)).map (Ts.f7 s.heap))) T hd (by cbv) (I.ok.hd Y) (by rw[m];show U) (λh' tk k=>Ts.Yc (s:={ s with toks:=tk }) k λv hv=>?_) λa h' tk arr en hle hk E D AN=>?_
 .rw[K,G] at hv;let⟨z,hz,rfl⟩:=a9.mp hv;show(tup z hz).1
 rw[K,G] at E D;let⟨L1,g1,g2,g3⟩:=znD (λz hz=>(tup z hz).2) E D;let⟨L2,f1,rfl⟩:=zA g1 w;have out:(arr.map (·.2)).toList=L2.map λq=>cI q.1:=by rw[BI,g2,bV];rfl
 have hf:H a=none:=I.aJ.fresh hle;have N:=q L2 f1 (by rw[bV,g6] at g3;show g3) a hf;show⟨.ref a,_,I.laid (a:=a) (o:=.lst (L2.map λq=>V.ref q.1)) (t':=tk) hk hle ?_,rfl,N⟩;show⟨by rw[aO,f1.length_eq,vw];cbv,(arr.map (·.2)).toList,en,?_,?_⟩
 .rw[out];show Jb (f:=λq:ae×List Int=>V.ref q.1) λq _=>rfl
 show AN
def S9:bB:=λds Q=>match ds with
 | [.dit kvs]=>∃a:List (List Int),kvs.map (·.1)=a.map (λt=>t.map dv)/\a.length<64/\(∀t∈a,t≠[])/\∀b:List (List Int),b.Perm a->b.Pairwise (λx y=>HT.bo x y=false)->Q (.ow (b.map λt=>.tup (t.map D.int)))
 | _=>False
theorem eF.keys{K:ar}:∀{ks kvs},eF K G ks kvs->ks.map (·.1)=kvs.map (·.1)
 | [],[],_=>rfl
 | a::ks,b::kvs,h=>by
  rw[bO,bO,h.1.1,eF.keys h.2]
 | [],_::_,h=>by simp![eF] at h
 | _::_,[],h=>by simp![eF] at h
theorem jz.at:∀{ps bs}{i:Nat}{b k},jz H ps bs->bs[i]?\b->(ps.map (·.1))[i]?\k->H b\.tup (k.map kV)
 | p::ps,c::bs,0,b,k,h,a,d=>by
  simp![tN,fA,bO] at a d;subst a d;show h.1
 | p::ps,c::bs,i+1,b,k,h,a,d=>by
  show jz.at h.2 a d
 | [],[],_,_,_,_,a,_=>by trivial
 | [],_::_,_,_,_,h,_,_=>h.elim
 | _::_,[],_,_,_,h,_,_=>h.elim
theorem zp4(u:X.calm=true):jJ X (.builtin "sorted") S9:=by
 show⟨_,zjZ u,λG H C ds Q P s rs h k=>?_⟩;unfold S9 at h;split at h
 .rename_i kvs;let⟨c,y,l,x,w⟩:=h;let⟨v,rfl,m⟩:=iu rs;let⟨a,ks,bs,rfl,ha,e,rt⟩:=m;have d:ks.map (·.1)=c.map (λt=>t.map dv):=by rw[rt.keys];show y
  show⟨a,ks,bs,c,rfl,.inl (s _ _ ha),d,x,λz=>Ts.V1 (by cbv) l,λj g n=>?_⟩;have E:bs.1.length=c.length:=by
   have B:ks.length=c.length:=by have:=congrArg yb d;simpa using this
   have A:∀{ps:List (List Key×V)}{bs:List ae},jz G ps bs->ps.length=bs.length:=λ{ps bs}=>by
    induction ps generalizing bs with
    | nil=>cases bs with
     | nil=>show λ_=>rfl
     | cons=>show λh=>h.elim
    | cons p ps o=>cases bs with
     | nil=>show λh=>h.elim
     | cons b bs=>show λh=>by rw[cL,cL,o h.2]
   rw[<-A e,B]
  show wD s (ds:=(j.map (·.2)).map λt=>.tup (t.map D.int)) ?_ (w (j.map (·.2)) ?_ (by rw[g6];show n)) k
  .rw[bV];show Ja (f:=λq:ae×List Int=>V.ref q.1) λq r=>?_
   let⟨i,hi⟩:=tL (g.subset r);rw[Hh] at hi;have:=e.at hi.1 (k:=q.2.map dv) (by rw[d,bW,hi.2];rfl);rw[R9] at this;show⟨q.1,_,rfl,this,U5 q.2⟩
  have:=g.map (·.2);rwa [Gk (by cbv)] at this
 show h.elim
def zuz(K:ar)(d ty:TE):TE:=λσ H Q=>d σ H λx H1=>ty σ H1 λy c=>∃a b kvs bs k v,x=.ref a/\y=.ref b/\Rd c a (.dT kvs bs)/\bF K c b (k.map kV)/\eL kvs k\v/\Q v c
theorem zp5{e ty:TE}(O:X.A.units+64<cLine)(D:PE X o e)(hi:PE X i ty)(B:vR i):PE X (.Subscript o i pos) (zuz X.K e ty):=by
 intro g s σ H Q I h;show S4 PySem.F.slot_dict_getitem.lookup B (aR (D g s σ H _ I h) λu s1 c=>?_);let⟨x,H1,I1,m,r⟩:=c;show aR (hi g s1 σ H1 _ I1 r) λiv s2 c=>?_
 let⟨y,M,d,l,a,b,kvs,bs,k,v,ex,G,ha,hb,hv,q⟩:=c;subst ex G;obtain rfl:u=cI a:=m;obtain rfl:iv=cI b:=l;let⟨Z,hd,xs,Z,rel,f⟩:=CT d.aJ ha;obtain⟨its,n,⟨t,g1,L,z,J⟩,_⟩:=d.tuple hb;have key:(tupleKind (eR X.prog X.w)).is s2.heap k b:=⟨t,its.toArray,z,g1,L,J,by simpa using JU n⟩
 let⟨N,hw,E⟩:=mQ.some_of (v:=v) (o:=(atKey xs k).map (·.2)) (by rw[<-hv];show rel.val k);let⟨p,C,j⟩:=j3.mp hw;show⟨f.typeIs,wpAny_getItem_heap (PF (by lia)) key f C ?_⟩;rw[j];show⟨v,M,d.tok _,E,q⟩
noncomputable def CS(kvs:List (List Key×D))(k:List Key):Option D:=(kvs.find? λkv=>decide (kv.1=k)).map (·.2)
def ZP(te ti:TD):TD:=λρ Q=>te ρ λr=>ti ρ λrk=>match r.val,rk.val with
 | .dit kvs,.tup a=>∃k d,pJ a\k/\CS kvs k\d/\Q (.fz d)
 | _,_=>False
theorem eF.look{K:ar}:∀{ks kvs},eF K G ks kvs->CS kvs k\d->∃v,eL ks k\v/\Rep K G v d
 | [],[],_,e=>by trivial
 | a::ks,b::kvs,h,e=>by
  simp![eF] at h;unfold CS at e;unfold eL;rw[jD] at e ⊢;rw[h.1.1];by_cases hk:b.1=k
  .simp_all
  simp![hk,decide_false] at e ⊢;show eF.look h.2 e
 | [],_::_,h,_=>by simp![eF] at h
 | _::_,[],h,_=>by simp![eF] at h
theorem zsv(I:X.A.units+64<cLine)(M:PD X e te)(hi:PD X i' ti)(J:vR i':=by intro _ _;rfl):PD X (.Subscript e i' pos) (ZP te ti):=by
 let⟨t,p,q⟩:=M;let⟨V,D,C⟩:=hi;show⟨_,zp5 I p D J,λρ σ n m G H Q P E h k=>q ρ σ n m G H _ _ E h λv H1 r G1 x z K=>?_⟩;obtain⟨U,i,j,_⟩:=z.freeze x;show C ρ σ n m U H1 _ _ (E.ext i) K λu S rk Z o F f=>?_
 obtain⟨T,c,l,_⟩:=F.freeze o;split at f
 .rename_i kvs Y R O;let⟨key,d,hk,L,f⟩:=f;rw[R] at j;rw[O] at l;let⟨a,ks,bs,rfl,ha,W,y⟩:=j;let⟨b,ys,rfl,hb,B⟩:=l;let⟨w,hw,N⟩:=(eF.mono c.g _ _ y).look L;show⟨a,b,ks,bs,key,w,rfl,rfl,.inl (c.s _ _ (c.g _ _ ha)),by rw[<-JT B hk];show c.s.nq hb,hw,k w S (.fz d) T (i.trans c) N f⟩
 show f.elim
end
section
variable{K:ar}
theorem aS.unset(E:aS K G0 H0 ρ σ G H):aS K G0 H0 (ρ.set i .un) (σ.set i u) G H:=by
 have a:∀j s,gt (ρ.set i .un) j=s->s≠.un->i≠j/\gt ρ j=s:=λj s e f=>by
  rw[mn] at e;by_cases h:i=j/\j<ρ.length
  .rw[if_pos h] at e;show absurd e.symm f
  rw[if_neg h] at e;show⟨λz=>h ⟨z,t4 e f⟩,e⟩
 have ss:∀j,i≠j->(σ.set i u)[j]?=σ[j]?:=λj h=>by rw[lz,if_neg h]
 let⟨own,r,q⟩:=E.on;show⟨E.e,by simp[E.len],λj d h=>?_,λj ds h=>?_,λj k ds m l c b=>?_,own,λj ds p h t=>?_,λj o h=>?_⟩
 .let⟨n,h⟩:=a j _ h ∅;rw[ss j n];show E.fz j d h
 .let⟨n,h⟩:=a j _ h ∅;rw[ss j n];show E.ow j ds h
 .let⟨n,c⟩:=a j _ c ∅;let⟨g,b⟩:=a k _ b ∅;rw[ss j n,ss k g];show E.dj j k ds m l c b
 all_goals grind
end
noncomputable def mY(f:List D->Bool)(l:List (ae×List D)):List V:=(l.filter λp=>f p.2).map λp=>.ref p.1
theorem Vk(f):∀(fp:List ae) dss j,fp.length=dss.length->dss.findIdx? f\j->∃q,fp[j]?\q/\(mY f (fp.zip dss))[0]?\.ref q
 | [],[],j,_,h=>by trivial
 | q::fp,ds::dss,j,a,h=>by
  rw[BY] at h;by_cases hf:f ds=true
  .rw[if_pos hf] at h;cases h;show⟨q,rfl,by simp[mY,hf]⟩
  rw[if_neg hf] at h;let⟨k,hk,rfl⟩:=j3.mp h;let⟨r,c,b⟩:=Vk f fp dss k (by simpa using a) hk;show⟨r,by trivial,by simpa[mY,hf] using b⟩
 | [],_::_,_,a,_=>by trivial
 | _::_,[],_,a,_=>by trivial
theorem Vx(f):∀dss:List (List D),(dss.findIdx? f=none↔dss.filter f=[])
 | []=>by simp
 | ds::dss=>by
  cbv
section
variable{X:Cx}{m:List (Option Nat)}
theorem zp7{tc:cU}(hm:m[0]?\none)
  (q3:∀s3 H3 ex ρ q S O G H Q P,aS X.K S O ρ q G H->tc ρ Q->(∀b H' c,Ext G H c H'->Q b->P b H')->Y s3 H3 ex q H P)
       {fp:List ae}  (E:aS X.K S O ρ q G H) (Ek:q[Z]?\some (.ref a)) (hH:H a\.lst (fp.map V.ref)) (hr:Rep X.K G (.ref a) (.lst (dss.map .lst)))
  (hl:fp.length=dss.length) (hz:dss.length<=sizeLine) (hf:∀ds∈dss,tc ((cF m ρ).set 0 (.fz (.lst ds))) λb=>b=f ds)
  (k:∀D H' c,Ext G H c H'->H D=none->c D=none->H' D\.lst (mY f (fp.zip dss))->av X.K c (mY f (fp.zip dss)) ((dss.filter f).map .lst)->P (.ref D) H') :
  m4 (Rr X.K (tQ Z)) m (λ_ _ _=>t5 0) Y (λ_ _ _=>tQ 0) q H P:=by
 let⟨a',ys,e0,L4,L⟩:=hr;cases e0;show⟨_,Ek,.inl ⟨a,rfl,⟨_,(E.e.s.cm L4).sq⟩,?_⟩⟩;have U:=U6 L4 L;intro D A s3 ex;have MA:G D=none:=E.e.s.free A;have w:∀{i:Nat}{l:List L2.D},gt (cF m ρ) i=.ow l->False:=λ{i l} h=>by
  unfold cF at h;rw[yW] at h;split at h
  .rename_i o _;unfold qY at h;split at h
   .cases h
   split at h<;>cases h
  cases h
 have Af:∀{i:Nat}{o:OV},gt (cF m ρ) i=.ov o->False:=λ{i o} h=>by
  unfold cF at h;rw[yW] at h;split at h
  .rename_i o _;unfold qY at h;split at h
   .cases h
   split at h<;>cases h
  cases h
 have start:aS X.K G H (cF m ρ) (oJ m q) G (upd H D (.lst [])):=by
  show⟨.own E.e.s A,by simp[oJ,cF],λi d h=>?_,λi l h=>(w h).elim,λi j l fs _ h=>(w h).elim,λ_=>none,λi l _ h=>(w h).elim,λi o h=>(Af h).elim⟩;unfold cF at h;rw[yW] at h;split at h
  .rename_i o ho;unfold qY at h;split at h
   .cases h
   rename_i j;split at h
   .rename_i d' AQ;cases h;let⟨v,hv,z⟩:=E.fz j d AQ;show⟨v,?_,z⟩;unfold oJ;rw[bW,ho];simp[hv]
   cases h
  cases h
 have lm:0<(cF m ρ).length:=by
  unfold cF;rw[aO];show(cf.mp hm).1
 have M:(dss.map L2.D.lst).length=dss.length:=by show aO ..
 show⟨λi n F H'=>n=dss.length-i/\i<=dss.length/\∃xs c,aS X.K G H (cF m ρ) F c H'/\H' D\.lst xs/\c D=none/\av X.K c xs (((dss.take i).filter f).map .lst)/\xs=mY f ((fp.zip dss).take i),
  ⟨dss.length,∅,du _,[],G,start,cw,MA,by trivial,by rfl⟩,?_⟩
 rintro i n F H' ⟨rfl,hi,xs,c,p,J,Xp,y,x⟩;by_cases C:i<dss.length
 .let⟨w1,w2⟩:=U;have iZ:(dss.map L2.D.lst)[i]?\.lst dss[i]:=by rw[bW,bC C];rfl
  let⟨go,yl⟩:=w1 i _ c H' iZ p.e.g p.e.s;show .inr ⟨go,λgU t=>∃xs c,aS X.K G H (cF m ρ) gU c t/\t D\.lst xs/\c D=none/\av X.K c xs (((dss.take (i+1)).filter f).map .lst)/\xs=mY f ((fp.zip dss).take (i+1)),λgU t h2=>⟨dss.length-(i+1),⋯,rfl,C,h2⟩,λv t hy=>?_⟩;have ev:v=.ref (fp[i]'(by cbv)):=by
   have:=hy.2 _ (bM.of (p.e.h _ _ hH));rw[bW,bC (by cbv)] at this;cases this;rfl
  let⟨G2,T,z⟩:=yl v t hy;have E2:=p.ext T;have E3:aS X.K G H ((cF m ρ).set 0 (.fz (.lst dss[i]))) (F.set 0 (some v)) G2 t:=E2.put (.refl E2.e.s) (r:=.fz (.lst dss[i])) z;show q3 _ _ _ _ _ G H G2 t _ _ E3 (hf dss[i] (ip C)) λb H4 R I EA=>?_
  have B:=T.trans I;have weak:∀j,gt (cF m ρ) j=.un\/gt (cF m ρ) j=gt ((cF m ρ).set 0 (.fz (.lst dss[i]))) j:=λj=>by
   cases j with
   | zero=>left;unfold cF;rw[yW,hm];rfl
   | succ j=>right;rw[mn,if_neg (by cbv)]
  have u:=(E3.ext I).weak (ρ':=cF m ρ) ∅ weak;have WK:H4 D\.lst xs:=B.h _ _ J;have N:R D=none:=B.n D Xp (by rw[J];show nofun);have tz:(fp.zip dss).take (i+1)=(fp.zip dss).take i++[(fp[i]'(by cbv),dss[i])]:=by
   rw[dM,bC (by rw[vw];cbv),Gj];rfl
  have W:dss.take (i+1)=dss.take i++[dss[i]]:=by rw[dM,bC C];rfl
  subst EA;cases hb:f dss[i] with
  | false=>
   show⟨xs,R,u,WK,N,by rw[W,vE];simpa[hb] using y.mono B.g,by rw[tz,x];simp[mY,hb]⟩
  | true=>
   have l0:0<F.length:=by rw[p.len];show lm
   show⟨v,by rw[lz,if_pos rfl,if_pos l0],xs,WK,?_,xs++[v],R,?_,cw,N,?_,?_⟩
   .rw[x];unfold mY;rw[aO];show qN (pA _ _) ?_;rw[eJ,vw];lia
   .refine⟨⟨u.e.g,λb o e=>by rw[aY (e9 e A)];show u.e.h b o e,λb o e=>by rw[aY (e9 e N)];show u.e.s b o e,u.e.n⟩,u.len,u.fz,λi l h=>(w h).elim,λi j l fs _ h=>(w h).elim,λ_=>none,λi l _ h=>(w h).elim,λi o h=>(Af h).elim⟩
   .rw[W,vE,cO];show(y.mono B.g).append ?_;simpa[hb] using av.cons (z.mono I.g) av.nil
   rw[tz,x,ev];simp[mY,hb]
 have e:i=dss.length:=by lia
 subst e;have tz:(fp.zip dss).take dss.length=fp.zip dss:=o4 (by rw[vw];cbv);rw[tz] at x;rw[eY] at y;subst x;show .inl ⟨by have:=U.2 c H' p.e.g p.e.s;rwa [M] at this,k D H' c p.e A Xp J y⟩
def Zr(a c e:Nat)(m:List (Option Nat))(tc h:cU)(g:TX):TX:=λD ρ=>a<ρ.length/\a≠c/\a≠e/\match gt ρ c,gt ρ e with
 | .ov (.ll dss),.fz d=>dss.length<=sizeLine/\∃f:List L2.D->Bool,(∀ds∈dss,tc ((cF m (ρ.set c (.fz (.lst (dss.map .lst))))).set 0 (.fz (.lst ds))) λb=>b=f ds)/\
   h ((ρ.set c (.fz (.lst (dss.map .lst)))).set a (.ow ((dss.filter f).map .lst))) (λb=>b=true↔dss.filter f=[])/\
   (dss.findIdx? f=none->g D (ρ.set a .un))/\
   ∀j ds,dss.findIdx? f\j->dss[j]?\ds->ds.length<sizeLine/\D.nx ((ρ.set a .un).set c (.ov (.ll (dss.set j (ds++[d])))))
 | _,_=>False
theorem zsw(v i Y){W V U T S R p7 p8 A n gc aap aaq:aG}(hc:X.calm=true)(cs:iI X N' m scope)
  (ht:∀s3 e ex,qv (fj X N' scope s3 e ex) s tc) (k9:PB X c D3) (fw:fV X ab w)
  (LV:∀s3 e ex,PG (fj X N' scope s3 e ex) (.Name t V) (t5 0)) (he0:∀s3 e ex,PE (fj X N' scope s3 e ex) (.Name t W) (tQ 0))
  (hm:m[0]?\none:=by rfl) (hN:X.N.Nodup:=by assumption) (iX:X.N[v]?\x:=by rfl) (hx:Loc X.env.scope x:=by first | show Or.inl rfl | show Or.inr rfl)
  (hs:∀u,foldedSetIterable (.Name y U) X.env u=pure u:=by intro _;rfl)
  (kj:swapsWith (.ListComp (.Name t W) [⟨.Name t V,.Name y U,s,0⟩] scope pos) (some (.Name x n)) gc.line X.env=pure true:=by rfl)
  (hf:X.fn x=true\/X.env.scope.names.lookup x\.local:=by first | show .inl rfl | show .inr rfl | assumption)
  (hNy:Nm X i y:=by walk_at"nm")
  (hNz:Nm X Y z:=by walk_at"nm")
  (Z:lV X.env.scope x:=by first | show Or.inl rfl | show Or.inr (Or.inl rfl) | show Or.inr (Or.inr rfl)) (uM:(x==("__debug__":af))=false:=by decide) (abm:(x==("__classdict__":af))=false:=by decide)
  (bX:starEach [.Name z A] X.env=(false,eval (.Name z A) X.env)::starEach [] X.env:=by rfl)
  (hb:∀{w u},PE X (.Subscript (.Name x T) (.Constant (.int 0) c4 S) R) w->PA X [.Name z A] u->PE X (.Call (.Attribute (.Subscript (.Name x T) (.Constant (.int 0) c4 S) R) "append" p7) [.Name z A] [] p8) (w5 X.K "list" uh w u):=by intro w t h1 h2;show yO vJ yy yx wL h1 h2) :
  fV X [.Assign [.Name x n] (.ListComp (.Name t W) [⟨.Name t V,.Name y U,s,0⟩] scope pos) gc,.If c ab [.Expr (.Call (.Attribute (.Subscript (.Name x T) (.Constant (.int 0) c4 S) R) "append" p7) [.Name z A] [] p8) aaq] aap] (Zr v i Y m tc D3 w):=by
 let⟨t0,p0,q0⟩:=k9;let⟨t1,pa,qa⟩:=fw;show⟨_,Dy (wx (g:=λ_ _ _=>t5 0) (tc:=λs3 e ex=>(ht s3 e ex).choose) (te:=λ_ _ _=>tQ 0) hN iX hx hc cs (Sb (jL hNy)) LV (λs3 e ex=>(ht s3 e ex).choose_spec.1) he0 hs kj hf)
  (y3 (Ic p0 pa (y3 (rK (hb (yM Ej (pO iX Z uM abm) Sm (λ_ _=>rfl)) (fZ (jL hNz) jk bX)))))),λρ σ I F G H D E k h g=>?_⟩
 let⟨bj,uI,AH,h⟩:=h;split at h
 .rename_i dss d J hgN;let⟨hz,f,hf1,hf2,hf3,hf4⟩:=h;let⟨own,o1,o2⟩:=k.on;obtain⟨a,fp,b1,b2,⟨ha,C⟩,b4⟩:=o2 i _ J;have efr:eT i ρ=ρ.set i (.fz (.lst (dss.map .lst))):=by unfold eT;rw[J];rfl
  have qk:i<ρ.length:=t4 J ∅;obtain⟨L,hL,M,_⟩:=k.A0 i;rw[efr] at M;let⟨va,WL,Q⟩:=M.fz i (.lst (dss.map .lst)) (by rw[mn,if_pos ⟨rfl,qk⟩]);rw[b1] at WL;cases WL;unfold Rg yH;show zp7 (f:=f) (dss:=dss) (fp:=fp) hm (λs3 e ex=>(ht s3 e ex).choose_spec.2) M b1 ha Q C.length hz hf1 λO H1 G1 x1 hD hG1 XG hrp=>?_
  have E2:aS X.K I F ((ρ.set i (.fz (.lst (dss.map .lst)))).set v (.ow ((dss.filter f).map .lst))) (σ.set v (some (.ref O))) G1 H1:=M.put x1 (r:=.ow ((dss.filter f).map .lst)) ⟨O,_,rfl,hD,hG1,XG,hrp⟩;show q0 _ _ I F G1 H1 _ _ E2 hf2 λb e G3 x3 bp=>?_
  have jO:=x1.trans x3;have xL:=Du hL jO;have kk:aS X.K I F (ρ.set v .un) (σ.set v (some (.ref O))) (less G3 L) e:=(k.ext xL).unset;cases b with
  | true=>
   show qa _ _ I F _ e D E kk (hf3 ((Vx f dss).mpr (bp.mp rfl))) (g.shift xL.g)
  | false=>
   cases hj:dss.findIdx? f with
   | none=>show absurd (bp.mpr ((Vx f dss).mp hj)) ja
   | some j=>
    let⟨Lq,B,oN⟩:=Vk f fp dss j C.length hj;have ku:j<dss.length:=by rw[<-C.length];show(cf.mp B).1
    let⟨hsz,hnx⟩:=hf4 j dss[j] hj (bC ku);let⟨qb,xs,c1,c2,c3⟩:=C.get (bC ku);rw[B] at c1;cases c1;have abe:v<σ.length:=by rw[k.len];show bj
    let⟨vn,hvn,P⟩:=k.fz Y d hgN;have ic:bA (mY f (fp.zip dss)) 0\.ref Lq:=zrP (j:=0) oN;show⟨_,by rw[lz,if_pos rfl,if_pos abe],O,_,0,_,rfl,rfl,bM.of (x3.h _ _ XG),ic,.inl ⟨rfl,xs,bM.of (xL.h _ _ c2)⟩,vn,by rw[lz,if_neg AH];show hvn,?_⟩;show⟨Lq,xs,vn,rfl,rfl,xL.h _ _ c2,by rw[c3.length];show hsz,?_⟩;show g.nx _ _ (less G3 L) _ xL.g (kk.sN (o:=.ll dss) (by rw[mn,if_neg (λz=>uI z.1)];show J) (p:=a) (by rw[lz,if_neg uI];show b1) λcH nd ow=>?_) hnx;let⟨mH,js⟩:=ow;have e3:cH=fp:=by
     have:=(xL.h _ _ ha).symm.trans mH;injection this with this
     injection this with this
     show((vF λa b h=>by cases h;rfl).mp this).symm
    subst e3;have fh:=dH.mp nd;show⟨cH,nd,⟨?_,js.set ((c3.mono xL.g).append (av.cons (P.mono xL.g) av.nil)) fh.2 B⟩,λq hq=>.inl hq,λb hb _=>aY λz=>hb (by rw[z];show eh _ (cz B))⟩;rw[aY (λz:a=Lq=>fh.1 (z▸cz B))];show mH
 show h.elim
def RI:TD:=λ_ Q=>Q (.ov (.ll []))
theorem zsx(h:PD X e (rf bH)):PD X e RI:=by
 let⟨tt,p,q⟩:=h;show⟨tt,p,λρ σ j i G H Q P E h k=>q ρ σ j i G H (λr=>r=.ow []) _ E ⟨by cbv,rfl⟩ λv H' r l x b a=>?_⟩;subst a;let⟨p,xs,rfl,g,f,d,c⟩:=b;cases xs with
 | cons=>simp![av] at c
 | nil=>show k _ H' (.ov (.ll [])) l x ⟨p,[],rfl,by show gu _ _,⟨d,by simp![bU]⟩,λq a=>by simp at a;subst a;show⟨g,f⟩⟩ h
def HH(i:Nat)(te:TD):TX:=λD ρ=>match gt ρ i with
 | .ov (.ll dss)=>te ρ λr=>match r with
  | .ow ds=>dss.length<sizeLine/\D.nx (ρ.set i (.ov (.ll (dss++[ds]))))
  | _=>False
 | _=>False
theorem zsz(i)(T:PD X e te)(hN:Nm X i x:=by walk_at"nm")(bX:starEach [e] X.env=(false,eval e X.env)::starEach [] X.env:=by rfl)
  (hb:∀{w t},PE X (.Name x y) w->PA X [e] t->PE X (.Call (.Attribute (.Name x y) "append" L) [e] [] j) (w5 X.K "list" uh w t):=by intro w t W U;show yO vJ yy yx wL W U) :
  PX X (.Expr (.Call (.Attribute (.Name x y) "append" L) [e] [] j) pos) (HH i te):=by
 let⟨t,p,q⟩:=T;show⟨_,rK (hb (jL hN) (fZ p jk bX)),λρ σ G0 H0 G H D E k h g=>?_⟩;unfold HH at h;split at h
 .rename_i dss hg;let⟨own,o1,Q⟩:=k.on;obtain⟨a,fp,M,b2,⟨ha,A⟩,b4⟩:=Q i _ hg;show⟨_,M,.inl ⟨rfl,_,bM.of ha⟩,?_⟩;show q ρ σ G0 H0 G H _ _ k h λv H' r O d P m=>?_
  split at m
  .rename_i ds;let⟨f,xs,rfl,o,c2,c3,c4⟩:=P;have B:f≠a:=λz=>by rw[z,ha] at o;cases o
   show⟨a,fp.map V.ref,.ref f,rfl,rfl,d.h _ _ ha,by rw[aO,A.length];show m.1,?_⟩;let N:Hp:=λb=>if b=f then none else H' b
   have I:∀b,b≠f->N b=H' b:=λb h=>if_neg h
   have J:Ext G H O N:=⟨d.g,λb u e=>by rw[I b (e9 e o)];show d.h b u e,λb u e=>by rw[I b (e9 e c2)];show d.s b u e,d.n⟩
   show g.nx _ _ O _ d.g ((k.ext J).sN hg M λF nd ow=>?_) m.2;let⟨R,js⟩:=ow;have Z:F=fp:=by
    have:=(J.h _ _ ha).symm.trans R;injection this with this
    injection this with this
    show((vF λa b h=>by cases h;rfl).mp this).symm
   subst Z;have Y:=dH.mp nd;have S:f∉F:=λz=>A.here f z o
   show⟨F++[f],?_,⟨by rw[cw];simp,bU.snoc (A.mono d.g λq m zs e=>?_) (by rw[aY B];show c3) c4⟩,λq m=>?_,λb hb Mu=>?_⟩
   .grind
   .rw[aY (λz:q=a=>Y.1 (z▸m))];show d.h _ _ e
   .grind
   have C:b≠f:=λz=>Mu (by rw[z];show if_pos rfl)
   rw[aY (λz=>hb (by show z▸.head _)),I b C]
  show m.elim
 show h.elim
end
end L2
namespace PySem
open Sem (wp)
def zX1(h:aw) (e:ae):Prop:=∃o,h.get? e=some o/\o.cls=.type "StopIteration"
def zX2(h h':aw):Prop:=∀c o,h.get? c=some o->h'.get? c=some o
section
variable {prog:aD}{w:aB}{A:aT}{E:aa->ai->Prop}{s:ai}
theorem zX3{α:Type}{M:Model}{Q:α->ai->Prop}(hh:A.handled=none) (hE:∀h' e,zX2 s.heap h'->zX1 h' e->E (.ref e) { s with heap:=h' }):wpAny M A (Builtin.SmallTypes.stopIteration:Sem α) Q E s:=by
 refine aj (aj (i9 ?_ (by size_fits)))
 refine aj (ya (a:=iL) (by simp only[firstArgMember]; rfl) (i9 ?_ (by size_fits)))
 exact wpAny_raiseNew_none hh (hE _ _ (λc o e=>aV _ (aV _ e)) ⟨_,b8 _ rfl,rfl⟩)
theorem zX4{it t:ae}{i:Nat}{items:Array aa}{Q:aa->ai->Prop}(hh:items[i]?=none->A.handled=none) (hit:s.heap.IsTupleIter it t i) (ht:s.heap.IsTuple t items)
  (hQ:∀x h',items[i]?=some x->h'.IsTupleIter it t (i+1)->x9 it s.heap h'->h'.objs.size=s.heap.objs.size->Q x { s with heap:=h' })
  (hE:∀h' e,items[i]?=none->x9 it s.heap h'->zX1 h' e->E (.ref e) { s with heap:=h' }) :
  ↥(qA (.ref it)) Q E s:=by
 obtain⟨o,ho,hc,hd⟩:=id hit
 obtain⟨ol,hol,_,nl,hdl⟩:=ht
 refine aj (o6 (name:=gW "__next__") hit.typeIs Cj
  (j1 Cj hit.typeIs QU ?_ (QX _)))
 refine aj (ya rfl (aj (iq ho hd rfl ?_)))
 refine aj (iq ho hd rfl (aj (jZ hol hdl ?_)))
 simp only[qL]
 cases hx:items[i]? with
 | some x =>
  refine aj (qH ho hd (by exact aW _) (az ⟨x,rfl,az (hQ x _ hx ⟨_,kG _ ho (B9 (tI hd _)),(Gw ..).trans hc,?_⟩ (qO ..).extBut (qO ..).1)⟩))
  rw[tI hd]
  rfl
 | none =>
  refine aj (kH (aj (qH ho hd (by exact iM _) ?_)))
  exact zX3 (hh hx) λh' e k q=>hE h' e hx (λc o hc q=>k c o ((qO ..).extBut c o hc q)) q
theorem Heap.IsTupleIter.at'{h h':aw}{it t:ae}{i:Nat} (x:h.IsTupleIter it t i) (k:∀o,h.get? it=some o->h'.get? it=some o):h'.IsTupleIter it t i:=let ⟨o,a,b⟩:=x; ⟨o,k o a,b⟩
theorem Heap.IsTuple.at'{h h':aw}{t:ae}{xs:Array aa} (x:h.IsTuple t xs) (k:∀o,h.get? t=some o->h'.get? t=some o):h'.IsTuple t xs:=let ⟨o,a,b⟩:=x; ⟨o,k o a,b⟩
def zXe(z T i j:ae) (h h':aw):Prop:=∀c o,c≠z->c≠T->c≠i->c≠j->h.get? c=some o->h'.get? c=some o
theorem zX5{z TI TO i1 i2 l1 l2:ae}{k:Nat}{xs ys:Array aa}{a b:aa}{Q:aa->ai->Prop}(hh:xs[k]?=none\/ys[k]?=none->A.handled=none) (D:ZipApart z TI TO i1 i2 l1 l2)
  (hz:IsZip s.heap z TI TO .none) (hTI:IsPair s.heap TI (.ref i1) (.ref i2)) (hTO:IsPair s.heap TO a b)
  (h1:s.heap.IsTupleIter i1 l1 k) (h2:s.heap.IsTupleIter i2 l2 k) (hl1:s.heap.IsTuple l1 xs) (hl2:s.heap.IsTuple l2 ys)
  (hQ:∀h' x y,xs[k]?=some x->ys[k]?=some y->IsZip h' z TI TO (rawInt s.heap.objs.size)->IsPair h' TO x y->h'.IsTupleIter i1 l1 (k+1)->h'.IsTupleIter i2 l2 (k+1)->
   IsPair h' s.heap.objs.size x y->zXe z TO i1 i2 s.heap h'->Q (.ref s.heap.objs.size) { s with heap:=h' })
  (hE:∀h' e,(xs[k]?=none\/ys[k]?=none)->zXe z TO i1 i2 s.heap h'->zX1 h' e->E (.ref e) { s with heap:=h' }) :
  ↥(Builtin.«zip.__next__» ⟨[.ref z],[]⟩) (λfin s'=>∃v,fin=.done (.ret v)/\Q v s') E s:=by
 refine aj (ya rfl (aj (iq hz rfl rfl (aj (iq hz rfl rfl (aj (jZ hTI rfl ?_)))))))
 refine aj (aj (iq hz rfl rfl (az (aj (kH (aj (iq hz rfl rfl ?_)))))))
 refine aj (wpAny_setField_rec hz (by exact il _) λg1 z1 c1=>aj ?_)
 replace z1:IsZip g1 z TI TO .ellipsis:=z1
 have off:∀(g:aw) (e:ae),IsZip g z TI TO .ellipsis->zXe z TO i1 i2 s.heap g->zX1 g e->(xs[k]?=none\/ys[k]?=none)->↥(setField (.ref z) 0 iL) (λ_ s'=>E (.ref e) s') E { s with heap:=g }:=by
  intro g e hg kg st d
  refine wpAny_setField_rec hg (by exact il _) λg' _ cg=>hE g' e d (λc o a1 a2 a3 a4 q=>cg.extBut c o a1 (kg c o a1 a2 a3 a4 q)) ?_
  obtain⟨o,p,q⟩:=st
  exact⟨o,cg.extBut _ _ (λx=>by subst x; rw[hg] at p; cases p; simp at q) p,q⟩
 have k1:zXe z TO i1 i2 s.heap g1:=λc o a1 _ _ _ q=>c1.extBut c o a1 q
 simp only[O1,OP,Gg,Ox]
 refine aj (aj (Bu ?_))
 refine aj (zX4 (λe=>hh (.inl e)) (h1.at' λo=>c1.extBut _ o D.i1z) (hl1.at' λo=>c1.extBut _ o D.l1z) (λx g2 hx i1' c2 n2=>az ?_) λg2 e hx c2 st=>off g2 e (c2 _ _ D.i1z.symm z1) (λc o a1 a2 a3 a4 q=>c2 c o a3 (k1 c o a1 a2 a3 a4 q)) st (.inl hx))
 have k2:zXe z TO i1 i2 s.heap g2:=λc o a1 a2 a3 a4 q=>c2 c o a3 (k1 c o a1 a2 a3 a4 q)
 have t2:IsPair g2 TO a b:=c2 _ _ D.TOi1 (c1.extBut _ _ D.TOz hTO)
 refine aj (jZ t2 rfl (aj (GV t2 λg3 t3 c3=>aj (sW (az ?_)))))
 replace t3:IsPair g3 TO x b:=t3
 have k3:zXe z TO i1 i2 s.heap g3:=λc o a1 a2 a3 a4 q=>c3.extBut c o a2 (k2 c o a1 a2 a3 a4 q)
 have z3:IsZip g3 z TI TO .ellipsis:=c3.extBut _ _ D.TOz.symm (c2 _ _ D.i1z.symm z1)
 have i2':∀o,s.heap.get? i2=some o->g3.get? i2=some o:=λo q=>c3.extBut _ o D.TOi2.symm (c2 _ o D.i12.symm (c1.extBut _ o D.i2z q))
 refine aj (aj (Bu ?_))
 refine aj (zX4 (λe=>hh (.inr e)) (h2.at' i2') (hl2.at' λo=>k3 _ o D.l2z D.l2TO D.l2i1 D.l2i2) (λy g4 hy i2'' c4 n4=>az ?_) λg4 e hy c4 st=>off g4 e (c4 _ _ D.i2z.symm z3) (λc o a1 a2 a3 a4 q=>c4 c o a4 (k3 c o a1 a2 a3 a4 q)) st (.inr hy))
 have t4:IsPair g4 TO x b:=c4 _ _ D.TOi2 t3
 refine aj (jZ t4 rfl (aj (GV t4 λg5 t5 c5=>aj (sW (az (az ?_))))))
 replace t5:IsPair g5 TO x y:=t5
 refine aj (jZ t5 rfl (aj (F3 (aj ?_))))
 have n5:g5.objs.size=s.heap.objs.size:=by rw[c5.1,n4,c3.1,n2,c1.1]
 have z5:IsZip g5 z TI TO .ellipsis:=c5.extBut _ _ D.TOz.symm (c4 _ _ D.i2z.symm z3)
 have k5:zXe z TO i1 i2 s.heap g5:=λc o a1 a2 a3 a4 q=>c5.extBut c o a2 (c4 c o a4 (k3 c o a1 a2 a3 a4 q))
 have new:z≠g5.objs.size:=bJ (aX z5)
 have z6:IsZip (g5.push { cls:=.type "tuple",data:=.seq #[x,y] }) z TI TO .ellipsis:=aV _ z5
 refine aj (wpAny_setField_rec z6 (by exact il _) λg7 z7 c7=>?_)
 replace z7:IsZip g7 z TI TO (rawInt g5.objs.size):=z7
 refine wpAny_setField_rec z7 (by simp) λg8 z8 c8=>az ⟨_,rfl,?_⟩
 have up:∀c o,c≠z->(g5.push { cls:=.type "tuple",data:=.seq #[x,y] }).get? c=some o->g8.get? c=some o:=λc o a q=>c8.extBut c o a (c7.extBut c o a q)
 have dn:∀c o,c≠z->g5.get? c=some o->g8.get? c=some o:=λc o a q=>up c o a (aV _ q)
 have T8:IsPair g8 g5.objs.size x y:=up _ _ new.symm (b8 _ rfl)
 rw[n5] at z8 T8
 change Q (.ref g5.objs.size) _
 rw[n5]
 exact hQ g8 x y hx hy z8 (dn _ _ D.TOz t5) (i1'.at' λo q=>dn _ o D.i1z (c5.extBut _ o D.TOi1.symm (c4 _ o D.i12 (c3.extBut _ o D.TOi1.symm q)))) (i2''.at' λo q=>dn _ o D.i2z (c5.extBut _ o D.TOi2.symm q)) T8 λc o a1 a2 a3 a4 q=>dn c o a1 (k5 c o a1 a2 a3 a4 q)
theorem zX6{z TI TO i1 i2 l1 l2:ae}{k:Nat}{xs ys:Array aa}{a b:aa}{Q:Option aa->ai->Prop}(hh:xs[k]?=none\/ys[k]?=none->A.handled=none) (D:ZipApart z TI TO i1 i2 l1 l2)
  (hz:IsZip s.heap z TI TO .none) (hTI:IsPair s.heap TI (.ref i1) (.ref i2)) (hTO:IsPair s.heap TO a b)
  (h1:s.heap.IsTupleIter i1 l1 k) (h2:s.heap.IsTupleIter i2 l2 k) (hl1:s.heap.IsTuple l1 xs) (hl2:s.heap.IsTuple l2 ys)
  (hQ:∀h' x y,xs[k]?=some x->ys[k]?=some y->IsZip h' z TI TO (rawInt s.heap.objs.size)->IsPair h' TO x y->h'.IsTupleIter i1 l1 (k+1)->h'.IsTupleIter i2 l2 (k+1)->
   IsPair h' s.heap.objs.size x y->zXe z TO i1 i2 s.heap h'->Q (some (.ref s.heap.objs.size)) { s with heap:=h' })
  (hE:∀h',(xs[k]?=none\/ys[k]?=none)->zXe z TO i1 i2 s.heap h'->Q none { s with heap:=h' }):↥(pyNext (.ref z)) Q E s:=by
 have hT:s.TypeIs (.ref z) "zip":=⟨_,hz,rfl⟩
 refine aj (ph (o6 (name:=gW "__next__") hT BE (j1 BE hT O0
  (zX5 hh D hz hTI hTO h1 h2 hl1 hl2 (λh' x y a1 a2 a3 a4 a5 a6 a7 a8=>az (hQ h' x y a1 a2 a3 a4 a5 a6 a7 a8)) λh' e d kk q=>?_) (Pj _))))
 exact aj (BM (b:=true) q F5 (az (hE _ d kk)))
theorem zX7(os:List aL):∀h:aw,zX2 h (os.foldl Heap.push h):=by
 induction os with
 | nil=>exact λh c o q=>q
 | cons o os ih=>exact λh c o' q=>ih _ c o' (aV _ q)
theorem zX8(os:List aL):∀(h:aw) (i:Nat) (o:aL),os[i]?=some o->o.isFreed=false->(os.foldl Heap.push h).get? (h.objs.size+i)=some o:=by
 induction os with
 | nil=>exact λh i o e=>by cases e
 | cons o' os ih =>
  intro h i o e f
  cases i with
  | zero=>cases e; exact zX7 os _ _ _ (b8 _ f)
  | succ i =>
   have:=ih (h.push o') i o e f
   rw[gX,Nat.add_right_comm] at this
   exact this
theorem zX9{l1 l2:ae}{xs ys:Array aa}{Q:aa->ai->Prop}(hl1:s.heap.IsTuple l1 xs) (hl2:s.heap.IsTuple l2 ys)
  (h:∀h' n,n=s.heap.objs.size->IsZip h' (n+4) (n+2) (n+3) .none->IsPair h' (n+2) (.ref n) (.ref (n+1))->IsPair h' (n+3) .none .none->h'.IsTupleIter n l1 0->h'.IsTupleIter (n+1) l2 0->zX2 s.heap h'->Q (.ref (n+4)) { s with heap:=h' }) :
  ↥(NR (.type "zip") [.ref l1,.ref l2]) Q E s:=by
 let os (n:Nat):List aL:=[{ cls:=.type "tuple_iterator",data:=.fields #[.ref l1,.int 0 0] },{ cls:=.type "tuple_iterator",data:=.fields #[.ref l2,.int 0 0] },{ cls:=.type "tuple",data:=.seq #[.ref n,.ref (n+1)] },
  { cls:=.type "tuple",data:=.seq #[.none,.none] },{ cls:=.type "zip",data:=.fields #[.none,.bool false,.bool false,.ref (n+2),.ref (n+3)] }]
 let hp (n:Nat) (h:aw):aw:=(os n).foldl Heap.push h
 have M:Meets (Builtin.«zip.__new__» ⟨[.type "zip",.ref l1,.ref l2],[]⟩) (λ_ R s=>s.heap.IsTuple l1 xs/\s.heap.IsTuple l2 ys/\R (.ok (.ret (.ref (s.heap.objs.size+4)))) { s with heap:=hp s.heap.objs.size s.heap }):=
  .of_wp λprog w A R s q=>by
   obtain⟨h0,g,d,tk,os⟩:=s
   obtain⟨q1,q2,q3⟩:=q
   have e1:N7 (NV ⟨h0,g,d,tk,os⟩) l1 xs:=q1
   have e2:N7 (NV ⟨h0.push { cls:=.type "tuple_iterator",data:=.fields #[.ref l1,.int 0 0] },g,d,tk,os⟩) l2 ys:=Yu q2 _
   have hs:=sub_zip
   wp_walk using GJ e1,GJ e2
   simp only[gX]
   exact⟨_,rfl,q3⟩
 refine callType_new F.called_zip (by rfl) (F.typeCall_zip_2 _ _) (F.newCall_zip_2 _ _) (λobj=>F.args_object_init_3 obj _ _) F.entry_zip_new M ⟨hl1,hl2,?_⟩
 have at':∀i o,(os s.heap.objs.size)[i]?=some o->o.isFreed=false->(hp s.heap.objs.size s.heap).get? (s.heap.objs.size+i)=some o:=zX8 _ _
 exact⟨⟨_,at' 4 _ rfl rfl,rfl⟩,h _ _ rfl (at' 4 _ rfl rfl) (at' 2 _ rfl rfl) (at' 3 _ rfl rfl) ⟨_,at' 0 _ rfl rfl,rfl,rfl⟩ ⟨_,at' 1 _ rfl rfl,rfl,rfl⟩ (zX7 _ _)⟩
end
section
variable {prog:aD}{w:aB}{A:aT}{E:aa->ai->Prop}{s:ai}
theorem zc1{z TI TO i1 i2 l1 l2:ae}{k:Nat}{xs ys:Array aa}{x y a b:aa}{Q:Option aa->ai->Prop} (D:ZipApart z TI TO i1 i2 l1 l2) (hz:IsZip s.heap z TI TO .none)
  (hp:IsPair s.heap TI (.ref i1) (.ref i2)) (ho:IsPair s.heap TO a b) (h1:s.heap.IsTupleIter i1 l1 k) (h2:s.heap.IsTupleIter i2 l2 k) (m1:s.heap.IsTuple l1 xs) (m2:s.heap.IsTuple l2 ys) (hx:xs[k]?=some x) (hy:ys[k]?=some y)
  (q:∀h',IsZip h' z TI TO (rawInt s.heap.objs.size)->IsPair h' TO x y->h'.IsTupleIter i1 l1 (k+1)->h'.IsTupleIter i2 l2 (k+1)->IsPair h' s.heap.objs.size x y->True->zXe z TO i1 i2 s.heap h'->Q (some (.ref s.heap.objs.size)) { s with heap:=h' }):↥(pyNext (.ref z)) Q E s:=
 zX6 (λe=>by simp [hx,hy] at e) D hz hp ho h1 h2 m1 m2 (λh' x' y' e1 e2 a1 a2 a3 a4 a5 a6=>by rw[hx] at e1; rw[hy] at e2; cases e1; cases e2; exact q h' a1 a2 a3 a4 a5 trivial a6) λ_ e _=>by simp [hx,hy] at e
theorem zdb{z TI TO i1 i2 l1 l2:ae}{k:Nat}{xs ys:Array aa}{a b:aa}{Q:Option aa->ai->Prop} (hh:A.handled=none) (D:ZipApart z TI TO i1 i2 l1 l2) (hz:IsZip s.heap z TI TO .none)
  (hp:IsPair s.heap TI (.ref i1) (.ref i2)) (ho:IsPair s.heap TO a b) (h1:s.heap.IsTupleIter i1 l1 k) (h2:s.heap.IsTupleIter i2 l2 k) (m1:s.heap.IsTuple l1 xs) (m2:s.heap.IsTuple l2 ys) (d:xs[k]?=none\/ys[k]?=none)
  (q:∀h',zXe z TO i1 i2 s.heap h'->Q none { s with heap:=h' }):↥(pyNext (.ref z)) Q E s:=
 zX6 (λ_=>hh) D hz hp ho h1 h2 m1 m2 (λ_ _ _ e1 e2 _ _ _ _ _ _=>by simp [e1,e2] at d) λh' _ a=>q h' a
theorem zj1{l1 l2:ae}{xs ys:Array aa}{Q:aa->ai->Prop} (m1:s.heap.IsTuple l1 xs) (m2:s.heap.IsTuple l2 ys)
  (q:∀h',IsZip h' (s.heap.objs.size+4) (s.heap.objs.size+2) (s.heap.objs.size+3) .none->IsPair h' (s.heap.objs.size+2) (.ref s.heap.objs.size) (.ref (s.heap.objs.size+1))->IsPair h' (s.heap.objs.size+3) .none .none->h'.IsTupleIter s.heap.objs.size l1 0->h'.IsTupleIter (s.heap.objs.size+1) l2 0->True->zX2 s.heap h'->Q (.ref (s.heap.objs.size+4)) { s with heap:=h' }):↥(NR (.type "zip") [.ref l1,.ref l2]) Q E s:=
 zX9 m1 m2 λh' n e a1 a2 a3 a4 a5 a6=>by subst e; exact q h' a1 a2 a3 a4 a5 trivial a6
end
end PySem
namespace L2
open PySem PySem.Spec PyProof.Rows
noncomputable def Hw(K:ar)(a b:ae):It:=
 ⟨λi H=>∃xs ys x y,bF K H a xs/\bF K H b ys/\xs[i]?\x/\ys[i]?\y,λi H v H'=>∃t,v=.ref t/\H t=none/\∀xs ys,bF K H a xs->bF K H b ys->∃x y,xs[i]?\x/\ys[i]?\y/\H'=upd H t (.tup [x,y]),
  λi H=>∃xs ys,bF K H a xs/\bF K H b ys/\(xs.length<=i\/ys.length<=i)⟩
theorem znG{K:ar}(a b z TI TO n m)(D:ZipApart z TI TO n m a b):Turn P w K (.Tuple elts x1 uw) (Hw K a b) [z,TI,TO,n,m] z
  (λi h=>IsZip h z TI TO .none/\IsPair h TI (.ref n) (.ref m)/\(∃a b,IsPair h TO a b)/\h.IsTupleIter n a i/\h.IsTupleIter m b i) where
 mem:=by show .head _
 obj:=λi h st c f=>by
  obtain⟨l,j,⟨u,v,r⟩,⟨o1,g1,_,d1⟩,⟨o2,g2,_,d2⟩⟩:=st;grind
 keep:=λi h h' st k=>by
  obtain⟨l,j,⟨u,v,r⟩,B,A⟩:=st;show⟨k z (by show .head _) _ l,k TI (by show .tail _ (.head _)) _ j,⟨u,v,k TO (by show .tail _ (.tail _ (.head _))) _ r⟩,B.at λo q=>k n (by show .tail _ (.tail _ (.tail _ (.head _)))) o q,A.at λo q=>k m ∅ o q⟩
 item:=by
  intro X O hw Q f i J' s σ H E I hf st hg;subst O hw Q;let⟨xs,ys,x,y,F,G,N,S⟩:=hg;let⟨its,J,p,hz⟩:=I.tuple F;let⟨C,M,L,V⟩:=I.tuple G;let⟨u,Y,U⟩:=J.get N;let⟨v,hv,Lm⟩:=M.get S;obtain⟨l,j,⟨c,d,r⟩,B,A⟩:=st;show zc1 D l j r B A (show s.heap.IsTuple a its.toArray from p) (show s.heap.IsTuple b C.toArray from L) (x:=u) (y:=v) (by simpa using Y) (by simpa using hv) λh' a1 a2 a3 a4 a5 a6 kk=>?_
  show⟨_,rfl,QP a1 λR b1 t=>?_⟩;have Mx:*...*≠z:=jd (aX l);have W:H *...*=none:=I.aJ.fresh (aW _);have Z:R.get? *...*=some { cls:=.type "tuple",data:=.seq #[u,v] }:=t.extBut _ _ Mx a5;have new:dX X.prog X.w (upd H *...* (.tup [x,y])) R *...* (.tup [x,y]):=⟨IL,[u,v],.cons U (.cons Lm .nil),⟨_,Z,rfl,_,rfl⟩⟩
  have lt:∀{c o},s.heap.get? c\o->c≠*...*:=λe=>bJ (aX e)
  show⟨.ref *...*,upd H *...* (.tup [x,y]),I.Lb (fp:=[z,TI,TO,n,m]) (t':=s.toks) (λc o f q=>t.extBut c o (λe=>f (by show e▸.head _)) (kk c o (λe=>f (by show e▸.head _)) (λe=>f (by show e▸.tail _ (.tail _ (.head _)))) (λe=>f (by show e▸.tail _ (.tail _ (.tail _ (.head _))))) (λe=>f (by show e▸.tail _ (.tail _ (.tail _ (.tail _ (.head _)))))) q)) hf (aW _) new,rfl,
   ⟨_,rfl,W,λzs ws h6 h7=>⟨x,y,by rw[I.D0 h6 F];show N,by rw[I.D0 h7 G];show S,rfl⟩⟩,
   ⟨b1,t.extBut _ _ D.TIz (kk _ _ D.TIz D.TITO D.TIi1 D.TIi2 j),⟨_,_,t.extBut _ _ D.TOz a2⟩,a3.extBut t.extBut D.i1z,a4.extBut t.extBut D.i2z⟩,IK (λb hb=>(hf b hb).1) λc f=>?_⟩
  simp![bx,gC,or_false] at f;rcases f with rfl | rfl | rfl | rfl | rfl
  .exact lt l
  .exact lt j
  .exact lt r
  .obtain⟨_,g,_⟩:=B;show lt g
  obtain⟨_,g,_⟩:=A;show lt g
 done:=by
  intro X O hw Q f i J' s σ H E I hf st hg;subst O hw Q;let⟨xs,ys,F,G,N⟩:=hg;let⟨its,J,p,hz⟩:=I.tuple F;let⟨C,M,L,V⟩:=I.tuple G;obtain⟨l,j,⟨c,d,r⟩,B,A⟩:=st;have l1:=J.length;have l2:=M.length;have T:its.toArray[i]?=none\/C.toArray[i]?=none:=by
   cbv
  show zdb (I.ok.hd f) D l j r B A (show s.heap.IsTuple a its.toArray from p) (show s.heap.IsTuple b C.toArray from L) T λh' kk=>⟨rfl,I.uv (fp:=[z,TI,TO,n,m]) (t':=s.toks) (λc o f q=>kk c o (λe=>f (by show e▸.head _)) (λe=>f (by show e▸.tail _ (.tail _ (.head _)))) (λe=>f (by show e▸.tail _ (.tail _ (.tail _ (.head _))))) (λe=>f (by show e▸.tail _ (.tail _ (.tail _ (.tail _ (.head _)))))) q) hf⟩
 self:=λ_ _ _ _ _ st h=>ym st.1 h
def zv0(K:ar)(d:TA):TI:=λσ H R=>d σ H λc H1=>∃a b,c=[.ref a,.ref b]/\(((∃xs,bM K H1 a xs)/\(∃ys,bM K H1 b ys)/\R (Fh K a b) H1)\/((∃xs,bF K H1 a xs)/\(∃ys,bF K H1 b ys)/\R (Hw K a b) H1))
theorem zsA(hg:Gl X "zip")(hm:X.mg "zip"=none)(ha:PA X [a,b] z)(D:starEach [a,b] X.env=[(false,eval a X.env),(false,eval b X.env)]:=by rfl)(A:starEach [b] X.env=[(false,eval b X.env)]:=by rfl) :
  PI X (.Tuple elts x1 uw) (.Call (.Name "zip" p) [a,b] [] pos) (zv0 X.K z):=by
 intro S s σ H R I h;show Call_ (kO I hg hm boot_zip (qB (aR (ha pos S s σ H _ I h) λus s1 ⟨U,H1,I1,r1,o⟩=>?_) (by rw[D,A]) (by rw[A];rfl)));let⟨l,j,e,o⟩:=o;subst e;let⟨u,v,rfl,C,B⟩:=oh r1;cases C;cases B;rcases o with⟨⟨xs,r⟩,⟨ys,n⟩,q⟩ | ⟨⟨xs,r⟩,⟨ys,n⟩,q⟩
 .let⟨its,Z,i,Z⟩:=I1.list r;let⟨its',Z,g,Z⟩:=I1.list n;show call_zip_2 i.isList g.isList λh' f y x w t E kk=>?_
  show ym f ?_;show⟨s1.heap.objs.size+4,[s1.heap.objs.size+4,s1.heap.objs.size+2,s1.heap.objs.size+3,s1.heap.objs.size,s1.heap.objs.size+1],_,_,H1,rfl,I1.kept (t':=s1.toks) kk,Uo l j _ _ _ _ _ (J4 _),
   ⟨f,y,⟨_,_,x⟩,w,t⟩,λb hb=>?_,q⟩
  have d:s1.heap.objs.size<=b:=by
   grind
  show I1.oS d (I1.aJ.fresh d)
 let⟨its,Z,i,Z⟩:=I1.tuple r;let⟨its',Z,g,Z⟩:=I1.tuple n;have g1:l<s1.heap.objs.size:=by let⟨Z,e,Z⟩:=i;show aX e
 have g2:j<s1.heap.objs.size:=by let⟨Z,e,Z⟩:=g;show aX e
 show zj1 (show s1.heap.IsTuple l its.toArray from i) (show s1.heap.IsTuple j its'.toArray from g) λh' f y x w t E kk=>?_
 show ym f ?_;let⟨Q,P,O,N,M,L,J,G,F,T⟩:=J4 s1.heap.objs.size;have c:∀{m:ae}(k:Nat),m<s1.heap.objs.size->m≠s1.heap.objs.size+k:=λ{m} k h=>bJ (gm h (Pa _ _))
 show⟨s1.heap.objs.size+4,[s1.heap.objs.size+4,s1.heap.objs.size+2,s1.heap.objs.size+3,s1.heap.objs.size,s1.heap.objs.size+1],_,_,H1,rfl,I1.kept (t':=s1.toks) kk,
  znG l j _ _ _ _ _ ⟨Q,P,O,N,M,L,J,G,F,T,c 4 g1,c 3 g1,c 0 g1,c 1 g1,c 4 g2,c 3 g2,c 0 g2,c 1 g2⟩,
  ⟨f,y,⟨_,_,x⟩,w,t⟩,λb hb=>?_,q⟩
 have d:s1.heap.objs.size<=b:=by
  grind
 show I1.oS d (I1.aJ.fresh d)
theorem znH{K:ar}(h:bF K G a xs)(r:av K G xs ds)(h':bF K G b ys)(m:av K G ys j):Walk K (Hw K a b) G (lE ds j):=by
 show⟨λi d l H' hd s1 s2=>?_,λl H' s1 s2=>⟨xs,ys,s2.kW (s1.kW h),s2.kW (s1.kW h'),?_⟩⟩
 .unfold lE at hd;rw[Qt] at hd;cases e:ds[i]? with
  | none=>rw[e] at hd;cases hd
  | some d'=>
   cases k:j[i]? with
   | none=>rw[e,k] at hd;cases hd
   | some C=>
    rw[e,k] at hd;cases hd;let⟨v,hv,w⟩:=r.get e;let⟨f,n,A⟩:=m.get k;have p:bF K H' a xs:=s2.kW (s1.kW h);have q:bF K H' b ys:=s2.kW (s1.kW h');show⟨⟨xs,ys,v,f,p,q,hv,n⟩,λu E z=>?_⟩;let⟨t,rfl,ht,y⟩:=z;let⟨x,B,o,s,rfl⟩:=y xs ys p q;rw[hv] at o;rw[n] at s;cases o;cases s;have c:Ext l H' (upd l t (.tup [v,f])) (upd H' t (.tup [v,f])):=.new s2 ht;show⟨_,c,Jq cw ((w.mono s1).mono c.g) ((A.mono s1).mono c.g)⟩
 rw[r.length,m.length];unfold lE;rw[P6];lia
def yL(ts:dg):eU:=λρ Q=>ts ρ λds=>match ds with
 | [.lst a,.lst fs]=>Q (lE a fs)
 | [.tup a,.tup fs]=>Q (lE a fs)
 | _=>False
theorem zqc(hm:X.mg "zip"=none)(ha:ik X [a,b] ts)(hg:Gl X "zip":=by rfl)(u:starEach [a,b] X.env=[(false,eval a X.env),(false,eval b X.env)]:=by rfl)(r:starEach [b] X.env=[(false,eval b X.env)]:=by rfl) :
  PId X (.Tuple e n tp) (.Call (.Name "zip" p) [a,b] [] pos) (yL ts):=by
 let⟨t,pp,q⟩:=ha;show⟨_,zsA hg hm pp u r,λρ σ y w G H Q P E h k=>q ρ σ y w G H _ _ E h λz H' ds m x rs f=>?_⟩;split at f
 .let⟨v,o,rfl,g,l⟩:=vV rs;let⟨a,xs,rfl,d,j⟩:=g;let⟨b,ys,rfl,c,i⟩:=l;show⟨a,b,rfl,.inl ⟨⟨xs,(x.s.cm d).sq⟩,⟨ys,(x.s.cm c).sq⟩,k _ H' _ m x (Uj d j c i) f⟩⟩
 .let⟨v,o,rfl,g,l⟩:=vV rs;let⟨a,xs,rfl,d,j⟩:=g;let⟨b,ys,rfl,c,i⟩:=l;show⟨a,b,rfl,.inr ⟨⟨xs,x.s.nq d⟩,⟨ys,x.s.nq c⟩,k _ H' _ m x (znH (bF.of d) j (bF.of c) i) f⟩⟩
 show f.elim
theorem Vw(b:List Int):∀n,n<=b.length->preSum (λi=>b.getD i 0) n=(b.take n).sum
 | 0,_=>by simp[preSum]
 | n+1,h=>by
  have d:=Vw b n (by room);show preSum (λi=>b.getD i 0) n+b.getD n 0=_;have e:b.take (n+1)=b.take n++[b[n]]:=by rw[dM,bC (by room)];rfl
  rw[d,e,BD,o7,bC (by room)];simp
theorem zv1{a:List (κ×aa)}(r:KV kvs a):∀(i:Nat){k v},a[i]?\(k,v)->∃x,kvs[i]?\(k,x)/\RelV x v:=by
 induction r with
 | nil=>intro i k v h;trivial
 | @cons p q ps c h t b=>
  intro i k v hv;cases i with
  | zero=>
   simp![tN,fA] at hv;subst hv;show⟨p.2,by show congrArg some (Bk h.1 rfl),h.2⟩
  | succ i=>
   show b i hv
def zv2(to:TE):TE:=λσ H Q=>to σ H λx H1=>∃(a:ae)(ks:List (Key×V))(b:Nat)(ns:List Int),x=.ref a/\H1 a\.dK ks b/\ks.map (·.2)=ns.map V.int/\Q (.int ns.sum) H1
theorem zsB(S:X.calm=true)(hg:Gl X "sum")(hm:X.mg "sum"=none)(P:PE X o to)
  (K:attributeBase o "values" X.env (eval o X.env)=eval o X.env:=by rfl) (L:(c.endLine==f.line)=true:=by rfl)
  (R:starEach [NM (.Attribute o "values" c) [] [] f] X.env=[(false,eval (.Call (.Attribute o "values" c) [] [] f) X.env)]:=by rfl) :
  PE X (.Call (.Name "sum" p) [.Call (.Attribute o "values" c) [] [] f] [] pos) (zv2 to):=by
 intro J' s σ H Q I h;show mU (kO I hg hm xV (yA ?_ R rfl));show vG ?_;show QI K L (aR (P J' s σ H _ I h) λv s1 Z=>?_);let⟨x,H1,I1,r1,a,ks,X4,ns,ex,hk,hn,q⟩:=Z;subst ex;let⟨B,W⟩:=IF (T:="dict") I1 r1 (.inr (.inr (.inl ⟨rfl,.inl ⟨ks,X4,hk⟩⟩)));obtain rfl:v=cI a:=r1;show⟨"dict","dict.values",QG,QJ,PySem.F.type_dict_values,B,W,Cc rfl (P8 ?_)⟩;let⟨hz,hd,d,rel,G⟩:=Ie I1.aJ hk;have j:=G;let⟨o',C,D,n,y⟩:=G;have J:a<s1.heap.objs.size:=aX n;have hlen:d.length=ns.length:=by
  rw[<-rel.length];have:=congrArg yb hn;simpa using this
 show N8 QJ B PySem.F.entry_dict_values (PySem.F.args_dict_values_1 _) (meets_dict_values (eR X.prog X.w) a hd) ⟨⟨d,j⟩,?_⟩;show yp ?_;have g:(s1.heap.push { cls:=.type "dict_values",data:=.fields #[.ref a] }).IsValuesView s1.heap.objs.size a:=⟨_,b8 _ rfl,rfl,rfl⟩
 have r:(s1.heap.push { cls:=.type "dict_values",data:=.fields #[.ref a] }).DictAt (eR X.prog X.w) a d D:=⟨o',C,aV _ n,y⟩
 show call_sum_walkG (wpAny_pyIter_values g r ?_);show⟨_,_,_,_,_,_,λi=>ns.getD i 0,rfl,Walks.dictValues (knd:=eR X.prog X.w) (A:=X.A.in1) (by simpa using I1.ok.hd S) _ a ?_ d D,⟨⟨_,b8 _ rfl,rfl,rfl⟩,⟨o',C,aV _ (aV _ n),y⟩⟩,λb hb=>?_,λi v U=>?_,λh' tk t' M=>?_⟩
 .rw[gX];show bJ (j2 J)
 .rw[gX,gX];simp![bx,gC,or_false] at hb;rcases hb with rfl | rfl
  .rw[gX];show BL _
  show j2 (j2 J)
 .let⟨k,hv⟩:=U;let⟨x,O,N⟩:=zv1 rel i hv;have e:=congrArg (λl=>l[i]?) hn;simp![bW,O,fO] at e;cases hi:ns[i]? with
  | none=>rw[hi] at e;cases e
  | some m=>
   rw[hi] at e;have Y:x=V.int m:=by simpa using e
   subst Y;show ∃t,v=o9 (ns.getD i 0) t
   rw[o7,hi];show N
 have e:preSum (λi=>ns.getD i 0) d.length=ns.sum:=by rw[Vw ns d.length (by cbv),hlen,eY]
 rw[e];have keep:∀b ob,s1.heap.get? b\ob->h'.get? b\ob:=λb ob E=>by
  show M b ob (λz=>?_) (aV _ (aV _ E));have u:b=(s1.heap.push { cls:=.type "dict_values",data:=.fields #[.ref a] }).objs.size:=by show dD.1 ‹_›
  rw[gX] at u;have:=aX E;rw[u] at this;show absurd this (xY.mpr (iM _))
 show⟨.int ns.sum,H1,I1.kept keep,⟨_,rfl⟩,q⟩
noncomputable def t7:List (Key×D)->Option (List Int)
 | []=>some []
 | (_,.int i)::r=>(t7 r).map (i::·)
 | _=>none
theorem Vd{K:ar}:∀{ks kvs ns},aU K G ks kvs->t7 kvs\ns->ks.map (·.2)=ns.map V.int
 | [],[],ns,_,h=>by simp![t7,fA] at h;subst h;rfl
 | (a,v)::ks,(b,.int i)::kvs,ns,r,h=>by
  simp![t7,j3] at h;let⟨ms,c,rfl⟩:=h;rw[bO,bO,Vd r.2 c,r.1.2]
 | [],_::_,_,r,_=>by simp![aU] at r
 | _::_,[],_,r,_=>by simp![aU] at r
 | _::_,(_,.non)::_,_,_,h=>by trivial
 | _::_,(_,.bl _)::_,_,_,h=>by trivial
 | _::_,(_,.str _)::_,_,_,h=>by trivial
 | _::_,(_,.tup _)::_,_,_,h=>by trivial
 | _::_,(_,.lst _)::_,_,_,h=>by trivial
 | _::_,(_,.obj _ _)::_,_,_,h=>by trivial
 | _::_,(_,.dic _)::_,_,_,h=>by trivial
 | _::_,(_,.dit _)::_,_,_,h=>by trivial
 | _::_,(_,.exc _ _)::_,_,_,h=>by trivial
 | _::_,(_,.idn _ _)::_,_,_,h=>by trivial
def Z9(a:TD):TD:=λρ Q=>a ρ λr=>match r.val with
 | .dic kvs=>∃ns,t7 kvs\ns/\Q (.fz (.int ns.sum))
 | _=>False
theorem S8(w:X.calm=true)(hm:X.mg "sum"=none)(n:PD X o g)(hg:Gl X "sum":=by rfl)
  (j:attributeBase o "values" X.env (eval o X.env)=eval o X.env:=by rfl) (l:(b.endLine==d.line)=true:=by rfl)
  (u:starEach [NM (.Attribute o "values" b) [] [] d] X.env=[(false,eval (.Call (.Attribute o "values" b) [] [] d) X.env)]:=by rfl) :
  PD X (.Call (.Name "sum" p) [.Call (.Attribute o "values" b) [] [] d] [] pos) (Z9 g):=by
 let⟨t,pp,q⟩:=n;show⟨_,zsB w hg hm pp j l u,λρ σ B z G H Q P E h k=>q ρ σ B z G H _ _ E h λv H' r C x m c=>?_⟩;obtain⟨A,f,i,_⟩:=m.freeze x;split at c
 .rename_i kvs e;let⟨ns,hn,c⟩:=c;rw[e] at i;let⟨a,ks,y,rfl,ha,rk⟩:=i;show⟨a,ks,y,ns,rfl,f.s _ _ ha,Vd rk hn,k _ H' _ A f (bZ (eQ _ _ _)) c⟩
 show c.elim
end L2
namespace PySem
open Sem (wp)
section
variable{prog:aD}{w:aB}{K:Type}[DecidableEq K]{knd:KeyKind prog w K}{A:aT}{R:Result->ai->Prop}{I:ae}{fp wr:List ae}{G:Array GenState->Array GenState->Prop}{n:Nat}{P:Nat->aa->Prop}{St:Nat->ai->Prop}
noncomputable def bK(l:List (K×aa)):List (K×aa):=l.foldl (λacc p=>stored acc p.1 p.2) []
theorem zsC{kvs:List (K×aa)}{i:Nat}{k:K}{y:aa}(e:kvs[i]?\(k,y)):stored (bK (kvs.take i)) k y=bK (kvs.take (i+1)):=by
 unfold bK;have a:kvs.take (i+1)=kvs.take i++[(k,y)]:=by rw[dM,e];rfl
 rw[a,ly];rfl
theorem zlT(l:List (K×aa))(k:K)(y:aa):(stored l k y).length<=l.length+1:=by
 unfold stored;split
 .simp
 simp
theorem R8(l:List (K×aa)):(bK l).length<=l.length:=by
 have:∀(r acc:List (K×aa)),(r.foldl (λacc p=>stored acc p.1 p.2) acc).length<=acc.length+r.length:=by
  intro r;induction r with
  | nil=>intro acc;simp
  | cons p r a=>
   intro acc;have c:=a (stored acc p.1 p.2);have b:=zlT acc p.1 p.2;rw[gY,cL];lia
 simpa[bK] using this l []
theorem znK(W:WalksS prog w A.in1 I fp wr G n P St)(S:ae)(t:S∉fp)(u:aw)(kvs:List (K×aa))(M:kvs.length=n)(hsz:kvs.length<=sizeLine)
  (J:∀i v,P i v->∃k y key a,kvs[i]?\(k,y)/\v=.ref a/\knd.is k key=true/\u.IsTuple a #[key,y]/\a≠S/\a∉wr) :
  ∀(m i:Nat)(s:ai),n-i=m->i<=n->St i s->s.heap.DictOf knd S (bK (kvs.take i))->(∀b o,b≠S->b∉wr->u.get? b\o->s.heap.get? b\o)->
   (∀c,Moved (S::wr) G s c->c.heap.DictOf knd S (bK kvs)->R (.ok (.ret .none)) c)->codeAny (model prog w) A (.builtin "dict.update.loop" ⟨[.ref S,.ref I,rawInt (i:Int),.none],[]⟩) R s:=by
 have l:S∉wr:=λh=>t (W.sub _ h)
 have more:∀b∈wr,b∈S::wr:=λb hb=>eh _ hb
 intro m;induction m with
 | zero=>
  intro i s hk hi st T iP q;have e:i=n:=by grind
  subst e;show i8 DT ?_;show aj (W.done s _ _ st λc hm=>?_);rw[<-M,eY] at T;show aj (az (az (q c (hm.mono more) ?_)));let⟨o,g,j,f,r⟩:=T;show⟨o,g,j,hm.heap S _ l f,r⟩
 | succ m L=>
  intro i s hk hi st T iP q;have B:i<n:=by grind
  show i8 DT ?_;show aj (W.item i s _ _ B st λv c U X hm=>?_);let⟨k,y,key,a,F,rfl,H,Q,Mw,D⟩:=J i v U;have Z:c.heap.DictOf knd S (bK (kvs.take i)):=by
   let⟨o,g,j,f,r⟩:=T;show⟨o,g,j,hm.heap S _ l f,r⟩
  let⟨o,N,O,nn,hd⟩:=Q;have x:c.heap.get? a=some o:=hm.heap a o D (iP a o Mw D N);show aj (eX ?_);show aj (tf ?_);show aj (pe (T:="tuple") ⟨o,x,O⟩ ?_);show aj (jZ x hd ?_);show az ?_;show eX (P5 (hsz:=by have:=R8 (kvs.take i);rw[eJ] at this;lia) H Z λh' C d=>?_);rw[zsC F] at C;show az ⟨jB DS _,L (i+1) _ (by grind) B (W.frame _ c _ _ X (iM _) λb hb o e=>?_) C (λb o p E e=>?_) λs2 V Y=>?_⟩
  .rw[d.2 b (λz:b=S=>t (by rw[<-z];show hb))];show e
  .rw[d.2 b p];show hm.heap b o E (iP b o p E e)
  show q s2 (Moved.trans W.gtrans ((hm.mono more).then_heap (iM _) λb o hb e=>?_) V) Y;rw[d.2 b (λz:b=S=>hb (by rw[z];show lA))];show e
end
section
variable{prog:aD}{w:aB}{K:Type}[DecidableEq K]{knd:KeyKind prog w K}{A:aT}{E:aa->ai->Prop}{s:ai}
theorem zj3{l:ae}{items:List aa}{kvs:List (K×aa)}{Q:aa->ai->Prop}(hh:A.handled=none)(N:∃o n,s.heap.get? l=some o/\o.cls=.type "list"/\o.dict=none/\o.data=.seq items.toArray n)(X:kvs.length=items.length)(hsz:kvs.length<=sizeLine)
  (I:∀(i:Nat)(v:aa),items[i]?\v->∃k y key a,kvs[i]?\(k,y)/\v=.ref a/\knd.is k key=true/\s.heap.IsTuple a #[key,y])
  (h:∀h' tk,h'.DictOf knd *...* (bK kvs)->(∀b o,s.heap.get? b\o->h'.get? b\o)->Q (.ref *...*) { s with heap:=h',toks:=tk }) :
  ↥(call (.type "dict") [.ref l]) Q E s:=by
 let⟨ol,nl,x,p,H,t⟩:=N;show OB (Q₁:=λobj C=>obj=.ref *...*/\C={ s with heap:=s.heap.push { cls:=.type "dict",data:=.dict #[] } }) O6 (Qi _) Po (O5 _ ⟨rfl,rfl⟩) ?_;rintro obj C ⟨rfl,rfl⟩;have j:(s.heap.push { cls:=.type "dict",data:=.dict #[] }).DictOf knd *...* []:=OR s.heap;show⟨j.typeIs,PJ _ _,?_⟩;have m:(s.heap.push { cls:=.type "dict",data:=.dict #[] }).get? l=some ol:=aV _ x;unfold Builtin.«dict.__init__»;show aj ?_;unfold YN;show aj (Ca j.typeIs ?_);show wpAny _ _ (pure (*...*,[cI l])) _ _ _;show az ?_;show wpAny _ _ (QE "dict.__init__" *...* (.ref l) [] .none) _ _ _;unfold QE;show aj (pe (T:="list") ⟨_,m,p⟩ ?_);rw[if_pos (by rfl)];show aj (VH m p t H VF (by rfl) (by simpa using hh) ?_);intro h' tk e ne;simp![Option.isNone_none,dF];show aj (kH ?_);have kp:∀b o,(s.heap.push { cls:=.type "dict",data:=.dict #[] }).get? b=some o->h'.get? b=some o:=ne.keeps
 have B:h'.IsList l items.toArray:=⟨_,kp _ _ m,p,nl,t⟩
 have D:h'.DictOf knd *...* []:=by
  let⟨o,f,g,c,r⟩:=j;show⟨o,f,g,kp _ _ c,r⟩
 have u:l< *...*:=aX x;have d:*...*<h'.objs.size:=by
  let⟨o,f,g,c,r⟩:=D;show aX c
 show aj (tH B (az ⟨jB DS _,?_⟩));have V:l≠h'.objs.size:=bJ (nV u d);have L:*...*∉[h'.objs.size,l]:=by
  simp![bx,gC,or_false,not_or];show⟨bJ d,jd u⟩
 have U:A.in1.in1.handled=none:=by simpa using hh
 show znK ((vg U _ l V items.toArray).toS) *...* L s.heap kvs (by trivial) hsz (λi v hv=>?_) (items.toArray.size-0) 0 _ rfl (du _)
  ⟨⟨_,b8 _ rfl,rfl,rfl⟩,(B.push _)⟩ (by
   let⟨o,f,g,c,r⟩:=D;show⟨o,f,g,aV _ c,r⟩) (λb o W Y e=>aV _ (kp _ _ (aV _ e))) ?_
 .rw[yv] at hv;let⟨k,y,key,a,c,q,O,z⟩:=I i v hv;have ha:a< *...*:=by let⟨o,M,Z⟩:=z;show aX M
  show⟨k,y,key,a,c,q,O,z,bJ ha,?_⟩;simp![dD];show bJ (nV ha d)
 intro F hm T;let⟨q,g',d',J,G⟩:=F;have R:g'=s.gens:=hm.gens;have S:d'=s.drawn:=hm.drawn;have P:G=s.os:=hm.os;subst R S P;show⟨rfl,h q J T λb o e=>?_⟩;have hb:b< *...*:=aX e;show hm.heap b o ?_ (aV _ (kp _ _ (aV _ e)));simp![bx,gC,or_false,not_or];show⟨bJ hb,bJ (nV hb d)⟩
end
end PySem
namespace L2
open PySem PySem.Spec PyProof.Rows
noncomputable def C1(ks:List (Key×V)):List (Key×V):=ks.foldl (λacc p=>mi acc p.1 p.2) []
noncomputable def Jk(kvs:List (Key×D)):List (Key×D):=kvs.foldl (λacc p=>je acc p.1 p.2) []
theorem zuB:∀{ks c b}{a:List (Key×aa)},KV ks c->KV b a->KV (ks.foldl (λacc p=>mi acc p.1 p.2) b) (c.foldl (λacc p=>stored acc p.1 p.2) a):=by
 intro ks c b a r;induction r generalizing b a with
 | nil=>intro h;show h
 | @cons p q ps e h t d=>
  intro ha;rw[gY,gY];show d ?_;rw[<-h.1];show ha.put p.1 h.2
theorem T4{K:ar}:∀{ks kvs d c},aU K G ks kvs->aU K G d c->aU K G (ks.foldl (λacc p=>mi acc p.1 p.2) d) (kvs.foldl (λacc p=>je acc p.1 p.2) c)
 | [],[],_,_,_,h=>h
 | a::ks,b::kvs,d,c,r,h=>by
  rw[gY,gY];show T4 r.2 ?_;rw[<-r.1.1];show h.put r.1.2
 | [],_::_,_,_,r,_=>by simp![aU] at r
 | _::_,[],_,_,r,_=>by simp![aU] at r
theorem zlU(m:X.calm=true):fk X (.type "dict") (λxs H Q=>∃p ys ks,xs=[V.ref p]/\bM X.K H p ys/\kC X.K H ys ks/\∀l c,H l=none->Q (.ref l) (upd H l (.dK (C1 ks) c))):=by
 intro B s σ H xs us Q I r h;let⟨p,ys,ks,rfl,k,e,q⟩:=h;let⟨u,rfl,i⟩:=gH r;cases i;let⟨its,d,pl,hz⟩:=I.list k;let⟨b,kv,j⟩:=e.vals I d;have hlen:b.length=its.length:=by rw[<-kv.length,<-e.length,d.length]
 let⟨o,n,y,x,v,t⟩:=pl;have g:b.length<=sizeLine:=by rw[hlen,<-d.length];show hz
 have f:KV (C1 ks) (bK b):=zuB kv (by show .nil);show zj3 (knd:=eR X.prog X.w) (kvs:=b) (items:=its) (I.ok.hd m) ⟨o,n,y,x,v,t⟩ hlen g j λh' tk z kp=>?_
 have hf:H *...*=none:=I.aJ.fresh (aW _);let⟨c,A⟩:=HN z;show⟨.ref *...*,_,I.laid (a:=*...*) (o:=.dK (C1 ks) c) (t':=tk) kp (aW _) (Iz (by rw[f.length];show gB (R8 b) g) ?_ f A),rfl,q _ c hf⟩;have hb:=I.big;simpa using jd hb
def IB:bB:=λds Q=>match ds with
 | [.lst a]=>match pairsOf a with
  | some kvs=>Q (.ov (.dc (Jk kvs)))
  | none=>False
 | _=>False
theorem zsD(j:X.calm=true):jJ X (.type "dict") IB:=by
 show⟨_,zlU j,λG H b ds Q P s r h k=>?_⟩;unfold IB at h;split at h
 .rename_i n;split at h
  .rename_i kvs i;cases b with
   | nil=>simp![av] at r
   | cons v b=>
    cases b with
    | cons=>show r.2.elim
    | nil=>
     obtain⟨⟨a,ys,rfl,ha,e⟩,_⟩:=r;let⟨ks,g,f⟩:=JV s i e;show⟨a,ys,ks,rfl,(s.cm ha).sq,g,λl m c=>?_⟩;show k _ _ (.ov (.dc (Jk kvs))) G (.own s c) ⟨l,[],rfl,by show gu _ _,⟨rfl,C1 ks,m,cw,T4 f aU.nil⟩,λq d=>?_⟩ h;simp![dD] at d;subst d;show⟨c,s.free c⟩
  show h.elim
 show h.elim
def gP(xs:Array Nat):Prop:=xs.toList.Pairwise (·<·)
theorem gP.lt{xs:Array Nat}(h:gP xs){i k:Nat}(hi:i<k)(hk:k<xs.size):xs[i]<xs[k]:=by
 have:=l7.mp h i k (by simpa using nV hi hk) (by simpa using hk) hi;trivial
theorem JB(h:gP xs)(j):∀fuel lo hi,lo<=hi->hi<=xs.size->hi-lo<=fuel->(∀i f,i<lo->xs[i]<j)->(∀i f,hi<=i->j<=xs[i])->
  BP xs j fuel lo hi<=xs.size/\(∀i f,i<BP xs j fuel lo hi->xs[i]<j)/\∀i f,BP xs j fuel lo hi<=i->j<=xs[i]
 | 0,lo,hi,n,g,m,a,b=>by
  have e:lo=hi:=by grind
  subst e;show⟨g,a,b⟩
 | fuel+1,lo,hi,n,g,m,a,b=>by
  unfold BP;by_cases c:lo<hi
  .rw[if_pos c];have hm:(lo+hi)/2<xs.size:=by lia
   have hg:xs.getD ((lo+hi)/2) j=xs[(lo+hi)/2]:=by simp[xW,hm]
   simp![hg];by_cases d:xs[(lo+hi)/2]<j
   .rw[if_pos d];show JB h j fuel _ hi (by lia) g (by grind) (λi f o=>?_) b;by_cases e:i=(lo+hi)/2
    .subst e;show d
    show nV (h.lt (by lia) hm) d
   rw[if_neg d];show JB h j fuel lo _ (by lia) (by room) ⋯ a (λi f hle=>?_);by_cases e:i=(lo+hi)/2
   .subst e;cbv
   have:=h.lt (show(lo+hi)/2<i by lia) f;ext
  rw[if_neg c];have e:lo=hi:=by lia
  subst e;show⟨g,a,b⟩
theorem Kg(h:gP xs)(j):jC xs j<=xs.size/\(∀i b,i<jC xs j->xs[i]<j)/\∀i b,jC xs j<=i->j<=xs[i]:=
 JB h j xs.size 0 xs.size (du _) (aW _) (by cbv) (λi _ z=>absurd z (Nat.not_lt_zero _)) (λi hi z=>absurd hi (by room))
theorem zlV(h:gP xs)(i hi):jC xs (xs[i]+1)=i+1:=by
 let⟨a,b,c⟩:=Kg h (xs[i]+1);generalize jC xs (xs[i]+1)=p at a b c;by_cases e:p<=i
 .have:=c i hi e;room
 by_cases d:i+1<p
 .have:=b (i+1) (by room) d;have:=h.lt (show i<i+1 by room) (show i+1<xs.size by room);room
 lia
theorem zlW(h:gP xs):jC xs 0=0:=by
 let⟨a,b,c⟩:=Kg h 0;generalize jC xs 0=p at a b c;cases p with
 | zero=>rfl
 | succ p=>
  have:=b 0 (by room) (by cbv);room
theorem zhQ(xs p)(x:a):(Gv xs p x).toList=xs.toList.take p++x::xs.toList.drop p:=by
 unfold Gv;simp![Array.toList_append,GA,Array.toList_extract,List.extract_eq_take_drop,N9,OF,BU,List.singleton_append];congr 2
 show o4 ∅
theorem zj5(h:gP xs)(j)(m:xs[jC xs j]?≠some j):gP (Gv xs (jC xs j) j):=by
 let⟨a,b,c⟩:=Kg h j;unfold gP;rw[zhQ];generalize o:jC xs j=p at a b c m;have e:xs.toList=xs.toList.take p++xs.toList.drop p:=(B8 _ _).symm;have h':=h;unfold gP at h';rw[e,vH] at h';let⟨t1,n,t3⟩:=h';have lo:∀x∈xs.toList.take p,x<j:=λx d=>by
  let⟨i,hi,rfl⟩:=Cf.mp d;have f:i<xs.size:=by simp at hi;lia
  have:=b i f (by grind);trivial
 have up:∀x∈xs.toList.drop p,j<x:=λx d=>by
  let⟨i,hi,rfl⟩:=List.mem_drop_iff_getElem.mp d;have f:p+i<xs.size:=by simp at hi;lia
  have t:=c (p+i) f (by lia);have s:j≠xs[p+i]:=λz=>by
   cases i with
   | zero=>show m (by rw[nR (by room)];show congrArg some z.symm)
   | succ i=>
    have r:=c p (by lia) (aW _);have q:=h.lt (show p<p+(i+1) by lia) f;ext
  simp;lia
 rw[vH,vD];show⟨t1,⟨up,n⟩,λx d y g=>?_⟩;rcases bx.mp g with rfl | g
 .exact lo x d
 show nV (lo x d) (up y g)
theorem Vc{t:SetTable}(h:t.slot j=.empty\/t.slot j=.dummy):t.place[jC t.place j]?≠some j:=λz=>by
 have e:t.slot j=.live (jC t.place j):=by
  unfold SetTable.slot;simp[z]
 rw[e] at h;rcases h with h | h<;>cases h
theorem JA:∀fuel p j a,(∀d,p.dummy\d->t.slot d=.dummy)->Ph t ha h fuel p\.empty j a->t.slot j=.empty/\∀d,a\d->t.slot d=.dummy
 | 0,p,j,a,_,e=>by cases e
 | fuel+1,p,j,a,hd,e=>by
  have c:∀q:Ow,(t.advance q).dummy=q.dummy:=λq=>by
   unfold SetTable.advance;split<;>rfl
  unfold Ph at e;cases b:t.slot p.j with
  | empty=>
   rw[b] at e;cases e;show⟨b,hd⟩
  | dummy=>
   rw[b] at e;show JA fuel _ j a (λd z=>?_) e;rw[c] at z;cases z;show b
  | live i=>
   rw[b] at e;dsimp only at e;split at e
   .cases e
   show JA fuel _ j a (λd z=>?_) e;rw[c] at z;show hd d z
theorem zhS{t:SetTable}(e:t.freeSlot h\(j,b)):t.place[jC t.place j]?≠some j:=by
 unfold SetTable.freeSlot at e;split at e
 .rename_i g f he;let⟨c,a⟩:=JA _ _ _ _ (λd z=>by cases z) he;cases f with
  | none=>cases e;show Vc (.inl c)
  | some d=>cases e;show Vc (.inr (a d rfl))
 cases e
theorem zlX(n):gP (Array.range n):=by
 unfold gP;rw[Array.toList_range];show GY
theorem DQ(t:SetTable)(n):gP (t.standIn n).place:=zlX n
theorem zj6(h:gP t.place)(a hh x):gP (layNew t a hh x).2.1.place:=by
 unfold layNew;split
 .rename_i sl wd he;dsimp only;unfold PM;split
  .exact zj5 h sl (zhS he)
  show DQ _ _
 show DQ _ _
theorem zj7{t t':SetTable}(e:t.relaid c n\(t',o)):gP t'.place:=by
 unfold OU Oj at e;cases d:Pp (PL n-1) c with
 | none=>rw[d] at e;cases e
 | some owner=>
  rw[d] at e;cases e;unfold gP;rw[g6,List.pairwise_filterMap];show GY.imp λ{a b} h x g y f=>?_
  let⟨u,z,rfl⟩:=j3.mp g;let⟨v,z,rfl⟩:=j3.mp f;show h
theorem zhT(b n):gP (relayAll t b n).2.1.place:=by
 unfold relayAll;split
 .rename_i t' order a;dsimp only;split
  .exact zj7 a
  show DQ _ _
 show DQ _ _
namespace SI
open PySem PySem.Spec PyProof.Rows
structure Kn(prog:aD)(w:aB) where
 κ:Type
 dec:DecidableEq κ
 knd:Oq prog w κ
 to:κ->Tok->aa
 un:aa->κ
 LB:∀x t,knd.is x (to x t)=true
 shape:∀x v,knd.is x v=true->∃t,v=to x t
 K9:∀x t,un (to x t)=x
 sc:∀x t,(to x t).scannable=true
 hv:∀x t,∃b,hashByValue 8 (to x t)=pure b
instance {prog:aD} {w:aB} (kn:Kn prog w):DecidableEq kn.κ:=kn.dec
theorem zi2(t d a):(relayAll t d a).2.1.led=t.led:=by
 unfold relayAll;split
 .rename_i t' order b;let⟨c,e⟩:=ziO b;dsimp only;split
  .exact c
  rfl
 rfl
section
variable{prog:aD}{w:aB}{kn:Kn prog w}{A:aT}{E:aa->ai->Prop}{s:ai}
structure abK(w:aB)(es:Array (Int×aa))(t:SetTable):Prop where
 led:t.led=!(w.params.followText "set-order")
 rise:gP t.place
structure eV{prog:aD}{w:aB}(kn:Kn prog w)(h:aw)(a:ae)(es:Array (Int×aa))(ep:Nat)(t:SetTable):Prop where
 at_:h.get? a=some { cls:=.type "set",dict:=none,data:=.set es ep t,slots:=#[] }
 el:ElemsOf kn.knd es.toList
 small:es.size<scanBound
 fits:t.fits es.size=true
 marks:abK w es t
def Mem(kn:Kn prog w)(a:Array (Int×aa))(x:kn.κ):Prop:=∃e∈a.toList,kn.knd.is x e.2=true
theorem zsE(S:eV kn s.heap a d N t)(G:d.size+1<scanBound)
  (h:∀h' D Z t',j6 a s.heap h'->eV kn h' a D Z t'->((D=d/\Mem kn d x)\/(¬Mem kn d x/\Bl D.toList (d.toList++[(kn.knd.hash x,kn.to x tk)])))->∀b,Q b { s with heap:=h' }) :
  ↥(setAddHashed a (kn.to x tk) (kn.knd.hash x)) Q E s:=by
 have I:kn.knd.is x (kn.to x tk)=true:=kn.LB x tk;have R:(kn.to x tk).scannable=true:=kn.sc x tk;have z:=S.at_;show eX (aj (tG z rfl S.fits ?_));dsimp only;rw[byScan_of R S.small S.el];show aj (aj (kH (aj (wpAny_setScan_of I z rfl S.fits S.el ?_))));cases hr:List.findIdx? (λe=>kn.knd.is x e.2) d.toList with
 | some j=>
  obtain⟨hj,y,_⟩:=Hm.mp hr;show az (az ?_);show h s.heap d N t (Yt a s.heap) S (.inl ⟨rfl,d.toList[j],ip hj,y⟩) _
 | none=>
  have M:¬Mem kn d x:=λ⟨e,he,l⟩=>by
   grind
  have way:∀(b:Bool){s1:ai}{i:Unit->ai->Prop},i () s1->↥(match b with | true=>rule "set.scan.the-table-gave-way" | false=>pure ()) i E s1:=λb s1 i q=>by
   cases b
   .exact az q
   show kH q
  have k:=layNew_perm t d (kn.knd.hash x) (kn.to x tk);have o:=layNew_fits t d (kn.knd.hash x) (kn.to x tk);have p:=zlG t d (kn.knd.hash x) (kn.to x tk);have n:=zj6 S.marks.rise d (kn.knd.hash x) (kn.to x tk);generalize layNew t d (kn.knd.hash x) (kn.to x tk)=L at k o p n ⊢;let⟨c,t1,C,acY⟩:=L;rw[GA] at k;have P:ElemsOf kn.knd c.toList:=(S.el.push I R).perm k;have hsz:c.size=d.size+1:=by rw[<-jF,k.length_eq,gj,jF];rfl
  have m:c.size<scanBound:=by cbv
  show aj (way _ ?_)
  -- kU table,not plain any more
  have tail:∀(g:Bool->Sem Unit),(∀(b:Bool)(s1:ai)(i:Unit->ai->Prop),i () s1->↥(g b) i E s1)->∀f:SetTable,f.fits c.size=true->f.led=t.led->gP f.place->↥(do
    storeSet a c f
    if (!C&&f.tooFull)=true then do
        g (relayAll f c (qG c.size)).2.2
        storeSet a (relayAll f c (qG c.size)).1 (relayAll f c (qG c.size)).2.1
        pure (some true)
     else pure (some true)) (λr X=>↥(match r with | some added=>pure added | none=>setAddHashedIn a (kn.to x tk) (kn.knd.hash x) 99999) Q E X) E s:=by
   intro g hg f f2 H Y;show aj (U3 z m λB V g1=>?_);have F:∀b,Q b { s with heap:=B }:=h B c _ f V ⟨g1,P,m,f2,⟨H.trans S.marks.led,Y⟩⟩ (.inr ⟨M,k⟩)
   split
   .have l:=relayAll_perm f c (qG c.size);have K:=relayAll_fits f c (qG c.size);have T:=zi2 f c (qG c.size);have U:=zhT (t:=f) c (qG c.size);generalize relayAll f c (qG c.size)=Rl at l K T U ⊢;let⟨W,t3,acX⟩:=Rl;have J:W.size=c.size:=by rw[<-jF,l.length_eq,jF]
    show aj (hg _ _ _ ?_);show aj (U3 (s:={ s with heap:=B }) g1 (by rw[J];show m) λh2 v g2=>az (az ?_));show h h2 W _ t3 (V.trans v) ⟨g2,P.perm l,by rw[J];show m,K,⟨(T.trans H).trans S.marks.led,U⟩⟩ (.inr ⟨M,l.trans k⟩) _
   show az (az (F _))
  have u:∀(b:Bool)(s1:ai)(i:Unit->ai->Prop),i () s1->↥(match b with | true=>rule "set.scan.the-table-gave-way" | false=>pure ()) i E s1:=λb s1 i q=>by cases b<;>first | show az q | show kH q
  by_cases O:t1.plain=true
  .rw[if_pos O];let⟨b,hb⟩:=kn.hv x tk;rw[hb];show aj (az ?_);cases b with
   | true=>show tail _ u t1 o p n
   | false=>show tail _ u { t1 with plain:=false } (SetTable.fits_plain_off o) p n
  rw[if_neg O];show aj (az (tail _ u t1 o p n))
noncomputable def keysOf(kn:Kn prog w)(a:Array (Int×aa)):List kn.κ:=a.toList.map λe=>kn.un e.2
theorem TZ(el:ElemsOf kn.knd a.toList)(x):Mem kn a x↔x∈keysOf kn a:=by
 unfold Mem keysOf;rw[a9];constructor
 .rintro⟨e,he,hk⟩;let⟨t,ht⟩:=kn.shape _ _ hk;show⟨e,he,by rw[ht,kn.K9]⟩
 rintro⟨e,he,rfl⟩;obtain⟨⟨k,hk,_⟩,_⟩:=el e he;let⟨t,ht⟩:=kn.shape _ _ hk;show⟨e,he,by rw[ht,kn.K9,kn.LB]⟩
theorem Aq(a):(keysOf kn a).length=a.size:=by show aO ..
theorem znM(p:Bl b.toList (a.toList++[(c,kn.to x tk)])):Bl (keysOf kn b) (keysOf kn a++[x]):=by
 have:=p.map λe=>kn.un e.2
 rw[cO,bO,kn.K9] at this;show this
structure Holds{prog:aD}{w:aB}(kn:Kn prog w)(es:Array (Int×aa))(xs:List kn.κ):Prop where
 nd:(keysOf kn es).Nodup
 mem:∀x,x∈keysOf kn es↔x∈xs
 len:es.size<=xs.length
theorem Holds.put(H:Holds kn d xs)(el:ElemsOf kn.knd d.toList)
  (h:(e=d/\Mem kn d x)\/(¬Mem kn d x/\Bl e.toList (d.toList++[(kn.knd.hash x,kn.to x tk)]))):Holds kn e (xs++[x]):=by
 rcases h with⟨rfl,hm⟩ | ⟨hm,f⟩
 .refine⟨H.nd,λy=>?_,by simp;have:=H.len;room⟩;rw[cy,<-H.mem,dD];constructor
  .exact .inl
  rintro(h | rfl)
  .exact h
  show(TZ el _).mp hm
 have hk:=znM f;show⟨hk.nodup_iff.mpr ?_,λy=>?_,?_⟩
 .rw[l5];show⟨H.nd,by show gu _ _,λa ha b hb=>?_⟩;rw[dD.mp hb];rintro rfl;show hm ((TZ el _).mpr ha)
 .rw[hk.mem_iff,cy,cy,H.mem]
 have j:=hk.length_eq;have i:=Aq (kn:=kn) e;have g:=Aq (kn:=kn) d;have:=H.len;cbv
theorem eV.kept(S:eV kn h a b c t)(k:∀o,h.get? a\o->h'.get? a\o):eV kn h' a b c t:=⟨k _ S.at_,S.el,S.small,S.fits,S.marks⟩
end
section
variable{kn:Kn prog w}{R:Result->ai->Prop}{St:Nat->ai->Prop}
theorem znN(W:WalksS prog w A.in1 I fp wr G n P St)(S)(m:S∉fp)(xs)(C:xs.length=n)(y:∀i v,P i v->∃x t,xs[i]?\x/\v=kn.to x t)(hb:n+1<scanBound) :
  ∀k i s c d t,n-i=k->i<=n->St i s->eV kn s.heap S c d t->Holds kn c (xs.take i)->
   (∀a f g t',Moved (S::wr) G s a->eV kn a.heap S f g t'->Holds kn f xs->R (.ok (.ret .none)) a)->codeAny (model prog w) A (.builtin "set.update.loop" ⟨[.ref S,.ref I],[]⟩) R s:=by
 have l:S∉wr:=λh=>m (W.sub _ h)
 have more:∀b∈wr,b∈S::wr:=λb hb=>eh _ hb
 intro k;induction k with
 | zero=>
  intro i s c d t hk hi st T H q;have e:i=n:=by grind
  subst e;show i8 Q4 ?_;show aj (W.done s _ _ st λa hm=>?_);rw[<-C,eY] at H;show az (q a c d t (hm.mono more) (T.kept λo e=>hm.heap S _ l e) H)
 | succ k B=>
  intro i s c d t hk hi st T H q;have p:i<n:=by lia
  show i8 Q4 ?_;show aj (W.item i s _ _ p st λv a E J hm=>?_);let⟨x,tk,O,rfl⟩:=y i v E;have N:eV kn a.heap S c d t:=T.kept λo e=>hm.heap S _ l e
  show aj (eX ?_);show eX (aj (kn.knd.pyHash (k:=x) (kn.LB x tk) ?_));have D:=H.len;rw[eJ] at D;show zsE (s:={ a with toks:=a.toks+1 }) N (by lia) λh' f g t' j M X b=>?_
  have r:xs.take (i+1)=xs.take i++[x]:=by rw[dM,O];rfl
  have U:Holds kn f (xs.take (i+1)):=by rw[r];show H.put T.el X
  show az ⟨jB YX _,B (i+1) _ f g t' (by grind) p (W.frame _ a _ _ J (iM _) λb hb o e=>?_) M U λs2 V K u F L Q=>?_⟩
  .rw[j.2 b (λz:b=S=>m (by rw[<-z];show hb))];show e
  show q s2 V K u (Moved.trans W.gtrans ((hm.mono more).then_heap (iM _) λb o hb e=>?_) F) L Q;rw[j.2 b (λz:b=S=>hb (by rw[z];show lA))];show e
end
section
variable{kn:Kn prog w}{s:ai}
theorem zsF(e:h.get? a=some (m8 w)):eV kn h a #[] 0 (.fresh 0 0 (!(w.params.followText "set-order"))):=
 ⟨e,λx b=>by simp at b,by show il _,by rfl,⟨rfl,by show .nil⟩⟩
theorem set_list{items:List aa}(hh:A.handled=none)(hl:s.heap.IsList l items.toArray)(g:xs.length=items.toArray.size)(P:∀(i:Nat) v,items.toArray[i]?\v->∃x t,xs[i]?\x/\v=kn.to x t)(hb:xs.length+1<scanBound)
  (h:∀h' tk d f t,eV kn h' *...* d f t->L2.SI.Holds kn d xs->(∀b o,b< *...*->s.heap.get? b\o->h'.get? b\o)->Q (.ref *...*) { s with heap:=h',toks:=tk }) :
  ↥(call (.type "set") [.ref l]) Q E s:=by
 let⟨c,tl,acO⟩:=PySem.F.called_set.mro;have acP:=PySem.F.called_set.made;have Et:=PySem.F.called_set.sub;show nU (Gb ?_);show wpAny _ _ (callAny (.type "set") _) _ _ _;show az ⟨BX _ (by decide +kernel),i8 PySem.F.entry_type_call ?_⟩;rw[Around.under_plain (weight_type_call_type "set" [.ref l] []) rfl];have h1:=PySem.F.called_set.notType;have h2:=PySem.F.called_set.canCreate;have W:=PySem.F.typeCall_set_1 (.ref l);repeat(any_goals (first | assumption | wp_step))
 show pf (zpB (.ref l) (E:=E) (Q1:=λobj s1=>obj=.ref *...*/\s1={ s with heap:=s.heap.push (m8 w) }) ⟨rfl,rfl⟩) λr s1 j=>?_
 cases r with
 | error e=>show j
 | ok Y=>
  cases Y with
  | ret obj=>
   let⟨rfl,rfl⟩:=j;have D:(s.heap.push (m8 w)).get? *...*=some (m8 w):=b8 _ rfl;have X:Shared.TypeIs { s with heap:=s.heap.push (m8 w) } (.ref *...*) "set":=⟨_,D,rfl⟩
   have V:=PySem.F.called_set.init.lookup;have AS:=PySem.F.called_set.init.bind (.ref *...*);repeat(any_goals (first | assumption | wp_step))
   show pf (tM (R:=wants (λr s2=>r=.none/\∃h' tk d f t,s2={ s with heap:=h',toks:=tk }/\eV kn h' *...* d f t/\L2.SI.Holds kn d xs/\
     (∀b o,b< *...*->s.heap.get? b\o->h'.get? b\o)) E) PySem.F.called_set.init.plain PySem.F.entry_set_init (check_set_init_1 X ?_)) λL s2 y=>?_
   .let⟨ol,C,z,nl,B⟩:=hl;let⟨acA,q,acz,u⟩:=ol;simp only at z B;subst z B;have N:(s.heap.push (m8 w)).get? l=some { cls:=.type "list",dict:=q,data:=.seq items.toArray nl,slots:=u }:=aV _ C;have acH:=PySem.F.sub_list_set;have acI:=PySem.F.sub_list_frozenset;have aP:(jc "list"==jc "dict")=false:=by assumption
    have I:(s.heap.push (m8 w)).IsList l items.toArray:=⟨_,N,rfl,nl,rfl⟩
    unfold Builtin.«set.__init__» noKeywords YU;generalize n:pyIter=PI;wp_walk
    subst n;show tH I (aj (F0 ?_));have M:l< *...*:=aX C;have m:A.in1.in1.in1.handled=none:=by show hh
    have hsz:(s.heap.push (m8 w)).objs.size=*...*+1:=gX ..;have AF:l≠(s.heap.push (m8 w)).objs.size:=by rw[hsz];show bJ (j2 M)
    have U:*...*∉[(s.heap.push (m8 w)).objs.size,l]:=by
     grind
    show znN ((vg m _ l AF items.toArray).toS) *...* U xs g P (by cbv) (items.toArray.size-0) 0 _ #[] 0 _ (by room) (du _)
     ⟨⟨_,b8 _ rfl,rfl,rfl⟩,(I.push _)⟩ (zsF (aV _ D)) ⟨by show .nil,by simp[keysOf],by show aW _⟩ ?hR
    case hR=>
     intro K d f t hm T H;let⟨h',g',d',S,O⟩:=K;have eg:g'=s.gens:=hm.gens;have ed:d'=s.drawn:=hm.drawn;have Z:O=s.os:=hm.os;subst eg ed Z;show wpAny _ _ _ _ _ _;show az ?_;show wpAny _ _ (ret iL) _ _ _;show az ⟨rfl,h',S,d,f,t,rfl,T,H,λb o hb e=>?_⟩;show hm.heap b o ?_ (aV _ (aV _ e));grind
   cases L with
   | error e=>show y
   | ok p=>
    cases p with
    | ret r=>
     let⟨rfl,h',tk,d,f,t,rfl,T,H,J⟩:=y;repeat(any_goals (first | assumption | wp_step))
     show h _ _ d f t T H J
    | _=>show y.elim
  | _=>show j.elim
end
section
variable{kn:Kn prog w}
theorem Kf(S:eV kn s.heap a b c t)(h:Q b s):↥(setEntries a) Q E s:=by
 show aj (tG S.at_ rfl S.fits (az h))
end
section
variable{prog:aD}{w:aB}{kn:Kn prog w}{A:aT}{E:aa->ai->Prop}{s:ai}
theorem Ds{sl i:Nat}(hh:A.handled=none)(a:s.heap.get? I\n8 (.int sl 0) i S c.size b)(T:eV kn s.heap S c b t)(r)
  (hN:∀(e:Option (aa×Nat)->ai->Prop) m,e r s->wpAny (model prog w) A.in1 (setNext S sl i b) e m s)
  (f:∀x j,r\(x,j)->∀h',j6 I s.heap h'->h'.get? I\n8 (.int j 0) (i+1) S c.size b->Q (some x) { s with heap:=h' })
  (hn:r=none->∀h',x9 I s.heap h'->Q none { s with heap:=h' }):↥(pyNext (.ref I)) Q E s:=by
 have d:s.TypeIs (.ref I) "set_iterator":=⟨_,a,rfl⟩
 show aj (ph (o6 (name:=gW "__next__") d uA (j1 uA d Tx ?_ (Tw _))));show wpAny _ _ (fieldsOf (.ref I) >>= _) _ _ s;show aj (Bz a rfl ?_);show aj (Kf T ?_);simp![bne_self_eq_false,eK,dG];show aj (hN _ _ ?_);cases r with
 | none=>show Ub hh a rfl ∅ (hn rfl)
 | some p=>
  let⟨x,j⟩:=p;show aj (wpAny_setField_rec a (by show il _) λh g1 l=>?_);show aj (wpAny_setField_rec (s:={ s with heap:=h }) g1 ∅ λg g2 k=>?_);show az ⟨x,rfl,az (f x j rfl g (l.trans k) ?_)⟩;rw[g2];rfl
theorem UA{ps:List Nat}(hh:A.handled=none)(b:s.heap.get? I\n8 (.ref j) i S a.size g)(T:eV kn s.heap S a g t)
  (d:s.heap.get? j=some { cls:=.type "tuple",data:=.seq (ps.map λ(p:Nat)=>rawInt p).toArray })
  (m:∀p e,ps[i]?\p->a[p]?\e->∀h',j6 I s.heap h'->h'.get? I\n8 (.ref j) (i+1) S a.size g->Q (some e.2) { s with heap:=h' })
  (l:∀p∈ps,p<a.size) (hn:ps[i]?=none->∀h',x9 I s.heap h'->Q none { s with heap:=h' }):↥(pyNext (.ref I)) Q E s:=by
 have k:s.TypeIs (.ref I) "set_iterator":=⟨_,b,rfl⟩
 show aj (ph (o6 (name:=gW "__next__") k uA (j1 uA k Tx ?_ (Tw _))));show wpAny _ _ (fieldsOf (.ref I) >>= _) _ _ s;show aj (Bz b rfl ?_);show aj (Kf T ?_);simp![bne_self_eq_false,eK,dG];show aj (jZ d rfl ?_);simp![qL,yv,bW];cases c:ps[i]? with
 | none=>
  show aj (wpAny_setField_rec b (by show il _) λf g1 h=>?_);show Ub (s:={ s with heap:=f }) hh g1 rfl ∅ λh' x=>hn c h' (h.extBut.trans x)
 | some p=>
  simp![fO,rawInt,qL];have n:=l p (cz c);have he:a[p]?=some a[p]:=by simp[n]
  show aj (aj (tG T.at_ rfl T.fits ?_));simp![bne_self_eq_false,eK,dG,he];show az ?_;show aj (wpAny_setField_rec b ∅ λf g1 h=>?_);show az ⟨_,rfl,az (m p a[p] c he f h ?_)⟩;rw[g1];rfl
theorem Vb(T:eV kn s.heap S c a t)(sl i)(b:w.params.followText "set-order"=true)(Q)
  (q:Q (((pickOrder (w.params.setOrder S a) c)[i]?).map λe=>(e.2,sl)) s):↥(setNext S sl i a) Q E s:=by
 show aj (tG T.at_ rfl T.fits ?_);show aj (aj (vA (az ?_)));rw[show(model prog w).w.params.followText "set-order"=true from b];simp![bne_self_eq_false,eK,dG,dF];show aj (aj (tG T.at_ rfl T.fits ?_));show aj (aj (vA (az ?_)));rw[show(model prog w).w.params.followText "set-order"=true from b];show aj (vA (az (az q)))
theorem Jz(T:eV kn h S a c t)(d:S≠I)(b:j6 I h h'):eV kn h' S a c t:=T.kept λo e=>by rw[b.2 S d];show e
theorem znO(y:S≠I)(u:w.params.followText "set-order"=true)(hh:A.handled=none) :
  Walks prog w A I [I,S] [I] d.size (Fq ((pickOrder (w.params.setOrder S f) d).toList.map (·.2))) (λi h=>h.get? I\n8 (.int 0 0) i S d.size f/\eV kn h S d f t):=by
 have v:=U1 (w.params.setOrder S f) d;have hl:(pickOrder (w.params.setOrder S f) d).size=d.size:=by rw[<-jF,v.length_eq,jF]
 show⟨λb hb=>by simp at hb;show hb▸.head _,λi h h' st k=>⟨k I (by room) _ st.1,st.2.kept (k S (by room))⟩,λi s Q E hi st q=>?_,λs Q E st q=>?_,λi s Q E st q=>Jd st.1 q⟩
 .have n:i<(pickOrder (w.params.setOrder S f) d).size:=by cbv
  show Ds (sl:=0) hh st.1 st.2 _ (λr z m=>Vb st.2 0 i u r m) (λx j e h' b g=>?_) (λe=>?_)
  .rw[nR n] at e;let⟨rfl,rfl⟩:=e;show q _ h' s.toks (by show(gE _ _)[i]?=_;rw[bW,yu,nR n];rfl) ⟨g,Jz st.2 y b⟩ λc o p e=>by rw[b.2 c (by simpa using p)];show e
  rw[nR n] at e;cases e
 show Ds (sl:=0) hh st.1 st.2 _ (λr z m=>Vb st.2 0 _ u r m) (λx j e=>?_) (λ_ h' b=>q h' s.toks λc o p e=>b c o (by simpa using p) e);rw[GZ (by cbv)] at e;cases e
theorem Va{S:ae}{a:Array (Int×aa)}{c:Nat}{t:SetTable}(T:eV kn s.heap S a c t)(sl i:Nat)(b:w.params.followText "set-order"=false)(hd:(!t.plain&&decide (a.size>1))=false)(Q:Option (aa×Nat)->ai->Prop)
  (q:Q (match a[jC t.place sl]?,t.place[jC t.place sl]? with | some (_,x),some j=>some (x,j+1) | _,_=>none) s):↥(setNext S sl i c) Q E s:=by
 show aj (tG T.at_ rfl T.fits ?_);show aj (aj (vA (az ?_)));rw[show(model prog w).w.params.followText "set-order"=false from b];simp![eK,dG];have d:t.led=true:=by rw[T.marks.led,b];rfl
 show vy (λh=>absurd (show(!t.plain&&decide (a.size>1))=true from h) (by rw[hd];simp)) λ_=>?_
 show aj ?_;show wpAny _ _ (ite ((!t.led&&!a.isEmpty)=true) _ _) _ _ _;rw[d];show az (az q)
theorem znP(C:S≠I)(p:w.params.followText "set-order"=false)(hd:(!t.plain&&decide (d.size>1))=false)(y:gP t.place)(v:t.fits d.size=true)(hh:A.handled=none) :
  Walks prog w A I [I,S] [I] d.size (Fq (d.toList.map (·.2))) (λi h=>∃sl:Nat,h.get? I\n8 (.int sl 0) i S d.size r/\eV kn h S d r t/\(i<=d.size->jC t.place sl=i)):=by
 have F:t.place.size=d.size:=by
  simp![SetTable.fits,gZ,beq_iff_eq] at v;show v.1
 show⟨λb hb=>by simp at hb;show hb▸.head _,λi h h' st k=>?_,λi s Q E hi st q=>?_,λs Q E st q=>?_,λi s Q E st q=>?_⟩
 .let⟨sl,a,T,b⟩:=st;show⟨sl,k I (by room) _ a,T.kept (k S (by room)),b⟩
 .let⟨sl,a,T,b⟩:=st;have hb:=b (by room);show Ds hh a T (some (d[i].2,t.place[i]'(by cbv)+1)) (λn D f=>Va T _ _ p hd n ?_) (λx j B h' u g=>?_) (λz=>nomatch z)
  .rw[hb,nR hi,nR (by cbv)];show f
  cases B;show q _ h' s.toks (by show(gE _ _)[i]?=_;rw[bW,yu,nR hi];rfl) ⟨_,g,Jz T C u,λ_=>zlV y i (by cbv)⟩ λc o m e=>by rw[u.2 c (by simpa using m)];show e
 .let⟨sl,a,T,b⟩:=st;have hb:=b (aW _);show Ds hh a T none (λn D f=>Va T _ _ p hd n ?_) (λx j e=>nomatch e) (λ_ h' b=>q h' s.toks λc o m e=>b c o (by simpa using m) e);rw[hb,GZ (aW _)];show f
 let⟨sl,a,T,b⟩:=st;show Jd a q
theorem zlY{ps:List Nat}(y:S≠I)(B:f≠I)(r:ps.Perm (aI d.size))(hh:A.handled=none) :
  Walks prog w A I [I,f,S] [I] d.size (Fq (ps.map λp=>(d.getD p (0,.none)).2)) (λi h=>h.get? I=some (n8 (.ref f) i S d.size u)/\eV kn h S d u t/\h.get? f=some { cls:=.type "tuple",data:=.seq (ps.map λ(p:Nat)=>rawInt p).toArray }):=by
 have n:∀p∈ps,p<d.size:=λp h=>cx.mp (r.mem_iff.mp h)
 have hl:ps.length=d.size:=by rw[r.length_eq,jE]
 show⟨λb hb=>by simp at hb;show hb▸.head _,λi h h' st k=>⟨k I (by room) _ st.1,st.2.1.kept (k S (by room)),k f (by room) _ st.2.2⟩,λi s Q E hi st q=>?_,λs Q E st q=>?_,λi s Q E st q=>Jd st.1 q⟩
 .have v:i<ps.length:=by cbv
  show UA hh st.1 st.2.1 st.2.2 (λp e j x h' b g=>?_) n (λz=>by rw[bC v] at z;cases z);show q _ h' s.toks ?_ ⟨g,Jz st.2.1 y b,by rw[b.2 f B];show st.2.2⟩ λc o m e=>by rw[b.2 c (by simpa using m)];show e
  show(gE _ _)[i]?=_;rw[bW,j];simp[x]
 show UA hh st.1 st.2.1 st.2.2 (λp e j=>?_) n (λ_ h' b=>q h' s.toks λc o m e=>b c o (by simpa using m) e);rw[qQ (by cbv)] at j;cases j
end
section
variable{prog:aD}{w:aB}{kn:Kn prog w}{A:aT}{E:aa->ai->Prop}{s:ai}
structure Laid(prog:aD)(w:aB)(h:aw)(a:ae)(es:Array (Int×aa))(I:ae)(h':aw):Prop where
 ex:∃(fp:List ae)(vals:List aa)(St:Nat->aw->Prop),vals.Perm (es.toList.map (·.2))/\(∀A:aT,A.handled=none->Walks prog w A I fp [I] es.size (Fq vals) St)/\St 0 h'/\∀b∈fp,b=a\/h.objs.size<=b
 old:∀b o,h.get? b\o->h'.get? b=some o
 new:h.objs.size<=I
 type:∃o,h'.get? I=some o/\o.cls=.type "set_iterator"
theorem zqd(T:eV kn s.heap a c g t)
  (q:∀I h' d,Laid prog w s.heap a c I h'->Q (.ref I) { s with heap:=h',drawn:=d }):↥(pyIter (.ref a)) Q E s:=by
 have k:s.TypeIs (.ref a) "set":=⟨_,T.at_,rfl⟩
 have l:a< *...*:=aX T.at_;show Gz k Qn (j1 Qn k zpC ?_ (PySem.F.args_set_iter_1 _));show wpAny _ _ (YM a >>= _) _ _ s;show aj (aj (Kf T (az ?_)));show aj (aj (tG T.at_ rfl T.fits ?_));show aj (aj (vA (az ?_)));show az ?_;have here:∀(first:aa)(s1:ai)(Q1:Fin->ai->Prop)(f:eV kn s1.heap a c g t),(∀o,o=n8 first 0 a c.size g->Q1 (.done (.ret (.ref s1.heap.objs.size))) { s1 with heap:=s1.heap.push o })->wpAny (model prog w) A.in1 (do
   let e <-setEpoch a
   let v <-newFields "set_iterator" [first,rawInt 0,cI a,rawInt c.size,rawInt e]
   ret v) Q1 E s1:=by
  intro first s1 Q1 f r;show aj (wpAny_setEpoch_of f.at_ rfl f.fits ?_);show aj (i9 (az (r _ rfl)) (by size_fits))
 show vy (λj=>?_) λj=>?_
 .refine aj (U2 c.size _ _ _ ∅ λps d h=>?_);have u:ps.length<=sizeLine:=by rw[h.length_eq,jE];show BS T.small
  show aj (F3 ?_ (by rw[aO];show u));have f:eV kn (s.heap.push { cls:=.type "tuple",data:=.seq (ps.map λ(p:Nat)=>rawInt p).toArray }) a c g t:=T.kept λo e=>aV _ e
  show here _ _ _ f λo i=>?_
  subst i;show⟨_,rfl,"set_iterator",_,⟨_,b8 _ rfl,rfl⟩,uA.lookup,?_⟩;have hsz:(s.heap.push { cls:=.type "tuple",data:=.seq (ps.map λ(p:Nat)=>rawInt p).toArray }).objs.size=*...*+1:=gX ..
  show q _ _ d ⟨⟨[_, *...*,a],_,_,zm9 h,λA hh=>zlY (t:=t) (by rw[hsz];show bJ (j2 l)) (by rw[hsz];show bJ (BL _)) h hh,
   ⟨b8 _ rfl,f.kept λo e=>aV _ e,aV _ (b8 _ rfl)⟩,λb hb=>?_⟩,λb o e=>aV _ (aV _ e),by rw[hsz];show iM _,⟨_,b8 _ rfl,rfl⟩⟩
  grind
 show aj (az ?_);show here _ _ _ T λo i=>?_
 subst i;show⟨_,rfl,"set_iterator",_,⟨_,b8 _ rfl,rfl⟩,uA.lookup,?_⟩;have n:∀b∈[*...*,a],b=a\/*...*<=b:=λb hb=>by
  grind
 have m:a≠*...*:=bJ l;have f:eV kn (s.heap.push (n8 (rawInt 0) 0 a c.size g)) a c g t:=T.kept λo e=>aV _ e
 cases hf:w.params.followText "set-order" with
 | true=>
  show q _ _ s.drawn ⟨⟨_,_,_,(U1 (w.params.setOrder a g) c).map _,λA hh=>znO (t:=t) m hf hh,⟨b8 _ rfl,f⟩,n⟩,λb o e=>aV _ e,aW _,⟨_,b8 _ rfl,rfl⟩⟩
 | false=>
  have x:¬((!t.plain&&decide (c.size>1))=true):=λz=>j (by
   show(!(w.params.followText "set-order")&&(!t.plain&&decide (c.size>1)))=true;rw[hf,z];rfl)
  have hd:(!t.plain&&decide (c.size>1))=false:=by
   cbv
  show q _ _ s.drawn ⟨⟨_,_,_,.refl _,λA hh=>znP (t:=t) m hf hd T.marks.rise T.fits hh,⟨0,b8 _ rfl,f,λ_=>zlW T.marks.rise⟩,n⟩,λb o e=>aV _ e,aW _,⟨_,b8 _ rfl,rfl⟩⟩
theorem zlZ{R:Result->ai->Prop}{a:ae}{k:Array (Int×aa)}{K:Nat}{t:SetTable}(T:eV kn s.heap a k K t)(hh:A.handled=none)(S:ae)(F:S≠a)(res:aa)(v:Nat)(u:s.heap.get? S=some { cls:=.type "list",data:=.seq #[] v })
  (hR:∀h' d tk (acc:Array aa) g,(∀b o,b≠S->s.heap.get? b=some o->h'.get? b=some o)->h'.get? S=some { cls:=.type "list",dict:=none,data:=.seq acc g,slots:=#[] }->acc.toList.Perm (k.toList.map (·.2))->R (.ok (.ret res)) { s with heap:=h',drawn:=d,toks:=tk }) :
  wpAny (model prog w) A.in1 (QV (.ref S) (.ref a) res) (λfin c=>match fin with | .done f=>R (.ok f) c | .again g=>g.quiet=true/\codeAny (model prog w) A g R c) (λe c=>R (.error e) c) s:=by
 have E:s.TypeIs (.ref a) "set":=⟨_,T.at_,rfl⟩
 have Q:S< *...*:=aX u;show aj (pe (T:="set") E ?_);have J:QK (.ref S) (.ref a)=false:=by show if_neg ‹_›
 have H:(jc "set"==jc "list")=false:=by rfl
 have G:(jc "set"==jc "tuple")=false:=by assumption
 simp![J,H,G,Oi,eK,dG];show aj (zqd T λI h0 d L=>?_);let⟨fp,vals,St,hv,W,st,D⟩:=L.ex;have r:S∉fp:=λz=>by
  grind
 have go:∀(h:aw)(n tk:Nat),St 0 h->(∀b o,b≠S->s.heap.get? b=some o->h.get? b=some o)->h.get? S=some { cls:=.type "list",data:=.seq #[] n }->
   codeAny (model prog w) A (.builtin "list.extend.loop" ⟨[.ref S,.ref I,res],[]⟩) R { s with heap:=h,drawn:=d,toks:=tk }:=by
  intro h n tk N hk y;show Qe (W A.in1 hh).toS (BS T.small) S r res k.size 0 _ #[] n rfl (du _) N y (NW _) λc i g hm B q=>?_
  rw[Oh hm];show hR c.heap d c.toks i g (λb o hb e=>hm.heap b o (λm=>?_) (hk b o hb e)) B ?_
  .rcases bx.mp m with M | m
   .exact hb M
   show absurd (aX e) (by rw[dD.mp m];show xY.mpr L.new)
  have e:i.toList=vals:=by
   apply qK;intro j;by_cases C:j<i.size
   .have:=q.2 j i[j] (by simp[C]);rw[this];show bC ‹_›
   have P:vals.length=k.size:=by rw[hv.length_eq];show aO ..
   have:=q.1;rw[qQ (by simp;show yk ‹_›),qQ (by cbv)]
  rw[e];show hv
 have l:=L.old _ _ u;show aj (eX (zpD (s:={ s with heap:=h0,drawn:=d }) ⟨_,L.old _ _ T.at_,rfl⟩ ?_));show vy (λ_=>?_) (λ_=>az ⟨jB Cg _,go _ v _ st (λb o _ e=>L.old b o e) l⟩);show aj (kH (aj ?_));show aj (tj l rfl ?_);have x:=kG (j5 (·.push iL)) l rfl;show tj (hz:=by seq_fits) x rfl ?_;have O:=kG (j5 (·.pop)) x rfl;show az ⟨jB Cg _,go _ _ _ ?_ (λb o hb e=>?_) O⟩
 .refine(W A.in1 hh).frame 0 _ _ st λb hb o e=>?_
  have p:b≠S:=λh=>r (h▸hb)
  show(g8 _ _ (Ne.symm p)).trans ((g8 _ _ (Ne.symm p)).trans e)
 show(g8 _ _ (Ne.symm hb)).trans ((g8 _ _ (Ne.symm hb)).trans (L.old _ _ e))
end
end SI
end L2
namespace L2
open PySem PySem.Spec PyProof.Rows
def JS:bB:=λds Q=>match ds with
 | [.lst a]=>match lL a with
  | some ss=>ss.length<4000/\(∀l:List Int,l.Nodup->(∀w∈l,w∈ss)->l.length<64)/\∀l:List Int,l.Nodup->(∀w,w∈l↔w∈ss)->l.Pairwise (·<=·)->Q (.ow (l.map D.int))
  | none=>False
 | _=>False
namespace SI
section
variable{prog:aD}{w:aB}{kn:Kn prog w}{s:ai}
theorem zj8{R:List aa->ai->Prop}(T:eV kn s.heap a k n t)(hh:A.handled=none)
  (h:∀h' d tk l, *...*<h'.objs.size->(∀b o,s.heap.get? b\o->h'.get? b\o)->l.Perm (k.toList.map (·.2))->R l { s with heap:=h',drawn:=d,toks:=tk }):↥(collect (.ref a)) R E s:=by
 have r:a< *...*:=aX T.at_;show aj (F0 (i8 Qd ?_));show aj (i9 (az ⟨jB QF _,i8 O3 ?_⟩));have m:(s.heap.push { cls:=.type "list",data:=.seq ([]:List aa).toArray }).get? *...*=some { cls:=.type "list",data:=.seq #[] }:=b8 _ rfl;have key:=zlZ (A:=A) (s:={ s with heap:=s.heap.push { cls:=.type "list",data:=.seq ([]:List aa).toArray } })
  (R:=λ(q:Result)(j:ai)=>∃(h':aw)(d:Drawn)(tk:Nat)(acc:Array aa)(i:Nat),q=.ok (.ret (.ref *...*))/\j={ s with heap:=h',drawn:=d,toks:=tk }/\
   (∀b o,s.heap.get? b=some o->h'.get? b=some o)/\h'.get? *...*=some { cls:=.type "list",dict:=none,data:=.seq acc i,slots:=#[] }/\acc.toList.Perm (k.toList.map (·.2)))
  (T.kept λo e=>aV _ e) hh *...* (jd r) (.ref *...*) 0 m
  (λh' d tk acc i hk c g=>⟨h',d,tk,acc,i,rfl,rfl,λb o e=>hk b o (bJ (aX e)) (aV _ e),c,g⟩)
 show eW key (λfin j x=>?_) λe j x=>?_
 .cases fin with
  | done f=>
   let⟨h',d,tk,acc,i,e,rfl,hk,c,g⟩:=x;cases e;show aj (vh c (az (h h' d tk acc.toList (aX c) hk g)))
  | again u=>
   show⟨x.1,pf x.2 λq s2 y=>?_⟩;let⟨h',d,tk,acc,i,rfl,rfl,hk,c,g⟩:=y;show aj (vh c (az (h h' d tk acc.toList (aX c) hk g)))
 let⟨z,z,z,z,z,p,z⟩:=x;cases p
noncomputable def HV:aa->Int
 | .int i _=>i
 | _=>0
noncomputable def KI(prog w):Kn prog w:=⟨Int,inferInstance,intKind prog w,.int,HV,λx t=>by show beq_self_eq_true x,λx v h=>by show GC h,λ_ _=>rfl,λ_ _=>rfl,λ_ _=>⟨true,rfl⟩⟩
theorem S7(hi:IntsAre items xs):xs.length=items.toArray.size/\∀(i:Nat) v,items.toArray[i]?\v->∃x t,xs[i]?\x/\v=.int x t:=by
 rw[cW];show⟨?_,λi v hv=>?_⟩
 .induction hi with
  | nil=>rfl
  | cons _ _ _ a=>simp[a]
 rw[yv] at hv;induction hi generalizing i with
 | nil=>trivial
 | cons x t b a=>
  grind
theorem U9:∀{a},(∀v∈a,∃x t,v=.int x t)->IntsAre a (a.map HV)
 | [],_=>.nil
 | v::r,h=>by
  let⟨x,t,rfl⟩:=h v (by show .head _);show .cons x t (U9 λu b=>h u (by show .tail _ ‹_›))
theorem zl0(T:eV (KI prog w) s.heap a f u t)(hh:A.handled=none)(G:f.size<64)
  (h:∀(p:ae) h' d tk out e ns, *...*<=p->(∀b o,s.heap.get? b=some o->h'.get? b=some o)->h'.get? p=some (seqObj "list" out e)->IntsAre out.toList ns->ns.Perm (keysOf (KI prog w) f)->ns.Pairwise (·<=·)->Q (.ref p) { s with heap:=h',drawn:=d,toks:=tk }) :
  ↥(call (.builtin "sorted") [.ref a]) Q E s:=by
 show Hg FG FN FL (FK _) ?_;show aj (m:=checkCount "sorted" 1 1 _) (az (aj (zj8 (A:=A.in1) T hh λh' d tk c z hk j=>?_)));have n:c.length=f.size:=by rw[j.length_eq];show aO ..
 have i:∀v∈c,∃x t,v=.int x t:=λv hv=>by
  let⟨e,he,rfl⟩:=a9.mp (j.mem_iff.mp hv);obtain⟨⟨k,hk,_⟩,_⟩:=T.el e he;let⟨t,ht⟩:=GC hk;show⟨k,t,ht⟩
 have r:=U9 i;show aj (Bv ?_ (by rw[n];show BS T.small));have g:(h'.push (seqObj "list" c.toArray 0)).get? h'.objs.size=some (seqObj "list" c.toArray 0):=b8 _ rfl;show aj (eX (j1 F2 ⟨_,g,rfl⟩ Ga (list_sort_tree (s:={ s with heap:=h'.push (seqObj "list" c.toArray 0),drawn:=d,toks:=tk }) g r (by cbv) λout q D C B=>⟨_,rfl,?_⟩) (F1 _)));let⟨y,F⟩:=Og (out:=out) g;have hle:*...*<=h'.objs.size:=qE z;show az ⟨_,rfl,h _ _ d tk _ y q hle (λb o e=>?_) F D (C.trans ?_) B⟩
 .have l:=hk b o e;have hb:b<h'.objs.size:=aX l;rw[Oy (bJ hb) (by rw[Bm];show j2 hb)];show aV _ l
 have:=j.map HV;rw[bV] at this;show this
end
section
variable{e:ax}{t:TA}
def znR(K:ar)(t:TA):TE:=λσ H Q=>t σ H λa H1=>∃(p:ae)(ss:List Int),a=[.ref p]/\bM K H1 p (ss.map V.int)/\ss.length<4000/\(∀l:List Int,l.Nodup->(∀x∈l,x∈ss)->l.length<64)/\
 ∀l:List Int,l.Nodup->(∀x,x∈l↔x∈ss)->l.Pairwise (·<=·)->∀q,H1 q=none->Q (.ref q) (upd H1 q (.lst (l.map V.int)))
theorem zj9(v:X.calm=true)(N:X.mg "sorted"=none)(fT:X.mg "set"=none)(ha:PA X [e] t)(M:Gl X "sorted":=by rfl)(P:Gl X "set":=by rfl)
  (Y:starEach [e] X.env=(false,eval e X.env)::starEach [] X.env:=by rfl) (L:starEach [.Call (.Name "set" j) [e] [] f] X.env=(false,eval (.Call (.Name "set" j) [e] [] f) X.env)::starEach [] X.env:=by rfl) :
  PE X (.Call (.Name "sorted" J) [.Call (.Name "set" j) [e] [] f] [] pos) (znR X.K t):=by
 intro A s σ H Q I h;show mU (kO I M N Bo ?_ (by decide) (by rfl));show yA ?_ L rfl;show vG ?_;show mU (kO I P fT U4 ?_ (by decide) (by rfl));show qB (aR (ha f A s σ H _ I h) λus s1 ay=>?_) Y rfl;let⟨vs,H1,I1,r1,G⟩:=ay;let⟨p,ss,rfl,W,hn,C,q⟩:=G;let⟨u,rfl,F⟩:=gH r1;cases F;let⟨its,E,pl,hz⟩:=I1.list W;have y:=rL E;show set_list (kn:=KI X.prog X.w) (I1.ok.hd v) pl.isList (S7 y).1 (S7 y).2 (qN (Pg hn) (by decide)) λz n g ep tb T i O=>?_
 have B:Inv X A σ H1 { s1 with heap:=z,toks:=n }:=I1.kept λb o e=>O b o (aX e) e
 show yp ?_;have hsz:g.size<64:=by
  have:=C (keysOf (KI _ _) g) i.nd λx U=>(i.mem x).mp U
  show qN (Bs (Aq g).symm) this
 show zl0 (s:={ s1 with heap:=z,toks:=n }) T (I1.ok.hd v) hsz λpp Z d D out en c r R S l k m=>?_
 have AG:c.Nodup:=k.nodup_iff.mpr i.nd;have ko:c.length<64:=qN (Bs (k.length_eq.trans (Aq g))) hsz;have hf:H1 pp=none:=B.aJ.fresh r;show⟨.ref pp,upd H1 pp (.lst (c.map V.int)),?_,rfl,q c AG (λx=>by rw[k.mem_iff];show i.mem x) m pp hf⟩;have I3:=Inv.laid (t':=D) (Inv.draw B d) (h':=Z) (a:=pp) (o:=.lst (c.map V.int)) R r ?_
 .exact I3
 show⟨by rw[aO];have:=zpz;lia,out.toList,en,J5 l,?_⟩;show S
theorem aar(B:X.calm=true)(w:X.mg "sorted"=none)(C:X.mg "set"=none)(ha:ik X [e] ts)(u:Gl X "sorted":=by rfl)(y:Gl X "set":=by rfl)
  (A:starEach [e] X.env=(false,eval e X.env)::starEach [] X.env:=by rfl) (p:starEach [.Call (.Name "set" c) [e] [] d] X.env=(false,eval (.Call (.Name "set" c) [e] [] d) X.env)::starEach [] X.env:=by rfl) :
  PD X (.Call (.Name "sorted" o) [.Call (.Name "set" c) [e] [] d] [] pos) (gO JS ts):=by
 let⟨t,pp,q⟩:=ha;show⟨_,zj9 B w C pp u y A p,λρ σ J F G H Q P E h k=>q ρ σ J F G H _ _ E h λK H' ds M x rs b=>?_⟩;unfold JS at b;split at b
 .split at b
  .rename_i L ss z;let⟨v,rfl,j⟩:=iu rs;let⟨a,xs,rfl,g,f⟩:=j;rw[ur z] at f;rw[uk f] at g;show⟨a,ss,rfl,(x.s.cm g).sq,b.1,b.2.1,λl nd hm so=>?_⟩;show wD x.s (U5 l) (b.2.2 l nd hm so) λv D r I i m n=>k v D r I (x.trans i) (m.lQ x.h) n
  show b.elim
 show b.elim
end
end SI
end L2
namespace L2
open PySem PySem.Spec PyProof.Rows
section
variable{P:aD}{w:aB}{K:ar}{mg:af->Option aa}{base:aw}
theorem zqe{st:bE}(k)(A:At K mg x st)(S:lh N ps (bQ st))
  (body:∀f c A outer s H E,cV k (A.deeper (envOfC x (bQ st) *...* f c))->fV (eZ eG P w K mg base N x (bQ st) f c A outer s H E).gL (gi st) T)
  (a:∀ds e,ds.length=n->t ds e->T { nx:=λ_=>e (.fz .non),rt:=e } (lM N ds))
  (b:∀kV doc pm an c ct us,us.length=n->bindArgs (lB x x (nI st) (gi st) (bQ st) .none kV doc pm an c ct) ⟨us,[]⟩=pure (ps.zip us)) (hn:ps.length=n:=by rfl) (hd:k+1=d:=by rfl):Known P w K mg base d x n t:=by
 subst hn hd;let⟨f,fd,F,hm⟩:=A.ex;show⟨f,fd,ps,pQ F S (body f) a,hm,F.kp,F.binds b⟩
theorem cR{st:bE}(k)(A:At K mg x st)
  (e:∀ds h,ds.length=n->t ds h->T { nx:=λ_=>h (.fz .non),rt:=h } (lM N ds))
  (body:N.Nodup->∀f g A outer s H E,cV k (A.deeper (envOfC x (bQ st) *...* f g))->fV (eZ eG P w K mg base N x (bQ st) f g A outer s H E).gL (gi st) T)
  (S:lh N (N.take n) (bQ st):=by walk_at"sc") (b:∀kV doc pm an g ct us,us.length=n->bindArgs (lB x x (nI st) (gi st) (bQ st) .none kV doc pm an g ct) ⟨us,[]⟩=pure ((N.take n).zip us):=by walk_at"bn") (hn:(N.take n).length=n:=by rfl) (hd:k+1=d:=by rfl):Known P w K mg base d x n t:=zqe k A S (body S.nd) e b hn hd
abbrev dh(P:aD)(w:aB)(K:ar)(mg:af->Option aa)(base:aw)(k:Nat)(x:af)(N:List af)(st:bE)(T:TX):Prop:=
 N.Nodup->∀f a A outer s H E,cV k (A.deeper (envOfC x (bQ st) *...* f a))->fV (eZ eG P w K mg base N x (bQ st) f a A outer s H E).gL (gi st) T
end
end L2
namespace Ts
open PySem PySem.W PyProof.Rows
end Ts
namespace L2
open PySem PySem.Spec PyProof.Rows
theorem pC{b:Type}{l:List b}(h:l.length=n+1):∃a r,l=a::r/\r.length=n:=by
 cases l with
 | nil=>cases h
 | cons a r=>show⟨a,r,rfl,Nat.succ.inj h⟩
theorem Zq{a:Type}{l:List a}(h:l.length=0):l=[]:=vN h
theorem HG{b:Type}{l:List b}(h:l.length=1):∃c,l=[c]:=by
 let⟨a,r,e,h⟩:=pC h;show⟨a,by rw[e,Zq h]⟩
theorem n5{b:Type}{l:List b}(h:l.length=2):∃f a1,l=[f,a1]:=by
 let⟨a,r,e,h⟩:=pC h;let⟨d,c⟩:=HG h;show⟨a,d,by rw[e,c]⟩
theorem HF{b:Type}{l:List b}(h:l.length=3):∃g a1 a2,l=[g,a1,a2]:=by
 let⟨a,r,e,h⟩:=pC h;let⟨f,d,c⟩:=n5 h;show⟨a,f,d,by rw[e,c]⟩
theorem HE{b:Type}{l:List b}(h:l.length=4):∃j a1 a2 i,l=[j,a1,a2,i]:=by
 let⟨a,r,e,h⟩:=pC h;let⟨g,f,d,c⟩:=HF h;show⟨a,g,f,d,by rw[e,c]⟩
theorem HD{b:Type}{l:List b}(h:l.length=5):∃m a1 a2 k j,l=[m,a1,a2,k,j]:=by
 let⟨a,r,e,h⟩:=pC h;let⟨i,g,f,d,c⟩:=HE h;show⟨a,i,g,f,d,by rw[e,c]⟩
theorem HC{b:Type}{l:List b}(h:l.length=6):∃o a1 a2 n m k,l=[o,a1,a2,n,m,k]:=by
 let⟨a,r,e,h⟩:=pC h;let⟨j,i,g,f,d,c⟩:=HD h;show⟨a,j,i,g,f,d,by rw[e,c]⟩
theorem HB{b:Type}{l:List b}(h:l.length=7):∃q a1 a2 p o n m,l=[q,a1,a2,p,o,n,m]:=by
 let⟨a,r,e,h⟩:=pC h;let⟨k,j,i,g,f,d,c⟩:=HC h;show⟨a,k,j,i,g,f,d,by rw[e,c]⟩
theorem Zp{b:Type}{l:List b}(h:l.length=8):∃t a1 a2 s q p o n,l=[t,a1,a2,s,q,p,o,n]:=by
 let⟨a,r,e,h⟩:=pC h;let⟨m,k,j,i,g,f,d,c⟩:=HB h;show⟨a,m,k,j,i,g,f,d,by rw[e,c]⟩
theorem zw9{b:Type}{l:List b}(h:l.length=9):∃v a1 a2 u t s q p o,l=[v,a1,a2,u,t,s,q,p,o]:=by
 let⟨a,r,e,h⟩:=pC h;let⟨n,m,k,j,i,g,f,d,c⟩:=Zp h;show⟨a,n,m,k,j,i,g,f,d,by rw[e,c]⟩
open PySem.Builtin PySem.Builtin.Str
noncomputable def Nv(prog w):SI.Kn prog w:=⟨af,inferInstance,strKind prog w,.str,strOf,λx t=>by show beq_self_eq_true x,λx v h=>by show Qa h,λ_ _=>rfl,λ_ _=>rfl,λ_ _=>⟨false,rfl⟩⟩
theorem S6(hi:StrsAre items xs):xs.length=items.toArray.size/\∀(i:Nat) v,items.toArray[i]?\v->∃x t,xs[i]?\x/\v=.str x t:=by
 rw[cW];show⟨?_,λi v hv=>?_⟩
 .induction hi with
  | nil=>rfl
  | cons _ _ _ a=>simp[a]
 rw[yv] at hv;induction hi generalizing i with
 | nil=>trivial
 | cons x t b a=>
  grind
section
variable{e:ax}{t:TA}
def zqg(K:ar)(t:TA):TE:=λσ H Q=>t σ H λa H1=>∃(p:ae)(ss:List af),a=[.ref p]/\bM K H1 p (ss.map V.str)/\ss.length<4000/\∀l:List af,l.Nodup->(∀x,x∈l↔x∈ss)->Q (.int l.length) H1
theorem zl1(F:X.calm=true)(A:X.mg "len"=none)(G:X.mg "set"=none)(ha:PA X [e] t)(z:Gl X "len":=by rfl)(C:Gl X "set":=by rfl)
  (E:starEach [e] X.env=(false,eval e X.env)::starEach [] X.env:=by rfl) (y:starEach [.Call (.Name "set" d) [e] [] a] X.env=(false,eval (.Call (.Name "set" d) [e] [] a) X.env)::starEach [] X.env:=by rfl) :
  PE X (.Call (.Name "len" v) [.Call (.Name "set" d) [e] [] a] [] pos) (zqg X.K t):=by
 intro j s σ H Q I h;show mU (kO I z A j4 ?_ (by decide) (by rfl));show yA ?_ y rfl;show vG ?_;show mU (kO I C G U4 ?_ (by decide) (by rfl));show qB (aR (ha a j s σ H _ I h) λus s1 J=>?_) E rfl;let⟨M,H1,I1,r1,r⟩:=J;let⟨p,ss,rfl,D,hn,q⟩:=r;let⟨u,rfl,m⟩:=gH r1;cases m;let⟨its,l,pl,hz⟩:=I1.list D;have g:=zlF l;show SI.set_list (kn:=Nv X.prog X.w) (I1.ok.hd F) pl.isList (S6 g).1 (S6 g).2 (qN (Pg hn) (by decide)) λi f c P N T k B=>?_
 have L:Inv X j σ H1 { s1 with heap:=i,toks:=f }:=I1.kept λb o e=>B b o (aX e) e
 show yp ?_;have hlen:(SI.keysOf (Nv X.prog X.w) c).length=c.size:=SI.Aq c;show call_len_set (s:={ s1 with heap:=i,toks:=f }) T.at_ ⟨rfl,rfl,rfl⟩ rfl T.fits ?_ ?_
 .have O:=T.small;have:scanBound=4096:=rfl;lia
 show⟨.int _,H1,L.tok _,⟨_,rfl⟩,?_⟩;show(congrArg (λn:Nat=>Q (.int n) H1) hlen).mp (q (SI.keysOf (Nv X.prog X.w) c) k.nd λx=>k.mem x)
def Jy:bB:=λds Q=>match ds with
 | [.lst a]=>match ua a with
  | some ss=>ss.length<4000/\∀l:List af,l.Nodup->(∀w,w∈l↔w∈ss)->Q (.fz (.int l.length))
  | none=>False
 | _=>False
theorem zl2(w:X.calm=true)(o:X.mg "len"=none)(y:X.mg "set"=none)(ha:ik X [e] ts)(n:Gl X "len":=by rfl)(p:Gl X "set":=by rfl)
  (u:starEach [e] X.env=(false,eval e X.env)::starEach [] X.env:=by rfl) (m:starEach [.Call (.Name "set" c) [e] [] d] X.env=(false,eval (.Call (.Name "set" c) [e] [] d) X.env)::starEach [] X.env:=by rfl) :
  PD X (.Call (.Name "len" j) [.Call (.Name "set" c) [e] [] d] [] pos) (gO Jy ts):=by
 let⟨t,pp,q⟩:=ha;show⟨_,zl1 w o y pp n p u m,λρ σ A z G H Q P E h k=>q ρ σ A z G H _ _ E h λC H' ds B x rs b=>?_⟩;unfold Jy at b;split at b
 .split at b
  .rename_i D ss r;let⟨v,rfl,i⟩:=iu rs;let⟨a,xs,rfl,g,f⟩:=i;rw[Vp r] at f;rw[Uc f] at g;show⟨a,ss,rfl,(x.s.cm g).sq,b.1,λl nd hm=>k _ _ _ B x (bZ (eQ _ _ _)) (b.2 l nd hm)⟩
  show b.elim
 show b.elim
end
end L2
namespace L2.SO
open PySem PySem.Spec PyProof.Rows L2
end L2.SO
namespace L2
open PySem PySem.Spec PyProof.Rows
section
variable{e:ax}{t:TA}
noncomputable def oD:Option af->D
 | none=>.non
 | some x=>.str x
end
def o3(a:ai)(H:Hp)(b:ae):Prop:=(∃o,a.heap.get? b\o)\/H b≠none
section
variable{X:Cx}{J':List (ae×aL)}{σ:St}{H:Hp}{s:ai}
theorem dX.some{P:aD}{w:aB}{H:Hp}{h:aw}{a:ae}{o:HO}(x:dX P w H h a o):∃ob,h.get? a\ob:=by
 cases o with
 | lst xs=>show⟨_,x.2.choose_spec.choose_spec.2⟩
 | tup xs=>
  let⟨z,its,z,ob,e,z⟩:=x;show⟨ob,e⟩
 | dK kvs c=>
  let⟨z,z,z,z,ob,z,e,z⟩:=x;show⟨ob,e⟩
 | dT kvs bs=>
  let⟨z,z,z,z,z,ob,z,z,e,z⟩:=x;show⟨ob,e⟩
 | set S n=>
  let⟨ob,z,z,z,e,z⟩:=x;show⟨ob,e⟩
 | ins C d fs=>show⟨_,x.2.2.2.1⟩
 | own y=>show x
 | xd fs=>
  obtain⟨_,⟨ob,_,_,e,_⟩,_⟩:=x;show⟨ob,e⟩
 | D7 lo hi=>
  let⟨z,z,z,e⟩:=x;show⟨_,e⟩
 | eT ob u=>show⟨ob,x.1⟩
 | rS ps=>show⟨_,x⟩
 | met f y=>show⟨_,x⟩
 | ext b=>show x.2.1
theorem Inv.there(I:Inv X J' σ H s)(a:X.ex=[])(h:o3 X.cN H b):∃o,s.heap.get? b\o:=by
 rcases h with⟨o,e⟩ | h
 .exact I.base.there b o e (by rw[a];simp)
 cases e:H b with
 | none=>show absurd e h
 | some u=>show(I.aJ b u e).some
theorem Inv.gone(I:Inv X J' σ H s)(c:X.ex=[])(x:X.stack=X.env::X.outer)(r:X.env.frame\X.env.locals){B h':aw}(st:B.StaysIn h')(k:∀b o,o3 X.cN H b->s.heap.get? b\o->b∉ee X.stack->B.get? b\o)(up:∀b∈ee X.outer,∀o,s.heap.get? b\o->(∀l,o.data≠.fields l)->∃sl,h'.get? b=some { o with slots:=sl }) :
  Un (ee X.outer) [] X.xQ H X.cN.heap h'/\dB X.prog X.w H h'/\∀b o,o3 X.cN H b->h'.get? b\o->b∉ee X.outer->B.get? b\o:=by
 have t:ee X.stack=X.env.locals::ee X.outer:=by rw[x];simp[ee,r]
 have p:∀b,o3 X.cN H b->b≠X.env.locals:=λb h z=>by
  subst z;rcases h with⟨o,e⟩ | h
  .exact absurd (aX e) (xY.mpr I.ok.above)
  show h I.free
 have out:∀b,o3 X.cN H b->b∉ee X.outer->b∉ee X.stack:=λb h n=>by
  rw[t];simp![bx,not_or];show⟨p b h,n⟩
 have same:∀b o,o3 X.cN H b->b∉ee X.outer->s.heap.get? b\o->h'.get? b\o:=λb o h n e=>st b o (k b o h e (out b h n))
 have i:∀b,H b≠none->b∉ee X.outer:=λb h m=>by
  let⟨y,o,q,y⟩:=I.ok.i4.mem m;show h (I.base.free b o q (I.ok.nH b m) (by rw[c];simp))
 show⟨⟨λb o e n hb _=>?_,λb o e n hb _=>?_,λb o e n _=>?_,λb o e _=>?_,I.base.kS,I.base.kB,I.base.lP⟩,λa u e=>?_,λb o h e n=>?_⟩
 .exact same b o (.inl ⟨o,e⟩) hb (I.base.keep b o e n hb (by rw[c];trivial))
 .let⟨sl,d⟩:=I.base.slot b o e n hb (by rw[c];trivial);let⟨y,o',g,hd⟩:=I.ok.i4.mem hb;rw[e] at g;cases g;let⟨j,f⟩:=up b hb _ d hd;show⟨j,f⟩
 .exact I.base.free b o e n (by rw[c];trivial)
 .by_cases hb:b∈ee X.outer
  .let⟨sl,d⟩:=I.base.slot b o e (I.ok.nH b hb) hb (by rw[c];trivial);let⟨y,o',g,hd⟩:=I.ok.i4.mem hb;rw[e] at g;cases g;let⟨j,f⟩:=up b hb _ d hd;show⟨_,f⟩
  let⟨o',d⟩:=I.base.there b o e (by rw[c];trivial);show⟨o',same b o' (.inl ⟨o,e⟩) hb d⟩
 .refine(I.aJ a u e).f9 (λb v hb hv=>?_) (λ_ h=>h) λ_ _ h=>h
  have hn:H b≠none:=by
   rcases hb with rfl | hb
   .rw[e];show nofun
   rw[hb];show nofun
  show same b v (.inr hn) (i b hn) hv
 let⟨o',d⟩:=I.there c h;have f:=same b o' h n d;rw[e] at f;cases f;show k b o h d (out b h n)
end
theorem zuC{h d c B:aw}(u:Un fs [] H H' h d)(fr:∀b∈fs,H b=none/\∃o,h.get? b\o/\∀j,o.data≠.fields j)(st:B.StaysIn c)
  (p:∀b o,((∃o,h.get? b\o)\/H' b≠none)->d.get? b\o->b∉fs->B.get? b\o) (up:d.UpToSlots c) (aJ:dB P w H' d):Un fs [] H H' h c/\dB P w H' c:=by
 have same:∀b o,((∃o,h.get? b\o)\/H' b≠none)->b∉fs->d.get? b\o->c.get? b\o:=λb o hb n e=>st b o (p b o hb e n)
 have slot:∀b∈fs,∀o,h.get? b\o->∃sl,c.get? b=some { o with slots:=sl }:=λb hb o e=>by
  let⟨n,o',i,hd⟩:=fr b hb;rw[e] at i;cases i;let⟨sl,g⟩:=u.slot b o e n hb ∅;let⟨k,f⟩:=up b _ g hd;show⟨k,f⟩
 have l:∀b,H' b≠none->b∉fs:=λb hb m=>by
  let⟨n,o,e,y⟩:=fr b m;show hb (u.free b o e n ∅)
 show⟨⟨λb o e n hb _=>same b o (.inl ⟨o,e⟩) hb (u.keep b o e n hb (by trivial)),λb o e n hb _=>slot b hb o e,λb o e n _=>u.free b o e n (by trivial),λb o e _=>?_,u.kS,u.kB,u.lP⟩,λa v e=>?_⟩
 .by_cases hb:b∈fs
  .let⟨sl,f⟩:=slot b hb o e;show⟨_,f⟩
  let⟨o',g⟩:=u.there b o e (by trivial);show⟨o',same b o' (.inl ⟨o,e⟩) hb g⟩
 show(aJ a v e).f9 (λb q hb r=>?_) (λ_ z=>z) λ_ _ z=>z
 have hn:H' b≠none:=by
  rcases hb with rfl | hb
  .rw[e];show nofun
  rw[hb];show nofun
 show same b q (.inr hn) (l b hn) r
section
variable{X:Cx}
noncomputable abbrev Cx.sg(X:Cx)(a:ae):Cx:={ X with A:=X.A.mark (some (.ref a)),calm:=false }
theorem Inv.sg{b:St}(I:Inv X c b H s)(a):Inv (X.sg a) c b H s:=
 ⟨⟨I.ok.mod,I.ok.kind,I.ok.glob,I.ok.blt,I.ok.above,I.ok.inj,I.ok.has,I.ok.cab,λz=>(by cases z),I.ok.frames,I.ok.z8,I.ok.exf,I.ok.bs,I.ok.qu,I.ok.xc,I.ok.xG,I.ok.i4,I.ok.nH⟩,I.os,I.bare,I.base,I.loc,I.cell,I.free,I.jT,I.pin,I.aJ,I.len⟩
theorem Inv.aas{b:St}(ok:X.Ok)(I:Inv (X.sg a) c b H s):Inv X c b H s:=
 ⟨ok,I.os,I.bare,I.base,I.loc,I.cell,I.free,I.jT,I.pin,I.aJ,I.len⟩
end
end L2
namespace PySem
open Sem (wp)
end PySem
namespace L2
open PySem PySem.Spec PyProof.Rows
end L2
namespace Ts
open PySem PySem.W PyProof.Rows
end Ts
namespace L2
open PySem PySem.Spec PyProof.Rows
end L2
namespace Ts
open PySem PySem.W PyProof.Rows
open PySem.SeqAt
end Ts
namespace L2
open PySem PySem.Spec PyProof.Rows
section
variable{σ:St}
theorem Inv.tell(I:Inv X J' σ H s)(g:Inv X J' σ H0 s0)(hn:H a=none)(f:s0.heap.get? a=none)(new:dX X.prog X.w (upd H a o) s.heap a o):Inv X J' σ (upd H a o) s:=by
 have nl:a≠X.env.locals:=λz=>by
  obtain⟨m,⟨y,_,_,r,_⟩,_⟩:=g.loc;rw[z,r] at f;cases f
 show⟨I.ok,I.os,I.bare,⟨I.base.keep,I.base.slot,λb ob e n i=>?_,I.base.there,λb xs e=>?_,λb o' u e=>?_,λb ps e=>?_⟩,I.loc,I.cell,by rw[aY (Ne.symm nl)];show I.free,λx c e=>?_,λp j=>?_,λb u e=>?_,I.len⟩
 .have:b≠a:=λz=>by
   let⟨o',k⟩:=g.base.there b ob e i;rw[z,f] at k;cases k
  rw[aY this];show I.base.free b ob e n i
 .have z:=I.base.kS b xs e;rw[aY (e9 z hn)];show z
 .have z:=I.base.kB b o' u e;rw[aY (e9 z hn)];show z
 .let⟨more,z⟩:=I.base.lP b ps e;show⟨more,by rw[aY (e9 z hn)];show z⟩
 .have:c≠a:=λz=>by
   let⟨v,t,h,Z⟩:=g.cell x c e;rw[z,f] at h;cases h
  rw[aY this];show I.jT x c e
 .let⟨e,n,ne,l,d⟩:=I.pin p j;have:p.1≠a:=λz=>by
   have:=(g.pin p j).1;rw[z,f] at this;cases this
  show⟨e,by rw[aY this];show n,ne,l,d⟩
 by_cases hb:b=a
 .subst hb;rw[cw] at e;cases e;show new
 rw[aY hb] at e;show(I.aJ b u e).f9 (λc v _ q=>q) (λc q=>by rw[aY (e9 q hn)];show q) λc xs q=>by rw[aY (e9 q hn)];show q
theorem Inv.abv(I:Inv X J' σ H s)(hN:X.N.Nodup)(hi:X.N[i]?\x)(hm:∀(j:Nat) y v,X.N[j]?\y->σ[j]?\some v->lV X.env.scope y->∃u,RelV v u/\Look X.env s.heap m y u)
  (hn:h'.Ns X.env.locals (λy=>if y=x then v else m y)) (a:j6 X.env.locals s.heap h'):Inv X J' (σ.set i none) H { s with heap:=h',toks:=t' }:=by
 obtain⟨m0,⟨F,J,K,G,L⟩,_⟩:=id I.loc;have nK:=I.nK;show⟨I.ok,I.os,I.bare,⟨λb o e n hb h=>?_,λb o e n hb h=>?_,I.base.free,λb o e h=>?_,I.base.kS,I.base.kB,I.base.lP⟩,⟨_,hn,λj y w g f E=>?_⟩,λy c e=>?_,I.free,I.jT,λp D=>?_,λb ob e=>?_,by simpa using I.len⟩
 .exact(a.2 b (bJ (gm (aX e) I.ok.above))).trans (I.base.keep b o e n hb h)
 .let⟨sl,g⟩:=I.base.slot b o e n hb h;show⟨sl,(a.2 b (bJ (gm (aX e) I.ok.above))).trans g⟩
 .let⟨o',g⟩:=I.base.there b o e h;show⟨o',(a.2 b (bJ (gm (aX e) I.ok.above))).trans g⟩
 .have t:j≠i:=λz=>by
   subst z;rw[lz] at f;split at f
   .split at f<;>cases f
   show absurd rfl (by assumption)
  rw[GW (Ne.symm t)] at f;let⟨A,B,q⟩:=hm j y w g f E;show⟨A,B,?_⟩;rcases q with⟨k,e⟩ | ⟨k,c,e,z⟩
  .refine .inl ⟨k,?_⟩;have:y≠x:=λe=>t (Jv hN g (e▸hi))
   simp[this,e]
  show .inr ⟨k,c,e,z.sameBut a (nK y c e)⟩
 .let⟨r,z⟩:=I.cell y c e;show⟨r,z.sameBut a (nK y c e)⟩
 .let⟨e,n,ne,C,d⟩:=I.pin p D;show⟨(a.2 p.1 ne).trans e,n,ne,C,d⟩
 show(I.aJ b ob e).f9 (λc r l q=>(a.2 c ?_).trans q) (λ_ q=>q) λ_ _ q=>q
 rintro rfl;rcases l with rfl | l
 .rw[I.free] at e;cases e
 rw[I.free] at l;cases l
end
end L2
namespace PySem.W
open PySem PySem.Spec PySem.Calls PyProof.Rows Builtin Builtin.ObjectAttr Builtin.Getset_descriptor
section
variable{w:aB}{E:aa->ai->Prop}{s:ai}{K:Frag}{x C D:ae}
def nP(h:aw)(x C:ae):Prop:=∃o,h.get? x\o/\o.cls=.ref C
theorem nP.type(I:nP h x C):Looks M h (typeOf (.ref x)) (.ref C):=by
 let⟨o,e,c⟩:=I;show c▸(Looks.ld e).andThen .now
theorem zsH(X:K.In h)(ha:findIn K (.ref C) name=some (some a))(hg:specialIn K a "__get__"=some (some g))(ht:takesIn K a=some true):Looks M h (find (.ref x) (.ref C) name) (.bind g a):=by
 have c:=yc (M:=M) X ha;have L2:Looks M h (getOf (some a)) (some g):=looks_specialIn X hg;have b:=looks_takesIn (M:=M) X ht;show c.andThen (L2.andThen ((show Looks M h (dataDescriptor? (some a) (some g)) (some (g,a)) from b.andThen .now).andThen (Looks.tag .now)))
theorem zi6(X:K.In s.heap)(I:nP s.heap x C)(hm:mroIn K C (.type "object")=some true)
  (h:R (.ok (.ret (.ref C))) s):codeAny (model prog w) A (.call (.builtin "getset_descriptor.__get__") ⟨[.builtin "object.__class__",.ref x,tp],[]⟩) R s:=by
 let⟨hh,g,a,t,os⟩:=s;have c:=I.type (M:=model prog w);have b:=looks_mroIn (M:=model prog w) X hm;show tM KF.slot_gs.plain KF.entry_gs (KF.slot_gs.check _ _ _ _ _ _ _ _ KF.type_class (KF.args_gs _ _ _) ?_);show aj (az ?_);unfold descrGetter descrCheckInstance descrNameAndClass isInstance;simp only[KF.owner_class];repeat lk
 show⟨BX _ (by decide +kernel),i8 KF.entry_class ?_⟩;repeat lk
 show h
theorem Uz(X:K.In s.heap)(I:nP s.heap x D)(hb:mroIn K D (.type "BaseException")=some true)(f:Q () s):wpAny M A (checkBuiltinCall "BaseException.__getattribute__" ⟨[.ref x,b],[]⟩) Q E s:=by
 let⟨hh,g,d,t,os⟩:=s;have hk:builtinKind "BaseException.__getattribute__"=some .slot:=by rfl
 have a:splitId "BaseException.__getattribute__"=some ("BaseException","__getattribute__"):=by rfl
 have ha:=F.args_bexc_ga (.ref x) b;have e:=I.type (M:=M);have c:=looks_mroIn (M:=M) X hb;simp only[checkBuiltinCall,hk,a];show aj ?_;unfold isInstance;show aj (e.at (c.at ?_));repeat(any_goals (first | assumption | wp_step))
theorem zqh(X:K.In s.heap)(I:nP s.heap x D)(ha:findIn K (.ref D) name=some (some a))(hg:specialIn K a "__get__"=some (some g))(ht:takesIn K a=some true)
  (h:↥(call g [a,.ref x,.ref D]) (λv b=>R (.done (.ret v)) b) E s) :
  ↥(Builtin.«object.__getattribute__» ⟨[.ref x,.str name tk],[]⟩) R E s:=by
 let⟨hh,f,d,t,os⟩:=s;have e:=I.type (M:=model prog w);have c:=zsH (M:=model prog w) (x:=x) X ha hg ht;show aj (az (aj (az (aj (e.at (aj (c.at ?_)))))));show aj (eX (eW h (λv b z=>az z) λ_ _ z=>z))
theorem zqi(X:K.In s.heap)(I:nP s.heap x D)(f:findIn K (.ref D) "__getattribute__"=some (some (.builtin "BaseException.__getattribute__")))(i:findIn K (.ref D) "__getattr__"=some none)
  (hb:mroIn K D (.type "BaseException")=some true) (ha:findIn K (.ref D) name=some (some a)) (hg:specialIn K a "__get__"=some (some g)) (ht:takesIn K a=some true)
  (h:wpAny (model prog w) A.in1 (call g [a,.ref x,.ref D]) (λv c=>↥(handedOut v) (λv b=>Q (some v) b) (λ_ _=>False) c) (λ_ _=>False) { s with toks:=s.toks+1 }) :
  ↥(getAttr? (.ref x) name) Q E s:=by
 let⟨hh,e,d,t,os⟩:=s;have k:=I.type (M:=model prog w);have j:=yc (M:=model prog w) X f;have L2:=yc (M:=model prog w) X i;show aj (N6 (aj (ph (eX (aj (k.at (aj (j.at ?_))))))));show aj (L2.at (aj (ph (eX ?_))));show aj (az (nU (tM F.excAttr_ValueError.ga.plain OO (Uz (s:=⟨hh,e,d,t+1,os⟩) X I hb (zqh (s:=⟨hh,e,d,t+1,os⟩) X I ha hg ht (eW h (λv c z=>?_) λ_ _ z=>z.elim))))));show eW z (λv b hv=>az hv) (λ_ _ z=>z.elim)
structure ND(K:Frag)(D:ae):Prop where
 hg:findIn K (.ref D) "__getattribute__"=some (some (.builtin "BaseException.__getattribute__"))
 hh:findIn K (.ref D) "__getattr__"=some none
 hd:hasDictIn K D=true
 ha:findIn K (.ref D) "__class__"=some (some (.builtin "object.__class__"))
 hn:specialIn K (.builtin "object.__class__") "__get__"=some (some (.builtin "getset_descriptor.__get__"))
 ht:takesIn K (.builtin "object.__class__")=some true
 hm:mroIn K D (.type "object")=some true
 hb:mroIn K D (.type "BaseException")=some true
theorem zqj(B:ND K D)(X:K.In s.heap)(I:nP s.heap x D)(h:Q (some (.ref D)) { s with toks:=s.toks+1 }):↥(getAttr? (.ref x) "__class__") Q E s:=
 zqi X I B.hg B.hh B.hb B.ha B.hn B.ht (nU (zi6 (s:={ s with toks:=s.toks+1 }) X I B.hm (handed_on rfl h)))
theorem aaK(B:ND K D):KitX K (.ref x) (.ref D) (λh=>nP h x D) where
 ty:=λ_ _ _ I=>I.type
 it:=λ_ _ X _=>by
  obtain⟨d,a,_⟩:=any_some B.hd;unfold clsIn at a;split at a
  .rename_i g d' f i c;intro p m o j k q;unfold isType loadHead;show aj (Ov (k _ _ (X _ _ c)) (az q))
  cases a
 ne:=λh tp l its n sl X b=>by
  obtain⟨d,a,_⟩:=any_some B.hd;show Gy.mpr λq=>?_
  have e:D=tp:=Yl (beq_iff_eq.mp q);subst e;unfold clsIn at a;split at a
  .rename_i g d' f i c;have:=X _ _ c;rw[b] at this;cases this
  cases a
 ca:=λX I k=>zqj B X I k
end
end PySem.W
namespace L2
open PySem PySem.Spec PyProof.Rows
noncomputable abbrev Be:=PySem.W.ND
section
variable{e:ax}{te:TD}{D:ae}{b:Bool}
theorem Inv.abz{d:St}(I:Inv X j d H s)(f:gA X.K mainGlobals c\some (.ref D))(r:Rep X.K H v (.exc c fs)):∃a,v=.ref a/\PySem.W.nP s.heap a D:=by
 let⟨a,k,C,m,l,rfl,e,b,i,z⟩:=r;rw[f] at b;cases b;let⟨o,h,g,z⟩:=i _ (I.aJ a _ e).1;show⟨a,rfl,o,h,g⟩
theorem znT(j:Be X.K D)(g:gA X.K mainGlobals d\some (.ref D))(i:∀u,RelV c u->u=uc)(hb:vv X.K (.ref D) uc\b) :
  fk X (.builtin "isinstance") (λxs H Q=>∃x fs,xs=[x,c]/\Rep X.K H x (.exc d fs)/\Q (.bl b) H):=by
 intro l s σ H xs us Q I r h;let⟨x,fs,rfl,e,q⟩:=h;let⟨u,k,rfl,f,rc⟩:=oh r;let⟨a,rfl,ex⟩:=I.abz g e;cases (show u=cI a from f);rw[i _ rc];show tm (PySem.W.aaK j) I.dy ex hb (by intro z;cases z) λtk=>⟨.bl b,H,I.tok tk,rfl,q⟩
def HU(a:af)(b:Bool)(te:TD):TD:=λρ Q=>te ρ λr=>match r.val with
 | .exc c _=>c=a/\Q (.fz (.bl b))
 | _=>False
theorem zsJ(y:PD X e te)(z:Be X.K D)(o:gA X.K mainGlobals j=some (some (.ref D)))(hm:X.mg "isinstance"=none)(A:X.mg a=some (.ref C))(hb:vv X.K (.ref D) (.ref C)=some b)
  (hg:Gl X "isinstance":=by rfl) (w:Gl X a:=by rfl) (hd:(a==("__debug__":af))=false:=by decide) (l:starEach [e,l8 a d] X.env=(false,eval e X.env)::starEach [l8 a d] X.env:=by rfl) (n:starEach [l8 a d] X.env=(false,eval (.Name a d) X.env)::starEach [] X.env:=by rfl)
  (F:(backTo pos (starEach [l8 a d] X.env)).any (·.1)=false:=by rfl):PD X (.Call (.Name "isinstance" p) [e,.Name a d] [] pos) (HU j b te):=by
 let⟨t,pp,q⟩:=y;show⟨_,zq (znT (c:=.ref C) (uc:=.ref C) (b:=b) z o (λu h=>h) hb) hg hm Ge (fZ pp (fZ (zry (v:=.ref C) w A rfl hd) jk n) l) (by decide) (by assumption) l F,λρ σ L I G H Q P E h k=>q ρ σ L I G H _ _ E h λv H' r M x m f=>?_⟩;obtain⟨J,g,i,_⟩:=m.freeze x;split at f
 .rename_i c fs B;let⟨rfl,f⟩:=f;rw[B] at i;show⟨v,fs,rfl,i.mono g.s,k _ _ _ J g (bZ (fY _ _ _)) f⟩
 show f.elim
end
theorem znU(o:aL)(f):(o.mapFields f).dict=o.dict:=by
 let⟨c,d,a,s⟩:=o;cases a<;>rfl
def Tr2(h B:aw)(e:ae)(cls:aa)(f:Option ae)(d:aa):Prop:=
 ∃a b T c ts,h.get? e\a/\(a.cls=cls/\a.dict=f)/\a.data=.fields b/\b[1]?\.ref T/\(B.get? T=none/\T≠e)/\h.get? T\c/\c.data=.fields ts/\ts[3]?=some d
structure mR(B:aw)(l:List cC)(e:ae)(cls:aa)(dd:Option ae)(fl:aa)(h:aw):Prop where
 st:B.StaysIn h
 new:B.get? e=none
 ff:h.FunFrames B l
 tr:Tr2 h B e cls dd fl
theorem mR.there(x:mR B l e cls b j h):∃o a,h.get? e\o/\o.cls=cls/\o.dict=b/\o.data=.fields a:=
 let⟨c,a,_,_,_,i,⟨g,f⟩,d,_⟩:=x.tr;⟨c,a,i,g,f,d⟩
section
variable{M:Model}{A:aT}
theorem IZ{h:aw}(c:h.get? e\oe)(hd:oe.data=.fields vs)(k x) :
  (h.update e (sX (·.setIfInBounds k x))).get? e\oe.mapFields (·.setIfInBounds k x)/\(∀b,b≠e->(h.update e (sX (·.setIfInBounds k x))).get? b=h.get? b)/\h.UpToSlots (h.update e (sX (·.setIfInBounds k x))):=by
 have a:∀b,b≠e->(h.update e (sX (·.setIfInBounds k x))).get? b=h.get? b:=λb hb=>g8 _ _ (Ne.symm hb)
 show⟨kG _ c (B9 (tI hd _)),a,λb o q hn=>⟨o.slots,?_⟩⟩;rw[a b λz=>by rw[z,c] at q;cases q;show hn vs hd];show q
theorem HS{h h':aw}(u:h.UpToSlots h')(f:h.FunFrames B l):h'.FunFrames B l:=f.of_keeps λb o q hn=>let⟨_,z⟩:=u b o q hn;⟨_,z,rfl⟩
theorem R7(w:A.frames\(env::outer))(ff:s.heap.FunFrames B (env::outer))(v:env.frame\L)(n:s.heap.get? e\oe)(st:B.StaysIn s.heap)(new:B.get? e=none)(hd:oe.data=.fields vs)(p:1<vs.size)
  (k:∀h',mR B (env::outer) e oe.cls oe.dict (rawInt L) h'->s.heap.UpToSlots h'->Q () { s with heap:=h' }) :
  wpAny M A (do let a <-frameOf env;let pl <-entryPlaceOf L d;let b <-Yx head a .none (rawInt L) .none pl;setField (.ref e) 1 b) Q E s:=by
 have u:∀b∈(env::outer).filterMap (·.frame),b≠e:=λb hb z=>by
  let⟨Z,o,m,hn⟩:=ff.mem hb;rw[z,n] at m;cases m;show hn vs hd
 show aj (wpAny_frameOf_fun w ff v λg so=>aj (wpAny_entryPlaceOf λpl r=>?_));show aj (i9 ?_ (r.sizeOk5 _ _ _ _ _));generalize y:({ cls:=.type "traceback",dict:=none,data:=.fields _ }:aL)=ob;obtain⟨us,i,c⟩:∃us,ob.data=.fields us/\us[3]?=some (rawInt L):=by
  rw[<-y];show⟨_,rfl,?_⟩;first | (rfl;done) | (rcases r with rfl | ⟨_,_,_,_,_,_,_,rfl⟩<;>simp)
 have g1:g.get? e\oe:=(so.2.1 e λz=>u e z rfl).trans n;have h:s.heap.UpToSlots g:=λb o q _=>so.2.2 b o q
 have f:g.UpToSlots (g.push ob):=.of_keeps λb o q=>aV ob q
 have g2:=aV ob g1;have x:(g.push ob).get? g.objs.size\ob:=b8 g (B9 i);have t:g.objs.size≠e:=jd (aX g1);have s1:B.StaysIn g:=λb o q=>(so.2.1 b λz=>by rw[(ff.mem z).1] at q;cases q).trans (st b o q)
 let⟨r1,l,j⟩:=IZ g2 hd 1 (.ref g.objs.size);show qH g2 hd p (k _ ⟨λb o q=>?_,new,HS ((h.trans f).trans j) ff,_,_,g.objs.size,_,_,r1,⟨Gw _ _,znU _ _⟩,tI hd _,by simp[p],⟨s1.fresh,t⟩,(l _ t).trans x,i,c⟩ ((h.trans f).trans j));rw[l b λz=>by rw[z,new] at q;cases q];show aV ob (s1 b o q)
theorem zl3(d:A.frames\(env::outer))(ff:s.heap.FunFrames B (env::outer))(a:env.frame\L)(b:s.heap.get? e\oe)(st:B.StaysIn s.heap)(new:B.get? e=none)(hd:oe.data=.fields vs)(c:vs[1]?\.none)
  (k:∀h',mR B (env::outer) e oe.cls oe.dict (rawInt L) h'->s.heap.UpToSlots h'->Q () { s with heap:=h' }):wpAny M A (noteFrame (.ref e) env) Q E s:=by
 unfold noteFrame;simp![a];show aj (iq b hd c ?_);show R7 d ff a b st new hd (yz.mp c).1 k
theorem S5(l:A.frames\(env::outer))(h:env.frame\L)(x:mR B (env::outer) e cls dd .none s.heap)
  (k:∀h',mR B (env::outer) e cls dd (rawInt L) h'->s.heap.UpToSlots h'->Q () { s with heap:=h' }):wpAny M A (noteFrame (.ref e) env) Q E s:=by
 obtain⟨st,new,ff,oe,vs,T,oT,ts,he,⟨rfl,rfl⟩,hd,j,⟨hn,m⟩,c,a,i⟩:=x;unfold noteFrame;simp![h];show aj (iq he hd j ?_);show aj (iq c a i ?_);let⟨r1,g,d⟩:=IZ c a 3 .none;show aj (qH c a (yz.mp i).1 ?_);show R7 l (HS d ff) h ((g e (Ne.symm m)).trans he) (λb o q=>?_) new hd (yz.mp j).1 λh' f u=>k h' f (d.trans u)
 show(g b λz=>by rw[z,hn] at q;cases q).trans (st b o q)
theorem C6(x:mR B l e cls dd fl s.heap)(k:∀h',mR B l e cls dd .none h'->s.heap.UpToSlots h'->Q () { s with heap:=h' }):wpAny M A (setFlight (.ref e) none) Q E s:=by
 obtain⟨st,new,ff,oe,vs,T,oT,ts,he,m,hd,i,⟨hn,j⟩,h,a,n⟩:=x;have c:3<ts.size:=(yz.mp n).1;show aj (iq he hd i ?_);let⟨r1,g,d⟩:=IZ h a 3 ((none:Option ae).elim iL λf=>rawInt f);show qH h a c (k _ ⟨λb o q=>(g b λz=>by rw[z,hn] at q;cases q).trans (st b o q),new,HS d ff,oe,vs,T,_,_,(g e (Ne.symm j)).trans he,m,hd,i,⟨hn,j⟩,r1,tI a _,by simp[c]⟩ d)
theorem zi7(h:A.frames\(env::outer))(ff:s.heap.FunFrames B (env::outer))(b:env.frame\L)(c:s.heap.get? e\oe)(st:B.StaysIn s.heap)(new:B.get? e=none)(hd:oe.data=.fields vs)(g:vs[1]?\.none)
  (k:∀h',mR B outer e oe.cls oe.dict .none h'->s.heap.UpToSlots h'->Q () { s with heap:=h' }):wpAny M A (leaving env (.ref e)) Q E s:=
 aj (zl3 h ff b c st new hd g λh' f u=>C6 f λd f2 a=>k d ⟨f2.st,f2.new,f2.ff.2.2,f2.tr⟩ (u.trans a))
theorem znW(d:A.frames\(env::outer))(b:env.frame\L)(x:mR B (env::outer) e cls dd .none s.heap)
  (k:∀h',mR B outer e cls dd .none h'->s.heap.UpToSlots h'->Q () { s with heap:=h' }):wpAny M A (leaving env (.ref e)) Q E s:=
 aj (S5 d b x λh' f u=>C6 f λc f2 a=>k c ⟨f2.st,f2.new,f2.ff.2.2,f2.tr⟩ (u.trans a))
end
section
variable{os:OsState}
variable{rest:List aa}{oI:aL}
theorem znX(F:ExcBaseFacts B newId initId bmB)(T:OwnTail h bmB bm)(a:h.get? C=some (excClassObj nm q C N bs bm xB sn sub ab col dd k0 k1 k2 k3 k5 newId))(hn:h.Ns N mN)(hi:mN "__init__"=some (.ref fI))(s:h.get? fI=some oI)(u:oI.cls=.type "function")
  (k:∀h' e,Heap.MadeExcOf h h' e (.ref C) rest->wpAny (model prog w) (A.under (.builtin "type.__call__" ⟨.ref C::rest,[]⟩)) (call (.ref fI) (.ref e::rest)) (λr l=>r=.none/\Q (.ref e) l) E ⟨h',g,d,t,os⟩) (v:rest.length<=sizeLine) :
  ↥(call (.ref C) rest) Q E ⟨h,g,d,t,os⟩:=by
 have f1:=tc_lookup;have f2:=tc_bind (.ref C);have y:(⟨h,g,d,t,os⟩:ai).TypeIs (.ref C) "type":=⟨_,a,rfl⟩
 show nU (Gb ?_);show wpAny _ _ (callAny (.ref C) _) _ _ _;repeat(any_goals (first | assumption | with_reducible show yo a ?_ | wp_step))
 show⟨rfl,codeAny_call_builtin_at (BX _ (by decide +kernel)) entry_typeCall (wpAny_check_type_call_sub a ?_)⟩;repeat(first | with_reducible show yo a ?_ | with_reducible show wpAny_madeBy_exc a ?_ | wp_step)
 show codeAny_call_builtin_code (BX _ F.quiet) (wpAny_check_new_subT F T a (codeAny_exc_new_subT F T a ?_ v));generalize c:(h.push _).push _=i;have kp:∀b o,h.get? b\o->i.get? b\o:=λb o z=>by rw[<-c];show aV _ (aV _ z)
 have ge:i.get? (h.objs.size+1)=some { cls:=.ref C,data:=.fields #[.ref h.objs.size,.none,.none,.none,.bool false,.none] }:=by rw[<-c];heap_get
 have j:i.get? h.objs.size=some { cls:=.type "tuple",data:=.seq rest.toArray }:=by rw[<-c];show aV _ (Pf rfl rfl)
 clear c;have m:=kp _ _ a;have f:(cI C::bm).contains (.ref C)=true:=by simp
 show wpAny _ _ _ _ _ _;unfold isInstance;repeat(first | with_reducible show yo ge ?_ | (with_reducible show P2 m ?_;rw[f]) | wp_step)
 show wpAny _ _ (typeLookup (.ref C) _) _ _ _;show wpAny_typeLookup_tail m (hn.keeps kp) (T.keeps kp) F.mroIs F.init.lookup ?_;rw[hi];show eX (aj ?_);unfold bindSpecial;show aj (pe (T:="function") ⟨_,kp _ _ s,u⟩ ?_);rw[if_pos (by rfl)];show az (aj (eW (k _ (h.objs.size+1) ⟨kp,B5 (iM _),h.objs.size,ge,B5 (aW _),j⟩) (λr l n=>?_) λ_ _ x=>x));let⟨rfl,p⟩:=n;wp_walk
 show p
end
noncomputable def uT(K:ar)(C:ae)(bmB:List aa)(newId:String)(a:Option ae):Bool:=match K.lookup C with
 | some ⟨.type "type",_,.cls cd,sl⟩=>(match cd.mro,sl.toList with
  | .ref b::bm,[_,_,_,_,some (.builtin n),_]=>b==C&&n==newId&&!cd.hasDel&&PySem.W.tailIn K bmB bm&&PySem.W.nsOkIn K cd.ns&&gA K cd.ns "__init__"==some (a.map cI)
  | _,_=>false)
 | _=>false
def u4(C:ae)(bmB:List aa)(newId:String)(f:Option ae)(h:aw):Prop:=
 ∃bm N nm q bs b sn sub i col g k0 k1 e d c a,h.get? C=some (excClassObj nm q C N bs bm b sn sub i col g k0 k1 e d c newId)/\h.Ns N a/\a "__init__"=f.map cI/\OwnTail h bmB bm
theorem Zb{K:ar}(X:K.In h)(G:h.Ns N m)(e:gA K N n\v):m n=v:=by
 obtain⟨o,b,c,a,hd,_,hf⟩:=G;unfold gA at e;split at e
 .rename_i look;have:=X _ _ look;rw[a] at this;cases this;cases hd;rw[<-hf];unfold nsFind findBy;split at e
  .rename_i he;cases e;rw[<-GL,he];rfl
  rename_i he;rw[<-GL,he];split at e
  .cases e
  cases e;rfl
 cases e
theorem u4.of{K:ar}{C:ae}{bmB:List aa}{newId:String}{a:Option ae}{h:aw}(X:K.In h)(z:uT K C bmB newId a=true):u4 C bmB newId a h:=by
 unfold uT at z;split at z
 .rename_i o cd sl look;split at z
  .rename_i p n m l k j nn i he hz;simp![gZ,beq_iff_eq,BO] at z;obtain⟨⟨⟨⟨⟨g,f⟩,e⟩,d⟩,c⟩,b⟩:=z;subst g f;cases cd;subst he e;obtain rfl:sl=#[m,l,k,j,some (.builtin nn),i]:=by
    cases sl;simp only at hz;rw[hz]
   have N:Heap.Ns h _ _:=.of_isNs (PySem.W.isNs_of_in X c);show⟨_,_,_,_,_,_,_,_,_,_,_,_,_,_,_,_,_,X _ _ look,N,Zb X N b,PySem.W.tail_of_in X d⟩
  cases z
 cases z
def gR(e C:ae)(a:Option ae):aw->Prop:=λh=>∃t,h.get? e=some { cls:=.ref C,dict:=a,data:=.fields #[.ref t,.none,.none,.none,.bool false,.none] }
theorem IA(x:gR e C a h):dX P w H h e (.ext (gR e C a)):=
 ⟨x,⟨_,x.choose_spec⟩,λ_ _ ⟨t,z⟩ k=>⟨t,k _ z⟩⟩
theorem zuD(h:H a\o):upd H a o=H:=by
 funext b
 unfold upd;split
 .rename_i z;rw[z,h]
 rfl
section
variable{X:Cx}{pos p ap:aG}{es:List ax}{e1 e2:ax}{W:af}{Wa:ae}{B newId initId:String}{bmB:List aa}{t1 t2:TE}
def Za(K:ar)(bmB:List aa)(newId:String)(ts:TA):TE:=λσ H Q=>ts σ H λb H1=>∃a v C d c,b=[.ref a,v]/\H1 a\.ext (gR a C d)/\uT K C bmB newId c=true/\Q .non H1
theorem zsL{ts:TA}{pl:Sem Bool}(F:ExcBaseFacts B newId initId bmB)(hm:X.mg W=some (.ref Wa))(n:F8 X.K Wa (.type "type")=true)(m:Gu X.K (.ref Wa) "__getattribute__"=some (some (.builtin "type.__getattribute__")))
  (w:F7 X.K (.ref Wa) (.type "type") "__init__"=some (.val (.builtin initId))) (hh:BN (.builtin initId)=true) (ha:PA X [e1,e2] ts) (hg:Gl X W:=by rfl) (hd:(W==("__debug__":af))=false:=by decide)
  (D:starEach [e1,e2] X.env=(false,eval e1 X.env)::starEach [e2] X.env:=by rfl) (A:(backTo pos (starEach [e2] X.env)).any (·.1)=false:=by rfl)
  (ht:eval (.Call (.Attribute (.Name W p) "__init__" ap) [e1,e2] [] pos) X.env=(do
   let ov <-eval (.Name W p) X.env
   standAt ap.atName
   let(f,first) <-holding [ov] (getMethod ov "__init__" pl)
   callWith pos f first (backTo pos (starEach [e1,e2] X.env)) (backToKw pos (keywordEach [] X.env))):=by rfl) :
  PE X (.Call (.Attribute (.Name W p) "__init__" ap) [e1,e2] [] pos) (Za X.K bmB newId ts):=by
 intro M s σ H Q I h;show PySem.W.methodCall_KW (pl:=pl) (wA I hg hm ?_ hd) ht;show PySem.W.method_cls I.dy m (PySem.W.cls_value I.dy n w hh ?_);show yA (aR (ha pos M _ σ H _ (I.tok _) h) λus s1 G=>?_) D A;let⟨P,H1,I1,r,a,v,C,E,Z,hv,c,l,q⟩:=G;subst hv;let⟨k,j,rfl,r1,R⟩:=oh r;cases (show k=cI a from r1);let⟨bm,N,nm,S,bs,O,sn,sub,ab,col,dc,k0,k1,Y,V,U,T,y,hN,L9,L⟩:=u4.of I1.dy l;let⟨t,he⟩:=(I1.aJ a _ c).1;let⟨i,g,d,tk,os⟩:=s1;show nU (tM F.init.plain F.initEntry (wpAny_check_init_subT F L y he rfl ?_));wp_walk
 have ge:=kG (sX λx=>x.setIfInBounds 0 (cI i.objs.size)) (aV { cls:=.type "tuple",data:=.seq #[j] } he) rfl;show⟨.non,H1,?_,rfl,q⟩;have J:=I1.write (x:=a) (e:=a) (o:=.ext (gR a C E)) (t':=tk) (by rw[c];trivial) (.inl rfl) (λb u hb z=>(g8 _ _ (Ne.symm hb)).trans (aV _ z)) ⟨_,ge⟩ (IA ⟨i.objs.size,ge⟩);rw[zuD c] at J;show J
end
open Builtin Builtin.ObjectAttr
noncomputable def behind(a:List aa):List aa->Bool
 | []=>a==[]
 | v::r=>(v::r)==a||match v with
  | .ref _=>behind a r
  | _=>false
theorem Vv(a:refuseLoop self "__setattr__" b=pure ()):∀{l},behind b l=true->refuseLoop self "__setattr__" l=pure ()
 | [],e=>by rw[beq_iff_eq.mp e] at a;show a
 | v::r,e=>by
  rcases P1.mp e with q | q
  .rw[beq_iff_eq.mp q];show a
  split at q
  .rw[refuseLoop_ref];show Vv a q
  cases q
theorem Vj(a:b.contains v=true):∀{l},behind b l=true->l.contains v=true
 | [],e=>by rw[beq_iff_eq.mp e] at a;show a
 | u::r,e=>by
  rcases P1.mp e with q | q
  .rw[beq_iff_eq.mp q];show a
  split at q
  .rw[GI,Vj a q,Bp]
  cases q
noncomputable abbrev MP:List aa:=[.type "ValueError",.type "Exception",.type "BaseException",.type "object"]
section
variable{prog:aD}{w:aB}{A:aT}{E:aa->ai->Prop}{s:ai}{K:ar}{x C dx:ae}{ox:aL}{od:Option aL}{name:af}{v:aa}{cd:ClassData}{Q:Unit->ai->Prop}
theorem zqk(X:K.In s.heap)(I:Ou s.heap x ox C od)(d:FW K C=some cd)(hb:behind MP cd.mro=true)(e:mf K (.ref C) "__setattr__"=some (some (.builtin "object.__setattr__")))(hn:mf K (.ref C) name=some none)
  (k:∀tk b,wpAny (model prog w) A.in1 (storeInOwnDict (.ref x) (.ref C) (.str name tk) name v b) (λfin c=>match fin with | .done (.ret _)=>Q () c | _=>False) E { s with toks:=s.toks+1 }) :
  ↥(setAttr (.ref x) name v) Q E s:=by
 have a:=PySem.F.store_ValueError;have ne:cd.mro.isEmpty=false:=by
  cases q:cd.mro with
  | nil=>rw[q] at hb;cases hb
  | cons _ _=>rfl
 have sub:FV (model prog w) s.heap (isInstance (.ref x) (.type "object")) true:=I.type.andThen (PySem.W.looks_mroIn X (by unfold Of;rw[d,Option.bind_some,if_neg (by rw[ne];decide),Vj rfl hb]));have hm:FV (model prog w) s.heap (mroOf (.ref C)) cd.mro:=(P0 X d).andThen .now;show PySem.W.set_plain X I e ?_;show tM a.slot.plain a.entry (@PySem.W.check_slot (model prog w) _ _ { s with toks:=s.toks+1 } "object.__setattr__" "object" "__setattr__" (.ref x) [.str name s.toks,v] [] _ a.kind a.split sub (a.args (.ref x) (.str name s.toks) v) ?_);rw[PySem.W.osa_eq,refuse_eq];show aj (aj (vC (s:={ s with toks:=s.toks+1 }) I.type (aj (vC (s:={ s with toks:=s.toks+1 }) hm ?_))));rw[Vv (a.passes _) hb];show az (aj (vC (s:={ s with toks:=s.toks+1 }) I.type (aj (vC (s:={ s with toks:=s.toks+1 }) (PySem.W.looks_findIn X hn) (aj (vC (s:={ s with toks:=s.toks+1 }) Ys ?_))))));show eW (k s.toks _) (λfin c z=>?_) λ_ _ z=>z
 rcases fin with(_ | _ | _ | _) | _<;>first | show z | show z.elim
theorem zsM(X:K.In s.heap)(f:s.heap.get? x=some ⟨.ref C,none,.fields j,#[]⟩)(u:FW K C=some cd)(hd:cd.hasDict=true)(hb:behind MP cd.mro=true)(H:mf K (.ref C) "__setattr__"=some (some (.builtin "object.__setattr__")))(hn:mf K (.ref C) name=some none)
  (k:∀h' t',h'.get? x\⟨.ref C,some *...*,.fields j,#[]⟩->h'.Ns1 *...* (λy=>if y=name then some v else none)->(∀b o,b≠x->s.heap.get? b\o->h'.get? b\o)->Q () { s with heap:=h',toks:=t' }) :
  ↥(setAttr (.ref x) name v) Q E s:=by
 show zqk X (od:=none) ⟨f,rfl,rfl,trivial⟩ u hb H hn λtk b=>?_
 let⟨h,g,d,t,os⟩:=s;show aj (az (aj (aj (Ov f (aj (vC (s:=⟨h,g,d,t+1,os⟩) (P0 X u) ?_))))));rw[hd];have q:(h.push { cls:=.type "dict",data:=.dict #[] }).get? x=some _:=aV _ f;have D:x≠h.objs.size:=bJ (aX f);show aj (wpAny_alloc' (aj (wpAny_update' q (az ?_))));generalize m:(h.push _).update x _=i;have I:i.get? x=some ⟨.ref C,some h.objs.size,.fields j,#[]⟩:=by rw[<-m];show kG _ q rfl
 have J:i.get? h.objs.size=some { cls:=.type "dict",data:=.dict #[] }:=by rw[<-m];show(g8 _ _ D).trans (Pf rfl rfl)
 have go:∀b o,b≠x->h.get? b\o->i.get? b\o:=λb o hb z=>by rw[<-m];show(g8 _ _ (Ne.symm hb)).trans (aV _ z)
 have nd:i.Ns h.objs.size (λ_=>none):=⟨_,#[],_,J,rfl,λe he=>absurd he (by cbv),λ_=>rfl⟩
 show aj (az (aj (wpAny_nsSet1 (Heap.Ns1.of_empty nd) λh' r B=>?_)));let⟨oD,L,M,n,p,F⟩:=r.count (Yr name v Yo);show aj (wpAny_lookBehind n (by rw[p];show pastItsLine_dict (gB F (by room))) ?_);show az (k h' _ ((B.2 x D).trans I) r λb o hb z=>(B.2 b (bJ (aX z))).trans (go b o hb z))
end
def Xd(c:ae)(b:List (af×V)):aw->Prop:=λh=>∃a,h.Ns1 c a/\∀f,mQ (b.lookup f) (a f)
theorem Y9(x:Xd a c h):dX P w H h a (.ext (Xd a c)):=by
 show⟨x,?_,λi g ⟨b,⟨o,d,f,e,r⟩,q⟩ k=>⟨b,⟨o,d,f,k _ e,r⟩,q⟩⟩;obtain⟨b,⟨o,d,f,e,_⟩,_⟩:=x;show⟨o,e⟩
structure NC(K:ar)(C:ae)(f:af):Prop where
 ex:(FW K C).any (λcd=>cd.hasDict&&behind MP cd.mro)=true
 sa:mf K (.ref C) "__setattr__"=some (some (.builtin "object.__setattr__"))
 no:mf K (.ref C) f=some none
section
variable{X:Cx}{o value:ax}{ta tv:TE}{f:af}
def Y8(K:ar)(ta tv:TE)(f:af):TS:=λD σ H=>tv σ H λy H1=>ta σ H1 λx c=>∃a C,x=.ref a/\NC K C f/\c a\.ext (gR a C none)/\∀b,c b=none->b≠a->D.nx σ (upd (upd c a (.ext (gR a C (some b)))) b (.ext (Xd b [(f,y)])))
theorem zsN(ha:PE X o ta)(hv:PE X value tv)(r:swapsWith value (some (.Attribute o f pos')) pos.line X.env=pure false:=by rfl):PS X (.Assign [.Attribute o f pos'] value pos) (Y8 X.K ta tv f):=by
 intro l s σ H D I h;show plainObj_wpAny_Assign_Attribute (aR (hv l s σ H _ I h) λu s1 d=>?_) r;let⟨y,H1,I1,m,q⟩:=d;show aR (ha l s1 σ H1 _ I1 q) λov s2 d=>?_
 let⟨x,B,b,n,a,C,ex,c,j,p⟩:=d;subst ex;obtain rfl:ov=cI a:=n;let⟨cd,w,hb⟩:=PySem.W.any_some c.ex;rw[gZ] at hb;let⟨t,he⟩:=(b.aJ a _ j).1;have hn:B s2.heap.objs.size=none:=b.fresh;have k:s2.heap.objs.size≠a:=jd (aX he);show zsM b.dy he w hb.1 hb.2 c.sa c.no λh' t' i hN v=>?_
 have J:=b.write (x:=a) (e:=a) (o:=.ext (gR a C (some s2.heap.objs.size))) (t':=t') (by rw[j];trivial) (.inl rfl) v ⟨_,i⟩ (IA ⟨t,i⟩);have A:=J.tell (a:=s2.heap.objs.size) (o:=.ext (Xd s2.heap.objs.size [(f,y)])) b (by rw[aY k];show hn) (B5 (aW _)) (Y9 ⟨_,hN,λg=>?_⟩)
 .exact⟨σ,_,A,p _ hn k⟩
 by_cases z:g=f
 .subst z;simp![yn,beq_self_eq_true,dF];show m
 simp![yn,List.lookup_nil,beq_eq_false_iff_ne.mpr z,if_neg z];trivial
end
def Fb(C:ae)(f:af):Sp:=λc H Q _=>∃a v,c=[.ref a,v]/\H a\.ext (gR a C none)/\∀b,H b=none->b≠a->Q .non (upd (upd H a (.ext (gR a C (some b)))) b (.ext (Xd b [(f,v)])))
section
variable{P:aD}{w:aB}{K:ar}{mg:af->Option aa}{base:aw}
theorem Y7{b e fn p:af}{st:bE}{f C Wa:ae}{t:gF}{r:Option ae}{k:Nat}{kk}{m l j g d G D z y V:aG}{B newId initId:String}{bmB:List aa}(F:Fl K "__init__" b st f t)(S:lh ["self",p] ["self",p] (bQ st))
  (hb:gi st=[.Expr (.Call (.Attribute (.Name "WireError" m) "__init__" l) [.Name "self" j,.Constant (.str e) kk g] [] d) G,.Assign [.Attribute (.Name "self" D) fn z] (.Name p y) V]) (W:ExcBaseFacts B newId initId bmB)
  (hm:mg "WireError"=some (.ref Wa)) (L:F8 K Wa (.type "type")=true) (J:Gu K (.ref Wa) "__getattribute__"=some (some (.builtin "type.__getattribute__"))) (M:F7 K (.ref Wa) (.type "type") "__init__"=some (.val (.builtin initId))) (hh:BN (.builtin initId)=true)
  (I:uT K C bmB newId r=true) (N:NC K C fn) (o:lV (bQ st) "self") (x:lV (bQ st) p) (X:(p==("__debug__":af))=false) (n:(p==("__classdict__":af))=false)
  (hg:∀c A outer s H E,Gl (eZ eG P w K mg base ["self",p] b (bQ st) f c A outer s H E).gL "WireError")
  (ht:∀c A outer s H E,∃pl,eval (.Call (.Attribute (.Name "WireError" m) "__init__" l) [.Name "self" j,.Constant (.str e) kk g] [] d) (eZ eG P w K mg base ["self",p] b (bQ st) f c A outer s H E).gL.env=(do
   let ov <-eval (.Name "WireError" m) (eZ eG P w K mg base ["self",p] b (bQ st) f c A outer s H E).gL.env
   standAt l.atName
   let(T,first) <-holding [ov] (getMethod ov "__init__" pl)
   callWith d T first (backTo d (starEach [.Name "self" j,.Constant (.str e) kk g] (eZ eG P w K mg base ["self",p] b (bQ st) f c A outer s H E).gL.env)) (backToKw d (keywordEach [] (eZ eG P w K mg base ["self",p] b (bQ st) f c A outer s H E).gL.env)))):kE P w K mg base eG (k+1) f t ["self",p] (Fb C fn):=by
 show F.ok S (λu H Q E h=>?_) (λc A outer s H u Q E Y h=>?_)
 .let⟨a,v,rfl,Z⟩:=h;rfl
 let⟨a,v,rfl,ha,q⟩:=h;rw[hb];let⟨pl,ht⟩:=ht c A outer s H E;show⟨_,Dy (rK (zsL (initId:=initId) (Wa:=Wa) W hm L J M hh (fZ (pO (i:=0) rfl o (by rfl) (by rfl)) (fZ Sk jk)) (hg c A outer s H E) (by rfl) rfl rfl ht) rfl) (y3 (zsN (pO (i:=0) rfl o (by rfl) (by rfl)) (pO (i:=1) rfl x X n))),?_⟩;show⟨.ref a,rfl,a,_,C,none,r,rfl,ha,I,v,rfl,.ref a,rfl,a,C,rfl,N,ha,λU R O=>q U R O⟩
end
def Rj(l:List cC)(C a:ae)(c:Option ae)(P:ae->Prop)(h:aw):Prop:=∃B,mR B l a (.ref C) c .none h/\∀b o,P b->h.get? b\o->b∉ee l->B.get? b=some o
def vc(P:aD)(w:aB):nQ:=λouter H s E e b=>∃a C c H',e=.ref a/\b.os=s.os/\AllBare b.gens/\Un (ee outer) [] H H' s.heap b.heap/\dB P w H' b.heap/\H' a=none/\s.heap.get? a=none/\Rj outer C a c (o3 s H') b.heap/\E (.ref C) c H'
noncomputable def tU(H:Hp)(a:ae):Hp:=λb=>if b=a then none else H b
theorem wF(h:b≠a):tU H a b=H b:=if_neg h
theorem zql(h:tU H a b\o):b≠a/\H b\o:=by
 unfold tU at h;split at h
 .cases h
 rename_i z;show⟨z,h⟩
section
variable{X:Cx}{J':List (ae×aL)}{σ:St}{H:Hp}{s:ai}{a:ae}
theorem Inv.drop(I:Inv X J' σ H s)(e:H a\.ext φ)(I1:Inv X J' σ f j)(d:f a=none):Inv X J' σ (tU H a) s:=by
 have nn:∀b,H b=none->tU H a b=none:=λb z=>by
  unfold tU;split
  .rfl
  show z
 show⟨I.ok,I.os,I.bare,⟨I.base.keep,I.base.slot,λb o z n l=>nn b (I.base.free b o z n l),I.base.there,λb xs z=>?_,λb o u z=>?_,λb ps z=>?_⟩,I.loc,I.cell,nn _ I.free,λx c z=>nn _ (I.jT x c z),λp r=>?_,λb u z=>?_,I.len⟩
 .rw[wF (e9 (I1.base.kS b xs z) d)];show I.base.kS b xs z
 .rw[wF (e9 (I1.base.kB b o u z) d)];show I.base.kB b o u z
 .let⟨m,q⟩:=I.base.lP b ps z;let⟨t,k⟩:=I1.base.lP b ps z;show⟨m,by rw[wF (e9 k d)];show q⟩
 .let⟨i,h,g⟩:=I.pin p r;show⟨i,nn _ h,g⟩
 let⟨hb,q⟩:=zql z;show(I.aJ b u q).f9 (λ_ _ _ q=>q) (λc q=>?_) λc xs q=>?_
 .rw[wF λz=>by rw[z,e] at q;cases q];show q
 rw[wF λz=>by rw[z,e] at q;cases q];show q
def Hq(X:Cx)(W:XK):Prop:=∀J' (σ:St) H s a C b,Inv X J' σ H s->H a=none->X.cN.heap.get? a=none->Rj X.stack C a b (o3 X.cN H) s.heap->W (.ref C) b H->X.xe (.ref a) s
def HR(X:Cx)(W:XK):Prop:=∀J' (σ:St) H s a C b,Inv X J' σ H s->H a=none->X.cN.heap.get? a=none->gR a C b s.heap->W (.ref C) b H->X.xe (.ref a) s
theorem Y6(f:X.ex=[])(T:Hq X W):CY (vc X.prog X.w) X W:=by
 intro J' σ H s e h I ⟨a,C,m,H',he,os,bare,un,aJ,hn,k,⟨B,l,j⟩,w⟩;subst he;let⟨hh,g,d,t,i⟩:=h;obtain rfl:i=s.os:=os;have back:∀b o,X.cN.heap.get? b\o->∃o',s.heap.get? b\o':=λb o e=>I.base.there b o e (by rw[f];simp)
 show T J' σ H' _ a C m (I.call (h':=hh) (g':=g) (d':=d) (t':=t) (ch:=[]) un aJ bare λb z=>absurd z (by cbv)) hn ?_ ⟨B,l,λb o hb e n=>j b o (hb.imp (λp=>by let⟨o',c⟩:=p;show back b o' c) id) e n⟩ w;cases q:X.cN.heap.get? a with
 | none=>rfl
 | some o=>
  let⟨o',c⟩:=back a o q;rw[k] at c;cases c
end
section
variable{K:ar}
theorem zsP:Hq (eZ (vc P w) P w K mg base N qual scope f cd A outer s0 H0 E) E:=by
 intro i σ H s a C g I hn h0 ⟨B,e,d⟩ hw;show znW (B:=B) (outer:=outer) I.ok.frames rfl e λh' c up=>?_
 let⟨un,aJ,h⟩:=I.gone rfl rfl rfl c.st d λb _=>up b
 show⟨a,C,g,H,rfl,I.os,I.bare,un,aJ,hn,h0,⟨B,c,h⟩,hw⟩
theorem zqm:HR (eZ (vc P w) P w K mg base N qual scope f cd A outer s0 H0 E) E:=by
 intro k σ H s a C h I hn h0 ⟨t,he⟩ hw;have g:=I.xH.i4;obtain⟨l,j⟩:∃l,l=ee (envOfC qual scope s0.heap.objs.size f cd::outer):=⟨_,rfl⟩
 have no:∀b,o3 s0 H b->b≠a:=λb hb z=>by
  rcases hb with⟨o,e⟩ | e
  .rw[z,show s0.heap.get? a=none from h0] at e;cases e
  show e (by rw[z];show hn)
 have d:∀b o,o3 s0 H b->s.heap.get? b\o->b∉ee (envOfC qual scope s0.heap.objs.size f cd::outer)->(Gh s.heap (a::ee (envOfC qual scope s0.heap.objs.size f cd::outer))).get? b\o:=λb o hb e n=>P9 _ e λz=>(bx.mp z).elim (no b hb) n
 show zi7 (B:=Gh s.heap (a::ee (envOfC qual scope s0.heap.objs.size f cd::outer))) (outer:=outer) I.ok.frames (PySem.W.funFrames_hide g λenv he b hb=>eh _ (BZ.mpr ⟨env,he,hb⟩)) rfl he (λb o q=>PU _ q) (Qm _ (by show .head _)) rfl rfl λh' c up=>?_
 let⟨un,aJ,i⟩:=I.gone rfl rfl rfl c.st d λb _=>up b
 show⟨a,C,h,H,rfl,I.os,I.bare,un,aJ,hn,h0,⟨_,c,i⟩,hw⟩
end
theorem znZ(j:bmB.contains (.type "BaseException")=true)(hh:A.handled=none)(h:wpAny M A x (λv s1=>∃a C f c,v=.ref a/\u4 C bmB newId c s1.heap/\gR a C f s1.heap/\E (.ref a) s1) E s):wpAny M A (raiseStmt env (some x) none) Q E s:=by
 unfold raiseStmt;show aj (eW h (λv s1 z=>?_) λ_ _ z=>z);obtain⟨a,C,f,c,rfl,⟨bm,N,nm,m,bs,l,sn,sub,u,col,dc,k0,k1,q,p,o,n,e,hN,w,k⟩,⟨t,he⟩,i⟩:=z;have b:(cI C::bm).contains (.type "BaseException")=true:=by rw[GI,k.hasType j,Bp]
 let⟨r,g,d,tk,os⟩:=s1;repeat(first | with_reducible show yo he ?_ | with_reducible show yo e ?_ | (with_reducible show P2 e ?_;rw[b]) | wp_step)
 show wpAny_raiseNew_none hh i
section
variable{X:Cx}{pos np de:aG}{te:TE}{W:XK}{C f:ae}{x fn:af}
def zsQ(W:XK)(C:ae)(fn:af)(te:TE):TS:=λ_ σ H=>te σ H λv H1=>[v].length=1/\∀a,H1 a=none->W (.ref C) (some a) (upd H1 a (.ext (Xd a [(fn,[v].headD .non)])))
theorem zn0(Y:ExcBaseFacts B newId initId bmB)(O:uT X.K C bmB newId (some f)=true)(hm:X.mg x=some (.ref C))(Me:nW X.K (.ref C)=true)(uK:FZ X.K (.ref f)=some (.type "function"))(F:kE X.prog X.w X.K X.mg X.base eG k f fd ps (Fb C fn))(hb:Binds X.K fd ps [])(hr:cV (k+1) X.A)(hc:X.calm=true)(n:X.ex=[])(T:HR X W)(he:PE X e0 te)(hg:Gl X x:=by rfl)(hd:(x==("__debug__":af))=false:=by decide)
  (P:starEach [e0] X.env=(false,eval e0 X.env)::starEach [] X.env:=by rfl) (hp:(backTo de (starEach [] X.env)).any (·.1)=false:=by rfl):PS X (.Raise (some (.Call (.Name x np) [e0] [] de)) none pos) (zsQ W C fn te):=by
 intro G s σ H D I h;show aj (vp ?_);show znZ (bmB:=bmB) (newId:=newId) Y.hasBase (I.ok.hd hc) (aj (eW (Q:=λv s1=>∃a C dd jo,v=.ref a/\u4 C bmB newId jo s1.heap/\gR a C dd s1.heap/\X.xe (.ref a) s1) ?_ (λv s1 z=>aj (vp (az z))) λ_ _ z=>z));have Z:PA X [e0] (Ia te Hs):=fZ he jk P;show mU (wA I hg hm ?_ hd);show GK (h₀:=X.base) I.ok.mod.Ap Me (aR (Z de G s σ H (λm H1=>m.length=1/\∀c,H1 c=none->W (.ref C) (some c) (upd H1 c (.ext (Xd c [(fn,m.headD .non)])))) I ?_) λus s1 ⟨m,H1,I1,r,hv,q⟩=>⟨I1.dy,?_⟩) P hp
 .exact h
 obtain⟨v,rfl⟩:∃v,m=[v]:=List.length_eq_one_iff.mp hv
 let⟨u,rfl,ru⟩:=Vals.one r;let⟨bm,N,nm,qq,bs,xB,sn,sub,ab,col,dc,k0,k1,k2,k3,k5,mN,hC,hN,L9,OT⟩:=u4.of I1.dy O;obtain⟨oI,look,Mj⟩:∃oI,X.K.lookup f=some oI/\oI.cls=.type "function":=by
  show j3.mp uK
 have Mk:=I1.dy _ _ look;let⟨qg,g,d,tk,os⟩:=s1;show znX Y OT hC hN L9 Mk Mj (λh' e j=>?_) (by show(by decide:1<=16777216));have hn:H1 e=none:=by
  cases z:H1 e with
  | none=>rfl
  | some o=>
   let⟨ob,i⟩:=(I1.aJ e _ z).some;rw[j.new] at i;cases i
 have h0:X.cN.heap.get? e=none:=by
  cases z:X.cN.heap.get? e with
  | none=>rfl
  | some o=>
   let⟨ob,i⟩:=I1.base.there e o z (by rw[n];simp);rw[j.new] at i;cases i
 obtain⟨t,het,_,_⟩:=j.there;have J:Inv X G σ H1 ⟨h',g,d,tk,os⟩:=I1.kept (t':=tk) j.keeps;have E:=J.tell (a:=e) (o:=.ext (gR e C none)) I1 hn j.new (IA ⟨t,het⟩);have sp:Fb C fn [.ref e,v] (upd H1 e (.ext (gR e C none))) (λL H'=>L=.non/\∃c,H1 c=none/\c≠e/\H'=upd (upd (upd H1 e (.ext (gR e C none))) e (.ext (gR e C (some c)))) c (.ext (Xd c [(fn,v)]))) (λ_ _ _=>False):=
  ⟨e,v,rfl,cw,λc U S=>⟨rfl,c,by rw[aY S] at U;show U,S,rfl⟩⟩
 have pl:=F.len _ _ _ _ sp;have bd:=hb ⟨h',g,d,tk,os⟩ [.ref e,u] E.dy (by show pl);show nU (pf (F.run _ X.stack ⟨h',g,d,tk,os⟩ _ ⟨[.ref e,u],[]⟩ [.ref e,u] [.ref e,v] _ _ (hr.make C [u] []) (E.xH.make C [u] []) bd (.cons rfl (.cons ru .nil)) sp) λr s' l=>?_);cases r with
 | error e'=>show l.elim
 | ok fl=>
  cases fl with
  | ret u'=>
   let⟨L,H',y,fH,rfl,c,uM,p,rfl⟩:=E.after l;have M:upd (upd (upd H1 e (.ext (gR e C none))) e (.ext (gR e C (some c)))) c (.ext (Xd c [(fn,v)])) e\.ext (gR e C (some c)):=by rw[aY (Ne.symm p),cw]
   have R:=(y.aJ e _ M).1;have eH:tU (upd (upd (upd H1 e (.ext (gR e C none))) e (.ext (gR e C (some c)))) c (.ext (Xd c [(fn,v)]))) e=upd H1 c (.ext (Xd c [(fn,v)])):=by
    funext b
    by_cases z:b=e
    .rw[z,aY (Ne.symm p),hn];show if_pos rfl
    rw[wF z];by_cases i:b=c
    .rw[i,cw,cw]
    rw[aY i,aY z,aY z,aY i]
   have V:=y.drop M I1 hn;rw[eH] at V;show⟨fH,e,C,some c,some f,rfl,u4.of y.dy O,R,T G σ _ s' e C (some c) V (by rw[aY (Ne.symm p)];show hn) h0 R (q c uM)⟩
  | next=>show l.elim
  | brk=>show l.elim
  | cont=>show l.elim
end
noncomputable abbrev XQ:=af->af->R->Prop
noncomputable abbrev nM:=List D->(R->Prop)->XQ->Prop
def Fc(K:ar)(G H d:Hp)(C:ae)(b:Option ae)(c fn:af)(r:R):Prop:=gA K mainGlobals c=some (some (.ref C))/\∃a v,b\a/\u6 G (some a) [(fn,v)]/\cK K G H d v r
theorem Fc.lQ{K:ar}(s:aZ f g)(x:Fc K G H g C d e fn r):Fc K G H f C d e fn r:=let⟨h,i,v,a,b,c⟩:=x;⟨h,i,v,a,b,c.lQ s⟩
def Wx(K:ar)(W:XK)(e:XQ)(f c:Hp):Prop:=∀d H' C a b fn r,Ext f c d H'->Fc K d H' c C a b fn r->e b fn r->W (.ref C) a H'
def Ye(K:ar)(n:Nat)(t:nM):Sp:=λd H Q E=>∃G ds b a,aZ G H/\av K G d ds/\ds.length=n/\t ds b a/\(∀v H' r c,Ext G H c H'->cK K c H' H v r->b r->Q v H')/\Wx K E a G H
structure nN(P:aD)(w:aB)(K:ar)(mg:af->Option aa)(base:aw)(k:Nat)(x:af)(n:Nat)(t:nM):Prop where
 ex:∃(f:ae)(fd:gF)(ps:List af),kE P w K mg base (vc P w) k f fd ps (Ye K n t)/\mg x\.ref f/\nW K (.ref f)=true/\Binds K fd ps []
theorem zsR(h:H a\.ext (Xd a c)):u6 H (some a) c:=
 ⟨_,h,λ_ ⟨b,n,r⟩=>⟨b,n,λf v l=>let⟨u,e,z⟩:=mQ.some_of (v:=v) (o:=b f) (by rw[<-l];show r f);⟨u,e,z⟩⟩⟩
section
variable{X:Cx}{c:Hp->Hp->Prop}{e:ax}{es:List ax}
def Yf(X:Cx)(c:Hp->Hp->Prop)(e:ax)(t:TD):Prop:=∃tt,PE X e tt/\∀ρ σ b a G H Q P,aS X.K b a ρ σ G H->t ρ Q->(∀v H' r d,Ext G H d H'->cK X.K d H' H v r->Q r->P v H')->c b a->tt σ H P
def Ri(X:Cx)(c:Hp->Hp->Prop)(es:List ax)(t:dg):Prop:=∃tt,PA X es tt/\∀ρ σ d b G H Q P,aS X.K d b ρ σ G H->t ρ Q->(∀a H' ds e,Ext G H e H'->av X.K e a ds->Q ds->P a H')->c d b->tt σ H P
def xN(X:Cx)(c:Hp->Hp->Prop)(st:bE)(t:TX):Prop:=∃tt,PS X st tt/\∀ρ σ b a G H D E,aS X.K b a ρ σ G H->t D ρ->Goes X.K b a G D E->c b a->tt E σ H
def qS(X:Cx)(c:Hp->Hp->Prop)(st:List bE)(t:TX):Prop:=∃tt,jy X st tt/\∀ρ σ b a G H D E,aS X.K b a ρ σ G H->t D ρ->Goes X.K b a G D E->c b a->tt E σ H
theorem zsS(h:ik X es ts):Ri X c es ts:=let⟨tt,p,q⟩:=h;⟨tt,p,λρ σ b a G H Q P E h k _=>q ρ σ b a G H Q P E h k⟩
theorem wj{st:bE}(h:PX X st t):xN X c st t:=let⟨tt,p,q⟩:=h;⟨tt,p,λρ σ b a G H D E k h g _=>q ρ σ b a G H D E k h g⟩
theorem Tf(h:fV X a t):qS X c a t:=let⟨tt,p,q⟩:=h;⟨tt,p,λρ σ d b G H D E k h g _=>q ρ σ d b G H D E k h g⟩
theorem wI{st:bE}(o:xN X c st t)(n:qS X c a u):qS X c (st::a) (cu t u):=by
 let⟨t1,l,i⟩:=o;let⟨r,j,f⟩:=n;show⟨_,Dy l j,λρ σ d b G H D E k h g hw=>i ρ σ d b G H _ _ k h ⟨λρ' p q H' e m h'=>f ρ' p d b q H' D E m h' (g.shift e) hw,g.rt,g.bk,g.ct⟩ hw⟩
theorem Dr{st:bE}(d:xN X c st t):qS X c [st] t:=let⟨t1,b,a⟩:=d;⟨_,y3 b,a⟩
theorem R6(r:PB X i tc)(ha:qS X c a t)(hb:qS X c b u):xN X c (.If i a b pos) (iA tc t u):=by
 let⟨t0,q,n⟩:=r;let⟨t1,p,m⟩:=ha;let⟨s,o,l⟩:=hb;show⟨_,Ic q p o,λρ σ e d G H D E k h g hw=>n ρ σ e d G H _ _ k h λb H' j x f=>?_⟩;cases b with
 | true=>
  show m ρ σ e d j H' D E (k.ext x) f (g.shift x.g) hw
 | false=>
  show l ρ σ e d j H' D E (k.ext x) f (g.shift x.g) hw
theorem zqn(h:Yf X c e te)(a:swapsWith e none pos.line X.env=pure false:=by rfl):xN X c (.Expr e pos) (HY te):=by
 let⟨t,p,q⟩:=h;show⟨_,rK p a,λρ σ f d G H D E k h g hw=>q ρ σ f d G H _ _ k h (λv H' r i x j b=>g.nx ρ σ i H' x.g (k.ext x) b) hw⟩
end
section
variable{X:Cx}{W:XK}{Qx:XQ}{e:ax}{te:TD}{ts:dg}
def rD(n:Nat)(t:nM)(Qx:XQ)(ts:dg):TD:=λρ Q=>ts ρ λds=>ds.length=n/\t ds Q Qx
theorem zn2(F:nN X.prog X.w X.K X.mg X.base k x n t)(u:cV g X.A)(b:X.ex=[])(T:Hq X W)(ha:Ri X (Wx X.K W Qx) (e::es) ts)(hk:k<=g:=by decide)(hg:Gl X x:=by rfl)(o:(x==("__debug__":af))=false:=by decide)
  (z:starEach (e::es) X.env=(false,eval e X.env)::starEach es X.env:=by rfl) (I:(backTo pos (starEach es X.env)).any (·.1)=false:=by rfl):Yf X (Wx X.K W Qx) (.Call (.Name x p) (e::es) [] pos) (rD n t Qx ts):=by
 let⟨f,fd,ps,F,hm,kp,hb⟩:=F.ex;let⟨tt,pp,q⟩:=ha;show⟨_,Ji F (u.mono hk) hg hm kp hb .nil (Y6 b T) pp o z I,λρ σ L J G H Q P E h k hw=>q ρ σ L J G H _ _ E h (λN H' ds M y rs i=>?_) hw⟩;rw[pj];show⟨M,ds,Q,Qx,y.s,rs,i.1,i.2,λv c r d a l m=>k v c r d (y.trans a) (l.lQ y.h) m,λd c C B D fn r a j=>hw d c C B D fn r ((E.e.trans y).trans a) (j.lQ (E.e.trans y).h)⟩
def IY(a fn:af)(Qx:XQ)(te:TD):TX:=λ_ ρ=>te ρ λr=>Qx a fn r
structure Fm(P:aD)(w:aB)(K:ar)(mg:af->Option aa)(base:aw)(k:Nat)(cn fn:af):Prop where
 ex:∃(C f:ae)(fd:gF)(ps:List af)(B newId initId:String)(bmB:List aa),ExcBaseFacts B newId initId bmB/\uT K C bmB newId (some f)=true/\gA K mainGlobals cn=some (some (.ref C))/\mg cn=some (.ref C)/\nW K (.ref C)=true/\FZ K (.ref f)=some (.type "function")/\kE P w K mg base eG k f fd ps (Fb C fn)/\Binds K fd ps []
theorem zn3(O:Fm X.prog X.w X.K X.mg X.base k b fn)(I:cV i X.A)(N:X.calm=true)(c:X.ex=[])(T:HR X W)(M:PD X e te)(hk:k+1<=i:=by decide)(hg:Gl X b:=by rfl)(hd:(b==("__debug__":af))=false:=by decide)
  (z:starEach [e] X.env=(false,eval e X.env)::starEach [] X.env:=by rfl) (L:(backTo j (starEach [] X.env)).any (·.1)=false:=by rfl):xN X (Wx X.K W Qx) (.Raise (some (.Call (.Name b t) [e] [] j)) none pos) (IY b fn Qx te):=by
 let⟨C,f,fd,ps,B,newId,initId,bmB,FB,y,u,hm,P,n,F,hb⟩:=O.ex;let⟨tt,p,q⟩:=M;show⟨_,zn0 FB y hm P n F hb (I.mono hk) N c T p hg hd z L,λρ σ R Q G H D E k h g hw=>q ρ σ R Q G H _ _ k h λv H' r l x o J=>⟨rfl,λa m=>?_⟩⟩;have d:Ext l H' (upd l a (.ext (Xd a [(fn,v)]))) (upd H' a (.ext (Xd a [(fn,v)]))):=.new x.s m;show hw _ _ C (some a) b fn r ((k.e.trans x).trans d) ⟨u,a,v,rfl,zsR cw,(o.ext d).lQ k.e.h⟩ J
end
section
variable{K:ar}
theorem zl4{st:bE}{T:XQ->TX}(k)(A:At K mg x st)(S:lh N ps (bQ st))
  (body:∀a f c A outer s H E,cV k (A.deeper (envOfC x (bQ st) *...* f c))->qS (eZ (vc P w) P w K mg base N x (bQ st) f c A outer s H E) (Wx K E a) (gi st) (T a))
  (i:∀ds g a,ds.length=n->t ds g a->T a { nx:=λ_=>g (.fz .non),rt:=g } (lM N ds))
  (b:∀kV doc pm an c ct us,us.length=n->bindArgs (lB x x (nI st) (gi st) (bQ st) .none kV doc pm an c ct) ⟨us,[]⟩=pure (ps.zip us)) (hn:ps.length=n:=by rfl) (hd:k+1=d:=by rfl):nN P w K mg base d x n t:=by
 subst hn hd;let⟨f,fd,F,hm⟩:=A.ex;show⟨f,fd,ps,?_,hm,F.kp,F.binds b⟩;let⟨y,od,kV,doc,pm,an,c,ct,z,rfl,lk,o⟩:=F.ex;show RM lk o S (λl H Q E h=>?_) λA outer s H l Q E u h=>?_
 .let⟨G,ds,g,a,Z,r,j,Z⟩:=h;rw[r.length,j]
 let⟨G,ds,g,a,s0,r,j,ht,k0,m⟩:=h;let⟨tt,p,q⟩:=body a f c A outer s H E u;show⟨tt,p,q _ _ G H G H _ _ (Ug s0 r) (i ds g a j ht) ⟨λρ σ v H' _ e h=>k0 _ H' _ v e.e (bZ (Jh _ _)) h,k0,λ_ _ _ _ _ _ h=>h.elim,λ_ _ _ _ _ _ h=>h.elim⟩ m⟩
theorem Vi{st:bE}{T:XQ->TX}(k)(A:At K mg x st)
  (e:∀ds i g,ds.length=n->t ds i g->T g { nx:=λ_=>i (.fz .non),rt:=i } (lM N ds))
  (body:N.Nodup->∀g f h A outer s H E,cV k (A.deeper (envOfC x (bQ st) *...* f h))->qS (eZ (vc P w) P w K mg base N x (bQ st) f h A outer s H E) (Wx K E g) (gi st) (T g))
  (S:lh N (N.take n) (bQ st):=by walk_at"sc") (b:∀kV doc pm an h ct us,us.length=n->bindArgs (lB x x (nI st) (gi st) (bQ st) .none kV doc pm an h ct) ⟨us,[]⟩=pure ((N.take n).zip us):=by walk_at"bn") (hn:(N.take n).length=n:=by rfl) (hd:k+1=d:=by rfl):nN P w K mg base d x n t:=zl4 k A S (body S.nd) e b hn hd
end
end L2
namespace PySem.W
open PySem PySem.Spec PySem.Calls PyProof.Rows Builtin Builtin.ObjectAttr Builtin.Getset_descriptor
section
variable{K:Frag}
theorem aby(X:K.In s.heap)(I:InstAt s.heap x ox C od)(i:findIn K (.ref C) "__getattribute__"=some (some (.builtin "BaseException.__getattribute__")))(j:findIn K (.ref C) "__getattr__"=some none)
  (hb:mroIn K C (.type "BaseException")=some true) (f:findObj K C od name=some (.value v)) (hh:handedIn v=true) (h:Q v { s with toks:=s.toks+1 }):↥(getAttr (.ref x) name a) Q E s:=by
 let⟨c,g,d,t,os⟩:=s;have m:nP c x C:=⟨ox,I.at_,I.cls⟩
 have e:=I.type (M:=model prog w);have l:=yc (M:=model prog w) X i;have L2:=yc (M:=model prog w) X j;have k:=looks_find (M:=model prog w) X I f;have b:(a&&onTheHeap (Bw "BaseException.__getattribute__"))=false:=by cases a<;>rfl
 have n:(onTheHeap (cI C)&&Bw "BaseException.__getattribute__"==Bw "object.__getattribute__")=false:=by rfl
 show aj (N6 ?_);show eX (aj (e.at (aj (l.at ?_))));show aj (L2.at (aj (ph (eX ?_))));unfold callGetattribute;rw[b,if_neg (by decide)];show aj (az (nU (tM F.excAttr_ValueError.ga.plain OO (Uz (s:=⟨c,g,d,t+1,os⟩) X m hb ?_))));show aj (az (aj (az (aj (e.at (aj (k.at ?_)))))));show az ?_;show wpAny _ _ (handedOut v) _ _ _;rw[handedOut_of hh];show az h
end
end PySem.W
namespace L2
open PySem PySem.Spec PyProof.Rows
structure u7(K:ar)(C:ae)(f:af):Prop where
 ga:mf K (.ref C) "__getattribute__"=some (some (.builtin "BaseException.__getattribute__"))
 gb:mf K (.ref C) "__getattr__"=some none
 mb:Of K C (.type "BaseException")=some true
 hd:Px K C=true
 no:mf K (.ref C) f=some none
section
variable{e:ax}{f:af}{ta:TE}{te:TD}
def Y5(K:ar)(ta:TE)(f:af):TE:=λσ H Q=>ta σ H λx H1=>∃a b C d c v,x=.ref a/\H1 a\.ext b/\(∀h:aw,b h->∃o e,h.get? a\o/\o.cls=.ref C/\o.dict\d/\o.data=.fields e)/\u6 H1 (some d) c/\u7 K C f/\c.lookup f\v/\Q v H1
theorem zsT(n:PE X e ta)(hb:attributeBase e f X.env (eval e X.env)=eval e X.env):PE X (.Attribute e f pos) (Y5 X.K ta f):=by
 intro E s σ H Q I h;show zrJ hb (aR (n E s σ H _ I h) λu s1 B=>?_);obtain⟨x,H1,I1,g,a,G,C,A,N,v,ex,z,D,⟨F,y,b⟩,c,l,q⟩:=B;subst ex;obtain rfl:u=cI a:=g;let⟨o,L,w,t,r,p⟩:=D _ (I1.aJ a _ z).1;let⟨M,hN,j⟩:=b _ (I1.aJ A _ y).1;let⟨od,k,m⟩:=zmt hN;let⟨u,i,d⟩:=j f v l;have J:Ou s1.heap a o C (some od):=⟨w,t,by unfold PySem.W.notCls;rw[p],by rw[r];show k⟩
 show PySem.W.aby I1.dy J c.ga c.gb c.mb (PySem.W.findObj_own c.hd c.no rfl (by rw[m,i])) (zmu d) ⟨v,H1,I1.tok _,d,q⟩
def HQ(ok:List af)(f:af)(te:TD):TD:=λρ Q=>te ρ λr=>match r.val with
 | .exc a fs=>a∈ok/\∃d,fs.lookup f\d/\Q (.fz d)
 | _=>False
theorem zsV(J:PD X e te)(aJ:∀n∈ok,∀C,gA X.K mainGlobals n\some (.ref C)->u7 X.K C f)(hb:attributeBase e f X.env (eval e X.env)=eval e X.env:=by rfl):PD X (.Attribute e f pos) (HQ ok f te):=by
 let⟨t,p,q⟩:=J;show⟨_,zsT p hb,λρ σ U S G H Q P E h k=>q ρ σ U S G H _ _ E h λv H' r V x F b=>?_⟩;obtain⟨T,j,c,_⟩:=F.freeze x;split at b
 .rename_i n fs O;rw[O] at c;let⟨a,u,C,y,w,rfl,N,M,m,g,L⟩:=c;let⟨I,d,hd,b⟩:=b;let⟨v,hv,c⟩:=L.look hd;have ne:fs≠[]:=λz=>by rw[z] at hd;cases hd
  have g:=g.resolve_left ne;have m:∀h:aw,u h->∃o l,h.get? a\o/\o.cls=.ref C/\o.dict=y/\o.data=.fields l:=λh z=>by
   let⟨o,D,B,i⟩:=m h z;let⟨i,l,A⟩:=i.resolve_left ne;show⟨o,l,D,B,i,A⟩
  cases y with
  | none=>
   cases (show w=[] from g);cases hv
  | some R=>show⟨a,u,C,R,w,v,rfl,j.s _ _ N,m,g.mono j.s,aJ n I C M,hv,k _ _ _ T j (bZ c) b⟩
 show b.elim
end
def xh(a C:ae)(c:Option ae):aw->Prop:=λh=>∃o b,h.get? a\o/\o.cls=.ref C/\o.dict=c/\o.data=.fields b
section
variable{σ:St}
theorem zsW{V:List bE}{Z:ae->TS}{D:Ends}(I:Inv X J' σ H s)(hx:vc X.prog X.w X.stack H s E e l)(hm:X.mg ex\.ref U)
  (bX:X.stack=X.env::X.outer) (hf:X.env.frame=some X.env.locals) (hg:Gl X ex) (hd:(ex==("__debug__":af))=false) (Au:X.xe=λ_ _=>False) (hN:X.N.Nodup)
  (hi:X.N[q]?\j) (L:X.env.kindOf j\.local) (Mm:Loc X.env.scope j) (Mn:X.fn j=true\/X.env.scope.names.lookup j\.local) (st:∀a,jy (X.sg a) (b0::V) (Z a))
  (hE:∀C n H',E (.ref C) n H'->∀a,H' a=none->qF X.K (.ref C) (.ref U)\true/\Z a { nx:=λi p=>D.nx (i.set q none) p,rt:=λ_ _=>False } (σ.set q (some (.ref a))) (upd H' a (.ext (xh a C n))))
  (k:∀i H' s2,Inv X J' i H' s2->D.nx i H'->Q .next s2) :
  ⇑(noteFrame e X.env) (λ_ jm=>⇑(setFlight e none) (λ_ oB=>⇑(handleBy e X.env [.ExceptHandler (some (.Name ex np)) (some j) (b0::V) pos]) Q (λ_ _=>False) oB) (λ_ _=>False) jm) (λ_ _=>False) l:=by
 obtain⟨a,C,n,H',rfl,os,bare,un,aJ,hn,hs,⟨B,fl,mP⟩,he⟩:=hx;let⟨G,F⟩:=hE C n H' he a hn;have fr:∀b∈ee X.stack,H b=none/\∃o,s.heap.get? b\o/\∀Y,o.data≠.fields Y:=λb hb=>⟨I.xH.nH b hb,(I.xH.i4.mem hb).2⟩
 have after:∀h,B.StaysIn h->l.heap.UpToSlots h->Inv X J' σ H' { l with heap:=h }:=λh st up=>by
  let⟨y,S⟩:=zuC un fr st mP up aJ;let⟨hh,g,d,t,nr⟩:=l;obtain rfl:nr=s.os:=os;have J:Inv X J' σ H' { s with heap:=h,gens:=g,drawn:=d,toks:=t }:=I.call (ch:=[]) y S bare λb z=>absurd z (by cbv)
  show J
 have sI:=fl;rw[bX] at sI;show S5 (by rw[<-bX];show I.ok.frames) hf sI λh held VM=>?_
 show C6 held λh3 T VL=>?_
 have I3:=after h3 T.st (VM.trans VL);let⟨ob,Y,L8,M,acM,acL⟩:=T.there;show wpAny_handleBy_cons (codeAny_handlers_test (wA (I3.sg a) hg hm ?_ hd)) (by intro q;cases q);have LT:FV (model X.prog X.w) h3 (typeOf (.ref a)) (.ref C):=PySem.W.nP.type ⟨ob,L8,M⟩;show(PySem.W.exm_one (c:=.ref U) I3.dy LT G).at ?_;show codeAny_handlers_suite_as ?_;show C6 T λh4 X1 x=>?_
 have I4:=after h4 X1.st ((VM.trans VL).trans x);let⟨V6,r,WX,O,P,R⟩:=X1.there;have I5:=I4.tell (a:=a) (o:=.ext (xh a C n)) I hn hs ⟨⟨V6,r,WX,O,P,R⟩,⟨V6,WX⟩,λh1 h ⟨o,v,e1,e2⟩ kk=>⟨o,v,kk o e1,e2⟩⟩;show Ju (v:=.ref a) I5 hN hi Mm rfl (λs5 I6=>?_) Mn;have run:=st a J' s5 _ _ { nx:=λi p=>D.nx (i.set q none) p,rt:=λ_ _=>False } (I6.sg a) F;show eW run (λf s6 z=>?_) λ_ _ z=>?_
 .cases f with
  | next=>
   let⟨i,p,I7,z⟩:=z;have I8:=I7.aas I.ok;let⟨m,nD,fT⟩:=I8.loc;have Mq:(X.env.scope.kind==.class||(X.env.scope.kind==.module&&X.env.locals != X.env.globals))=false:=by rw[I.ok.kind];rfl
   show wpAny_nameGoes_keeps L nD Mq λh' v nC eC=>?_
   show k _ _ _ (I8.abv hN hi fT nC eC) z
  | brk=>obtain⟨_,_,_,z⟩:=z;show z.elim
  | cont=>obtain⟨_,_,_,z⟩:=z;show z.elim
  | ret u=>obtain⟨_,_,_,_,_,z⟩:=z;show z.elim
 rw[Au] at z;show z.elim
end
structure NH(K:ar)(mg:af->Option aa)(cn qual fn:af)(st:bE):Prop where
 ex:∃(C f Wa:ae)(fd:gF),gA K mainGlobals cn=some (some (.ref C))/\mf K (.ref C) "__init__"=some (some (.ref f))/\mg cn=some (.ref C)/\nW K (.ref C)=true/\uT K C [.type "ValueError",.type "Exception",.type "BaseException",.type "object"] "ValueError.__new__" (some f)=true/\FZ K (.ref f)=some (.type "function")/\Fl K "__init__" qual st f fd/\NC K C fn/\
  mg "WireError"=some (.ref Wa)/\F8 K Wa (.type "type")=true/\Gu K (.ref Wa) "__getattribute__"=some (some (.builtin "type.__getattribute__"))/\F7 K (.ref Wa) (.type "type") "__init__"=some (.val (.builtin "ValueError.__init__"))/\BN (.builtin "ValueError.__init__")=true
section
variable{P:aD}{w:aB}{K:ar}{mg:af->Option aa}{base:aw}
theorem zsX{q a e fn p:af}{st:bE}{kk}{j i h g d y x v u O:aG}(A:NH K mg q a fn st)(S:lh ["self",p] ["self",p] (bQ st))
  (hb:gi st=[.Expr (.Call (.Attribute (.Name "WireError" j) "__init__" i) [.Name "self" h,.Constant (.str e) kk g] [] d) y,.Assign [.Attribute (.Name "self" x) fn v] (.Name p u) O])
  (b:∀(kV doc pm:aa)(an:Option ae)(c ct:aa)(us:List aa),us.length=2->bindArgs (lB "__init__" a (nI st) (gi st) (bQ st) .none kV doc pm an c ct) ⟨us,[]⟩=pure ((["self",p]:List af).zip us))
  (t:lV (bQ st) "self":=by first | show Or.inl rfl | show Or.inr (Or.inl rfl) | show Or.inr (Or.inr rfl)) (r:lV (bQ st) p:=by first | show Or.inl rfl | show Or.inr (Or.inl rfl) | show Or.inr (Or.inr rfl)) (Q:(p==("__debug__":af))=false:=by decide) (l:(p==("__classdict__":af))=false:=by decide)
  (hg:∀f c A outer s H E,Gl (eZ eG P w K mg base ["self",p] a (bQ st) f c A outer s H E).gL "WireError":=by intros;rfl)
  (ht:∀f c A outer s H E,∃pl,eval (.Call (.Attribute (.Name "WireError" j) "__init__" i) [.Name "self" h,.Constant (.str e) kk g] [] d) (eZ eG P w K mg base ["self",p] a (bQ st) f c A outer s H E).gL.env=(do
   let ov <-eval (.Name "WireError" j) (eZ eG P w K mg base ["self",p] a (bQ st) f c A outer s H E).gL.env
   standAt i.atName
   let(N,first) <-holding [ov] (getMethod ov "__init__" pl)
   callWith d N first (backTo d (starEach [.Name "self" h,.Constant (.str e) kk g] (eZ eG P w K mg base ["self",p] a (bQ st) f c A outer s H E).gL.env)) (backToKw d (keywordEach [] (eZ eG P w K mg base ["self",p] a (bQ st) f c A outer s H E).gL.env))):=by intros;show⟨_,rfl⟩):Fm P w K mg base 1 q fn:=by
 let⟨C,f,Wa,fd,M,Z,L,J,o,I,F,G,D,B,z,n,m⟩:=A.ex;show⟨C,f,fd,["self",p],_,_,_,_,QR,o,M,L,J,I,Y7 (k:=0) F S hb QR D B z n m o G t r Q l (λc A outer s H E=>hg f c A outer s H E) (λc A outer s H E=>ht f c A outer s H E),F.binds b⟩
end
end L2
namespace Ts
open PySem PySem.W PyProof.Rows
noncomputable abbrev Kx:=Sum Int af
noncomputable def kv:aa->Kx
 | .str x _=>.inr x
 | .int i _=>.inl i
 | _=>.inl 0
end Ts
namespace L2
open PySem PySem.Spec PyProof.Rows
noncomputable abbrev EK:=List Key
end L2
namespace PySem
open Sem (wp)
end PySem
namespace L2
open PySem PySem.Spec PyProof.Rows
theorem dn(h:@Ne Nat a b):@Ne ae a b:=h
open PySem.SeqAt
section
variable{X:Cx}{e:ax}{ts:dg}
theorem Vh(F:nN X.prog X.w X.K X.mg X.base k x n t)(j:cV a X.A)(ha:ik X (e::es) ts)(hk:k<=a:=by decide)(hg:Gl X x:=by rfl)(i:(x==("__debug__":af))=false:=by decide)
  (l:starEach (e::es) X.env=(false,eval e X.env)::starEach es X.env:=by rfl) (m:(backTo pos (starEach es X.env)).any (·.1)=false:=by rfl):PD X (.Call (.Name x p) (e::es) [] pos) (rD n t (λ_ _ _=>False) ts):=by
 let⟨f,fd,ps,F,hm,kp,hb⟩:=F.ex;let⟨tt,pp,q⟩:=ha;show⟨_,Ji (E:=λ_ _ _=>False) F (j.mono hk) hg hm kp hb .nil (λM σ H s e L I ⟨_,_,_,_,_,_,_,_,_,_,_,_,w⟩=>w.elim) pp i l m,λρ σ C u G H Q P E h k=>q ρ σ C u G H _ _ E h λJ H' ds D y rs b=>?_⟩;rw[pj];show⟨D,ds,Q,_,y.s,rs,b.1,b.2,λv o r B c d g=>k v o r B (y.trans c) (d.lQ y.h) g,λ_ _ _ _ _ _ _ _ _ z=>z⟩
def HP(q n:Nat)(t:nM)(ts:dg)(ok:List af)(u:TX):TX:=λD ρ=>ts ρ λds=>ds.length=n/\t ds (λ_=>D.nx ρ) (λa fn r=>a∈ok/\∃d,r=.fz d/\u { nx:=λρ'=>D.nx (ρ'.set q .un),rt:=λ_=>False } (ρ.set q (.fz (.exc a [(fn,d)]))))
theorem zsZ(q){V:List bE}(F:nN X.prog X.w X.K X.mg X.base k f n t)(hr:cV k' X.A)(mB:X.mg ex\.ref C')(aJ:∀B∈ok,∀C,gA X.K mainGlobals B\some (.ref C)->qF X.K (.ref C) (.ref C')\true)(Au:X.xe=λ_ _=>False)(hN:X.N.Nodup)(ha:ik X (e::es) ts)(P:∀a,fV (X.sg a) (b0::V) u)
  (bX:X.stack=X.env::X.outer:=by rfl) (gw:X.env.frame=some X.env.locals:=by rfl) (hk:k<=k':=by decide) (hg:Gl X f:=by rfl) (iG:(f==("__debug__":af))=false:=by decide) (Y:Gl X ex:=by rfl) (uM:(ex==("__debug__":af))=false:=by decide)
  (he:starEach (e::es) X.env=(false,eval e X.env)::starEach es X.env:=by rfl) (c6:(backTo O (starEach es X.env)).any (·.1)=false:=by rfl) (hs:swapsWith (.Call (.Name f p2) (e::es) [] O) none p4.line X.env=pure false:=by rfl)
  (hq:X.N[q]?\x:=by rfl) (Z:X.env.kindOf x\.local:=by rfl) (Mm:Loc X.env.scope x:=by first | show Or.inl rfl | show Or.inr rfl) (Mn:X.fn x=true\/X.env.scope.names.lookup x\.local:=by first | show .inl rfl | show .inr rfl) :
  PX X (.Try [.Expr (.Call (.Name f p2) (e::es) [] O) p4] [.ExceptHandler (some (.Name ex p5)) (some x) (b0::V) p9] [] [] pos) (HP q n t ts ok u):=by
 let⟨fa,fd,ps,F,hm,kp,hb⟩:=F.ex;let⟨tt,pp,qq⟩:=ha;have h1:∀a,jy (X.sg a) (b0::V) (P a).choose:=λa=>(P a).choose_spec.1
 have h2:=λa=>(P a).choose_spec.2
 show⟨λD σ H=>tt σ H λm H1=>Ye X.K n t m H1 (λ_ b=>D.nx σ b) (λc dd b=>∀C,c=.ref C->∀a,b a=none->qF X.K (.ref C) (.ref C')\true/\(P a).choose { nx:=λS H3=>D.nx (S.set q none) H3,rt:=λ_ _=>False } (σ.set q (some (.ref a))) (upd b a (.ext (xh a C dd)))),λJ' s σ H D I h=>?_,λρ σ G0 H0 G H D E k h g=>?_⟩
 .refine wpAny_Try_except ?_;rw[Au];have args:=pp O J' s σ H _ I h;rw[Au] at args;show Gp (eW (Q:=λf s1=>f=.next/\∃b,Inv X J' σ b s1/\D.nx σ b) (OK (eW (Q:=EP X J' σ λ_ b=>D.nx σ b) (mU (wA I hg hm ?_ iG)) (λv s1 z=>?_) λ_ _ z=>z) I.quiet hs) (λf s1 z=>?_) λ_ _ z=>z)
  .refine GK (h₀:=X.base) I.ok.mod.Ap kp (eW args (λus s1 z=>?_) λ_ _ z=>z.elim) he c6;let⟨m,H1,I1,r,z⟩:=z;have W:Vals (m++[]) (us++[]):=by rw[pj,pj];show r
   have hl:(us++[]).length=ps.length:=by rw[<-W.length];show F.len _ _ _ _ (by rw[pj];show z)
   show⟨I1.dy,nU (pf (F.run X.A X.stack s1 H1 ⟨us,[]⟩ (us++[]) (m++[]) _ _ (hr.mono hk) I1.xH (hb s1 us I1.dy hl) W (by rw[pj];show z)) λr s' j=>?_)⟩;cases r with
   | error e'=>
    dsimp only[CR] at j;show zsW (D:=D) I1 j mB bX gw Y uM Au hN hq Z Mm Mn h1 (λC dd H' z=>z C rfl) λS H' s2 J z=>⟨S,H',J,z⟩
   | ok fl=>
    cases fl with
    | ret u=>show I1.after j
    | next=>show False.elim j
    | brk=>show False.elim j
    | cont=>show False.elim j
  .let⟨u,b,J,W,l⟩:=z;show⟨rfl,b,J,l⟩
  let⟨rfl,b,J,l⟩:=z;show vz (vz ⟨_,b,J,l⟩)
 show qq ρ σ G0 H0 G H _ _ k h λm H' ds G' y rs j=>?_
 show⟨G',ds,_,_,y.s,rs,j.1,j.2,λv b r L p rr z=>g.nx _ _ L b (y.g.trans p.g) (k.ext (y.trans p)) z,λL b C dd B fn r p xo z C2 ec a hn=>?_⟩;cases ec;let⟨k9,R,v,rfl,hd,hf⟩:=xo;let⟨U,d,rfl,l⟩:=z;show⟨aJ B U C k9,?_⟩;have k2:=k.ext (y.trans p);have M:Ext L b (upd L a (.ext (xh a C (some R)))) (upd b a (.ext (xh a C (some R)))):=.new p.s hn;have rep:Rep X.K (upd L a (.ext (xh a C (some R)))) (.ref a) (.exc B [(fn,d)]):=by
  show⟨a,_,C,some R,[(fn,v)],rfl,cw,k9,λh ay=>by let⟨o,m,U,l,T,z4⟩:=ay;show⟨o,U,l,.inr ⟨T,m,z4⟩⟩,.inr (hd.mono M.g),⟨rfl,Rep.mono M.g _ _ hf⟩,trivial⟩
 show h2 a _ _ G0 H0 _ _ _ _ (k2.put (i:=q) M (r:=.fz (.exc B [(fn,d)])) (bZ rep)) l ⟨λρ' S G3 H3 s3 k3 T=>?_,λ_ _ _ _ _ _ z=>z.elim,λ_ _ _ _ _ _ z=>z.elim,λ_ _ _ _ _ _ z=>z.elim⟩;show g.nx _ _ G3 H3 (((y.g.trans p.g).trans M.g).trans s3) (k3.unset (i:=q) (u:=none)) T
end
end L2
section
namespace Wc
open PySem PySem.Spec PyProof.Rows L2
theorem kM{x:af}:[x].Nodup:=gu _ _
end Wc
open PySem PySem.Spec PyProof.Rows L2 Wc
local macro_rules | `(tactic| walk_at"nm")=>`(tactic| show⟨rfl,by first | show Or.inl rfl | show Or.inr (Or.inl rfl) | show Or.inr (Or.inr rfl),by decide,by decide⟩)
local macro_rules | `(tactic| walk_at"sc")=>`(tactic| show⟨rfl,rfl,rfl,by decide +kernel,rfl,by decide +kernel,by decide +kernel⟩)
local macro_rules | `(tactic| walk_at"bn")=>`(tactic| (intro _ _ _ _ _ _ us hl;first | (obtain⟨_,rfl⟩:=HG hl;show rfl) | (obtain⟨_,_,rfl⟩:=n5 hl;show rfl) | (obtain⟨_,_,_,rfl⟩:=HF hl;show rfl) | (obtain⟨_,_,_,_,rfl⟩:=HE hl;show rfl) | (obtain⟨_,_,_,_,_,rfl⟩:=HD hl;show rfl) | (obtain⟨_,_,_,_,_,_,_,rfl⟩:=HB hl;show rfl)))
namespace Wc
open PySem PySem.Spec PyProof.Rows L2
def top(i:Nat):bE:=PySem.Challenge.pw_wirechannel_k36_floors.main.body.getD i (.Pass ⟨0,0,0,0⟩)
structure Txt(K:ar)(mg:af->Option aa):Prop where
 b_all:mg "all"=none
 b_any:mg "any"=none
 b_bool:mg "bool"=none
 b_dict:mg "dict"=none
 b_enumerate:mg "enumerate"=none
 b_int:mg "int"=none
 b_isinstance:mg "isinstance"=none
 b_len:mg "len"=none
 b_list:mg "list"=none
 b_max:mg "max"=none
 b_min:mg "min"=none
 b_range:mg "range"=none
 b_set:mg "set"=none
 b_sorted:mg "sorted"=none
 b_str:mg "str"=none
 b_sum:mg "sum"=none
 b_tuple:mg "tuple"=none
 b_zip:mg "zip"=none
theorem rE(i)(h:fV X a t):fV X a (yE i t):=Jf i h
noncomputable def eB(l:List Nat):af:=⟨l.toArray⟩
theorem IX(l):(eB l).cps.toList=l:=by simp[eB]
theorem jK(l):(eB l).length=l.length:=by rfl
theorem ud(a b):eB a++eB b=eB (a++b):=by
 show(⟨(eB a).cps++(eB b).cps⟩:af)=_;simp[eB]
theorem aaE:eB a=eB b↔a=b:=by
 constructor
 .intro h;have:(eB a).cps.toList=(eB b).cps.toList:=by rw[h]
  simpa[eB] using this
 rintro rfl;rfl
theorem sf(c):(⟨#[c]⟩:af)=eB [c]:=rfl
theorem m7(f:a->b)(l i):bA (l.map f) i=(bA l i).map f:=by
 unfold bA;rw[aO];cases iD l.length i with
 | none=>rfl
 | some j=>simp
theorem zuE{b a:Type}{f:b->a}{o:Option b}{p:a->Prop}:(∃d,o.map f\d/\p d)↔∃x,o\x/\p (f x):=by
 cases o with
 | none=>simp
 | some x=>simp
theorem zuF{l:List b}{p:a->Prop}:(∃d,bA (l.map f) i\d/\p d)↔∃x,bA l i\x/\p (f x):=by rw[m7];show zuE
theorem ui{l:List a}{i:Int}(c:0<=i)(b:i<l.length):∃h:i.toNat<l.length,bA l i\l[i.toNat]'h:=by
 show⟨by cbv,?_⟩;unfold bA iD;rw[if_pos c,if_pos b];show bC _
theorem zs0{l:List a}{i:Int}(c:0<=i)(b:i<l.length):∃z,bA l i\z/\z∈l:=by
 let⟨h,e⟩:=ui c b;show⟨_,e,ip h⟩
theorem IE{l:List a}(i)(b:n<=l.length)(h:0<n):∃z,bA l (i%(n:Int))\z/\z∈l:=
 zs0 (j0 _ (by lia)) (by have:=pz i (show(0:Int)<n by cbv);lia)
theorem fq{l:List b}(h:j<l.length):bA l (j:Int)=some l[j]:=by
 let⟨h',e⟩:=ui (l:=l) (i:=(j:Int)) (by room) (by cbv);simpa using e
theorem Dg(h:0<=j):HT.bI n d (some j)=min j.toNat n:=by show(if j<0 then _ else _)=_;rw[if_neg (by cbv)]
theorem Td(l:List a)(h:0<=j):fP l none (some j)=l.take j.toNat:=by
 unfold fP;rw[Dg h];show((l.drop 0).take (min j.toNat l.length-0))=_;cbv
theorem DF(l:List a)(h:0<=j):fP l (some j) none=l.drop j.toNat:=by
 unfold fP;rw[Dg h];show((l.drop (min j.toNat l.length)).take (l.length-_))=_;by_cases b:l.length<=j.toNat
 .simp_all
 rw[BC (by lia),o4 ∅]
theorem Uy(l:List b)(hi:0<=i)(h:0<=j):fP l (some i) (some j)=(l.drop i.toNat).take (j.toNat-i.toNat):=by
 unfold fP;rw[Dg h,Dg hi];by_cases d:l.length<=i.toNat
 .simp_all
 rw[BC (a:=i.toNat) (by lia)];by_cases c:l.length<=j.toNat
 .rw[Nat.min_eq_right c,o4 ∅,o4 (by simp;lia)]
 rw[BC (by lia)]
theorem IW(l)(h:0<=j):mZ (eB l) none (some j)=eB (l.take j.toNat):=by unfold mZ;rw[IX,Td _ h];rfl
theorem zn6(l)(h:0<=j):mZ (eB l) (some j) none=eB (l.drop j.toNat):=by unfold mZ;rw[IX,DF _ h];rfl
theorem zqo(l)(hi:0<=i)(h:0<=j):mZ (eB l) (some i) (some j)=eB ((l.drop i.toNat).take (j.toNat-i.toNat)):=by unfold mZ;rw[IX,Uy _ hi h];rfl
theorem zqp(f:a->b)(l lo hi):fP (l.map f) lo hi=(fP l lo hi).map f:=by unfold fP;rw[aO,Oe,Od]
theorem IV(n i):bR n (.int i)=True:=by cases n<;>show eq_true trivial
theorem Tc(n i):bR n (.str i)=True:=by cases n<;>show eq_true trivial
theorem zuG(n i):bR n (.bl i)=True:=by cases n<;>show eq_true trivial
theorem Ta(n):bR n .non=True:=by cases n<;>show eq_true trivial
theorem zs1{c:Type}[BEq c][LawfulBEq c][DecidableEq c](a b:c):(a==b)=decide (a=b):=by rw[tq];simp
theorem zs2(a b):bN (.str a) (.str b)=decide (a=b):=by rfl
theorem IU(a b):bN (.int a) (.int b)=decide (a=b):=by rfl
theorem ez:sizeLine=16777216:=by rfl
def iP(u:TX)(D:DE):Ev->Prop:=u D
theorem zuH(t u D ρ):cu t u D ρ=t { nx:=iP u D,rt:=D.rt,bk:=D.bk,ct:=D.ct } ρ:=rfl
end Wc
open PySem PyProof.Rows L2 Wc
local macro_rules | `(tactic| walk_at"b")=>`(tactic| first | dsimp only[zuH,iA,vS,Hz,xK,fB,C4,dC,yV,m9,Z2,Z1,gO,aM,bH,aH,gE,vB,BF,List.set,gt,pD,gK,oI,bT,Cu,iQ,j7,nZ,fX,rf,pE,cF,qY,jI,lF,iw,n6,HA,oEq,Ae,fL,uV,Ad,pK,eN,tR,ML,Ct,qV,yI,CC,Rn,qZ,pI,HY,yE,eT,qT,rm,qX,yG,wu,RB,Ry,Cr,Hx,wa,Cv,Bf,Int.reduceAdd,Int.reduceSub,Int.reduceMul,Int.reduceNeg,Int.reducePow,Int.reduceToNat,cL,nX,Nat.reduceAdd,Rx,Rw] | simp only[zug,zuh,p24,p30,Int.reduceLT,Int.reduceLE,decide_true,decide_false,true_and,and_true,and_self,or_true,true_or,IV,Tc,zuG,Ta,zuF,eK,dG,dF,lC,sZ,iJ,IU,zs2,zqp,wW,zlE])
local macro_rules | `(tactic| walk_at"all")=>`(tactic| ((try lk);repeat(dsimp only[iP];try lk)))
local macro_rules | `(tactic| lk)=>`(tactic| (repeat(first | walk_at"b")))
local macro_rules | `(tactic| walk)=>`(tactic| (dsimp only[iP];lk))
namespace Wc
open PySem PyProof.Rows L2
noncomputable def mh(c k:Int):Int:=(c%1000000000000000000000000000000*(k*k+48271)+7919*k*k*k+11)%2147483647/7
theorem ID(c k):0<=mh c k:=Int.ediv_nonneg (j0 _ (by decide)) (by cbv)
def rO:bB:=λds Q=>∃c k:Int,ds=[.int c,.int k]/\0<=k/\k<=1000000/\Q (.fz (.int (mh c k)))
noncomputable def Nj:(T:TX) ×' ∀{P w K mg base},Txt K mg->dh P w K mg base 0 "_law_mix" ["_law_cell","_law_k"] (top 32) T:=
 ⟨_,λT nd f c A outer s H E a=>have b:=a.units;
 (aN (b9 (aQ iU (aQ eu (aQ cJ (aQ cJ (aQ rn (aQ eu (ag 0) (aQ CD au au)) (aQ cJ (aQ rn (ag 1) (ag 1)) au)) (aQ rn (aQ rn (aQ rn au (ag 1)) (ag 1)) (ag 1))) au) au) au)))⟩
def Ke:TX:=Nj.1
abbrev cQ(n:Nat)(b:bB)(T:TX)(N:List af):Prop:=∀ds a,ds.length=n->b ds a->T { nx:=λ_=>a (.fz .non),rt:=a } (lM N ds)
theorem zhX:cQ 2 rO Ke ["_law_cell","_law_k"]:=by
 intro ds e hl h;let⟨c,k,rfl,h0,b,q⟩:=h;show Ke _ [.fz (.int c),.fz (.int k)];unfold Ke Nj;dsimp only;walk_at"all";have hk:k*k<=1000000*1000000:=Int.mul_le_mul b b h0 (by cbv);have d:0<=k*k:=Int.mul_nonneg h0 h0;show⟨.inl ⟨by lia,by room⟩,.inr ⟨by lia,by lia⟩,.inr ⟨by lia,by room⟩,.inr ⟨by lia,by room⟩,?_⟩;show q
noncomputable def dO:Option af->D
 | none=>.non
 | some s=>.str s
noncomputable def dS(l:List af):D:=.lst (l.map .str)
noncomputable def dI(l:List Int):D:=.lst (l.map .int)
noncomputable def dKp(p:Int×Int×Int):D:=.tup [.int p.1,.int p.2.1,.int p.2.2]
noncomputable def dK(l:List (Int×Int×Int)):D:=.lst (l.map dKp)
theorem y0(n o):bR n (dO o)=True:=by
 cases o with
 | none=>show Ta n
 | some s=>show Tc n s
theorem wg(a b):bN (dO a) (dO b)=decide (a=b):=by
 cases a<;>cases b<;>simp only[dO,bN,zs1,fA,reduceCtorEq,decide_true,decide_false]
theorem DI(a b):bN (dO a) (.str b)=decide (a\b):=wg a (some b)
theorem DH(a b):bN (.str a) (dO b)=decide (some a=b):=wg (some a) b
theorem zk{c:Type}{D:DE}(L:List c)(a)(hw:∀h:List L2.D->Prop,h (og (L.map a))->e ρ h)(Iv:Nat->Ev->Prop)(j:Iv 0 ρ)
  (turn:∀i x ρ',L[i]?\x->Iv i ρ'->g (.tup [.int i,a x]) ρ' λk=>f { D with nx:=Iv (i+1),ct:=Iv (i+1),bk:=D.nx } k) (fin:∀ρ',Iv L.length ρ'->D.nx ρ'):rg e g f D ρ:=by
 show Ud (og (L.map a)) hw Iv j (λi d ρ' hd iv=>?_) (λρ' iv=>fin ρ' (by simpa[og] using iv));unfold og at hd;rw[Qk,bW] at hd;cases b:L[i]? with
 | none=>rw[b] at hd;cases hd
 | some x=>rw[b] at hd;cases hd;show turn i x ρ' b iv
def CU(g:dz)(a:TX)(D:DE)(ρ:Ev)(ds:List L2.D):Prop:=∃Iv:Nat->Ev->Prop,Iv 0 ρ/\
 (∀i d ρ',ds[i]?\d->Iv i ρ'->g d ρ' λb=>a { D with nx:=Iv (i+1),ct:=Iv (i+1),bk:=D.nx } b)/\∀ρ',Iv ds.length ρ'->D.nx ρ'
theorem zqq{D:DE}(P:List L2.D->Prop)(hw:∀c:List L2.D->Prop,(∀ds,P ds->c ds)->a ρ c)(h:∀ds,P ds->CU g b D ρ ds):rg a g b D ρ:=hw _ h
theorem DL{c:Type}{D:DE}(L:List c)(b)(Iv:Nat->Ev->Prop)(f:Iv 0 ρ)
  (turn:∀i x ρ',L[i]?\x->Iv i ρ'->g (b x) ρ' λh=>e { D with nx:=Iv (i+1),ct:=Iv (i+1),bk:=D.nx } h) (fin:∀ρ',Iv L.length ρ'->D.nx ρ'):CU g e D ρ (L.map b):=by
 show⟨Iv,f,λi d ρ' hd iv=>?_,λρ' iv=>fin ρ' (by simpa using iv)⟩;rw[bW] at hd;cases a:L[i]? with
 | none=>rw[a] at hd;cases hd
 | some x=>rw[a] at hd;cases hd;show turn i x ρ' a iv
theorem SD{a:Type}(f)(l:List a)(h:∀x∈l,bR n (f x)):bR (n+1) (.lst (l.map f)):=by
 intro d hd;rw[a9] at hd;let⟨x,b,rfl⟩:=hd;show h x b
theorem R5(l):e8 (iV (.tup l)) "tuple"=true:=by show e8 "tuple" "tuple"=true;decide
theorem zuI(l):e8 (iV (.tup l)) "list"=false:=by rfl
theorem Il(l):e8 (iV (.lst l)) "list"=true:=by show e8 "list" "list"=true;decide
theorem zuJ(l):e8 (iV (.lst l)) "tuple"=false:=by rfl
theorem R4(z):e8 (iV (.int z)) "bool"=false:=by rfl
theorem R3(z):e8 (iV (.int z)) "int"=true:=by show e8 "int" "int"=true;decide
theorem zuK(z):e8 (iV (.str z)) "str"=true:=by show e8 "str" "str"=true;decide
noncomputable def dN(n:Nat):D:=.int n
theorem zqr(l:List a)(h):bA l (-1)\l.getLast h:=by
 have b:0<l.length:=yq.mpr h;unfold bA iD;rw[if_neg (by decide),if_pos (by lia)];rw[List.getLast_eq_getElem,show(-1+(l.length:Int)).toNat=l.length-1 by lia];show bC _
theorem jg(o):(R.ov o).sl=.ov o:=rfl
theorem jh(o):(R.ov o).val=o.val:=rfl
noncomputable def fm:Nat->Int->List Nat
 | 0,_=>[]
 | n+1,c=>(97+(c%26).toNat)::fm n (c/26)
theorem U8(n c):(fm n c).length=n:=by
 induction n generalizing c with
 | zero=>rfl
 | succ n a=>simp[fm,a]
theorem Ux(n c):∀x∈fm n c,97<=x/\x<=122:=by
 induction n generalizing c with
 | zero=>intro x a;cases a
 | succ n b=>
  intro x a;rcases bx.mp a with rfl | h
  all_goals grind
noncomputable def E8:af:="abcdefghijklmnopqrstuvwxyz"
theorem zuL:∀k:Fin 26,bA E8.cps.toList (k.val:Int)\(97+k.val):=by decide +kernel
theorem zs3(c):bA E8.cps.toList (c%26)\(97+(c%26).toNat):=by
 have h0:=j0 c (show(26:Int)≠0 by decide);have a:=pz c (show(0:Int)<26 by decide);have:=zuL ⟨(c%26).toNat,by cbv⟩;simp only at this;rwa [B1 h0] at this
def zO:bB:=λds Q=>∃(c:Int)(n:Nat),ds=[.int c,.int n]/\n<=1000/\Q (.fz (.str (eB (fm n c))))
noncomputable def Nd:(T:TX) ×' ∀{P w K mg base},Txt K mg->dh P w K mg base 0 "_law_stem" ["_law_cell","_law_size","_law_signs","_law_stem_here","_law_k"] (top 30) T:=
 ⟨_,λT nd f c A outer s H E a=>have b:=a.units;
 (aC (bu 2 j9 nd)
   (aC (bu 3 j9 nd)
   (aC (fb dY rfl (ni T.b_range (aq (ag 1) aA)) (ba 4 nd)
    (aC (bu 3 (aQ cJ (ag 3) (aK (ag 2) (aQ eu (ag 0) au))) nd)
   (aN (bu 0 (aQ iU (ag 0) au) nd))))
   (aN (b9 (ag 3))))))⟩
def KJ:TX:=Nd.1
theorem zgK:cQ 2 zO KJ ["_law_cell","_law_size","_law_signs","_law_stem_here","_law_k"]:=by
 intro ds e hl h;let⟨c,n,rfl,hn,q⟩:=h;show KJ _ [.fz (.int c),.fz (.int n),.un,.un,.un];unfold KJ Nd;dsimp only;walk_at"all";show Kj n (λf h=>?_) (λi ρ=>∃(b:Int)(acc:List Nat)(k:Sl),ρ=[.fz (.int b),.fz (.int n),.fz (.str E8),.fz (.str (eB acc)),k]/\acc.length=i/\acc++fm (n-i) b=fm n c) ⟨_,[],_,rfl,rfl,rfl⟩ ?_ ?_
 .walk_at"all";show⟨by cbv,by lia,by trivial⟩
 .rintro i ρ hi ⟨b,acc,k,rfl,d,he⟩;walk_at"all";show⟨by decide,_,zs3 b,?_,_,acc++[97+(b%26).toNat],_,by rw[sf,ud],by simp[d],?_⟩
  .rw[jK,sf,jK,ez];simp;lia
  rw[<-he,show n-i=(n-(i+1))+1 by grind,fm];simp
 rintro ρ ⟨b,acc,k,rfl,d,he⟩;walk_at"all";rw[N5] at he;simp![fm,pj] at he;rw[he];show q
noncomputable def pL(c:Int):List (List Nat):=
 if c/64%3=0 then [104,103,102,101,100,99,98,97].map λs=>(fm 6 (c/512)).take (c/8%(c%6+1)).toNat++[s]++((fm 6 (c/512)).drop (c/8%(c%6+1)).toNat).take ((c%6).toNat-(c/8%(c%6+1)).toNat)
 else if c/64%3=1 then(aI 8).map λk=>(fm 6 (c/512)).take (c%6%4).toNat++[if k/4=0 then 109 else 116]++[if k/2%2=0 then 110 else 117]++[if k%2=0 then 111 else 118]
 else(aI 6).map (λk=>(fm 6 (c/512)).take (k+1))++[([if (fm 6 (c/512)).headD 0=97 then 98 else 97]++(fm 6 (c/512)).drop 1).take 1,([if (fm 6 (c/512)).headD 0=97 then 98 else 97]++(fm 6 (c/512)).drop 1).take 3]
noncomputable def HX(i:Int):Int:=(i%1000000000000000000000000+5)*7046029254386353131%1000000000000000000000007
noncomputable def lK(i:Int):List af:=(pL (HX i)).map eB
structure Words(ws:List af):Prop where
 len:ws.length=8
 sz:∀w∈ws,1<=w.length/\w.length<=6
 E8:∀w∈ws,∀x∈w.cps.toList,97<=x/\x<=122
 nd:ws.Nodup
theorem RH(x):∃a b c d e f:Nat,fm 6 x=[a,b,c,d,e,f]/\(97<=a/\a<=122)/\(97<=b/\b<=122)/\(97<=c/\c<=122)/\(97<=d/\d<=122)/\(97<=e/\e<=122)/\(97<=f/\f<=122):=by
 have h:=Ux 6 x;simp![fm,bx,gC,or_false,forall_eq_or_imp,forall_eq] at h;show⟨_,_,_,_,_,_,by rfl,h.1,h.2.1,h.2.2.1,h.2.2.2.1,h.2.2.2.2.1,h.2.2.2.2.2⟩
theorem zqs{l:List (List Nat)}(h:l.Nodup):(l.map eB).Nodup:=by
 unfold qC at *;rw[g6];show h.imp λa e=>a (aaE.mp e)
theorem zuN{a b:Type}(f:a->b){l:List a}(h:(l.map f).Nodup):l.Nodup:=by
 unfold qC at *;rw[g6] at h;show h.imp λn e=>n (congrArg f e)
theorem RG{b a c:Type}(f)(g:a->c)(hg:∀x y,g x=g y->x=y){l:List b}(h:(l.map f).Nodup):(l.map λx=>g (f x)).Nodup:=by
 unfold qC at *;rw[g6] at h ⊢;show h.imp λn e=>n (hg _ _ e)
theorem UP(c):(pL c).length=8/\(pL c).Nodup:=by
 unfold pL;by_cases h0:c/64%3=0
 .rw[if_pos h0];show⟨rfl,RG id _ (λx y e=>(yf (QD (List.append_cancel_right e))).1) (by decide)⟩
 rw[if_neg h0];by_cases i:c/64%3=1
 .rw[if_pos i];show⟨rfl,RG (λk=>((if k/4=0 then 109 else 116:Nat),(if k/2%2=0 then 110 else 117:Nat),(if k%2=0 then 111 else 118:Nat))) (λl=>(fm 6 (c/512)).take (c%6%4).toNat++[l.1]++[l.2.1]++[l.2.2]) (λx y e=>?_) (by decide)⟩;let⟨e,n⟩:=OZ e rfl;let⟨e,m⟩:=OZ e rfl;show Bk (yf (QD e)).1 (Bk (yf m).1 (yf n).1)
 rw[if_neg i];let⟨a,b,g,d,e,f,j,z⟩:=RH (c/512);rw[j];have h:¬a=if a=97 then 98 else 97:=by split<;>ext
 show _/\qC [[a],[a,b],[a,b,g],[a,b,g,d],[a,b,g,d,e],[a,b,g,d,e,f],[if a=97 then 98 else 97],[if a=97 then 98 else 97,b,g]];generalize (if a=97 then 98 else 97)=o at h;show⟨rfl,zuN (λl=>(l.length,decide (l.headD 0=o))) ?_⟩;show qC [(1,decide (a=o)),(2,decide (a=o)),(3,decide (a=o)),(4,decide (a=o)),(5,decide (a=o)),(6,decide (a=o)),(1,decide (o=o)),(3,decide (o=o))];rw[kF h,decide_eq_true rfl];decide
theorem zod(c):(pL c).length=8/\(∀w∈pL c,(1<=w.length/\w.length<=6)/\∀x∈w,97<=x/\x<=122)/\(pL c).Nodup:=by
 show⟨(UP c).1,?_,(UP c).2⟩;have e:=Ux 6 (c/512);have f:=U8 6 (c/512);have s0:0<=c%6:=j0 _ (by decide);have s1:c%6<6:=pz _ (by decide);have ap:∀{l m:List Nat},(∀x∈l,97<=x/\x<=122)->(∀x∈m,97<=x/\x<=122)->∀x∈l++m,97<=x/\x<=122:=λg o x d=>(cy.mp d).elim (g x) (o x)
 have tk:∀{l:List Nat}(n:Nat),(∀x∈l,97<=x/\x<=122)->∀x∈l.take n,97<=x/\x<=122:=λn h x d=>h x (B4 d)
 unfold pL;by_cases h0:c/64%3=0
 .rw[if_pos h0];have t0:0<=c/8%(c%6+1):=j0 _ (by lia);have t1:c/8%(c%6+1)<c%6+1:=pz _ (by grind);generalize c/8%(c%6+1)=at' at *;generalize c%6=z at *;generalize fm 6 (c/512)=st at *;let⟨n,rfl⟩:=QC s0;let⟨m,rfl⟩:=QC t0;intro w hw;rw[a9] at hw;let⟨s,j,rfl⟩:=hw;show⟨?_,ap (ap (tk _ e) λx d=>?_) (tk _ λx d=>e x (B3 d))⟩
  .rw[gj,gj,eJ,eJ,px,f];show 1<=min m 6+1+min (n-m) (6-m)/\min m 6+1+min (n-m) (6-m)<=6;lia
  rw[dD.mp d];show(by decide:∀s∈[104,103,102,101,100,99,98,97],97<=s/\s<=122) s j
 rw[if_neg h0];have on:∀{p:Prop}[Decidable p]{a b:Nat},(97<=a/\a<=122)->(97<=b/\b<=122)->∀x∈[if p then a else b],97<=x/\x<=122:=λha hb x d=>by
  rw[dD.mp d];split
  .exact ha
  show hb
 by_cases g:c/64%3=1
 .rw[if_pos g];have q:(c%6%4).toNat<4:=by ext
  generalize (c%6%4).toNat=m at *;generalize fm 6 (c/512)=st at *;intro w hw;rw[a9] at hw;let⟨k,hk,rfl⟩:=hw;show⟨?_,ap (ap (ap (tk _ e) (on (by decide) (by decide))) (on (by decide) (by decide))) (on (by decide) (by decide))⟩;rw[gj,gj,gj,eJ,f];show 1<=min m 6+1+1+1/\min m 6+1+1+1<=6;lia
 rw[if_neg g];generalize fm 6 (c/512)=st at *;have hd:=ap (on (p:=st.headD 0=97) (a:=98) (b:=97) (by decide) (by decide)) λx d=>e x (B3 (i:=1) d)
 intro w hw;rcases cy.mp hw with hw | hw
 .let⟨k,hk,rfl⟩:=a9.mp hw;show⟨?_,tk _ e⟩;rw[eJ,f,BC (by have:=cx.mp hk;trivial)];have:=cx.mp hk;lia
 rcases bx.mp hw with rfl | hw
 .exact⟨⟨aW 1,(by show il _:1<=6)⟩,tk _ hd⟩
 rw[dD.mp hw];show⟨?_,tk _ hd⟩;rw[eJ,gj,px,f];show 1<=min 3 (1+5)/\min 3 (1+5)<=6;decide
theorem zoe(i):Words (lK i):=by
 let⟨d,b,c⟩:=zod (HX i);show⟨by simp[lK,d],λw hw=>?_,λw hw=>?_,zqs c⟩
 .unfold lK at hw;rw[a9] at hw;let⟨l,a,rfl⟩:=hw;show(b l a).1
 unfold lK at hw;rw[a9] at hw;let⟨l,a,rfl⟩:=hw;show(b l a).2
def zE:bB:=λds Q=>∃i:Int,ds=[.int i]/\Q (.ow ((lK i).map .str))
theorem zfZ:(["_law_sign","_law_stem_here","_law_at","_law_size"]:List af).Nodup:=by decide +kernel
theorem zf0:(["_law_k","_law_stem_here","_law_size"]:List af).Nodup:=by decide +kernel
theorem zf1:(["_law_k","_law_stem_here"]:List af).Nodup:=by decide +kernel
noncomputable def Ni:(T:TX) ×' ∀{P w K mg base},Txt K mg->~~~1 "_law_stem" 2 zO->dh P w K mg base 1 "_law_named" ["_law_cell","_law_size","_law_stem_here","_law_at","_law_other"] (top 31) T:=
 ⟨_,λT C__law_stem nd f d A outer s H E c=>have b:=c.units;
 (aC (bu 0 (aQ eu (aQ rn (aQ cJ (aQ eu (ag 0) (aQ CD au au)) au) au) (aQ cJ (aQ CD au au) au)) nd)
   (aC (bu 1 (aQ eu (ag 0) au) nd)
   (aC (bu 2 (bY C__law_stem c (aq (aQ iU (ag 0) au) (aq au aA))) nd)
   (aC (bu 3 (aQ eu (aQ iU (ag 0) au) (aQ cJ (ag 1) au)) nd)
   (aC (cS (ck (gG b) (aQ eu (aQ iU (ag 0) au) au) au) (aN (b9 (fQ rfl (.of (N':=["_law_sign","_law_stem_here","_law_at","_law_size"]) (m:=[none,some 2,some 3,some 1]) (by kernel_rfl)) cZ (cM j9) (λs3 a ex=>(ba 0 zfZ)) (λs3 a ex=>eP) (λs3 a ex=>(aQ cJ (aQ cJ (lO (ag 1) ou (jN (ag 2))) (ag 0)) (lO (ag 1) (jN (ag 2)) (jN (ag 3)))))))) cY)
   (aC (cS (ck (gG b) (aQ eu (aQ iU (ag 0) au) au) au) (aN (b9 (fQ rfl (.of (N':=["_law_k","_law_stem_here","_law_size"]) (m:=[none,some 2,some 1]) (by kernel_rfl)) cZ (ni T.b_range (aq au aA)) (λs3 a ex=>(ba 0 zf0)) (λs3 a ex=>eP) (λs3 a ex=>(aQ cJ (aQ cJ (aQ cJ (lO (ag 1) ou (jN (aQ eu (ag 2) au))) (aK j9 (aQ iU (ag 0) au))) (aK j9 (aQ eu (aQ iU (ag 0) au) au))) (aK j9 (aQ eu (ag 0) au))))))) cY)
   (aC (bu 4 (aQ cJ (aK j9 (wJ Z0 T.b_int Fu (aq (kN (gG b) (aK (ag 2) au) j9) aA))) (lO (ag 2) (jN au) ou)) nd)
   (aN (b9 (aQ cJ (fQ rfl (.of (N':=["_law_k","_law_stem_here"]) (m:=[none,some 2]) (by kernel_rfl)) cZ (ni T.b_range (aq au aA)) (λs3 a ex=>(ba 0 zf1)) (λs3 a ex=>eP) (λs3 a ex=>(lO (ag 1) ou (jN (aQ cJ (ag 0) au))))) (iy (aq (lO (ag 4) ou (jN au)) (aq (lO (ag 4) ou (jN au)) aA)))))))))))))⟩
def Kr:TX:=Ni.1
theorem Y4(k:Nat)(h:k<8):bA (gW "mt").cps.toList ((k:Int)/4)=some (if k/4=0 then 109 else 116):=by
 have:∀k:Fin 8,bA (gW "mt").cps.toList ((k.val:Int)/4)=some (if k.val/4=0 then 109 else 116):=by decide +kernel
 show this ⟨k,h⟩
theorem Y3(k:Nat)(h:k<8):bA (gW "nu").cps.toList ((k:Int)/2%2)=some (if k/2%2=0 then 110 else 117):=by
 have:∀k:Fin 8,bA (gW "nu").cps.toList ((k.val:Int)/2%2)=some (if k.val/2%2=0 then 110 else 117):=by decide +kernel
 show this ⟨k,h⟩
theorem Y2(k:Nat)(h:k<8):bA (gW "ov").cps.toList ((k:Int)%2)=some (if k%2=0 then 111 else 118):=by
 have:∀k:Fin 8,bA (gW "ov").cps.toList ((k.val:Int)%2)=some (if k.val%2=0 then 111 else 118):=by decide +kernel
 show this ⟨k,h⟩
theorem zf2:cQ 1 zE Kr ["_law_cell","_law_size","_law_stem_here","_law_at","_law_other"]:=by
 intro ds B hl h;let⟨i,rfl,q⟩:=h;show Kr _ [.fz (.int i),.un,.un,.un,.un];unfold Kr Ni;dsimp only;walk_at"all";unfold lK pL HX at q;generalize (i%1000000000000000000000000+5)*7046029254386353131%1000000000000000000000007=c at q ⊢;have s0:0<=c%6:=j0 _ (by decide);show⟨c/512,6,rfl,by decide,by grind,?_⟩;have t0:0<=c/8%(c%6+1):=j0 _ (by lia);have y:=U8 6 (c/512);have big:=ez;by_cases h0:c/64%3=0
 .rw[if_pos h0] at q;rw[if_pos h0];show fE [104,103,102,101,100,99,98,97] (λc=>.str ⟨#[c]⟩) (λs=>.str (eB ((fm 6 (c/512)).take (c/8%(c%6+1)).toNat++[s]++((fm 6 (c/512)).drop (c/8%(c%6+1)).toNat).take ((c%6).toNat-(c/8%(c%6+1)).toNat)))) (λr h=>?_) (by decide) (λs g t k=>?_) ?_
  .walk_at"all";show h
  .walk_at"all";rw[IW _ t0,zqo _ t0 s0,sf,ud,ud];show⟨by rw[jK];cbv,?_,by rw[jK];cbv,?_,k⟩
   .simp![jK,eJ,cL,nX];ext
   simp![jK,gj,eJ,px,cL,nX];lia
  show q
 rw[if_neg h0] at q;rw[if_neg h0];by_cases j:c/64%3=1
 .rw[if_pos j] at q;rw[if_pos j];have v:0<=c%6%4:=j0 _ (by decide);show fE (aI 8) (λ(i:Nat)=>.int (0+i)) (λk=>.str (eB ((fm 6 (c/512)).take (c%6%4).toNat++[if k/4=0 then 109 else 116]++[if k/2%2=0 then 110 else 117]++[if k%2=0 then 111 else 118]))) (λr h=>?_) (by decide) (λs g t k=>?_) ?_
  .walk_at"all";show h
  .have o:s<8:=by simpa using g
   rw[pd];walk_at"all";rw[IW _ v];show⟨by rw[jK];cbv,by decide,_,Y4 s o,?_,by decide,_,Y3 s o,?_,by decide,_,Y2 s o,?_,?_⟩
   .simp![jK,sf,eJ,cL,nX];grind
   .simp![jK,sf,ud,gj,eJ,cL,nX];grind
   .simp![jK,sf,ud,gj,eJ,cL,nX];grind
   simp![sf,ud];show k
  show q
 rw[if_neg j] at q;rw[if_neg j];let⟨a,b,p,d,e,f,g,ha,hb,A,hd,he,hf⟩:=RH (c/512);rw[g] at q ⊢;have w:bA (eB [a,b,p,d,e,f]).cps.toList 0\a:=by rfl
 show⟨by rw[jK];simp;trivial,a,w,?_⟩;have x:bA (gW "ab").cps.toList (if (⟨#[a]⟩:af)=gW "a" then 1 else 0)=some (if a=97 then 98 else 97):=by
  by_cases n:a=97
  .subst n;rfl
  have:¬((⟨#[a]⟩:af)=gW "a"):=by
   intro z;have m:(⟨#[a]⟩:af).cps.toList=(gW "a").cps.toList:=by rw[z]
   have u:(gW "a").cps.toList=[97]:=by rfl
   rw[u] at m;simp at m;show n m
  rw[if_neg this,if_neg n];rfl
 show⟨by decide,_,x,?_⟩;walk_at"all";rw[zn6 _ (by cbv),sf,ud];show⟨by rw[jK];simp;trivial,by simp![jK];simp;trivial,?_⟩;show fE (aI 6) (λ(i:Nat)=>.int (0+i)) (λk=>.str (eB ([a,b,p,d,e,f].take (k+1)))) (λr h=>?_) (by decide) (λs g t k=>?_) ?_
 .walk_at"all";show h
 .walk_at"all";rw[IW _ (by room),show(0+(s:Int)+1).toNat=s+1 by cbv];show⟨by rw[jK];simp;trivial,k⟩
 walk_at"all";show⟨by rw[jK];simp;trivial,by rw[jK];simp;trivial,by decide,by simp;trivial,?_⟩;show q
end Wc
open PySem L2 PyProof.Rows Wc
local macro_rules | `(tactic| lk)=>`(tactic| (repeat(first | walk_at"b" | simp only[DI,DH,wg,y0])))
namespace Wc
open PySem L2 PyProof.Rows
structure Pc where
 n:Option af
 l:Int
 r:Int
 k:Int
 deriving DecidableEq
noncomputable def bw(p:Pc):D:=.tup [dO p.n,.int p.l,.int p.r,.int p.k]
noncomputable def br(ps:List Pc):D:=.lst (ps.map bw)
noncomputable def dJ:Option Int->D
 | none=>.non
 | some i=>.int i
theorem zs5(n p):bR (n+1) (bw p):=by
 intro d hd;simp![bx,gC,or_false] at hd;rcases hd with rfl | rfl | rfl | rfl
 .rw[y0];trivial
 all_goals (rw[IV];trivial)
theorem zs6(n ps):bR (n+2) (br ps):=SD bw ps λp _=>zs5 n p
noncomputable def vP(p q:Pc):Option Int:=
 if (if q.l>p.l then q.l else p.l)>(if q.r<p.r then q.r else p.r) then none else some (if q.l>p.l then q.l else p.l)
theorem zs7(p q):vP p q=if max p.l q.l<=min p.r q.r then some (max p.l q.l) else none:=by
 have b:(if q.l>p.l then q.l else p.l)=max p.l q.l:=by split<;>ext
 have a:(if q.r<p.r then q.r else p.r)=min p.r q.r:=by split<;>ext
 unfold vP;rw[b,a];by_cases h:max p.l q.l<=min p.r q.r
 .rw[if_neg (by cbv),if_pos h]
 rw[if_pos (by cbv),if_neg h]
noncomputable def ao(ps:List Pc)(q:Nat):Pc:=ps[q]?.getD ⟨none,0,0,1⟩
noncomputable def bh(tr:List Int)(q:Nat):Int:=tr[q]?.getD 0
theorem ix(h):ao ps q=ps[q]:=by unfold ao;rw[bC h];rfl
theorem yS(h):bh tr q=tr[q]:=by unfold bh;rw[bC h];rfl
theorem DD:∀a b:List Int,HT.lexLt a b=HT.bo b a
 | [],[]=>rfl
 | [],_::_=>rfl
 | _::_,[]=>rfl
 | x::xs,y::ys=>by
  unfold HT.lexLt HT.bo;rw[DD xs ys];grind
theorem zb:∀a b:List Int,HT.bo a b=false->a≠b->HT.bo b a=true
 | [],[],_,h=>absurd rfl h
 | [],_::_,_,_=>rfl
 | _::_,[],h,_=>by cases h
 | x::xs,y::ys,h,d=>by
  unfold HT.bo at h ⊢;by_cases e:x=y
  .subst e;simp![dF] at h ⊢;show zb xs ys h λz=>d (by rw[z])
  have c:¬y=x:=λz=>e z.symm
  simp[e] at h;simp[c];lia
theorem J7{b:Type}(f):∀L:List b,mj (L.map λa=>D.tup ((f a).map D.int))=some (L.map f)
 | []=>rfl
 | a::L=>by
  rw[bO,bO];unfold mj;rw[wW,J7 f L]
local macro_rules | `(tactic| lk)=>`(tactic| (repeat(first | walk_at"b" | dsimp only[jg,jh,vQ,rA,tV,rh,jf,pG,tZ,tY,qU,tX,tW,pI,kK])))
theorem UO{b:Type}{j:eU}{m:List (Option Nat)}{g:dz}{te:TD}{ρ:Ev}{Q:R->Prop}(L:List b)(e:b->D)(f:b->List D)(hw:∀k:List D->Prop,k (L.map e)->j ρ k)(o:L.length<=sizeLine)
  (h:∀x∈L,∀(l:List D->Prop),l (f x)->g (e x) (cF m ρ) λn=>te n λr=>match r with | .ow c=>l c | _=>False) (q:Q (.ov (.ll (L.map f)))):Iy j m g qX te ρ Q:=by
 show hw _ ⟨λi acc=>acc=(L.take i).map f,by rfl,λi d acc hd ha=>?_,λacc ha=>?_⟩
 .subst ha;rw[bW] at hd;cases a:L[i]? with
  | none=>rw[a] at hd;cases hd
  | some x=>
   rw[a] at hd;cases hd;have:=h x (cz a) (λc=>((L.take i).map f).length<sizeLine/\(L.take i).map f++[c]=(L.take (i+1)).map f) ⟨by simp;grind,by rw[dM,a];simp⟩;show this
 subst ha;simpa using q
noncomputable abbrev Tr:=Nat×Nat×Int
noncomputable def dT(t:Tr):D:=.tup [.int t.1,.int t.2.1,.int t.2.2]
noncomputable def cp(ts:List Tr):D:=.lst (ts.map dT)
noncomputable def eD(kv:List (Nat×Int)):List (Key×D):=kv.map λp=>(.inl (p.1:Int),.int p.2)
theorem Ik(n t):bR (n+1) (dT t):=by
 intro d hd;simp only[bx,gC,or_false] at hd;rcases hd with rfl | rfl | rfl<;>(rw[IV];trivial)
theorem SA(n ts):bR (n+2) (cp ts):=SD dT ts λt _=>Ik n t
def Ord(n:Nat)(ts:List Tr):Prop:=∃f:Nat->Int,∀t∈ts,f t.1<f t.2.1
def Valid(n:Nat)(ts:List Tr):Prop:=∀t∈ts,t.1<n/\t.2.1<n
noncomputable def keys(kv:List (Nat×Int)):List Nat:=kv.map (·.1)
theorem za(nd:(keys kv).Nodup)(h:p∈kv):look (eD kv) (.inl (p.1:Int))\.int p.2:=by
 induction kv with
 | nil=>cases h
 | cons a r b=>
  unfold keys at nd;rw[bO,dH] at nd;unfold eD look;rw[bO,jD];rcases bx.mp h with rfl | h
  .simp
  have c:a.1≠p.1:=λz=>nd.1 (by rw[z];show g7 h)
  have:¬((dv (a.1:Int):Key)=dv (p.1:Int)):=λz=>c (by injection z with z;lia)
  simp![this,decide_false];show b nd.2 h
theorem UN(kv)(n:Nat):(look (eD kv) (.inl (n:Int))).isSome=decide (n∈keys kv):=by
 induction kv with
 | nil=>rfl
 | cons a r b=>
  unfold eD look keys;grind
theorem Sz(h:n∉keys kv):je (eD kv) (.inl (n:Int)) (.int l)=eD (kv++[(n,l)]):=by
 unfold je;rw[if_neg]
 .unfold eD;simp
 intro z;rw[nY] at z;let⟨x,a,e⟩:=z;unfold eD at a;rw[a9] at a;let⟨p,b,rfl⟩:=a;show h (by unfold keys;rw[a9];show⟨p,b,by lia⟩)
theorem ub(h:k<n):iD n (k:Int)\k:=by
 unfold iD;rw[if_pos (by room),if_pos (by cbv)];simp
theorem zj{a:Type}(n f u)(v:a):((aI n).map f).set u v=(aI n).map λx=>if x=u then v else f x:=by
 apply qK;grind
theorem Jx{a:Type}(f:Nat->a)(h:u<n):((aI n).map f)[u]?\f u:=by rw[bW,GQ h];rfl
theorem zi(f:Nat->a)(h:u<n):bA ((aI n).map f) (u:Int)\f u:=by
 rw[m7,fq (by simpa using h)];simp
structure xP(n:Nat)(ts:List Tr)(kv:List (Nat×Int)):Prop where
 nd:(keys kv).Nodup
 lt:∀p∈kv,p.1<n
 up:∀p∈kv,∀t∈ts,t.2.1=p.1->∃l,(t.1,l)∈kv/\l+1<=p.2
 top:∀p∈kv,(p.2=0/\∀t∈ts,t.2.1≠p.1)\/∃t∈ts,t.2.1=p.1/\(t.1,p.2-1)∈kv
 out:∀q,q<n->q∉keys kv->∃t∈ts,t.2.1=q/\t.1∉keys kv
 gJ:kv.Pairwise λa b=>a.2<=b.2
noncomputable def g9(ts:List Tr)(u:Nat):List Nat:=(ts.filter λt=>t.1==u).map (·.2.1)
noncomputable def fM(ts:List Tr)(dn:List Nat)(q:Nat):Nat:=ts.countP λt=>t.2.1==q&&!(dn.contains t.1)
structure Lp(n:Nat)(ts:List Tr)(kv:List (Nat×Int))(w:Nat->Nat)(dn rest:List Nat):Prop where
 nd:(keys kv).Nodup
 lt:∀p∈kv,p.1<n
 up:∀p∈kv,∀t∈ts,t.2.1=p.1->∃l,(t.1,l)∈kv/\l+1<=p.2
 top:∀p∈kv,(p.2=0/\∀t∈ts,t.2.1≠p.1)\/∃t∈ts,t.2.1=p.1/\(t.1,p.2-1)∈kv
 wz:∀q,q<n->(w q=0↔q∈keys kv)
 wc:∀q,q<n->w q=fM ts dn q+rest.count q
 gJ:kv.Pairwise λa b=>a.2<=b.2
theorem Lp.done(h:Lp n ts kv w (keys kv) []):xP n ts kv:=by
 show⟨h.nd,h.lt,h.up,h.top,λq a hn=>?_,h.gJ⟩;have c:w q≠0:=λz=>hn ((h.wz q a).mp z)
 rw[h.wc q a,Ot,N4] at c;have b:0<fM ts (keys kv) q:=by lia
 unfold fM at b;cbv
theorem zoi(ts dn u q)(c:u∉dn):fM ts dn q=fM ts (dn++[u]) q+(g9 ts u).count q:=by
 unfold fM g9;induction ts with
 | nil=>rfl
 | cons t ts b=>
  rw[yj,yj,b,BH];by_cases a:t.1=u
  .subst a;have:dn.contains t.1=false:=by simpa using c
   simp![this,beq_self_eq_true,dF,bO,F6,List.contains_append,GI,N3,Bp,lC,OG,eK,dG,sZ,Bool.and_true];lia
  have d:(dn++[u]).contains t.1=dn.contains t.1:=by simp[a]
  lia
theorem ot{b:Type}[DecidableEq b]{l ws:List b}(nd:l.Nodup)(h:∀w∈l,w∈ws):l.length<=ws.length:=by
 induction l generalizing ws with
 | nil=>simp
 | cons a r d=>
  rw[dH] at nd;have ha:=h a (by room);have e:=d (ws:=ws.erase a) nd.2 λw hw=>(GU (λz:w=a=>nd.1 (z▸hw))).mpr (h w (by room))
  rw[Hb ha] at e;have:=List.length_pos_of_mem ha;simp![cL];lia
theorem IT(nd:(keys kv).Nodup)(lt:∀p∈kv,p.1<n):kv.length<=n:=by
 have:=ot (ws:=aI n) nd λw hw=>by
  unfold keys at hw;rw[a9] at hw;let⟨p,a,rfl⟩:=hw;show cx.mpr (lt p a)
 simpa[keys] using this
theorem Lp.less{dn rest:List Nat}(h:Lp n ts kv w dn (q::rest))(a:q<n):1<=w q/\q∉keys kv:=by
 have b:=h.wc q a;rw[List.count_cons_self] at b;show⟨by lia,λz=>?_⟩;have:=(h.wz q a).mpr z;cbv
theorem Lp.f9{dn rest:List Nat}(h:Lp n ts kv w dn (q::rest))(b:q<n)(g:w q-1≠0):Lp n ts kv (λx=>if x=q then w q-1 else w x) dn rest:=by
 let⟨f,d⟩:=h.less b;show⟨h.nd,h.lt,h.up,h.top,λx a=>?_,λx a=>?_,h.gJ⟩
 .split
  .simp_all
  show h.wz x a
 have:=h.wc x a;rw[F6] at this;split
 .rename_i e;subst e;simp at this;cbv
 rename_i e;have c:(q==x)=false:=by simpa using Ne.symm e
 simp[c] at this;show this
theorem Lp.step{dn rest:List Nat}{q u:Nat}{d:Int}(h:Lp n ts kv w dn (q::rest))(j:q<n)(y:w q-1=0)
  (s:∀x∈dn,∃l,(x,l)∈kv/\l<=d) (v:(u,d)∈kv) (ht:∃t∈ts,t.2.1=q/\t.1=u) (m:∀x∈kv,x.2<=d+1):Lp n ts (kv++[(q,d+1)]) (λx=>if x=q then w q-1 else w x) dn rest:=by
 let⟨C,A⟩:=h.less j;have hw:=h.wc q j;have k:fM ts dn q=0:=by cbv
 have hk:keys (kv++[(q,d+1)])=keys kv++[q]:=by show cO
 show⟨?_,λp c=>?_,λp c t r e=>?_,λp c=>?_,λx i=>?_,λx i=>?_,?_⟩
 .rw[hk,l5];show⟨h.nd,by show gu _ _,λa ha b hb=>?_⟩;simp at hb;subst hb;show λz=>A (z▸ha)
 .rcases cy.mp c with c | c
  .exact h.lt p c
  simp at c;subst c;show j
 .rcases cy.mp c with c | c
  .let⟨l,g,o⟩:=h.up p c t r e;show⟨l,jb _ g,o⟩
  simp at c;subst c;unfold fM at k;rw[GP] at k;have:=k t r;simp![gZ,beq_iff_eq,BO,List.contains_eq_mem,decide_eq_false_iff_not] at this;have hm:t.1∈dn:=vK λz=>this ⟨e,z⟩
  let⟨l,g,o⟩:=s _ hm;show⟨l,jb _ g,by cbv⟩
 .rcases cy.mp c with c | c
  .rcases h.top p c with z | ⟨t,t1,f,t3⟩
   .exact .inl z
   show .inr ⟨t,t1,f,jb _ t3⟩
  simp at c;subst c;let⟨t,t1,f,t3⟩:=ht;show .inr ⟨t,t1,f,jb _ ?_⟩;rw[t3];rw[show d+1-1=d by cbv];show v
 .rw[hk];split
  .rename_i e;subst e;simp[y]
  rename_i e;rw[h.wz x i];simp[e]
 .have:=h.wc x i;rw[F6] at this;split
  .rename_i e;subst e;simp at this;cbv
  rename_i e;have B:(q==x)=false:=by simpa using Ne.symm e
  simp[B] at this;show this
 rw[vH];show⟨h.gJ,by show gu _ _,λa ha b hb=>?_⟩;simp at hb;subst hb;show m a ha
theorem Lp.next{dn:List Nat}(h:Lp n ts kv w dn [])(b:u∉dn):Lp n ts kv w (dn++[u]) (g9 ts u):=by
 show⟨h.nd,h.lt,h.up,h.top,h.wz,λx a=>?_,h.gJ⟩;rw[h.wc x a,Ot,N4,zoi ts dn u x b]
end Wc
open PySem L2 PyProof.Rows Wc
local macro_rules | `(tactic| lk)=>`(tactic| (repeat(first | walk_at"b" | dsimp only[jg,jh,vQ,rA,tV,rh,jf,pG,tZ,tY,qU,tX,tW,pI])))
namespace Wc
open PySem L2 PyProof.Rows
noncomputable def jQ(s:Int)(x:Nat):Int:=mh s (x+600)*128+x
def wN:bB:=λds Q=>∃(s:Int)(x:Nat),ds=[.int s,.int x]/\x<=1000/\Q (.fz (.int (jQ s x)))
noncomputable def Ng:(T:TX) ×' ∀{P w K mg base},Txt K mg->~~~1 "_law_mix" 2 rO->dh P w K mg base 1 "_law_rank" ["_law_seed","_law_piece"] (top 36) T:=
 ⟨_,λT C__law_mix nd f c A outer s H E a=>have b:=a.units;
 (aN (b9 (aQ cJ (aQ rn (bY C__law_mix a (aq (ag 0) (aq (aQ cJ (ag 1) au) aA))) au) (ag 1))))⟩
def KH:TX:=Ng.1
theorem zgL:cQ 2 wN KH ["_law_seed","_law_piece"]:=by
 intro ds d hl h;let⟨s,x,rfl,b,q⟩:=h;show KH _ [.fz (.int s),.fz (.int x)];unfold KH Ng;dsimp only;lk;show⟨s,x+600,rfl,by room,by lia,?_⟩;lk;show q
theorem R1(ts:List Tr)(p q c):ts.map dT++[.tup [.int (p:Nat),.int (q:Nat),.int c]]=(ts++[(p,q,c)]).map dT:=by rw[cO];rfl
def Up(s:Int)(ts:List Tr):Prop:=∀t∈ts,jQ s t.1<jQ s t.2.1
def zX:bB:=λds Q=>∃(s:Int)(cells:List Int)(n:Nat),ds=[.int s,dI cells,.int n]/\cells.length<=1000/\n<=128/\∀ts,Valid n ts->ts.length<=cells.length->Up s ts->Q (.ow (ts.map dT))
noncomputable def Nc:(T:TX) ×' ∀{P w K mg base},Txt K mg->~~~1 "_law_mix" 2 rO->~~~2 "_law_rank" 2 wN->dh P w K mg base 2 "_law_triples" ["_law_seed","_law_cells","_law_many","_law_above","_law_k","_law_cell","_law_one","_law_p","_law_q"] (top 37) T:=
 ⟨_,λT C__law_mix C__law_rank nd f c A outer s H E a=>have b:=a.units;
 (aC (gI 3 (iy aA) nd)
   (aC (fb dY rfl (wG T.b_enumerate (aq (ag 1) aA)) (kP (n:=2) rfl (c8 (ba 4 nd) (c8 (ba 5 nd) kQ)))
    (aC (bu 6 (bY C__law_mix a (aq (ag 5) (aq (aQ cJ (ag 4) au) aA))) nd)
   (aC (bu 7 (aQ eu (ag 6) (c7 (yP rfl) T.b_max xU (aq au (aq (ag 2) aA)))) nd)
   (aC (bu 8 (aQ eu (aQ iU (ag 6) au) (c7 (yP rfl) T.b_max xU (aq au (aq (ag 2) aA)))) nd)
   (aN (cS (y4 (ck (vU b) (ag 7) (ag 8)) (Dv (ck yJ (bY C__law_rank a (aq (ag 0) (aq (ag 7) aA))) (bY C__law_rank a (aq (ag 0) (aq (ag 8) aA)))))).pb (aN (om 3 (fF (aq (ag 7) (aq (ag 8) (aq (aQ eu (aQ iU (ag 6) au) au) aA)))))) (aN (cS (ck (vU b) (ag 7) (ag 8)) (aN (om 3 (fF (aq (ag 8) (aq (ag 7) (aq (aQ eu (aQ iU (ag 6) au) au) aA)))))) cY))))))))
   (aN (ug 3))))⟩
def KQ:TX:=Nc.1
theorem R0(d:p<128)(c:q<128)(e:p≠q):jQ s p≠jQ s q:=by
 unfold jQ;generalize mh s (p+600)=a;generalize mh s (q+600)=b;lia
theorem zeM:cQ 3 zX KQ ["_law_seed","_law_cells","_law_many","_law_above","_law_k","_law_cell","_law_one","_law_p","_law_q"]:=by
 intro ds L hl h;let⟨s,cells,n,rfl,K,hn,q⟩:=h;show KQ _ [.fz (.int s),.fz (dI cells),.fz (.int n),.un,.un,.un,.un,.un,.un];unfold KQ Nc;dsimp only;unfold dI;have big:=ez;lk;show⟨du _,?_⟩;walk;show zk cells D.int (λM h=>?_) (λi ρ=>∃(ts:List Tr)(a b c d e:Sl),ρ=[.fz (.int s),.fz (.lst (cells.map .int)),.fz (.int n),.ow (ts.map dT),a,b,c,d,e]/\Valid n ts/\ts.length<=i/\Up s ts) ⟨[],_,_,_,_,_,rfl,λt ht=>(by cases ht),aW _,λt ht=>(by cases ht)⟩ ?_ ?_
 .lk;show h
 .rintro i cell ρ hi ⟨ts,a,b,c,d,e,rfl,v,len,up⟩;have J:i<cells.length:=(cf.mp hi).1;lk;show⟨cell,(i:Int)+150,rfl,by show Int.natCast_nonneg _,by lia,?_⟩;have o0:=ID cell ((i:Int)+150);generalize mh cell ((i:Int)+150)=one at o0;walk;have hm:(if (n:Int)>1 then(n:Int) else 1)=max 1 (n:Int):=by split<;>ext
  have o:∀Q:R->Prop,yC [D.int 1,D.int n] Q=Q (.fz (.int (max 1 (n:Int)))):=λQ=>by
   show Q (.fz (.int (if (n:Int)>1 then(n:Int) else 1)))=_;rw[hm]
  simp![o];have j:0<max 1 (n:Int):=by lia
  show⟨j,?_⟩;obtain⟨p,z⟩:∃p:Nat,one%max 1 (n:Int)=(p:Int):=⟨(one%max 1 (n:Int)).toNat,(B1 (j0 _ (by lia))).symm⟩
  have E:=pz one j;rw[z] at E ⊢;walk;simp![o];show⟨j,?_⟩;obtain⟨g,y⟩:∃p:Nat,one/128%max 1 (n:Int)=(p:Int):=⟨(one/128%max 1 (n:Int)).toNat,(B1 (j0 _ (by lia))).symm⟩
  have F:=pz (one/128) j;rw[y] at F ⊢;walk;have low:∀t:Tr,t.1<n->t.2.1<n->jQ s t.1<jQ s t.2.1->Valid n (ts++[t])/\(ts++[t]).length<=i+1/\Up s (ts++[t]):=λt C B A=>by
   show⟨λx f=>?_,by simp;ext,λx f=>?_⟩
   .rcases cy.mp f with f | f
    .exact v x f
    simp at f;subst f;show⟨C,B⟩
   rcases cy.mp f with f | f
   .exact up x f
   simp at f;subst f;show A
  by_cases w:p=g
  .subst w;simp![decide_true,lC,eK,dG];show⟨ts,_,_,_,_,_,rfl,v,by room,up⟩
  have H:¬((p:Int)=(g:Int)):=by lia
  have r:p<n:=by lia
  have u:g<n:=by lia
  simp![H,decide_false,sZ,dF];show⟨s,p,rfl,by lia,s,g,rfl,by lia,?_⟩;lk;by_cases m:jQ s p<jQ s g
  .rw[if_pos m];rw[R1];show⟨by trivial,by rw[aO];lia,ts++[(p,g,one/16384%41)],_,_,_,_,_,rfl,low _ r u m⟩
  rw[if_neg m];have I:jQ s g<jQ s p:=by
   have:=R0 (s:=s) (p:=p) (q:=g) (by room) (by room) w;lia
  rw[R1];show⟨by trivial,by rw[aO];lia,ts++[(g,p,one/16384%41)],_,_,_,_,_,rfl,low _ u r I⟩
 rintro ρ ⟨ts,a,b,c,d,e,rfl,v,len,up⟩;walk;show q ts v len up
local macro_rules | `(tactic| lk)=>`(tactic| (repeat(first | walk_at"b" | simp only[DI,DH,wg,y0])))
def zN:bB:=λds Q=>∃p q:Pc,ds=[bw p,bw q]/\Q (.fz (dJ (vP p q)))
noncomputable def M5:(T:TX) ×' ∀{P w K mg base},Txt K mg->dh P w K mg base 0 "common_of" ["one","other","column"] (top 4) T:=
 ⟨_,λT nd f c A outer s H E a=>have b:=a.units;
 (aC (bu 2 (c7 (yP rfl) T.b_max xU (aq (aK (ag 0) au) (aq (aK (ag 1) au) aA))) nd)
   (aC (cS (ck pF (ag 2) (c7 (Ig rfl) T.b_min Bh (aq (aK (ag 0) au) (aq (aK (ag 1) au) aA)))) (aN (b9 iz)) cY)
   (aN (b9 (ag 2)))))⟩
def KG:TX:=M5.1
theorem zgM:cQ 2 zN KG ["one","other","column"]:=by
 intro ds d hl h;let⟨p,q,rfl,Q⟩:=h;show KG _ [.fz (bw p),.fz (bw q),.un];unfold KG M5;dsimp only;unfold bw;lk;show⟨_,rfl,_,rfl,?_⟩;walk;show⟨_,rfl,_,rfl,?_⟩;try unfold yD
 lk;unfold vP at Q;generalize (if q.l>p.l then q.l else p.l)=a at Q ⊢;generalize (if q.r<p.r then q.r else p.r)=b at Q ⊢;by_cases h:b<a
 .rw[if_pos h] at Q;rw[if_pos h];show Q
 rw[if_neg h] at Q;rw[if_neg h];walk;show Q
local macro_rules | `(tactic| lk)=>`(tactic| (repeat(first | walk_at"b" | simp only[DI,DH,wg,y0])))
noncomputable def lJ(p q:Pc):Bool:=decide (vP p q=none)||(decide (p.n≠none)&&decide (p.n=q.n))
def zM:bB:=λds Q=>∃p q:Pc,ds=[bw p,bw q]/\Q (.fz (.bl (lJ p q)))
noncomputable def MW:(T:TX) ×' ∀{P w K mg base},Txt K mg->~~~1 "common_of" 2 zN->dh P w K mg base 1 "may_share" ["one","other"] (top 22) T:=
 ⟨_,λT C_common_of nd f c A outer s H E a=>have b:=a.units;
 (aN (b9 (HZ (kN vT (bY C_common_of a (aq (ag 0) (aq (ag 1) aA))) iz) (ng (pM (kN Dd (aK (ag 0) au) iz) (ng (kN (gG b) (aK (ag 0) au) (aK (ag 1) au))))))))⟩
def KD:TX:=MW.1
theorem zgN:cQ 2 zM KD ["one","other"]:=by
 intro ds d hl h;let⟨p,q,rfl,Q⟩:=h;show KD _ [.fz (bw p),.fz (bw q)];unfold KD MW;dsimp only;lk;show⟨p,q,rfl,?_⟩;unfold lJ at Q;unfold bw;cases b:vP p q with
 | none=>
  rw[b] at Q;trivial
 | some c=>
  rw[b] at Q;show⟨_,rfl,?_⟩;cases hn:p.n with
  | none=>
   rw[hn] at Q;trivial
  | some x=>
   rw[hn] at Q;lk;show⟨_,rfl,_,rfl,?_⟩;lk;trivial
noncomputable def dA{a:Type}(f:a->D)(kv:List (Nat×a)):List (Key×D):=kv.map λp=>(.inl (p.1:Int),f p.2)
noncomputable def bz{a:Type}(kv:List (Nat×a))(n:Nat):Option a:=(kv.find? λp=>decide (p.1=n)).map (·.2)
noncomputable def jG{a:Type}(kv:List (Nat×a))(n:Nat)(x:a):List (Nat×a):=
 if (kv.any λp=>decide (p.1=n))=true then kv.map (λp=>if p.1=n then(p.1,x) else p) else kv++[(n,x)]
theorem Ij(a b:Nat):((dv (a:Int):Key)=dv (b:Int))=(a=b):=by
 grind
theorem oq(f)(kv:List (Nat×b))(n:Nat):look (dA f kv) (.inl (n:Int))=(bz kv n).map f:=by
 induction kv with
 | nil=>rfl
 | cons a r c=>
  unfold dA look bz;rw[bO,jD,jD];simp![Ij];by_cases h:a.1=n
  .simp[h]
  simp![h,decide_false];show c
theorem yR(f kv)(n:Nat)(x:a):je (dA f kv) (.inl (n:Int)) (f x)=dA f (jG kv n x):=by
 have e:((dA f kv).any λp=>decide (p.1=dv (n:Int)))=kv.any λp=>decide (p.1=n):=by
  unfold dA;rw[yd];congr 1
  funext p
  simp![B0,Ij]
 unfold je jG;rw[e];split
 .unfold dA;rw[bV,bV];show tK λp _=>?_
  simp only[B0,Ij];split<;>rfl
 unfold dA;simp
theorem rN(kv:List (Nat×b))(n):(bz kv n).isSome=true↔n∈kv.map (·.1):=by
 induction kv with
 | nil=>simp[bz]
 | cons a r c=>
  unfold bz;grind
theorem rM(a)(r:List (Nat×b))(n):bz (a::r) n=if a.1=n then some a.2 else bz r n:=by
 unfold bz;by_cases h:a.1=n
 .simp[h]
 simp[h]
theorem zok(kv n m)(x:b):bz (kv.map λp=>if p.1=n then(p.1,x) else p) m=if m=n then(bz kv n).map (λ_=>x) else bz kv m:=by
 induction kv with
 | nil=>simp[bz]
 | cons a r c=>
  rw[bO,rM,rM,rM,c];grind
theorem zol(kv n m)(x:c)(hn:bz kv n=none):bz (kv++[(n,x)]) m=if m=n then some x else bz kv m:=by
 induction kv with
 | nil=>
  rw[BF,rM];by_cases h:n=m
  .rw[h]
  simp[h,Ne.symm h]
 | cons a r e=>
  rw[rM] at hn;by_cases b:a.1=n
  .rw[if_pos b] at hn;cases hn
  rw[if_neg b] at hn;rw[vB,rM,rM,e hn];by_cases d:m=n
  .subst d;simp[b]
  simp[d]
theorem Jw(kv:List (Nat×b))(n):(kv.any λp=>decide (p.1=n))=(bz kv n).isSome:=by
 induction kv with
 | nil=>rfl
 | cons a r c=>
  rw[vm,rM,c];by_cases h:a.1=n<;>simp[h]
theorem pT(kv n m)(x:a):bz (jG kv n x) m=if m=n then some x else bz kv m:=by
 unfold jG;rw[Jw];split
 .rename_i h;rw[zok];split
  .cases e:bz kv n with
   | none=>rw[e] at h;cases h
   | some y=>rfl
  rfl
 rename_i h;show zol kv n m x (by cbv)
theorem JL(kv n)(x:a):(jG kv n x).length<=kv.length+1:=by
 unfold jG;split<;>simp
theorem zl5(f)(kv:List (Nat×b)):wC (dA f kv)\(kv.map λp=>(p.1:Int)):=by
 induction kv with
 | nil=>rfl
 | cons a r c=>
  show(wC (dA f r)).map ((a.1:Int)::·)=_;rw[c];rfl
noncomputable def fK(ps:List Pc)(q:Nat):List Int:=[(ao ps q).l,(ao ps q).r,(q:Int)]
theorem uj(a b xs ys):HT.bo (a::xs) (b::ys)=if a=b then HT.bo xs ys else decide (b<a):=by
 rfl
theorem JK{a b:List Int}(h:a.Perm b):a.sum=b.sum:=by
 induction h with
 | nil=>rfl
 | cons x _ c=>simp[c]
 | swap x y l=>simp;lia
 | trans _ _ e d=>rw[e,d]
theorem Dl(f:Nat->Int):∀(L M:List Nat),L.Nodup->(∀x∈L,x∈M)->(∀x∈M,0<=f x)->(L.map f).sum<=(M.map f).sum
 | [],M,_,_,h=>by
  show 0<=_;induction M with
  | nil=>show di _
  | cons a r g=>
   have:=h a (by show .head _);have:=g (λx c=>by cases c) λx c=>h x (by show .tail _ ‹_›)
   simp;lia
 | x::L,M,nd,sub,h=>by
  have p:=GS (sub x lA);have e:=JK (p.map f);have d:=dH.mp nd;have:=Dl f L (M.erase x) d.2 (λy b=>(GU (λz:y=x=>d.1 (z▸b))).mpr (sub y (eh _ b))) λy b=>h y (B7 b)
  cbv
theorem UM(ps):((aI ps.length).map λq=>(ao ps q).k).sum=(ps.map Pc.k).sum:=by
 congr 1
 apply tE
 .simp
 intro i a b;have hi:i<ps.length:=by simpa using a
 simp[ix hi]
local macro_rules | `(tactic| lk)=>`(tactic| (repeat(first | walk_at"b" | dsimp only[jg,jh])))
structure i7(ps:List Pc)(ord:List Nat):Prop where
 pm:ord.Perm (aI ps.length)
 gJ:ord.Pairwise λx y=>HT.bo (fK ps y) (fK ps x)=true
theorem i7.nd(h:i7 ps ord):ord.Nodup:=h.pm.nodup_iff.mpr tD
theorem i7.mem(h:i7 ps ord)(q):q∈ord↔q<ps.length:=by rw[h.pm.mem_iff,cx]
theorem i7.len(h:i7 ps ord):ord.length=ps.length:=by rw[h.pm.length_eq,jE]
noncomputable def cj(l:List Nat):List D:=l.map λ(q:Nat)=>D.int (q:Int)
def wV:bB:=λds Q=>∃ps:List Pc,ds=[br ps]/\ps.length<=63/\∀ord,i7 ps ord->Q (.ow (cj ord))
theorem VD:(["number","piece"]:List af).Nodup:=by decide +kernel
theorem KW:(["first","last","number"]:List af).Nodup:=by decide +kernel
noncomputable def M3:(T:TX) ×' ∀{P w K mg base},Txt K mg->dh P w K mg base 0 "in_order" ["pieces","keys"] (top 15) T:=
 ⟨_,λT nd f d A outer s H E b=>have c:=b.units;
 (aC (bu 1 (c7 (Vl rfl) T.b_sorted Bo (aq (fQ rfl (.of (N':=["number","piece"]) (m:=[none,none]) (by kernel_rfl)) JY (wG T.b_enumerate (aq (ag 0) aA)) (λs3 a ex=>(kP (n:=2) rfl (c8 (ba 0 VD) (c8 (ba 1 VD) kQ)))) (λs3 a ex=>eP) (λs3 a ex=>(fF (aq (aK (ag 1) au) (aq (aK (ag 1) au) (aq (ag 0) aA)))))) aA)) nd)
   (aN (b9 (fQ rfl (.of (N':=["first","last","number"]) (m:=[none,none,none]) (by kernel_rfl)) VB (cM (ag 1)) (λs3 a ex=>(kP (n:=3) rfl (c8 (ba 0 KW) (c8 (ba 1 KW) (c8 (ba 2 KW) kQ))))) (λs3 a ex=>eP) (λs3 a ex=>(ag 2))))))⟩
def Kd:TX:=M3.1
theorem zh3:cQ 1 wV Kd ["pieces","keys"]:=by
 intro ds r hl h;let⟨ps,rfl,hn,q⟩:=h;show Kd _ [.fz (br ps),.un];unfold Kd M3;dsimp only;have big:=ez;lk;show fE (aI ps.length) (λi=>.tup [.int (i:Nat),bw (ao ps i)]) (λi=>.tup ((fK ps i).map D.int)) (λm h=>?_) (by simp;lia) (λx g n k=>?_) ?_
 .unfold br;lk;have e:og (ps.map bw)=(aI ps.length).map λi=>D.tup [.int (i:Nat),bw (ao ps i)]:=by
   unfold og;apply tE
   .simp
   intro i d o;have hi:i<ps.length:=by simpa using d
   simp[ix hi]
  rw[e];show h
 .lk;show⟨_,rfl,_,rfl,by trivial,?_⟩;show k
 simp![m9,DG,J7];show⟨by simp;ext,λt ht=>?_,λp j f=>?_⟩
 .let⟨i,w,rfl⟩:=a9.mp ht;simp[fK]
 let⟨ord,d,rfl⟩:=zA j rfl;have nd:ord.Nodup:=d.nodup_iff.mpr tD;have inj:∀x y,fK ps x=fK ps y->x=y:=λx y e=>by unfold fK at e;simp at e;lia
 have io:i7 ps ord:=by
  show⟨d,?_⟩;rw[g6] at f;show(f.and nd).imp λ{a b} h=>zb _ _ h.1 λz=>h.2 (inj _ _ z)
 walk;rw[bV];show fE ord (λq=>.tup ((fK ps q).map D.int)) (λ(q:Nat)=>.int (q:Int)) (λm h=>?_) (by rw[io.len];lia) (λx g n k=>?_) ?_
 .lk;show h
 .unfold fK;lk;show k
 show q ord io
noncomputable def uY(ps:List Pc)(tr:List Int)(x n:Nat)(t:Int):Bool:=HT.lexLt [bh tr x,(ao ps x).l,(ao ps x).r,(x:Int)] [t,(ao ps n).l,(ao ps n).r,(n:Int)]
structure Yi(ps:List Pc)(ts:List Tr)(tr:List Int)(n:Nat)(t:Int):Prop where
 up:∀u∈ts,u.2.1=n->bh tr u.1+(ao ps u.1).k<=t
 free:∀x,x<ps.length->x≠n->uY ps tr x n t=true->((ao ps n).n=none\/(ao ps n).n≠(ao ps x).n)->¬(t<bh tr x+(ao ps x).k/\(ao ps x).l<=(ao ps n).r/\(ao ps n).l<=(ao ps x).r)
structure Fd(ps:List Pc)(ts:List Tr)(tr:List Int):Prop where
 len:tr.length=ps.length
 lo:∀n,n<ps.length->0<=bh tr n
 hi:∀n,n<ps.length->bh tr n<=(ps.map Pc.k).sum
 ok:∀n,n<ps.length->Yi ps ts tr n (bh tr n)
 least:∀n,n<ps.length->∀t,0<=t->t<bh tr n->¬Yi ps ts tr n t
noncomputable abbrev Pl:=Nat×Int
noncomputable def bP(pl:List Pl):List Nat:=pl.map (·.1)
noncomputable def oF(ps:List Pc)(us:Nat->List Nat)(pl:List Pl)(t:Int)(q:Nat):Bool:=
 ((us q).all λu=>pl.any λp=>decide (p.1=u)&&decide (p.2+(ao ps u).k<=t))&&((pl.filter λp=>decide (t<p.2+(ao ps p.1).k)).map (·.1)).all λx=>lJ (ao ps x) (ao ps q)
noncomputable def cD(ps:List Pc)(us:Nat->List Nat)(t:Int)(pl:List Pl)(q:Nat):List Pl:=if oF ps us pl t q=true then pl++[(q,t)] else pl
noncomputable def kc(ps:List Pc)(us:Nat->List Nat)(pl:List Pl)(e:Int×Nat):List Pl:=if e.2∈bP pl then pl else cD ps us e.1 pl e.2
noncomputable def cX(ord:List Nat)(pl:List Pl):List Nat:=ord.filter λq=>decide (q∉bP pl)
noncomputable def row(ps:List Pc)(us:Nat->List Nat)(ord:List Nat)(t:Int)(pl:List Pl):List Pl:=(cX ord pl).foldl (cD ps us t) pl
noncomputable def c9(ps:List Pc)(us:Nat->List Nat)(ord:List Nat):Nat->List Pl
 | 0=>[]
 | n+1=>row ps us ord (n:Int) (c9 ps us ord n)
noncomputable def i5(ord:List Nat):Nat->List (Int×Nat)
 | 0=>[]
 | n+1=>i5 ord n++ord.map λq=>((n:Int),q)
section
variable{ps:List Pc}{us:Nat->List Nat}
theorem Sy(h:x≠q):x∈bP (cD ps us t pl q)↔x∈bP pl:=by
 unfold cD bP;split
 .simp[h]
 rfl
theorem IS(a):∀(o:List Nat) pl,o.Nodup->(∀q∈o,q∈bP pl↔q∈bP a)->(o.filter λq=>decide (q∉bP a)).foldl (cD ps us t) pl=(o.map λq=>(t,q)).foldl (kc ps us) pl
 | [],pl,_,_=>rfl
 | q::o,pl,nd,h=>by
  have d:=dH.mp nd;rw[bO,gY];by_cases c:q∈bP a
  .rw[List.filter_cons_of_neg (by simp[c])];have e:kc ps us pl (t,q)=pl:=by unfold kc;rw[if_pos ((h q lA).mpr c)]
   rw[e];show IS a o pl d.2 λx b=>h x (eh _ b)
  rw[List.filter_cons_of_pos (by show if_pos ‹_›),gY];have e:kc ps us pl (t,q)=cD ps us t pl q:=by unfold kc;rw[if_neg (λz=>c ((h q lA).mp z))]
  rw[e];show IS a o _ d.2 λx b=>by
   rw[Sy (λz:x=q=>d.1 (z▸b))];show h x (eh _ b)
theorem JJ(nd:ord.Nodup):∀n,c9 ps us ord n=(i5 ord n).foldl (kc ps us) []
 | 0=>rfl
 | n+1=>by
  show row ps us ord (n:Int) (c9 ps us ord n)=_;unfold row cX;rw[IS _ ord _ nd λq _=>Iff.rfl,i5,ly,JJ nd n]
noncomputable def at_(ps:List Pc)(us:Nat->List Nat)(E:List (Int×Nat))(j:Nat):List Pl:=(E.take j).foldl (kc ps us) []
theorem y9(h:E[j]?\e):at_ ps us E (j+1)=kc ps us (at_ ps us E j) e:=by
 unfold at_;rw[dM,h,Option.toList_some,ly];rfl
theorem zqt(h:p∈pl):p∈kc ps us pl e:=by
 unfold kc cD;split
 .exact h
 split
 .exact jb _ h
 show h
theorem y8:∀{i j},i<=j->∀p∈at_ ps us E i,p∈at_ ps us E j:=by
 intro i j h;induction h with
 | refl=>show λp a=>a
 | @step m _ b=>
  intro p a;cases hm:E[m]? with
  | none=>
   have e:at_ ps us E (m+1)=at_ ps us E m:=by unfold at_;rw[dM,hm];simp
   rw[e];show b p a
  | some e=>rw[y9 hm];show zqt (b p a)
theorem we:∀{j p},p∈at_ ps us E j->∃i,i<j/\E[i]?\(p.2,p.1)/\p.1∉bP (at_ ps us E i)/\oF ps us (at_ ps us E i) p.2 p.1=true
 | 0,p,h=>by simp[at_] at h
 | j+1,p,h=>by
  cases hm:E[j]? with
  | none=>
   have e:at_ ps us E (j+1)=at_ ps us E j:=by unfold at_;rw[dM,hm];simp
   rw[e] at h;let⟨i,d,b⟩:=we h;show⟨i,by room,b⟩
  | some e=>
   rw[y9 hm] at h;unfold kc at h;split at h
   .let⟨i,d,b⟩:=we h;show⟨i,by room,b⟩
   rename_i hn;unfold cD at h;split at h
   .rename_i f;rcases cy.mp h with h | h
    .let⟨i,d,b⟩:=we h;show⟨i,by lia,b⟩
    simp at h;subst h;show⟨j,by show aW _,hm,hn,f⟩
   let⟨i,d,b⟩:=we h;show⟨i,by room,b⟩
theorem wb:∀j,(bP (at_ ps us E j)).Nodup
 | 0=>by show .nil
 | j+1=>by
  cases hm:E[j]? with
  | none=>
   have e:at_ ps us E (j+1)=at_ ps us E j:=by unfold at_;rw[dM,hm];simp
   rw[e];show wb j
  | some e=>
   rw[y9 hm];unfold kc;split
   .exact wb j
   rename_i hn;unfold cD;split
   .unfold bP at hn ⊢;rw[cO,l5];show⟨wb j,by show gu _ _,λa ha b hb=>by simp at hb;subst hb;show λz=>hn (z▸ha)⟩
   show wb j
theorem Y1(nd:(bP pl).Nodup)(b:p∈pl)(c:q∈pl)(h:p.1=q.1):p=q:=by
 induction pl with
 | nil=>cases b
 | cons a r d=>
  unfold bP at nd;rw[bO,dH] at nd;have mp:∀z:Pl,z∈r->z.1∈gE (λx=>x.1) r:=λz hz=>g7 (f:=(·.1)) hz
  rcases bx.mp b with g | b
  .simp_all
  rcases bx.mp c with e | c
  .exact absurd (mp p b) (by rw[h,e];show nd.1)
  show d nd.2 b c
end
theorem RZ(f:Nat->Int):∀L:List Nat,L≠[]->∃x∈L,∀y∈L,f x<=f y
 | [],h=>absurd rfl h
 | [a],_=>⟨a,by room,λy d=>by simp at d;subst d;show di _⟩
 | a::b::r,_=>by
  let⟨x,g,e⟩:=RZ f (b::r) ∅;grind
noncomputable def wt(ps:List Pc)(pl:List Pl):Int:=(pl.map λp=>(ao ps p.1).k).sum
section
variable{ps:List Pc}{us:Nat->List Nat}
theorem zqu(h:p∈pl):p∈cD ps us t pl q:=by
 unfold cD;split
 .exact jb _ h
 show h
theorem zh:∀(o:List Nat) pl p,p∈pl->p∈o.foldl (cD ps us t) pl
 | [],_,_,h=>h
 | q::o,pl,p,h=>zh o _ p (zqu h)
theorem JI:∀(o:List Nat) pl p,p∈o.foldl (cD ps us t) pl->p∈pl\/(p.2=t/\p.1∈o)
 | [],_,_,h=>.inl h
 | q::o,pl,p,h=>by
  rcases JI o _ p h with h | h
  .unfold cD at h;grind
  show .inr ⟨h.1,eh _ h.2⟩
def behind(ps:List Pc)(us:Nat->List Nat)(pl:List Pl)(t:Int)(q:Nat):Prop:=∀u∈us q,∃x,(u,x)∈pl/\x+(ao ps u).k<=t
theorem IQ:oF ps us pl t q=true↔behind ps us pl t q/\∀p∈pl,t<p.2+(ao ps p.1).k->lJ (ao ps p.1) (ao ps q)=true:=by
 unfold oF behind;rw[gZ,tF,tF];constructor
 .rintro⟨d,c⟩;show⟨λu b=>?_,λp a ht=>c p.1 (a9.mpr ⟨p,cq.mpr ⟨a,by show if_pos ‹_›⟩,rfl⟩)⟩;have:=d u b;rw[nY] at this;let⟨p,a,e⟩:=this;simp![gZ,iJ] at e;let⟨l,j⟩:=e;show⟨p.2,by rw[<-l];show a,j⟩
 rintro⟨d,c⟩;show⟨λu b=>?_,λx i=>?_⟩
 .let⟨y,h,e⟩:=d u b;rw[nY];show⟨(u,y),h,by simpa using e⟩
 let⟨p,a,rfl⟩:=a9.mp i;let⟨g,f⟩:=cq.mp a;show c p g (by simpa using f)
theorem Uw(hk:∀q,1<=(ao ps q).k):∀(o:List Nat) pl q,q∈o->behind ps us pl t q->∃p∈o.foldl (cD ps us t) pl,t<p.2+(ao ps p.1).k
 | [],_,_,h,_=>by cases h
 | a::o,pl,q,h,hb=>by
  rw[gY];by_cases ha:oF ps us pl t a=true
  .refine⟨(a,t),zh o _ _ ?_,?_⟩
   .unfold cD;rw[if_pos ha];show gD _ (.head _)
   have:=hk a;lia
  have e:cD ps us t pl a=pl:=by unfold cD;rw[if_neg ha]
  rw[e];rcases bx.mp h with rfl | h
  .rw[IQ] at ha;have:¬∀p∈pl,t<p.2+(ao ps p.1).k->lJ (ao ps p.1) (ao ps q)=true:=λz=>ha ⟨hb,z⟩
   by_cases c:∃p∈pl,t<p.2+(ao ps p.1).k
   .let⟨p,b,ht⟩:=c;show⟨p,zh o pl p b,ht⟩
   show absurd (λp b ht=>absurd ⟨p,b,ht⟩ c) this
  show Uw hk o pl q h hb
theorem Ii(hk:∀q,1<=(ao ps q).k):∀(o:List Nat) pl,(∀p∈pl,p.2+(ao ps p.1).k<=wt ps pl)->t<=wt ps pl->∀p∈o.foldl (cD ps us t) pl,p.2+(ao ps p.1).k<=wt ps (o.foldl (cD ps us t) pl)
 | [],_,h,_=>h
 | a::o,pl,h,ht=>by
  rw[gY];by_cases ha:oF ps us pl t a=true
  .have e:cD ps us t pl a=pl++[(a,t)]:=by unfold cD;rw[if_pos ha]
   rw[e];have c:wt ps (pl++[(a,t)])=wt ps pl+(ao ps a).k:=by unfold wt;simp
   have:=hk a;show Ii hk o _ (λp b=>?_) (by lia);rcases cy.mp b with b | b
   .have:=h p b;lia
   simp at b;subst b;cbv
  have e:cD ps us t pl a=pl:=by unfold cD;rw[if_neg ha]
  rw[e];show Ii hk o pl h ht
theorem hV:q∈bP pl↔∃x,(q,x)∈pl:=by
 unfold bP;cbv
theorem Sx(hk:∀q,1<=(ao ps q).k)(i:∀q,q∈ord↔q<ps.length){f:Nat->Int}(t:∀q,q<ps.length->∀u∈us q,u<ps.length/\f u<f q):∀m,(∀p∈c9 ps us ord m,p.2+(ao ps p.1).k<=wt ps (c9 ps us ord m))/\((∃q,q<ps.length/\q∉bP (c9 ps us ord m))->(m:Int)<=wt ps (c9 ps us ord m))
 | 0=>⟨λp d=>absurd d (by show p∉([]:List Pl);simp),λ_=>by room⟩
 | m+1=>by
  let⟨n,w⟩:=Sx hk i t m;show(∀p∈row ps us ord m (c9 ps us ord m),_<=wt ps (row ps us ord m (c9 ps us ord m)))/\((∃q,q<ps.length/\q∉bP (row ps us ord m (c9 ps us ord m)))->((m+1:Nat):Int)<=wt ps (row ps us ord m (c9 ps us ord m)));generalize c9 ps us ord m=pl at n w;by_cases g:∃q,q<ps.length/\q∉bP pl
  .have hm:=w g;have v:∀p∈row ps us ord m pl,p.2+(ao ps p.1).k<=wt ps (row ps us ord m pl):=Ii hk _ pl n hm
   show⟨v,λb=>?_⟩;suffices hh:∃p∈row ps us ord m pl,(m:Int)<p.2+(ao ps p.1).k by
    let⟨p,d,ht⟩:=hh;have:=v p d;room
   by_cases j:∃p∈row ps us ord m pl,(m:Int)<p.2+(ao ps p.1).k
   .exact j
   have same:∀p∈row ps us ord m pl,p∈pl:=λp d=>by
    rcases JI _ _ p d with h | ⟨h,_⟩
    all_goals grind
   have E:∀q,q∈bP (row ps us ord m pl)->q∈bP pl:=λq b=>by
    let⟨x,j⟩:=hV.mp b;show hV.mpr ⟨x,same _ j⟩
   let⟨s,C,H⟩:=b;have ne:cX ord (row ps us ord m pl)≠[]:=λz=>by
    have:s∈cX ord (row ps us ord m pl):=cq.mpr ⟨(i s).mpr C,by show if_pos ‹_›⟩;rw[z] at this;cases this
   let⟨q,b,B⟩:=RZ f _ ne;let⟨r,o⟩:=cq.mp b;have y:=(i q).mp r;simp![decide_not,BO,decide_eq_false_iff_not] at o;have hb:behind ps us pl m q:=λu g=>by
    let⟨un,D⟩:=t q y u g;have up:u∈bP (row ps us ord m pl):=by
     by_cases z:u∈bP (row ps us ord m pl)
     .exact z
     have:=B u (cq.mpr ⟨(i u).mpr un,by show if_pos ‹_›⟩);lia
    let⟨x,F⟩:=hV.mp up;grind
   have hw:q∈cX ord pl:=cq.mpr ⟨r,by
    simp![decide_not,BO,decide_eq_false_iff_not];intro z;let⟨x,A⟩:=hV.mp z;show o (hV.mpr ⟨x,zh _ _ _ A⟩)⟩
   show Uw hk _ pl q hw hb
  have hw:cX ord pl=[]:=by
   unfold cX;cbv
  have e:row ps us ord m pl=pl:=by unfold row;rw[hw];rfl
  rw[e];show⟨n,λz=>absurd z g⟩
theorem Sw:∀N x y,(x,y)∈c9 ps us ord N->x∈ord
 | 0,x,y,a=>absurd a (by show _∉([]:List Pl);simp)
 | m+1,x,y,a=>by
  rcases JI _ _ _ a with h | ⟨_,h⟩
  .exact Sw m x y h
  show(cq.mp h).1
theorem Uv(hk:∀q,1<=(ao ps q).k)(nd:ord.Nodup)(e:∀q,q∈ord↔q<ps.length){f:Nat->Int}(h:∀q,q<ps.length->∀u∈us q,u<ps.length/\f u<f q){N:Nat}(hN:(N:Int)=(ps.map Pc.k).sum):∀q,q<ps.length->q∈bP (c9 ps us ord N):=by
 intro q d;by_cases z:q∈bP (c9 ps us ord N)
 .exact z
 have i:=(Sx (us:=us) hk e h N).2 ⟨q,d,z⟩;have hn:(q::bP (c9 ps us ord N)).Nodup:=by
  rw[dH];show⟨z,?_⟩;rw[JJ nd,show(i5 ord N).foldl (kc ps us) []=at_ ps us (i5 ord N) (i5 ord N).length by unfold at_;rw[eY]];show wb _
 have sub:∀x∈q::bP (c9 ps us ord N),x∈aI ps.length:=λx b=>by
  rcases bx.mp b with rfl | b
  .exact cx.mpr d
  show cx.mpr ((e x).mp ?_);let⟨y,g⟩:=hV.mp b;show Sw N x y g
 have le:=Dl (λq=>(ao ps q).k) _ _ hn sub λx _=>by room
 rw[UM,<-hN] at le;have j:((q::bP (c9 ps us ord N)).map λq=>(ao ps q).k).sum=(ao ps q).k+wt ps (c9 ps us ord N):=by
  unfold wt bP;rw[bO,kI,bV];rfl
 have:=hk q;lia
noncomputable def jU(ps:List Pc)(e:Int×Nat):List Int:=e.1::fK ps e.2
theorem X2:e∈i5 ord N↔(0<=e.1/\e.1<N)/\e.2∈ord:=by
 induction N with
 | zero=>simp[i5];lia
 | succ n d=>
  rw[i5,cy,d,a9];constructor
  .rintro(h | ⟨q,f,rfl⟩)
   .exact⟨⟨h.1.1,⋯⟩,h.2⟩
   show⟨⟨by room,by show di _⟩,f⟩
  rintro⟨⟨h0,g⟩,b⟩;by_cases h:e.1<n
  .exact .inl ⟨⟨h0,h⟩,b⟩
  show .inr ⟨e.2,b,by rw[show(n:Int)=e.1 by lia]⟩
theorem Sv(gJ:ord.Pairwise λx y=>HT.bo (fK ps y) (fK ps x)=true):∀N,(i5 ord N).Pairwise λx y=>HT.bo (jU ps y) (jU ps x)=true
 | 0=>.nil
 | n+1=>by
  rw[i5,vH];show⟨Sv gJ n,?_,λa ha b hb=>?_⟩
  .rw[g6];show gJ.imp λ{a b} h=>?_
   unfold jU;rw[uj,if_pos rfl];show h
  let⟨q,c,rfl⟩:=a9.mp hb;have:=(X2.mp ha).1.2;unfold jU;rw[uj,if_neg (by lia)];show if_pos ‹_›
theorem RF{E:List (Int×Nat)}(gJ:E.Pairwise λx y=>HT.bo (jU ps y) (jU ps x)=true){i j:Nat}(hi:E[i]?\a)(d:E[j]?\b):i<j↔HT.bo (jU ps b) (jU ps a)=true:=by
 have up:∀{i j:Nat}{a b:Int×Nat},E[i]?\a->E[j]?\b->i<j->HT.bo (jU ps b) (jU ps a)=true:=λ{i j a b} hi d h=>by
  let⟨f,k⟩:=cf.mp hi;let⟨e,g⟩:=cf.mp d;have:=l7.mp gJ i j f e h;rw[k,g] at this;show this
 show⟨λh=>up hi d h,λh=>?_⟩;rcases Nat.lt_trichotomy i j with c | c | c
 .exact c
 .subst c;rw[hi] at d;cases d;rw[HT.Al] at h;cases h
 have:=HT.Eh _ _ (up d hi c);rw[h] at this;cases this
noncomputable def lk(pl:List Pl)(q:Nat):Option Int:=(pl.find? λp=>decide (p.1=q)).map (·.2)
theorem HW(nd:(bP pl).Nodup)(h:(q,x)∈pl):lk pl q\x:=by
 unfold lk;cases hf:pl.find? λp=>decide (p.1=q) with
 | none=>
  have:=BW.mp hf _ h;simp at this
 | some p=>
  have b:=QO hf;have a:=ON hf;simp![iJ] at a;have:=Y1 nd b h a;rw[this];rfl
theorem Su(h:q∉bP pl):lk pl q=none:=by
 unfold lk;rw[Cb,BW];intro p a z;simp at z;show h (hV.mpr ⟨p.2,by rw[<-z];show a⟩)
theorem zs9(pk:∀q,q<ps.length->1<=(ao ps q).k/\(ao ps q).l<=(ao ps q).r)(hk:∀q,1<=(ao ps q).k)(val:Valid ps.length ts)(H:∀q,q<ps.length->∀u,u∈us q↔∃c,((u,q,c):Tr)∈ts)(nd:ord.Nodup)(M:∀q,q∈ord↔q<ps.length)
  (gJ:ord.Pairwise λx y=>HT.bo (fK ps y) (fK ps x)=true) (od:Ord ps.length ts) {N:Nat} (hN:(N:Int)=(ps.map Pc.k).sum) :
  Fd ps ts ((aI ps.length).map λq=>(lk (c9 ps us ord N) q).getD 0):=by
 let⟨f,hf⟩:=od
 have all:=Uv (us:=us) hk nd M (f:=f) (λq m u C=>by
  let⟨c,D⟩:=(H q m u).mp C;show⟨(val _ D).1,hf _ D⟩) hN
 have eE:c9 ps us ord N=at_ ps us (i5 ord N) (i5 ord N).length:=by rw[JJ nd];unfold at_;rw[eY]
 rw[eE] at all ⊢;have I:=Sv gJ N;have F:∀e:Int×Nat,e∈i5 ord N↔(0<=e.1/\e.1<N)/\e.2∈ord:=λe=>X2
 generalize hE:i5 ord N=E at all I F ⊢;have L:=wb (ps:=ps) (us:=us) (E:=E) E.length;generalize W:((aI ps.length).map λq=>(lk (at_ ps us E E.length) q).getD 0)=tr;have X:∀q x,q<ps.length->(q,x)∈at_ ps us E E.length->bh tr q=x:=λq x m h=>by
  rw[<-W];unfold bh;rw[bW,GQ m];simp[HW L h]
 have place:∀q,q<ps.length->∃i,i<E.length/\E[i]?\(bh tr q,q)/\q∉bP (at_ ps us E i)/\oF ps us (at_ ps us E i) (bh tr q) q=true/\(q,bh tr q)∈at_ ps us E E.length:=λq m=>by
  let⟨x,s⟩:=hV.mp (all q m);have e:=X q x m s;let⟨i,A,d,g,o⟩:=we s;rw[e];show⟨i,A,d,g,o,s⟩
 have ltN:∀q,q<ps.length->0<=bh tr q/\bh tr q<N:=λq m=>by
  obtain⟨i,_,h,_⟩:=place q m;show((F _).mp (cz h)).1
 /- (y,its acu) is there ahead of event j acF where it comes RX -/
 have there:∀y,y<ps.length->∀(j:Nat) b,E[j]?\b->(HT.bo (jU ps b) (jU ps (bh tr y,y))=true↔(y,bh tr y)∈at_ ps us E j):=λy w j b hb=>by
  let⟨i,A,d,g,o,S⟩:=place y w;rw[<-RF I d hb];constructor
  .intro h;show y8 (i:=i+1) h _ ?_;rw[y9 d];unfold kc cD;rw[if_neg g,if_pos o];show gD _ (.head _)
  intro h;by_cases z:i<j
  .exact z
  show absurd (hV.mpr ⟨_,y8 (by cbv) _ h⟩) g
 have U:∀j p,p∈at_ ps us E j->p.1<ps.length/\bh tr p.1=p.2:=λj p v=>by
  obtain⟨i,_,d,_⟩:=we v;have h:=(M _).mp ((F _).mp (cz d)).2;show⟨h,X p.1 p.2 h ?_⟩;by_cases z:j<=E.length
  .exact y8 z _ v
  have e:at_ ps us E j=at_ ps us E E.length:=by unfold at_;rw[o4 (by lia),eY]
  rw[<-e];show v
 have T:∀y n t,uY ps tr y n t=HT.bo (jU ps (t,n)) (jU ps (bh tr y,y)):=λy n t=>by
  unfold uY;rw[DD];rfl
 have Y:∀y n,y<ps.length->n<ps.length->(lJ (ao ps y) (ao ps n)=true↔(((ao ps n).n=none\/(ao ps n).n≠(ao ps y).n)->¬((ao ps y).l<=(ao ps n).r/\(ao ps n).l<=(ao ps y).r))):=λy n w hn=>by
  have a:=pk y w;have b:=pk n hn;unfold lJ;rw[zs7];by_cases ov:(ao ps y).l<=(ao ps n).r/\(ao ps n).l<=(ao ps y).r
  .rw[if_pos ⋯];simp![reduceCtorEq,decide_false,Bool.false_or,gZ,iJ,ov,and_self,not_true];constructor
   .rintro⟨A,d⟩ (g | g)
    .exact A (d.trans g)
    show g d.symm
   intro h;by_cases z:(ao ps n).n=none
   .exact absurd (.inl z) h
   by_cases B:(ao ps n).n=(ao ps y).n
   .exact⟨by rw[<-B];show z,B.symm⟩
   show absurd (.inr B) h
  rw[if_neg (by lia)];simp[ov]
 show⟨by rw[<-W];simp,λn hn=>(ltN n hn).1,λn hn=>by have:=(ltN n hn).2;lia,λn hn=>?_,λn hn t t0 t1=>?_⟩
 .let⟨i,A,d,g,o,S⟩:=place n hn;rw[IQ] at o;show⟨λu C e=>?_,λy w aP ha hd=>?_⟩
  .let⟨x,qe,kX⟩:=o.1 u.1 ((H n hn u.1).mpr ⟨u.2.2,by rw[<-e];show C⟩);rw[(U i _ qe).2];show kX
  rw[T] at ha;have hm:=(there y w i _ d).mp ha;rintro⟨Z,B⟩;have hs:=o.2 (y,bh tr y) hm Z;show(Y y n w hn).mp hs hd B
 let⟨i,A,d,g,o,S⟩:=place n hn;have me:(t,n)∈E:=(F _).mpr ⟨⟨t0,by have:=(ltN n hn).2;lia⟩,(M n).mpr hn⟩;let⟨j,G⟩:=tL me
 have O:j<i:=(RF I G d).mpr (by
  unfold jU;rw[uj,if_neg (by lia)];show if_pos ‹_›)
 have R:n∉bP (at_ ps us E (j+1)):=λz=>by
  let⟨x,s⟩:=hV.mp z;show g (hV.mpr ⟨x,y8 O _ s⟩)
 have V:n∉bP (at_ ps us E j):=λz=>by
  let⟨x,s⟩:=hV.mp z;show R (hV.mpr ⟨x,y8 (iM _) _ s⟩)
 intro c;show R ?_;rw[y9 G];unfold kc cD;rw[if_neg V,if_pos]
 .rw[hV];show⟨t,by show gD _ (.head _)⟩
 rw[IQ];show⟨λu C=>?_,λp v ht=>?_⟩
 .let⟨cc,D⟩:=(H n hn u).mp C;have un:=(val _ D).1;have P:=c.up _ D rfl;show⟨bh tr u,(there u un j _ G).mp ?_,P⟩;have:=hk u;unfold jU;rw[uj,if_neg (by simp only at P;lia)];simp only at P;lia
 let⟨J,Q⟩:=U j p v;have K:p.1≠n:=λz=>V (hV.mpr ⟨p.2,by rw[<-z];show v⟩)
 show(Y p.1 n J hn).mpr λhd z=>?_
 show c.free p.1 J K ?_ hd ⟨by rw[Q];show ht,z⟩;rw[T];show(there p.1 J j _ G).mpr (by rw[Q];show v)
end
local macro_rules | `(tactic| lk)=>`(tactic| (repeat(first | walk_at"b" | dsimp only[jg,jh,vQ,rA,tV,rh,jf,pG,tZ,tY,qU,tX,tW,pI,yB])))
theorem zos{b:Type}{j:eU}{m:List (Option Nat)}{g:dz}{te:TD}{ρ:Ev}{Q:R->Prop}(L:List b)(e:b->D)(f:b->List (Key×D))(hw:∀k:List D->Prop,k (L.map e)->j ρ k)(o:L.length<=sizeLine)
  (h:∀x∈L,∀(l:List (Key×D)->Prop),l (f x)->g (e x) (cF m ρ) λn=>te n λr=>match r with | .ov (.dc c)=>l c | _=>False) (q:Q (.ov (.ld (L.map f)))):IC j m g qX te ρ Q:=by
 show hw _ ⟨λi acc=>acc=(L.take i).map f,by rfl,λi d acc hd ha=>?_,λacc ha=>?_⟩
 .subst ha;rw[bW] at hd;cases a:L[i]? with
  | none=>rw[a] at hd;cases hd
  | some x=>
   rw[a] at hd;cases hd;have:=h x (cz a) (λc=>((L.take i).map f).length<sizeLine/\(L.take i).map f++[c]=(L.take (i+1)).map f) ⟨by simp;grind,by rw[dM,a];simp⟩;show this
 subst ha;simpa using q
noncomputable def dU(kv:List (Nat×Unit)):List (Key×D):=dA (λ_=>D.bl true) kv
noncomputable def dQ(us:List (List (Nat×Unit)))(q:Nat):List Nat:=(us[q]?.getD []).map (·.1)
structure abH(ps:List Pc)(ts:List Tr)(us:List (List (Nat×Unit))):Prop where
 len:us.length=ps.length
 mem:∀q,q<ps.length->∀u,u∈dQ us q↔∃c,((u,q,c):Tr)∈ts
def zL:bB:=λds Q=>∃ps ts,ds=[br ps,cp ts]/\ps.length<=1000/\ts.length<=100000/\Valid ps.length ts/\∀us,abH ps ts us->Q (.ov (.ld (us.map dU)))
noncomputable def MR:(T:TX) ×' ∀{P w K mg base},Txt K mg->dh P w K mg base 0 "uppers_of" ["pieces","above","uppers","upper","lower","column"] (top 19) T:=
 ⟨_,λT nd f d A outer s H E c=>have b:=c.units;
 (aC (zpZ 2 rfl (.of (N':=["piece"]) (m:=[none]) (by kernel_rfl)) cZ (cM (ag 0)) (λs3 a ex=>(ba 0 kM)) (λs3 a ex=>eP) (λs3 a ex=>ue) nd)
   (aC (fb dY rfl (cM (ag 1)) (kP (n:=3) rfl (c8 (ba 3 nd) (c8 (ba 4 nd) (c8 (ba 5 nd) kQ))))
    (aN (zsq b 2 (ag 4) (ag 3) iR)))
   (aN (Dj 2))))⟩
def KC:TX:=MR.1
theorem zqv:u∈(jG kv n ()).map (·.1)↔u=n\/u∈kv.map (·.1):=by
 rw[<-rN,pT,<-rN];by_cases h:u=n
 .simp[h]
 simp[h]
theorem zgO:cQ 2 zL KC ["pieces","above","uppers","upper","lower","column"]:=by
 intro ds w hl h;let⟨ps,ts,rfl,hn,v,val,q⟩:=h;show KC _ [.fz (br ps),.fz (cp ts),.un,.un,.un,.un];unfold KC MR;dsimp only;have big:=ez;lk;show zos ps bw (λ_=>[]) (λo h=>?_) (by lia) (λx s y k=>?_) ?_
 .lk;show h
 .lk;show k
 walk;show kb ts dT (λo h=>?_) (λi ρ=>∃(us:List (List (Nat×Unit)))(a b c:Sl),ρ=[.fz (br ps),.fz (cp ts),.ov (.ld (us.map dU)),a,b,c]/\us.length=ps.length/\(∀q:Nat,((us[q]?.getD []).length<=i))/\∀q,q<ps.length->∀u,u∈dQ us q↔∃c,((u,q,c):Tr)∈ts.take i) ?_ ?_ ?_
 .lk;show h
 .refine⟨ps.map λ_=>[],_,_,_,by rw[bV];rfl,by show aO ..,λq=>?_,λq f u=>?_⟩
  .rw[bW];cases ps[q]?<;>simp
  unfold dQ;rw[bW];cases ps[q]?<;>simp
 .rintro i t ρ hi ⟨us,a,b,c,rfl,hlen,hsz,hm⟩;have p:=val t (cz hi);have r:i<ts.length:=(cf.mp hi).1;rw[show dT t=.tup [.int t.1,.int t.2.1,.int t.2.2] from rfl];lk;unfold HI;lk;have f:us[t.2.1]?=some (us[t.2.1]'(by cbv)):=bC (by cbv);have j:=hsz t.2.1;rw[f,mV] at j;show⟨t.2.1,dU (us[t.2.1]'(by cbv)),by show ub (by cbv),by rw[bW,f];rfl,.inl (t.1:Int),rfl,by unfold dU dA;rw[aO];lia,?_⟩;have m:je (dU (us[t.2.1]'(by cbv))) (.inl (t.1:Int)) (.bl true)=dU (jG (us[t.2.1]'(by cbv)) t.1 ()):=yR (λ_=>D.bl true) _ t.1 ();rw[m,<-qD];show⟨us.set t.2.1 (jG (us[t.2.1]'(by cbv)) t.1 ()),_,_,_,rfl,by rw[tu];show hlen,λq=>?_,λq n u=>?_⟩
  .rw[lz];split
   .split
    .rename_i e _;have:=JL (us[t.2.1]'⋯) t.1 ();rw[mV];lia
    simp
   room
  have g:ts.take (i+1)=ts.take i++[t]:=by rw[dM,hi];rfl
  have old:=hm q n u;unfold dQ at old ⊢;rw[lz];by_cases e:t.2.1=q
  .rw[if_pos e,if_pos (by cbv),mV,zqv];subst e;rw[f,mV] at old;rw[old,g];constructor
   .rintro(h | ⟨c,d⟩)
    .exact⟨t.2.2,by rw[h];show gD _ (.head _)⟩
    show⟨c,jb _ d⟩
   rintro⟨c,d⟩;rcases cy.mp d with d | d
   .exact .inr ⟨c,d⟩
   simp at d;left
   rw[<-d]
  rw[if_neg e,old,g];constructor
  .rintro⟨c,d⟩;show⟨c,jb _ d⟩
  rintro⟨c,d⟩;rcases cy.mp d with d | d
  .exact⟨c,d⟩
  simp at d;show absurd (by rw[<-d]) e
 rintro ρ ⟨us,a,b,c,rfl,hlen,hsz,hm⟩;walk;rw[eY] at hm;show q us ⟨hlen,hm⟩
noncomputable def pB(kv:List (Nat×Unit))(a:List (Nat×Int))(t:Int):Bool:=kv.all λu=>match bz a u.1 with
 | some e=>decide (e<=t)
 | none=>false
noncomputable def dE(a:List (Nat×Int)):List (Key×D):=dA D.int a
def zD:bB:=λds Q=>∃kv a t,ds=[.dic (dU kv),.dic (dE a),.int t]/\Q (.fz (.bl (pB kv a t)))
noncomputable def Na:(T:TX) ×' ∀{P w K mg base},Txt K mg->dh P w K mg base 0 "are_behind" ["uppers","ends","track","upper"] (top 20) T:=
 ⟨_,λT nd f c A outer s H E b=>have a:=b.units;
 (aC (fb dY rfl (Di (ag 0)) (ba 3 nd)
    (aN (cS (pN (ck (JF a) (ag 3) (ag 1)) (rJ (ck pF (pP a (ag 1) (ag 3)) (ag 2)))).pb (aN (b9 iR)) cY)))
   (aN (b9 iR)))⟩
def Kq:TX:=Na.1
theorem zf8:cQ 3 zD Kq ["uppers","ends","track","upper"]:=by
 intro ds g hl h;let⟨kv,b,t,rfl,q⟩:=h;show Kq _ [.fz (.dic (dU kv)),.fz (.dic (dE b)),.fz (.int t),.un];unfold Kq Na;dsimp only;lk;show kb kv (λp=>.int (p.1:Nat)) (λj h=>?_) (λi ρ=>∃a:Sl,ρ=[.fz (.dic (dU kv)),.fz (.dic (dE b)),.fz (.int t),a]/\pB (kv.take i) b t=true) ⟨_,rfl,rfl⟩ ?_ ?_
 .lk;rw[show((dU kv).map λp=>tP p.1)=kv.map λp=>D.int (p.1:Nat) by unfold dU dA;rw[bV];rfl];show h
 .rintro i u ρ hi ⟨a,rfl,hb⟩;have f:kv.take (i+1)=kv.take i++[u]:=by rw[dM,hi];rfl
  have d:u∈kv:=cz hi;have more:(match bz b u.1 with | some e=>decide (e<=t) | none=>false)=true->pB (kv.take (i+1)) b t=true:=λh=>by
   unfold pB at hb ⊢;rw[f,List.all_append,hb,Bx,List.all_nil,h];rfl
  have less:(match bz b u.1 with | some e=>decide (e<=t) | none=>false)=false->pB kv b t=false:=λh=>by
   unfold pB;rw[Gy];intro z;rw[tF] at z;have:=z u d;rw[h] at this;cases this
  lk;unfold dE;show⟨_,rfl,?_⟩;rw[oq];cases hg:bz b u.1 with
  | none=>
   rw[hg] at less;rw[less rfl] at q;show q
  | some e=>
   rw[hg] at less more;show⟨_,_,rfl,by rw[oq,hg];rfl,?_⟩;simp![iJ];by_cases he:t<e
   .rw[if_pos he];rw[less (kF (by cbv))] at q;show q
   rw[if_neg he];show⟨_,rfl,more (decide_eq_true (by cbv))⟩
 rintro ρ ⟨a,rfl,hb⟩;rw[eY] at hb;walk;rw[hb] at q;show q
def zu:bB:=λds Q=>∃(ps:List Pc)(a:List Nat)(n:Nat),ds=[br ps,.lst (cj a),.int n]/\a.length<=100000/\n<ps.length/\(∀x∈a,x<ps.length)/\Q (.fz (.bl (a.all λx=>lJ (ao ps x) (ao ps n))))
theorem zh6:(["other","pieces","number"]:List af).Nodup:=by decide +kernel
noncomputable def MX:(T:TX) ×' ∀{P w K mg base},Txt K mg->~~~2 "may_share" 2 zM->dh P w K mg base 2 "may_join" ["pieces","taking","number"] (top 21) T:=
 ⟨_,λT C_may_share nd f d A outer s H E a=>have c:=a.units;
 (aN (b9 (c7 (CB rfl) T.b_all Bg (aq (fQ rfl (.of (N':=["other","pieces","number"]) (m:=[none,some 0,some 2]) (by kernel_rfl)) cZ (cM (ag 1)) (λs3 b ex=>(ba 0 zh6)) (λs3 b ex=>eP) (λs3 b ex=>(bY C_may_share a (aq (aK (ag 1) (ag 0)) (aq (aK (ag 1) (ag 2)) aA))))) aA))))⟩
def Kb:TX:=MX.1
theorem zqx{p:Nat}(a:p<ps.length):bA (ps.map bw) (p:Int)\bw (ao ps p):=by rw[m7,show bA ps (p:Int)\ao ps p by rw[ix a];show fq a];rfl
theorem zh7:cQ 3 zu Kb ["pieces","taking","number"]:=by
 intro ds g hl h;let⟨ps,b,n,rfl,f,hn,d,q⟩:=h;show Kb _ [.fz (br ps),.fz (.lst (cj b)),.fz (.int n)];unfold Kb MX;dsimp only;have big:=ez;lk;show fE b (λ(x:Nat)=>.int (x:Int)) (λx=>.bl (lJ (ao ps x) (ao ps n))) (λi h=>?_) (by lia) (λx e j k=>?_) ?_
 .lk;show h
 .lk;unfold br;lk;have g1:bA ps (x:Int)=some (ao ps x):=by rw[ix (d x e)];show fq (d x e)
  have g2:bA ps (n:Int)\ao ps n:=by rw[ix hn];show fq hn
  show⟨_,g1,_,g2,ao ps x,ao ps n,rfl,k⟩
 rw[show(b.map λx=>D.bl (lJ (ao ps x) (ao ps n)))=(b.map λx=>lJ (ao ps x) (ao ps n)).map D.bl by rw[bV];rfl];simp![m9,qW,DM];rw[Br];show q
local macro_rules | `(tactic| lk)=>`(tactic| (repeat(first | walk_at"b" | dsimp only[jg,jh,vQ,rA,tV,rh,jf,pG,tZ,tY,qU,tX,tW,pI,yB,gt])))
noncomputable def i6(ps:List Pc)(pl:List Pl):List (Nat×Int):=pl.map λp=>(p.1,p.2+(ao ps p.1).k)
noncomputable def lg(n:Nat)(pl:List Pl):List D:=(aI n).map λq=>dJ (lk pl q)
theorem Ss(u):bz (i6 ps pl) u=(pl.find? λp=>decide (p.1=u)).map λp=>p.2+(ao ps p.1).k:=by
 unfold bz i6;induction pl with
 | nil=>rfl
 | cons a r b=>
  rw[bO,jD,jD];by_cases h:a.1=u
  .simp[h]
  simp![h,decide_false];show b
theorem Uu(nd:(bP pl).Nodup)(h:(u,x)∈pl):bz (i6 ps pl) u\(x+(ao ps u).k):=by
 have:=HW nd h;unfold lk at this;rw[Ss];cases hf:pl.find? λp=>decide (p.1=u) with
 | none=>rw[hf] at this;cases this
 | some p=>
  grind
theorem zta(nd:(bP pl).Nodup):(pB (us[q]?.getD []) (i6 ps pl) t&&((pl.filter λp=>decide (t<p.2+(ao ps p.1).k)).map (·.1)).all λx=>lJ (ao ps x) (ao ps q))=oF ps (dQ us) pl t q:=by
 congr 1
 unfold pB dQ;rw[Br];congr 1
 funext u
 simp![B0];rw[tq,nY];constructor
 .intro h;rw[Ss] at h;cases hf:pl.find? λp=>decide (p.1=u.1) with
  | none=>rw[hf] at h;cases h
  | some p=>
   grind
 rintro⟨p,a,e⟩;simp![gZ,iJ] at e;let⟨b,c⟩:=e;have:(u.1,p.2)∈pl:=by rw[<-b];show a
 rw[Uu nd this];show if_pos ‹_›
theorem zuQ(a:q<n)(hn:q∉bP pl):(lg n pl).set q (.int t)=lg n (pl++[(q,t)]):=by
 unfold lg;apply tE
 .simp
 intro i c b;rw[List.getElem_set];simp![pq,Pz];by_cases e:q=i
 .subst e;rw[if_pos rfl];have:lk (pl++[(q,t)]) q\t:=by
   unfold lk;rw[Pk];have:=Su hn;unfold lk at this;rw[Cb] at this;rw[this];simp
  rw[this];rfl
 congr 1
 unfold lk;cbv
theorem zuR(hn:q∉bP pl):je (dE (i6 ps pl)) (.inl (q:Int)) (.int (t+(ao ps q).k))=dE (i6 ps (pl++[(q,t)])):=by
 unfold dE;rw[yR];unfold jG;rw[if_neg]
 .unfold i6;simp
 rw[Jw,rN];intro z;apply hn;unfold i6 at z;rw[bV] at z;show z
theorem RY(nd:(bP pl).Nodup)(h:∀q∈bP pl,q<n):pl.length<=n:=by
 have:=Dl (λ_=>1) (bP pl) (aI n) nd (λx c=>cx.mpr (h x c)) (λ_ _=>by cbv);have e:∀l:List Nat,(l.map λ_=>(1:Int)).sum=l.length:=λl=>by
  induction l with
  | nil=>rfl
  | cons a r b=>simp[b];lia
 rw[e,e] at this;simp[bP] at this;cbv
structure u3(n:Nat)(pl:List Pl):Prop where
 nd:(bP pl).Nodup
 lt:∀q∈bP pl,q<n
theorem u3.cD{ps:List Pc}{us:Nat->List Nat}{n:Nat}{pl:List Pl}{t:Int}{q:Nat}(h:u3 n pl)(d:q<n)(hn:q∉bP pl):u3 n (cD ps us t pl q):=by
 unfold Wc.cD;split
 .refine⟨?_,λx c=>?_⟩
  .unfold bP;rw[cO,l5];show⟨h.nd,by show gu _ _,λa ha b hb=>by simp at hb;subst hb;show λz=>hn (z▸ha)⟩
  unfold bP at c;rw[cO] at c;rcases cy.mp c with c | c
  .exact h.lt x c
  simp at c;subst c;show d
 show h
theorem IP:∀(a b:List Nat) pl,(a++b).Nodup->(∀q∈a++b,q<n/\q∉bP pl)->u3 n pl->u3 n (a.foldl (cD ps us t) pl)/\∀q∈b,q∉bP (a.foldl (cD ps us t) pl)
 | [],b,pl,_,h,ok=>⟨ok,λq d=>(h q d).2⟩
 | x::a,b,pl,nd,h,ok=>by
  rw[vB,dH] at nd;have f:=h x (by room);show IP a b _ nd.2 (λq d=>?_) (ok.cD f.1 f.2);have e:=h q (by simp at d ⊢;show .inr d);show⟨e.1,?_⟩;rw[Sy (λz:q=x=>nd.1 (z▸d))];show e.2
theorem zou:rm (dJ (lk pl q))=decide (q∉bP pl):=by
 by_cases h:q∈bP pl
 .let⟨x,a⟩:=hV.mp h;have:lk pl q≠none:=λz=>by
   unfold lk at z;rw[Cb,BW] at z;have:=z _ a;simp at this
  cases b:lk pl q with
  | none=>show absurd b this
  | some y=>simp[dJ,rm,h]
 rw[Su h];simp[dJ,rm,h]
theorem zov(o:List Nat):(cX ord pl).filter (λq=>decide (q∉bP (o.foldl (cD ps us t) pl)))=cX ord (o.foldl (cD ps us t) pl):=by
 unfold cX;rw[GH];show Gs λq _=>?_
 by_cases h:q∈bP pl
 .let⟨x,a⟩:=hV.mp h;have:=hV.mpr ⟨x,zh (ps:=ps) (us:=us) (t:=t) o pl _ a⟩;simp[h,this]
 simp[h]
theorem zuS{ps:List Pc}(h:∀p∈ps,p.k<=3):(ps.map Pc.k).sum<=3*ps.length:=by
 induction ps with
 | nil=>room
 | cons a r b=>
  have f:=h a (by room);have e:=b λp d=>h p (by room)
  simp![bO,kI,cL];lia
def zz:bB:=λds Q=>∃ps ts,ds=[br ps,cp ts]/\ps.length<=63/\ts.length<=100000/\Valid ps.length ts/\Ord ps.length ts/\(∀p∈ps,1<=p.k/\p.k<=3/\p.l<=p.r)/\∀tr,Fd ps ts tr->Q (.ow (tr.map .int))
theorem zjg:(["number","track","ends"]:List af).Nodup:=by decide +kernel
theorem zjh:(["number","tracks"]:List af).Nodup:=by decide +kernel
noncomputable def M8:(T:TX) ×' ∀{P w K mg base},Txt K mg->~~~1 "uppers_of" 2 zL->~~~1 "in_order" 1 wV->~~~1 "are_behind" 3 zD->~~~3 "may_join" 3 zu->dh P w K mg base 3 "by_rows" ["pieces","above","uppers","waiting","tracks","ends","track","taking","number"] (top 18) T:=
 ⟨_,λT C_uppers_of C_in_order C_are_behind C_may_join nd f d A outer s H E b=>have c:=b.units;
 (aC (bu 2 (bY C_uppers_of b (aq (ag 0) (aq (ag 1) aA))) nd)
   (aC (bu 3 (bY C_in_order b (aq (ag 0) aA)) nd)
   (aC (gI 4 (fQ rfl (.of (N':=["piece"]) (m:=[none]) (by kernel_rfl)) cZ (cM (ag 0)) (λs3 a ex=>(ba 0 kM)) (λs3 a ex=>eP) (λs3 a ex=>iz)) nd)
   (aC (gI 5 ue nd)
   (aC (fb dY rfl (ni T.b_range (aq (c7 (CO rfl) T.b_sum xV (aq (fQ rfl (.of (N':=["piece"]) (m:=[none]) (by kernel_rfl)) cZ (cM (ag 0)) (λs3 a ex=>(ba 0 kM)) (λs3 a ex=>eP) (λs3 a ex=>(aK (ag 0) au))) aA)) aA)) (ba 6 nd)
    (aC (JE 5 7 rfl (.of (N':=["number","track","ends"]) (m:=[none,some 6,some 5]) (by kernel_rfl)) cZ (Di (ag 5)) (λs3 a ex=>(ba 0 zjg)) (λs3 a ex=>(rH (ck pF (pP c (ag 2) (ag 0)) (ag 1)))) (λs3 a ex=>(ag 0)) nd)
   (aC (fb dY rfl (cM (ag 3)) (ba 8 nd)
    (aN (cS (y4 (j8 (TC 5 (bY C_are_behind b (aq (aK (ag 2) (ag 8)) (aq (ag 5) (aq (ag 6) aA)))))) (Dv (j8 (TC 7 (bY C_may_join b (aq (ag 0) (aq (ag 7) (aq (ag 8) aA)))))))).pb (aC (zd 4 (ag 8) (ag 6))
   (aC (t9 c 5 (ag 8) (aQ cJ (ag 6) (aK (aK (ag 0) (ag 8)) au)))
   (aN (om 7 (ag 8))))) cY)))
   (aC (JE 4 3 rfl (.of (N':=["number","tracks"]) (m:=[none,some 4]) (by kernel_rfl)) cZ (cM (ag 3)) (λs3 a ex=>(ba 0 zjh)) (λs3 a ex=>(rH (ck vT (aK (ag 1) (ag 0)) iz))) (λs3 a ex=>(ag 0)) nd)
   (rE 3 cY)))))
   (aN (ug 4)))))))⟩
def J6:TX:=M8.1
theorem zji:cQ 2 zz J6 ["pieces","above","uppers","waiting","tracks","ends","track","taking","number"]:=by
 intro ds Qr hl h;let⟨ps,ts,rfl,hn,fi,val,od,pk,q⟩:=h;show J6 _ [.fz (br ps),.fz (cp ts),.un,.un,.un,.un,.un,.un,.un];unfold J6 M8;dsimp only;have big:=ez;have U:∀x,x<ps.length->1<=(ao ps x).k/\(ao ps x).l<=(ao ps x).r:=λx g=>by rw[ix g];have:=pk _ (ip g);show⟨this.1,this.2.2⟩
 have hk:∀x,1<=(ao ps x).k:=λx=>by
  by_cases g:x<ps.length
  .exact(U x g).1
  unfold ao;rw[qQ (by cbv)];room
 have s0:0<=(ps.map Pc.k).sum:=by
  rw[<-UM];have:=Dl (λq=>(ao ps q).k) [] (aI ps.length) vq (λx g=>by cases g) λx _=>by room
  trivial
 lk;show⟨ps,ts,rfl,by lia,fi,val,λus z=>?_⟩;walk;show⟨ps,rfl,by cbv,λord io=>?_⟩;walk;show fE ps bw (λ_=>.non) (λw h=>?_) (by lia) (λx g M k=>?_) ?_
 .lk;show h
 .lk;show k
 walk;walk;have s1:=zuS (ps:=ps) λp B=>(pk p B).2.1
 have hN:(((ps.map Pc.k).sum.toNat:Nat):Int)=(ps.map Pc.k).sum:=B1 s0;show kb (aI (ps.map Pc.k).sum.toNat) (λ(i:Nat)=>.int (0+i)) (λw h=>?_) (λm ρ=>∃a b c:Sl,ρ=[Sl.fz (br ps),Sl.fz (cp ts),Sl.fz (.lst ((us.map dU).map .dic)),Sl.fz (D.lst (cj (cX ord (c9 ps (dQ us) ord m)))),
   Sl.ow (lg ps.length (c9 ps (dQ us) ord m)),Sl.ov (OV.dc (dE (i6 ps (c9 ps (dQ us) ord m)))),a,b,c]/\u3 ps.length (c9 ps (dQ us) ord m)) ?_ ?_ ?_
 .lk;show fE ps bw (λp=>.int p.k) (λw h=>?_) (by lia) (λx g M k=>?_) ?_
  .lk;show h
  .lk;show⟨_,rfl,k⟩
  rw[show(ps.map λp=>D.int p.k)=(ps.map Pc.k).map D.int by rw[bV];rfl];lk;show⟨by lia,by lia,h⟩
 .refine⟨.un,.un,.un,?_,⟨vq,λq v=>by cases v⟩⟩;have e1:cX ord (c9 ps (dQ us) ord 0)=ord:=by
   unfold cX c9;rw[List.filter_eq_self];intro a _;rfl
  have o:lg ps.length (c9 ps (dQ us) ord 0)=ps.map λ_=>D.non:=by
   unfold lg c9;apply tE
   .simp
   intro i Q Y;simp[lk,dJ]
  rw[e1,o];rfl
 .rintro m s ρ hm ⟨a,b,c,rfl,ok⟩;have V:s=m:=by
   grind
  subst V;have er:c9 ps (dQ us) ord (s+1)=row ps (dQ us) ord (s:Int) (c9 ps (dQ us) ord s):=rfl;rw[er];generalize c9 ps (dQ us) ord s=pl at ok;rw[pd];generalize (s:Int)=t;have R:(cX ord pl).Nodup:=io.nd.filter _;have C:∀x∈cX ord pl,x<ps.length/\x∉bP pl:=λx g=>by
   let⟨Q,Y⟩:=cq.mp g;show⟨(io.mem x).mp Q,by show lx ‹_›⟩
  lk;show uq pl (λp=>.int (p.1:Nat)) (λp=>.int (p.1:Nat)) (λp=>decide (t<p.2+(ao ps p.1).k)) (λw h=>?_) (by have:=RY ok.nd ok.lt;lia) (λp B M K0 k1 k0=>?_) ?_
  .lk;show w ((dE (i6 ps pl)).map λp=>tP p.1);rw[show((dE (i6 ps pl)).map λp=>tP p.1)=pl.map λp=>D.int (p.1:Nat) by unfold dE dA i6;rw[bV,bV];rfl];show h
  .have hg:=Uu (ps:=ps) ok.nd (u:=p.1) (x:=p.2) B;lk;show⟨_,_,rfl,by unfold dE;rw[oq,hg];rfl,?_⟩;cbv
  show⟨by simp[CL,kK],?_⟩;walk;have K:∀l:List Pl,(l.map λp=>D.int (p.1:Nat))=cj (l.map (·.1)):=λl=>by unfold cj;rw[bV];rfl
  rw[K];show kb (cX ord pl) (λ(x:Nat)=>.int (x:Int)) (λw h=>?_) (λi ρ=>∃(c:Sl)(d:List Pl),d=((cX ord pl).take i).foldl (cD ps (dQ us) t) pl/\ρ=[Sl.fz (br ps),Sl.fz (cp ts),Sl.fz (.lst ((us.map dU).map .dic)),Sl.fz (D.lst (cj (cX ord pl))),
   Sl.ow (lg ps.length d),Sl.ov (OV.dc (dE (i6 ps d))),Sl.fz (.int t),.ow (cj ((d.filter λp=>decide (t<p.2+(ao ps p.1).k)).map (·.1))),c]) ⟨_,pl,rfl,rfl⟩ ?_ ?_
  .lk;show h
  .rintro i x ρ hi ⟨c,d,o,rfl⟩;have et:(cX ord pl).take (i+1)=(cX ord pl).take i++[x]:=by rw[dM,hi];rfl
   have sp:(cX ord pl)=(cX ord pl).take i++(cX ord pl).drop i:=(B8 i _).symm;let⟨A,fr⟩:=IP (ps:=ps) (us:=dQ us) (t:=t) ((cX ord pl).take i) ((cX ord pl).drop i) pl (by rw[<-sp];show R) (λq v=>by rw[<-sp] at v;show C q v) ok;rw[<-o] at A fr;have xd:x∈(cX ord pl).drop i:=by
    grind
   have N:=fr x xd;have n:=(C x (cz hi)).1;have l2:=RY A.nd A.lt;have ob:=zta (ps:=ps) (us:=us) (t:=t) (q:=x) A.nd;have T:cD ps (dQ us) t d x=((cX ord pl).take (i+1)).foldl (cD ps (dQ us) t) pl:=by rw[et,ly,o];rfl
   lk;have Z:bA us (x:Int)=some (us[x]?.getD []):=by
    rw[show us[x]?.getD []=us[x]'(by rw[z.len];show n) by rw[bC (by rw[z.len];show n)];rfl];show fq (by rw[z.len];show n)
   have S:oF ps (dQ us) d t x=false->∃(c:Sl)(E:List Pl),E=((cX ord pl).take (i+1)).foldl (cD ps (dQ us) t) pl/\([Sl.fz (br ps),Sl.fz (cp ts),Sl.fz (.lst ((us.map dU).map .dic)),Sl.fz (D.lst (cj (cX ord pl))),
     Sl.ow (lg ps.length d),Sl.ov (OV.dc (dE (i6 ps d))),Sl.fz (.int t),.ow (cj ((d.filter λp=>decide (t<p.2+(ao ps p.1).k)).map (·.1))),.fz (.int (x:Nat))]:Ev)=[Sl.fz (br ps),Sl.fz (cp ts),Sl.fz (.lst ((us.map dU).map .dic)),Sl.fz (D.lst (cj (cX ord pl))),
     Sl.ow (lg ps.length E),Sl.ov (OV.dc (dE (i6 ps E))),Sl.fz (.int t),.ow (cj ((E.filter λp=>decide (t<p.2+(ao ps p.1).k)).map (·.1))),c]:=λh=>by
    show⟨_,d,?_,rfl⟩;rw[<-T];unfold cD;rw[h];rfl
   show⟨_,Z,us[x]?.getD [],i6 ps d,t,rfl,rfl,?_⟩;cases hb:pB (us[x]?.getD []) (i6 ps d) t with
   | false=>
    show S (by rw[<-ob,hb];rfl)
   | true=>
    show⟨ps,_,x,rfl,?_,n,λy I=>?_,rfl,?_⟩
    .grind
    .let⟨p,B,rfl⟩:=a9.mp I;show A.lt _ (hV.mpr ⟨p.2,(cq.mp B).1⟩)
    cases O:((d.filter λp=>decide (t<p.2+(ao ps p.1).k)).map (·.1)).all λy=>lJ (ao ps y) (ao ps x) with
    | false=>
     show S (by rw[<-ob,hb,O];rfl)
    | true=>
     have yes:oF ps (dQ us) d t x=true:=by rw[<-ob,hb,O];rfl
     have L:cD ps (dQ us) t d x=d++[(x,t)]:=by unfold cD;rw[yes];rfl
     have H:(lg ps.length d).length=ps.length:=by unfold lg;simp
     show⟨x,ub (by rw[H];show n),?_⟩;rw[zuQ n N];walk;show⟨_,zqx n,?_⟩;show⟨_,rfl,_,rfl,?_,?_⟩
     .unfold dE dA i6;simp;lia
     rw[zuR N];walk;show⟨?_,?_⟩
     .grind
     have ef:cj ((d.filter λp=>decide (t<p.2+(ao ps p.1).k)).map (·.1))++[D.int (x:Int)]=cj (((d++[(x,t)]).filter λp=>decide (t<p.2+(ao ps p.1).k)).map (·.1)):=by
      grind
     rw[ef];show⟨_,d++[(x,t)],by rw[<-T,L],rfl⟩
  rintro ρ ⟨c,d,o,rfl⟩;rw[eY] at o;have L:d=row ps (dQ us) ord t pl:=o;walk;show uq (cX ord pl) (λ(x:Nat)=>.int (x:Int)) (λ(x:Nat)=>.int (x:Int)) (λx=>decide (x∉bP d)) (λw h=>?_) ?_ (λx g M K0 k1 k0=>?_) ?_
  .lk;show h
  .have:=pA (λq=>decide (q∉bP pl)) ord;have:=io.len;unfold cX;lia
  .have n:=(C x g).1;have J:bA (lg ps.length d) (x:Int)\dJ (lk d x):=by
    unfold lg;rw[m7];have:bA (aI ps.length) (x:Int)\x:=by
     have:=fq (l:=aI ps.length) (j:=x) (by simpa using n);rw[this,Pz]
    rw[this];rfl
   lk;show⟨_,J,?_⟩;have hz:=zou (pl:=d) (q:=x);unfold rm at hz;grind
  show⟨by simp[CL,kK],?_⟩;have ew:(cX ord pl).filter (λq=>decide (q∉bP d))=cX ord d:=by rw[o];show zov _
  rw[ew];walk;have F:u3 ps.length (row ps (dQ us) ord t pl):=by
   have:=IP (ps:=ps) (us:=dQ us) (t:=t) (cX ord pl) [] pl (by simpa using R) (λq v=>C q (by simpa using v)) ok;show this.1
  rw[L];show⟨_,_,_,rfl,F⟩
 rintro ρ ⟨a,b,c,rfl,ok⟩;rw[jE] at ok;rw[jE];walk;have W:=zs9 (ps:=ps) (us:=dQ us) (ts:=ts) (ord:=ord) U hk val (λx g u=>z.mem x g u) io.nd (λx=>io.mem x) io.gJ od hN
 have all:=Uv (us:=dQ us) (ord:=ord) hk io.nd (λx=>io.mem x) (f:=od.choose) (λx g u X=>by
  let⟨c,P⟩:=(z.mem x g u).mp X;show⟨(val _ P).1,od.choose_spec _ P⟩) hN
 have e:lg ps.length (c9 ps (dQ us) ord (ps.map Pc.k).sum.toNat)=((aI ps.length).map λx=>(lk (c9 ps (dQ us) ord (ps.map Pc.k).sum.toNat) x).getD 0).map D.int:=by
  rw[bV];show tK λx g=>?_
  let⟨y,I⟩:=hV.mp (all x (cx.mp g));rw[B0,HW ok.nd I];rfl
 rw[e];show q _ W
def wY:bB:=λds Q=>∃(n:Nat)(ts:List Tr),ds=[.int n,cp ts]/\n<=1000/\ts.length<=100000/\Valid n ts/\∀kv,xP n ts kv->Q (.ov (.dc (eD kv)))
theorem zeP:(["number","waits"]:List af).Nodup:=by decide +kernel
noncomputable def M0:(T:TX) ×' ∀{P w K mg base},Txt K mg->dh P w K mg base 0 "levels_found" ["count","above","lowers","waits","upper","lower","column","order","levels","place"] (top 7) T:=
 ⟨_,λT nd f d A outer s H E c=>have b:=c.units;
 (aC (T8 2 rfl (.of (N':=["number"]) (m:=[none]) (by kernel_rfl)) cZ (ni T.b_range (aq (ag 0) aA)) (λs3 a ex=>(ba 0 kM)) (λs3 a ex=>eP) (λs3 a ex=>(iy aA)) nd)
   (aC (gI 3 (zus (iy (aq au aA)) (ag 0)) nd)
   (aC (fb dY rfl (cM (ag 1)) (kP (n:=3) rfl (c8 (ba 4 nd) (c8 (ba 5 nd) (c8 (ba 6 nd) kQ))))
    (aC (S0 2 (ag 4) (ag 5))
   (aN (zd 3 (ag 5) (aQ cJ (rC 3 (ag 5)) au)))))
   (aC (JE 3 7 rfl (.of (N':=["number","waits"]) (m:=[none,some 3]) (by kernel_rfl)) cZ (ni T.b_range (aq (ag 0) aA)) (λs3 a ex=>(ba 0 zeP)) (λs3 a ex=>(rH (ck (gG b) (aK (ag 1) (ag 0)) au))) (λs3 a ex=>(ag 0)) nd)
   (aC (gI 8 (zpL 7 (wJ (zur rfl) T.b_dict (by decide +kernel) (aq (fQ rfl (.of (N':=["number"]) (m:=[none]) (by kernel_rfl)) cZ (cM (ag 7)) (λs3 a ex=>(ba 0 kM)) (λs3 a ex=>eP) (λs3 a ex=>(fF (aq (ag 0) (aq au aA))))) aA))) nd)
   (aC (bu 9 au nd)
   (rE 2 (aC (Jp dY (ck yJ (ag 9) (Dk 7 T.b_len)) (aC (bu 4 (rC 7 (ag 9)) nd)
   (aC (bu 9 (aQ cJ (ag 9) au) nd)
   (aN (fb dY rfl (cM (aK (ag 2) (ag 4))) (ba 5 nd)
    (aC (zd 3 (ag 5) (aQ CF (rC 3 (ag 5)) au))
   (aN (cS (ck (gG b) (rC 3 (ag 5)) au) (aC (t9 b 8 (ag 5) (aQ cJ (zsc b 8 (ag 4)) au))
   (aN (om 7 (ag 5)))) cY))))))))
   (aN (Dj 8))))))))))⟩
def KP:TX:=M0.1
noncomputable def nk(n:Nat)(w:Nat->Nat):List D:=(aI n).map λq=>.int (w q:Nat)
theorem zqy(n)(d:D):(eI n [d]).flatten=eI n d:=by
 cbv
theorem UL{a:Type}(n)(d:a):eI n d=(aI n).map λ_=>d:=by
 apply tE
 .simp
 intro i c b;simp
theorem zkl(O:List Nat):pairsOf (O.map λx=>D.tup [D.int (x:Nat),D.int 0])=some (eD (O.map λx=>(x,(0:Int)))):=by
 induction O with
 | nil=>rfl
 | cons a r b=>
  show(match jf (D.int (a:Nat)) with | some key=>(pairsOf (r.map λx=>D.tup [D.int (x:Nat),D.int 0])).map ((key,D.int 0)::·) | none=>none)=_;rw[b];rfl
theorem zqz(n ts):Lp n ts (((aI n).filter λx=>decide (fM ts [] x=0)).map λx=>(x,(0:Int))) (fM ts []) [] []:=by
 have hk:keys (((aI n).filter λx=>decide (fM ts [] x=0)).map λx=>(x,(0:Int)))=(aI n).filter λx=>decide (fM ts [] x=0):=by
  unfold keys;rw[bV];show NU _
 have c:∀p∈(((aI n).filter λx=>decide (fM ts [] x=0)).map λx=>(x,(0:Int))),p.1<n/\p.2=0/\∀t∈ts,t.2.1≠p.1:=by
  intro p a;rw[a9] at a;let⟨x,b,rfl⟩:=a;rw[cq,cx] at b;show⟨b.1,rfl,λt ht e=>?_⟩;have h0:fM ts [] x=0:=by simpa using b.2
  unfold fM at h0;rw[GP] at h0;show h0 t ht (by simp[e])
 show⟨by rw[hk];show Qc _ tD,λp a=>(c p a).1,λp a t ht e=>absurd e ((c p a).2.2 t ht),λp a=>.inl (c p a).2,λq d=>?_,λq d=>by simp,?_⟩
 .rw[hk,cq,cx];simp[d]
 rw[g6];show Oc.imp (λ_=>di _) (List.pairwise_of_forall (R:=λ_ _=>True) λ_ _=>trivial)
theorem zeQ:cQ 2 wY KP ["count","above","lowers","waits","upper","lower","column","order","levels","place"]:=by
 intro ds Qr hl h;let⟨n,ts,rfl,hn,fi,val,q⟩:=h;show KP _ [.fz (.int n),.fz (cp ts),.un,.un,.un,.un,.un,.un,.un,.un];unfold KP M0;dsimp only;unfold cp;have big:=ez;lk;show UO (aI n) (λ(i:Nat)=>.int (0+i)) (λ_=>[]) (λJ h=>?_) (by simp;lia) (λx d K1 k=>?_) ?_
 .lk;show⟨by cbv,by lia,by trivial⟩
 .lk;show⟨by show du _,k⟩
 walk;show⟨by room,by cbv,by lia,by simp;lia,?_⟩;rw[qL,zqy,UL];walk;show kb ts dT (λJ h=>?_) (λi ρ=>∃a b c:Sl,ρ=[.fz (.int n),.fz (.lst (ts.map dT)),.ov (.ll ((aI n).map λu=>(g9 (ts.take i) u).map dN)),.ow (nk n (fM (ts.take i) [])),a,b,c,.un,.un,.un])
  ⟨_,_,_,rfl⟩ ?_ ?_
 .lk;show h
 .rintro i t ρ ht ⟨a,b,c,rfl⟩;let⟨v1,v2⟩:=val t (cz ht);have LS:i<ts.length:=(cf.mp ht).1;rw[show dT t=.tup [.int t.1,.int t.2.1,.int t.2.2] from rfl];lk;show⟨t.1,_,by rw[aO,jE];show ub v1,Jx _ v1,?_⟩;have Mc:(g9 (ts.take i) t.1).length<=i:=by
   unfold g9;rw[aO];show gB (pA _ _) ?_;simp;lia
  show⟨by rw[aO];lia,?_⟩;have e1:ts.take (i+1)=ts.take i++[t]:=by rw[dM,ht];rfl
  have e2:((aI n).map λu=>(g9 (ts.take i) u).map dN).set t.1 ((g9 (ts.take i) t.1).map dN++[D.int t.2.1])=(aI n).map λu=>(g9 (ts.take (i+1)) u).map dN:=by
   rw[zj];show tK λx d=>?_
   rw[e1];unfold g9;by_cases h:x=t.1
   .subst h;simp[dN]
   have:(t.1==x)=false:=by simpa using Ne.symm h
   simp[h,this]
  have S:(nk n (fM (ts.take i) [])).set t.2.1 (D.int ((fM (ts.take i) [] t.2.1:Nat)+1))=nk n (fM (ts.take (i+1)) []):=by
   unfold nk;rw[zj];show tK λx d=>?_
   rw[e1];unfold fM;by_cases h:x=t.2.1
   .subst h;simp
   have:(t.2.1==x)=false:=by simpa using Ne.symm h
   simp[h,this]
  rw[e2];walk;show⟨_,zi _ v2,t.2.1,by unfold nk;rw[aO,jE];show ub v2,?_⟩;rw[S];show⟨_,_,_,rfl⟩
 rintro ρ ⟨a,b,c,rfl⟩;rw[eY];walk;unfold C3;lk;show uq (aI n) (λ(i:Nat)=>.int (0+i)) (λ(i:Nat)=>dN i) (λx=>decide (fM ts [] x=0)) (λJ h=>?_) (by simp;lia) (λx d K1 K0 k1 k0=>?_) ?_
 .lk;show⟨by cbv,by lia,by trivial⟩
 .have dZ:x<n:=by simpa using d
  rw[pd];lk;show⟨_,zi _ dZ,?_⟩;lk;by_cases h:fM ts [] x=0
  .rw[if_pos (by room)];show k1 (by simpa using h)
  rw[if_neg (by cbv)];show k0 (by show if_neg ‹_›)
 have V:∀L:List Nat,CL (.ow (L.map dN))=true:=λL=>by
  show(L.map dN).all kK=true;rw[Br,tF];intro x _;rfl
 show⟨V _,?_⟩;walk;show fE ((aI n).filter λx=>decide (fM ts [] x=0)) dN (λx=>.tup [.int (x:Nat),.int 0]) (λJ h=>?_) ?_ (λx d K1 k=>?_) ?_
 .lk;show h
 .refine gB (pA _ _) ?_;simp;lia
 .lk;show⟨by trivial,k⟩
 have sl:=zqz n ts;generalize ho:((aI n).filter λx=>decide (fM ts [] x=0))=O at sl;simp![m9,HK,zkl];have Xe:keys (O.map λx=>(x,(0:Int)))=O:=by unfold keys;rw[bV];show NU _
 show⟨?_,?_,?_⟩
 .have:(eD (O.map λx=>(x,(0:Int)))).map (·.1)=O.map λx=>(dv ((x:Nat):Int):Key):=by unfold eD;simp
  rw[this];have nd:=sl.nd;rw[Xe] at nd;unfold qC at nd ⊢;rw[g6];show nd.imp λh z=>h (by injection z with z;lia)
 .show(eD (O.map λx=>(x,(0:Int)))).all (λp=>kK p.2)=true;rw[tF];intro x d;unfold eD at d;rw[a9] at d;let⟨p,G,rfl⟩:=d;rfl
 walk;have eO:(O.map λi=>dN i)=(keys (O.map λx=>(x,(0:Int)))).map dN:=by rw[Xe]
 rw[eO];have Z:∀x∈(O.map λx=>(x,(0:Int))),x.2=0:=by
  intro x d;rw[a9] at d;let⟨y,G,rfl⟩:=d;rfl
 generalize (O.map λx=>(x,(0:Int)))=N at sl Z;walk;simp![OV.val];have MI:((aI n).map λu=>(g9 ts u).map dN).map D.lst=(aI n).map λu=>D.lst ((g9 ts u).map dN):=by rw[bV];rfl
 rw[MI];show⟨λm ρ=>∃(kv:List (Nat×Int))(w:Nat->Nat)(pl:Nat)(a b c:Sl),ρ=[.fz (.int n),.fz (.lst (ts.map dT)),.fz (.lst ((aI n).map λu=>D.lst ((g9 ts u).map dN))),.ow (nk n w),a,b,c,.ow ((keys kv).map dN),.ov (.dc (eD kv)),.fz (.int pl)]/\
  pl<=kv.length/\m=n-pl/\Lp n ts kv w (keys (kv.take pl)) []/\∀x∈kv,∀y∈kv.drop pl,x.2<=y.2+1,⟨n,N,fM ts [],0,_,_,_,rfl,du _,rfl,sl,λx d y P=>?_⟩,?_⟩
 .rw[Z x d,Z y (B3 P)];decide
 rintro m ρ ⟨kv,w,pl,a,b,c,rfl,c6,rfl,s,bd⟩;have hkl:=IT s.nd s.lt;have sA:(keys kv).length=kv.length:=by show aO ..
 lk;by_cases A:pl<kv.length
 .rw[if_pos (by cbv)];have hu:(keys kv)[pl]?=some kv[pl].1:=by unfold keys;rw[bW,bC A];rfl
  have Q:kv[pl].1<n:=s.lt _ (ip A);have ic:bA (keys kv) (pl:Int)=some kv[pl].1:=by
   rw[fq (by cbv)];have:=(cf.mp hu).2;rw[this]
  show⟨_,ic,?_⟩;walk;have WN:kv.take (pl+1)=kv.take pl++[kv[pl]]:=by rw[dM,bC A];rfl
  have Xc:keys (kv.take (pl+1))=keys (kv.take pl)++[kv[pl].1]:=by rw[WN];unfold keys;rw[cO];rfl
  have Y:kv[pl].1∉keys (kv.take pl):=by
   have nd:=s.nd;rw[<-B8 (pl+1) kv] at nd;unfold keys at nd;rw[cO,l5] at nd;have Wh:=nd.1;rw[show gE (·.1) (kv.take (pl+1))=keys (kv.take pl)++[kv[pl].1] from Xc,l5] at Wh;show λz=>Wh.2.2 _ z _ (by room) rfl
  have Wm:=s.next Y;rw[<-Xc] at Wm;have W:=s.gJ;have Mo:∀x∈keys (kv.take (pl+1)),∃l,(x,l)∈kv/\l<=kv[pl].2:=by
   intro x d;unfold keys at d;rw[a9] at d;let⟨p,v,rfl⟩:=d;show⟨p.2,B4 v,?_⟩;rw[WN] at v;rcases cy.mp v with v | v
   .let⟨j,I,e⟩:=tJ v;rw[eJ] at I;rw[Gx] at e;have:=l7.mp W j pl (by lia) A (by cbv);rw[e] at this;show this
   simp at v;rw[v];show di _
  have T:∀x∈kv,x.2<=kv[pl].2+1:=λx d=>bd x d _ (by rw[List.mem_iff_getElem?];show⟨0,by rw[GG];show bC ‹_›⟩)
  have oO:kv[pl]∈kv:=ip A;generalize xj:kv[pl]=ul at *;let⟨u,H⟩:=ul;simp only at *;show kb (g9 ts u) dN (λJ h=>?_) (λj ρ=>∃(g:List (Nat×Int))(r:Nat->Nat)(b c:Sl),ρ=[.fz (.int n),.fz (.lst (ts.map dT)),.fz (.lst ((aI n).map λu=>D.lst ((g9 ts u).map dN))),.ow (nk n r),.fz (.int u),b,c,.ow ((keys g).map dN),.ov (.dc (eD g)),.fz (.int (pl+1))]/\
   g.take (pl+1)=kv.take (pl+1)/\pl+1<=g.length/\Lp n ts g r (keys (kv.take (pl+1))) ((g9 ts u).drop j)/\(∀x∈kv,x∈g)/\∀x∈g,x.2<=H+1) ⟨kv,w,_,_,rfl,rfl,A,Wm,λ_ h=>h,T⟩ ?_ ?_
  .lk;show⟨_,zi _ Q,?_⟩;show h
  .rintro j f ρ I ⟨g,r,b,c,rfl,E,K,o,B,F⟩;have M:f∈g9 ts u:=cz I;have WR:∃t∈ts,t.2.1=f/\t.1=u:=by
    unfold g9 at M;rw[a9] at M;let⟨t,ht,e⟩:=M;rw[cq] at ht;show⟨t,ht.1,e,by simpa using ht.2⟩
   have C:f<n:=by
    let⟨t,ht,e,G⟩:=WR;rw[<-e];show(val t ht).2
   have U:(g9 ts u).drop j=f::(g9 ts u).drop (j+1):=by
    have ku:=(cf.mp I)
    rw[List.drop_eq_getElem_cons ku.1,ku.2]
   rw[U] at o;let⟨w1,w2⟩:=o.less C;have acS:=IT o.nd o.lt;rw[show dN f=.int (f:Nat) from rfl];lk;show⟨_,zi _ C,f,by unfold nk;rw[aO,jE];show ub C,?_⟩;have S:(nk n r).set f (D.int ((r f:Nat)-1))=nk n (λx=>if x=f then r f-1 else r x):=by
    unfold nk;rw[zj];show tK λx d=>?_
    dsimp only;by_cases h:x=f
    .congr 1;lia
    rw[if_neg h,if_neg h]
   rw[S];walk;show⟨_,zi _ C,?_⟩;lk;by_cases he:r f-1=0
   .rw[if_pos (by room)];show⟨_,_,rfl,za o.nd (B _ oO),?_⟩;lk;show⟨_,rfl,by unfold eD;rw[aO];lia,?_⟩;rw[Sz w2];walk;have ek:(keys g).map dN++[D.int (f:Nat)]=(keys (g++[(f,H+1)])).map dN:=by unfold keys;simp[dN]
    rw[ek];show⟨by rw[aO];unfold keys;rw[aO];lia,g++[(f,H+1)],_,.fz (.int (f:Nat)),c,rfl,?_,by rw[gj];lia,o.step C he (λx d=>?_) (B _ oO) WR F,λx d=>jb _ (B x d),λx d=>?_⟩
    .rw[List.take_append_of_le_length K,E]
    .let⟨l,l1,l2⟩:=Mo x d;show⟨l,B _ l1,l2⟩
    rcases cy.mp d with d | d
    .exact F x d
    simp at d;subst d;show di _
   rw[if_neg (by cbv)];show⟨g,_,_,_,rfl,E,K,o.f9 C he,B,F⟩
  rintro ρ ⟨g,r,b,c,rfl,E,K,o,B,F⟩;rw[List.drop_length,<-E] at o;show⟨n-(pl+1),by lia,g,r,pl+1,_,_,_,rfl,K,rfl,o,λx d y P=>?_⟩;have h1:=F x d;have X:g[pl]?\(u,H):=by
   have e:=congrArg (λl=>l[pl]?) E;simp![List.getElem?_take,BL,dF] at e;rw[e,bC A,xj]
  let⟨jj,R,e⟩:=tJ P;rw[px] at R;rw[List.getElem_drop] at e;have h2:=l7.mp o.gJ pl (pl+1+jj) (by trivial) ⋯ (by lia);rw[e,(cf.mp X).2] at h2;simp only at h2;lia
 rw[if_neg (by cbv)];have e:kv.take pl=kv:=o4 (by cbv);rw[e] at s;walk;show q kv s.done
theorem zkm(L:List (Int×Int)):mj (L.map λp=>D.tup [.int p.1,.int p.2])=some (L.map λp=>[p.1,p.2]):=by
 induction L with
 | nil=>rfl
 | cons a r b=>
  rw[bO,bO];simp![mj,b];rfl
theorem zuT(h:HT.bo [a,b] [c,d]=false):a<=c:=by
 unfold HT.bo at h;by_cases e:a=c
 .simp_all
 simp[e] at h;cbv
theorem Vg(L:List (Int×Int))(d Q)(h:L=[]->Q (.fz d))(g:∀p∈L,(∀r∈L,r.1<=p.1)->Q (.fz (.tup [.int p.1,.int p.2]))):vY (.lst (L.map λp=>D.tup [.int p.1,.int p.2])) d Q:=by
 cases L with
 | nil=>show⟨λ_=>h rfl,λt ht=>by cases ht⟩
 | cons a r=>
  unfold vY;have e:vZ ((a::r).map λp=>D.tup [.int p.1,.int p.2])=some (false,(a::r).map λp=>[p.1,p.2]):=by
   unfold vZ;have:lL ((a::r).map λp=>D.tup [.int p.1,.int p.2])=none:=rfl;rw[this,zkm];rfl
  simp![e];show⟨λz=>by trivial,λt ht b=>?_⟩;rw[a9] at ht;let⟨p,f,rfl⟩:=ht;show g p f λq c=>?_
  show zuT (b [q.1,q.2] (a9.mpr ⟨q,c,rfl⟩))
def rW(ts:List Tr)(u q:Nat):Prop:=∃c,((u,q,c):Tr)∈ts
def Dn(ts:List Tr):List Nat->Prop
 | []=>True
 | [_]=>True
 | q::u::r=>rW ts u q/\Dn ts (u::r)
theorem Dn.tail(h:Dn ts (q::r)):Dn ts r:=by
 cases r with
 | nil=>trivial
 | cons u r=>show h.2
noncomputable def dw(wd:Nat->Int)(l:List Nat):Int:=(l.map wd).sum
structure Bd(n:Nat)(ts:List Tr)(wd:Nat->Int)(w:Int)(l:List Nat):Prop where
 dn:Dn ts l
 lt:∀q∈l,q<n
 eq:dw wd l=w
 best:∀c,Dn ts c->(∀q∈c,q<n)->dw wd c<=w
noncomputable abbrev En:=Int×Option Nat
noncomputable def uW(e:En):D:=.tup [.int e.1,match e.2 with | none=>.non | some u=>.int (u:Nat)]
structure sT(ts:List Tr)(wd:Nat->Int)(en:List (Nat×En)):Prop where
 no:∀q w,bz en q\(w,none)->w=wd q
 so:∀q w u,bz en q\(w,some u)->rW ts u q/\∃o,bz en u\(w-wd q,o)
 up:∀q w o,bz en q\(w,o)->∀t∈ts,t.2.1=q->∃w' o',bz en t.1\(w',o')/\w'+wd q<=w
 pos:∀q w o,bz en q\(w,o)->1<=w/\wd q<=w
theorem sT.put(ok:sT ts wd i)(k:bz i g=none)(r:∀t∈ts,t.2.1=g->∃f o',bz i t.1\(f,o')/\f+wd g<=w)
  (p:o=none->w=wd g) (n:∀u,o\u->rW ts u g/\∃o',bz i u\(w-wd g,o')) (l:1<=w/\wd g<=w):sT ts wd (jG i g (w,o)):=by
 have old:∀{m:Nat}{x:En},bz i m\x->bz (jG i g (w,o)) m\x:=λ{m x} h=>by
  rw[pT,if_neg λz=>by rw[z,k] at h;cases h];show h
 show⟨λq f h=>?_,λq f u h=>?_,λq f o' h t ht e=>?_,λq f o' h=>?_⟩
 .rw[pT] at h;split at h
  .rename_i e;cases h;rw[e];show p rfl
  show ok.no q f h
 .rw[pT] at h;split at h
  .rename_i e;cases h;let⟨a,o',b⟩:=n u rfl;rw[e];show⟨a,o',old b⟩
  let⟨a,o',b⟩:=ok.so q f u h;show⟨a,o',old b⟩
 .rw[pT] at h;split at h
  .rename_i j;cases h;let⟨a,b,c,d⟩:=r t ht (by rw[e,j]);rw[j];show⟨a,b,old c,d⟩
  let⟨a,b,c,d⟩:=ok.up q f o' h t ht e;show⟨a,b,old c,d⟩
 rw[pT] at h;split at h
 .rename_i e;cases h;rw[e];show l
 show ok.pos q f o' h
theorem Ut(f:Nat->Int):∀l,l≠[]->∃q∈l,∀r∈l,f q<=f r
 | [],h=>absurd rfl h
 | [a],_=>⟨a,by room,λr d=>by simp at d;subst d;show di _⟩
 | a::b::l,_=>by
  let⟨q,g,e⟩:=Ut f (b::l) ∅;grind
theorem zl8(v:Valid n ts)(b:xP n ts kv)(o:Ord n ts):∀q,q<n->q∈keys kv:=by
 let⟨f,hf⟩:=o;apply vK;intro d;have e:(aI n).filter (λq=>decide (q∉keys kv))≠[]:=λz=>d λq h=>vK λhk=>by
  cbv
 let⟨q,a,c⟩:=Ut f _ e;rw[cq,cx] at a;let⟨t,t1,g,t3⟩:=b.out q a.1 (by simpa using a.2);have i:=c t.1 (by rw[cq,cx];show⟨(v t t1).1,by show if_pos ‹_›⟩);grind
theorem RX(g:xP n ts kv)(b:kv[i]?\p):∀t∈ts,t.2.1=p.1->t.1∈(keys kv).take i:=by
 intro t ht e;let⟨l,o,h⟩:=g.up p (cz b) t ht e;let⟨j,m,f⟩:=tJ o;have hi:=(cf.mp b).1;have d:=(cf.mp b).2;by_cases r:j<i
 .unfold keys;rw[<-Oe,a9];show⟨(t.1,l),by rw[Cf];show⟨j,by grind,f⟩,rfl⟩
 exfalso
 by_cases q:j=i
 .subst q;rw[f] at d;rw[<-d] at h;simp at h;room
 have:=l7.mp g.gJ i j hi m (by lia);rw[f,d] at this;simp at this;lia
noncomputable def fG(ts:List Tr)(q:Nat):List Nat:=(ts.filter λt=>t.2.1==q).map (·.1)
def zC:bB:=λds Q=>∃ps ts,ds=[br ps,cp ts]/\ps.length<=1000/\ts.length<=100000/\Valid ps.length ts/\Ord ps.length ts/\(∀p∈ps,1<=p.k)/\
 ∀a,sT ts (λq=>(ps[q]?.map Pc.k).getD 1) a->(∀q,(bz a q).isSome=true↔q<ps.length)->a.length<=1000->Q (.ov (.dc (dA uW a)))
theorem zga:(["upper","ends"]:List af).Nodup:=by decide +kernel
noncomputable def M7:(T:TX) ×' ∀{P w K mg base},Txt K mg->~~~1 "levels_found" 2 wY->dh P w K mg base 1 "chain_ends" ["pieces","above","uppers","upper","lower","column","ends","number","ahead"] (top 10) T:=
 ⟨_,λT C_levels_found nd f d A outer s H E c=>have b:=c.units;
 (aC (T8 2 rfl (.of (N':=["piece"]) (m:=[none]) (by kernel_rfl)) cZ (cM (ag 0)) (λs3 a ex=>(ba 0 kM)) (λs3 a ex=>eP) (λs3 a ex=>(iy aA)) nd)
   (aC (fb dY rfl (cM (ag 1)) (kP (n:=3) rfl (c8 (ba 3 nd) (c8 (ba 4 nd) (c8 (ba 5 nd) kQ))))
    (aN (S0 2 (ag 4) (ag 3))))
   (aC (gI 6 ue nd)
   (rE 2 (aC (fb dY rfl (Di (bY C_levels_found c (aq (c7 ml T.b_len j4 (aq (ag 0) aA)) (aq (ag 1) aA)))) (ba 7 nd)
    (aC (bu 8 (zpT 6 (Jc rfl b (fQ rfl (.of (N':=["upper","ends"]) (m:=[none,some 6]) (by kernel_rfl)) cZ (cM (aK (ag 2) (ag 7))) (λs3 a ex=>(ba 0 zga)) (λs3 a ex=>eP) (λs3 a ex=>(fF (aq (aK (pP b (ag 1) (ag 0)) au) (aq (ag 0) aA))))) (fF (aq au (aq iz aA))) T.b_max)) nd)
   (aN (t9 b 6 (ag 7) (fF (aq (aQ cJ (aK (ag 8) au) (aK (aK (ag 0) (ag 7)) au)) (aq (aK (ag 8) au) aA)))))))
   (aN (Dj 6)))))))⟩
def Kp:TX:=M7.1
theorem zgb:cQ 2 zC Kp ["pieces","above","uppers","upper","lower","column","ends","number","ahead"]:=by
 intro ds Qr hl h;let⟨ps,ts,rfl,hn,Z,val,ord,pk,q⟩:=h;show Kp _ [.fz (br ps),.fz (cp ts),.un,.un,.un,.un,.un,.un,.un];unfold Kp M7;dsimp only;unfold cp br;have big:=ez;lk;show UO ps bw (λ_=>[]) (λH h=>?_) (by lia) (λx n K1 k=>?_) ?_
 .lk;show h
 .lk;show⟨du _,k⟩
 walk;have e0:(ps.map λ_=>([]:List D))=(aI ps.length).map λq=>(fG (ts.take 0) q).map dN:=by
  rw[show(λq=>(fG (ts.take 0) q).map dN)=λ_:Nat=>([]:List D) from rfl,<-UL,OM]
 rw[e0];show kb ts dT (λH h=>?_) (λi ρ=>∃(a b c:Sl),ρ=[.fz (.lst (ps.map bw)),.fz (.lst (ts.map dT)),.ov (.ll ((aI ps.length).map λq=>(fG (ts.take i) q).map dN)),a,b,c,.un,.un,.un]) ⟨_,_,_,rfl⟩ ?_ ?_
 .lk;show h
 .rintro i t ρ ht ⟨a,b,c,rfl⟩;have LS:i<ts.length:=(cf.mp ht).1;let⟨v1,v2⟩:=val t (cz ht);have Mc:(fG (ts.take i) t.2.1).length<=i:=by
   unfold fG;rw[aO];show gB (pA _ _) (by rw[eJ];lia)
  have e1:ts.take (i+1)=ts.take i++[t]:=by rw[dM,ht];rfl
  have E:((aI ps.length).map λq=>(fG (ts.take i) q).map dN).set t.2.1 ((fG (ts.take i) t.2.1).map dN++[D.int t.1])=(aI ps.length).map λq=>(fG (ts.take (i+1)) q).map dN:=by
   rw[zj];apply tK;intro x n;unfold fG;rw[e1,vE,cO,cO];by_cases C:x=t.2.1
   .subst C;simp[dN]
   have:(t.2.1==x)=false:=by simpa using Ne.symm C
   simp[C,this]
  rw[show dT t=.tup [.int t.1,.int t.2.1,.int t.2.2] from rfl];lk;show⟨t.2.1,_,by rw[aO,jE];show ub v2,Jx _ v2,by rw[aO];lia,?_⟩;rw[E];show⟨_,_,_,rfl⟩
 rintro ρ ⟨a,b,c,rfl⟩;rw[eY];walk;have MI:((aI ps.length).map λq=>(fG ts q).map dN).map D.lst=(aI ps.length).map λq=>D.lst ((fG ts q).map dN):=by rw[bV];rfl
 walk;simp![OV.val,MI];show zqq (λds=>∃kv,xP ps.length ts kv/\ds=(keys kv).map dN) (λH h=>?_) ?_
 .simp![yB];lk;show⟨ps.length,ts,by rw[aO];rfl,hn,Z,val,λkv lv=>?_⟩;show h _ ⟨kv,lv,?_⟩;unfold eD keys;rw[bV,bV];rfl
 rintro ds ⟨kv,lv,rfl⟩;have X:=IT lv.nd lv.lt;have W:=zl8 val lv ord;show DL (keys kv) dN (λi ρ=>∃(g:List (Nat×En))(e f:Sl),ρ=[.fz (.lst (ps.map bw)),.fz (.lst (ts.map dT)),.fz (.lst ((aI ps.length).map λq=>D.lst ((fG ts q).map dN))),a,b,c,.ov (.dc (dA uW g)),e,f]/\
  (∀q,(bz g q).isSome=true↔q∈(keys kv).take i)/\g.length<=i/\sT ts (λq=>(ps[q]?.map Pc.k).getD 1) g) ⟨[],_,_,rfl,λq=>by simp[bz],aW _,⟨λq w e=>by trivial,λq w u e=>by trivial,λq w o e=>by trivial,λq w o e=>by trivial⟩⟩ ?_ ?_
 .rintro i d ρ hi ⟨g,e,f,rfl,hk,hlen,ok⟩;have T:i<(keys kv).length:=(cf.mp hi).1;have acR:(keys kv).length=kv.length:=by unfold keys;rw[aO]
  obtain⟨J,s⟩:∃J,kv[i]?\(d,J):=by
   unfold keys at hi;rw[bW] at hi;cases n:kv[i]? with
   | none=>rw[n] at hi;cases hi
   | some x=>rw[n] at hi;simp at hi;show⟨x.2,by rw[<-hi]⟩
  have v:d<ps.length:=lv.lt _ (cz s);have F:=RX lv s;have N:bz g d=none:=by
   cases n:bz g d with
   | none=>rfl
   | some x=>
    have:=(hk d).mp (by rw[n];rfl);rw[Cf] at this;let⟨j,hj,ej⟩:=this;have E:(keys kv)[i]=d:=(cf.mp hi).2;have:=l7.mp lv.nd j i (by lia) T (by lia);show absurd (by rw[ej,E]) this
  have A:∀u∈fG ts d,∃r o',bz g u\(r,o')/\rW ts u d:=λu m=>by
   unfold fG at m;rw[a9] at m;let⟨t,ht,rfl⟩:=m;rw[cq] at ht;have K:t.2.1=d:=by simpa using ht.2
   have Y:=(hk t.1).mpr (F t ht.1 K);let⟨x,n⟩:=tO.mp Y;show⟨x.1,x.2,n,t.2.2,by rw[<-K];show ht.1⟩
  have xj:(fG ts d).length<=ts.length:=by unfold fG;rw[aO];show pA _ _
  have oN:(ps[d]?.map Pc.k).getD 1=ps[d].k:=by rw[bC v];rfl
  have lT:=pk _ (ip v);have M:bA ps (d:Int)=some ps[d]:=fq v;have O:∀(w:Int)(o:Option Nat)(L:Sl),sT ts (λq=>(ps[q]?.map Pc.k).getD 1) (jG g d (w,o))->(∃(y:List (Nat×En))(e f:Sl),[Sl.fz (.lst (ps.map bw)),.fz (.lst (ts.map dT)),.fz (.lst ((aI ps.length).map λq=>D.lst ((fG ts q).map dN))),a,b,c,.ov (.dc (je (dA uW g) (.inl (d:Int)) (uW (w,o)))),.fz (.int d),L]=[Sl.fz (.lst (ps.map bw)),.fz (.lst (ts.map dT)),.fz (.lst ((aI ps.length).map λq=>D.lst ((fG ts q).map dN))),a,b,c,.ov (.dc (dA uW y)),e,f]/\
  (∀q,(bz y q).isSome=true↔q∈(keys kv).take (i+1))/\y.length<=i+1/\sT ts (λq=>(ps[q]?.map Pc.k).getD 1) y):=λw o L V=>by
   show⟨jG g d (w,o),_,_,by rw[yR],λx=>?_,by have:=JL g d (w,o);lia,V⟩;rw[pT,dM,hi];split
   .rename_i e;simp[e]
   rename_i e;rw[hk x];simp[e]
  rw[show dN d=.int d from rfl];lk;simp![Iw,T7,gt,true_and,CJ];lk;show fE (fG ts d) dN (λu=>.tup [.int (((bz g u).map (·.1)).getD 0),.int (u:Nat)]) (λH h=>?_) (by lia) (λu m K1 k=>?_) ?_
  .lk;show⟨d,by rw[fq (by simpa using v)];simp,?_⟩;show h
  .obtain⟨r,o',g1,_⟩:=A u m;rw[show dN u=.int u from rfl];lk;show⟨_,_,rfl,by rw[oq,g1];rfl,?_⟩;show⟨_,rfl,by trivial,by simpa[g1] using k⟩
  show⟨by trivial,?_⟩;rw[show(R.ow ((fG ts d).map λu=>D.tup [.int (((bz g u).map (·.1)).getD 0),.int (u:Nat)])).val=.lst (((fG ts d).map λu=>((((bz g u).map (·.1)).getD 0),(u:Int))).map λp=>D.tup [.int p.1,.int p.2]) by rw[bV];rfl];show Vg _ _ _ (λP=>?_) λp Q I=>?_
  .rw[GO] at P;walk;show⟨rfl,_,rfl,_,M,?_⟩;show⟨_,rfl,?_⟩;show⟨_,rfl,by trivial,_,rfl,by unfold dA;rw[aO];lia,?_⟩;show O (0+ps[d].k) none _ (ok.put N (λt ht e=>?_) (λ_=>by cbv) (λu m=>by cases m) (by cbv));exfalso
   have:t.1∈fG ts d:=by unfold fG;rw[a9];show⟨t,by rw[cq];show⟨ht,by show if_pos ‹_›⟩,rfl⟩
   rw[P] at this;cases this
  rw[a9] at Q;let⟨u,m,rfl⟩:=Q;let⟨r,o',g1,g2⟩:=A u m;have qg:=ok.pos u r o' g1;simp![g1,fO,mV] at I ⊢;walk;show⟨rfl,_,rfl,_,M,?_⟩;show⟨_,rfl,?_⟩;show⟨_,rfl,by trivial,_,rfl,by unfold dA;rw[aO];lia,?_⟩;show O (r+ps[d].k) (some u) _ (ok.put N (λt ht e=>?_) (λz=>by cases z) (λu2 B=>?_) (by lia))
  .have hm:t.1∈fG ts d:=by unfold fG;rw[a9];show⟨t,by rw[cq];show⟨ht,by show if_pos ‹_›⟩,rfl⟩
   obtain⟨S,U,g3,_⟩:=A _ hm;have:=I _ (a9.mpr ⟨t.1,hm,rfl⟩);show⟨S,U,g3,by cbv⟩
  cases B;show⟨g2,o',by congr 2;cbv⟩
 rintro ρ ⟨g,e,f,rfl,hk,hlen,ok⟩;rw[show(keys kv).take (keys kv).length=keys kv from eY] at hk;walk;show q g ok (λq=>⟨λh=>?_,λh=>(hk q).mpr (W q h)⟩) (by unfold keys at hlen;rw[aO] at hlen;lia);have:=(hk q).mp h;unfold keys at this;rw[a9] at this;let⟨p,s,rfl⟩:=this;show lv.lt p s
structure sQ(ts rs:List Tr):Prop where
 ne:rs≠[]
 sub:∀t∈rs,t∈ts
 nd:(rs.map (·.1)).Nodup
 X7:∀i t t',rs[i]?\t->rs[(i+1)%rs.length]?\t'->t.2.1=t'.1
structure Way(way:List Tr)(m0 m:Nat):Prop where
 ch:∀i t t',way[i]?\t->way[i+1]?\t'->t.1=t'.2.1
 last:∀t,way.getLast?\t->t.1=m
 nil:way=[]->m=m0
theorem zkn{D m s:Nat}(w:Way d D m)(sub:∀t∈d,t∈ts)(nd:(d.map (·.2.1)).Nodup)(y:d[s]?\j)(F:j.2.1=m):sQ ts (d.drop s).reverse:=by
 have K:s<d.length:=(cf.mp y).1;have o:0<(d.drop s).length:=by rw[px];lia
 generalize hv:d.drop s=v at o;have n:∀i,v[i]?=d[s+i]?:=λi=>by rw[<-hv,GG]
 have x:∀i t t',v[i]?\t->v[i+1]?\t'->t.1=t'.2.1:=λi t t' g f=>w.ch (s+i) t t' (by rw[<-n];show g) (by rw[<-f,n];rfl)
 have q:v[0]?\j:=by rw[n];show y
 have B:∀t,v[v.length-1]?\t->t.1=j.2.1:=λt ht=>by
  rw[F];show w.last t ?_;rw[QN];rw[n] at ht;have:v.length=d.length-s:=by rw[<-hv,px]
  rw[show d.length-1=s+(v.length-1) by lia];show ht
 have J:∀t∈v,t∈ts:=λt ht=>sub t (B3 (by rw[hv];show ht))
 have u:(v.map (·.2.1)).Nodup:=by
  rw[<-hv,Od];show nd.sublist (List.drop_sublist _ _)
 -- E I are E seconds,turned on by one
 have p:v.map (·.1)=(v.map (·.2.1)).drop 1++[j.2.1]:=by
  apply qK;intro i;rw[bW];by_cases g:i+1<v.length
  .rw[vL (by simp;lia),GG,bW,Nat.add_comm 1 i,bC (by room:i<v.length),bC g];simp![fO,fA];show x i _ _ (bC _) (bC _)
  by_cases f:i<v.length
  .have e:i=v.length-1:=by lia
   rw[Hj (by simp;show yk ‹_›)];have H:i-((v.map (·.2.1)).drop 1).length=0:=by simp;ext
   rw[H,bC f];simp![fO,tN,fA];show B _ (by rw[<-e];show bC f)
  rw[qQ (by show yk ‹_›),qQ (by simp;ext)];rfl
 have C:(v.map (·.1)).Nodup:=by
  rw[p];have e:v.map (·.2.1)=j.2.1::(v.map (·.2.1)).drop 1:=by
   cases v with
   | nil=>assumption
   | cons a r=>simp at q;subst q;rfl
  rw[e,dH] at u;rw[l5];show⟨u.2,by show gu _ _,λa ha b hb=>?_⟩;simp![dD] at hb;subst hb;show λz=>u.1 (z▸ha)
 show⟨λz=>by rw[List.reverse_eq_nil_iff] at z;rw[z] at o;room,λt ht=>J t (OY.mp ht),?_,λi t t' g f=>?_⟩
 .rw[BG];unfold qC at C ⊢;rw[List.pairwise_reverse];show C.imp λh=>Ne.symm h
 have hi:i<v.length:=by simpa using (cf.mp g).1
 rw[yt hi] at g;rw[P7] at f;by_cases A:i+1<v.length
 .rw[Nat.mod_eq_of_lt A,yt A] at f;show(x (v.length-1-(i+1)) t' t f (by rw[<-g];congr 1;lia)).symm
 have e:i+1=v.length:=by lia
 rw[e,Nat.mod_self,yt o] at f;rw[show v.length-1-i=0 by ext,q] at g;cases g;show(B t' f).symm
def zW:bB:=λds Q=>∃n ts kv,ds=[.dic (eD kv),cp ts]/\n<=1000/\ts.length<=100000/\Valid n ts/\xP n ts kv/\kv.length<n/\∀rs,sQ ts rs->Q (.ow (rs.map dT))
noncomputable def MT:(T:TX) ×' ∀{P w K mg base},Txt K mg->dh P w K mg base 0 "ring_without" ["levels","above","triple_over","triple","number","places","way","ring"] (top 8) T:=
 ⟨_,λT nd f c A outer s H E b=>have a:=b.units;
 (aC (gI 2 ue nd)
   (aC (fb dY rfl (cM (ag 1)) (ba 3 nd)
    (aN (cS (ck (JF a) (aK (ag 3) au) (ag 0)) (aN (t9 a 2 (aK (ag 3) au) (ag 3))) cY)))
   (rE 2 (aC (bu 4 (c7 (zuq rfl) T.b_min Bh (aq (ag 2) aA)) nd)
   (aC (gI 5 ue nd)
   (aC (gI 6 (iy aA) nd)
   (aC (Jp dY (TB 5 (ck (JF a) (ag 4) (ag 5))) (aC (t9 a 5 (ag 4) (Dk 6 T.b_len))
   (aC (om 6 (pP a (ag 2) (ag 4)))
   (aN (bu 4 (aK (pP a (ag 2) (ag 4)) au) nd)))))
   (rE 5 (rE 6 (aC (gI 7 (lO (ag 6) (jN (pP a (ag 5) (ag 4))) ou) nd)
   (aC (Vm 7)
   (aN (ug 7)))))))))))))⟩
def KO:TX:=MT.1
noncomputable def oC(a:List Tr):List (Nat×Int):=a.zipIdx.map λp=>(p.1.2.1,(p.2:Int))
theorem IM(a):keys (oC a)=a.map (·.2.1):=by
 unfold keys oC;rw[bV];have:((λx:Nat×Int=>x.1)∘λp:Tr×Nat=>(p.1.2.1,(p.2:Int)))=(λt:Tr=>t.2.1)∘NK:=rfl;rw[this,<-bV,List.zipIdx_map_fst]
theorem ztb(a t):oC (a++[t])=oC a++[(t.2.1,(a.length:Int))]:=by
 unfold oC;rw[List.zipIdx_append,cO];simp
theorem Y0{s:Nat}(h:a[s]?\t):(t.2.1,(s:Int))∈oC a:=by
 unfold oC;rw[a9];show⟨(t,s),List.mem_zipIdx_iff_getElem?.mpr h,rfl⟩
theorem zeR:cQ 2 zW KO ["levels","above","triple_over","triple","number","places","way","ring"]:=by
 intro ds Qr hl h;let⟨n,ts,kv,rfl,hn,fi,val,lv,bj,q⟩:=h;show KO _ [.fz (.dic (eD kv)),.fz (cp ts),.un,.un,.un,.un,.un,.un];unfold KO MT;dsimp only;unfold cp;have big:=ez;lk;walk;show kb ts dT (λQ' h=>?_) (λi ρ=>∃(d:List (Nat×Tr))(a:Sl),ρ=[.fz (.dic (eD kv)),.fz (.lst (ts.map dT)),.ov (.dc (dA dT d)),a,.un,.un,.un,.un]/\
  d.length<=i/\(∀q t,bz d q\t->t∈ts/\t.2.1=q/\t.1∉keys kv)/\∀t∈ts.take i,t.1∉keys kv->(bz d t.2.1).isSome=true) ⟨[],_,rfl,aW _,λq t e=>by trivial,λt ht=>by simp at ht⟩ ?_ ?_
 .lk;show h
 .rintro i t ρ ht ⟨d,a,rfl,W,r,o⟩;have LS:i<ts.length:=(cf.mp ht).1;have H:ts.take (i+1)=ts.take i++[t]:=by rw[dM,ht];rfl
  rw[show dT t=.tup [.int t.1,.int t.2.1,.int t.2.2] from rfl];lk;show⟨_,rfl,?_⟩;lk;show⟨_,rfl,?_⟩;simp![UN];by_cases hk:t.1∈keys kv
  .simp![hk,decide_true,lC,eK,dG];show⟨d,_,rfl,by room,r,λt' f p=>?_⟩;rw[H] at f;rcases cy.mp f with f | f
   .exact o t' f p
   simp at f;subst f;show absurd hk p
  simp![hk,decide_false,sZ,dF];show⟨_,rfl,?_⟩;lk;show⟨_,rfl,by unfold dA;rw[aO];lia,jG d t.2.1 t,.fz (dT t),?_,?_,λQ t' e=>?_,λt' f p=>?_⟩
  .rw[<-yR];rfl
  .have:=JL d t.2.1 t;lia
  .rw[pT] at e;split at e
   .rename_i V;cases e;show⟨cz ht,V.symm,hk⟩
   show r Q t' e
  rw[pT];split
  .rfl
  rename_i Y;rw[H] at f;rcases cy.mp f with f | f
  .exact o t' f p
  simp at f;subst f;show absurd rfl Y
 rintro ρ ⟨d,a,rfl,W,r,o⟩;rw[eY] at o;walk;have E:∀x,x<n->x∉keys kv->∃t,bz d x=some t:=λx b hk=>by
  let⟨t,t1,P,t3⟩:=lv.out x b hk;have:=o t t1 t3;rw[P] at this;show tO.mp this
 have hex:∃x,x<n/\x∉keys kv:=vK λz=>by
  have:∀w∈aI n,w∈keys kv:=λw hw=>vK λL=>z ⟨w,cx.mp hw,L⟩
  have:=ot tD this;rw[jE] at this;unfold keys at this;rw[aO] at this;room
 simp![OV.val,HL,zl5];show⟨?_,λM D _=>?_⟩
 .let⟨x,O,N⟩:=hex;let⟨t,ht⟩:=E x O N;intro z;rw[GO] at z;rw[z] at ht;trivial
 rw[a9] at D;let⟨pm,S,rfl⟩:=D;have K:∃t,bz d pm.1\t:=tO.mp ((rN d pm.1).mpr (g7 S))
 generalize pm.1=m0 at K;walk;walk;show⟨du _,?_⟩;walk;show⟨λC ρ=>∃(way:List Tr)(m:Nat)(a:Sl),ρ=[.fz (.dic (eD kv)),.fz (.lst (ts.map dT)),.fz (.dic (dA dT d)),a,.fz (.int m),.ov (.dc (eD (oC way))),.ow (way.map dT),.un]/\C=n-way.length/\Way way m0 m/\(way.map λt:Tr=>t.2.1).Nodup/\
  (∀t∈way,t∈ts)/\∃t,bz d m\t,⟨n,[],m0,_,rfl,rfl,⟨λi t t' e=>by trivial,λt e=>by trivial,λ_=>rfl⟩,by show .nil,λt ht=>(by cases ht),K⟩,?_⟩
 rintro C ρ ⟨way,m,a,rfl,rfl,u,nd,sub,t,ht⟩;let⟨A,j,v⟩:=r m t ht;have Ep:way.length<=n:=by
  have:=ot (ws:=aI n) nd λw hw=>by
   rw[a9] at hw;let⟨t,h,rfl⟩:=hw;show cx.mpr (val t (sub t h)).2
  cbv
 lk;show⟨_,rfl,?_⟩;simp![UN,IM];by_cases hk:m∈way.map (·.2.1)
 .simp![hk,decide_true,lC,eK,dG];walk;rw[a9] at hk;let⟨t0,Z,I⟩:=hk;let⟨s,U,X⟩:=tJ Z;have F:way[s]?=some t0:=by rw[bC U,X]
  have B:=za (by rw[IM];show nd) (Y0 F);rw[I] at B;show⟨_,_,rfl,B,?_⟩;simp only;rw[DF _ (by room),qL];walk;simp![Dt];walk;rw[<-BG];show q _ (zkn u sub nd F I)
 simp![hk,decide_false,sZ,dF];show⟨_,rfl,by unfold eD oC;simp;lia,?_⟩;have T:m∉keys (oC way):=by rw[IM];show hk
 rw[aO,Sz T];walk;have J:look (dA dT d) (.inl (m:Int))=some (dT t):=by rw[oq,ht];rfl
 show⟨_,_,rfl,J,by rw[aO];lia,?_⟩;walk;show⟨_,_,rfl,J,?_⟩;show⟨_,rfl,n-(way++[t]).length,?_,way++[t],t.1,a,?_,rfl,⟨λi x y b g=>?_,λx b=>?_,λz=>by simp at z⟩,?_,λx b=>?_,?_⟩
 .have:way.length<n:=by
   have:=ot (l:=m::way.map (λt:Tr=>t.2.1)) (ws:=aI n) (dH.mpr ⟨hk,nd⟩) λw hw=>by
    rcases bx.mp hw with rfl | hw
    .rw[<-j];show cx.mpr (val t A).2
    rw[a9] at hw;let⟨t,h,rfl⟩:=hw;show cx.mpr (val t (sub t h)).2
   rw[cL,aO,jE] at this;trivial
  simp;ext
 .rw[ztb,j];simp[dT,j]
 .by_cases hi:i+1<way.length
  .rw[vL hi] at g;rw[vL (by show qE ‹_›)] at b;show u.ch i x y b g
  have R:i+1<(way++[t]).length:=(cf.mp g).1;rw[gj,Qu] at R;have e:i+1=way.length:=by lia
  rw[e,Hj (aW _),N5] at g;simp at g;subst g;rw[vL (by lia)] at b;rw[j];show u.last x ?_;rw[QN,show way.length-1=i by ext];show b
 .simp at b;subst b;rfl
 .rw[cO,l5];show⟨nd,by show gu _ _,λx b y g=>?_⟩;simp at g;subst g;rw[j];show λz=>hk (z▸b)
 .rcases cy.mp b with b | b
  .exact sub x b
  simp at b;subst b;show A
 show E _ (val t A).1 v
def m6(n:Nat)(ts:List Tr)(a:List Int):Prop:=a.length=n/\∀q,q<n->∀l,a[q]?\l->(∀t∈ts,t.2.1=q->∃b,a[t.1]?\b/\b+1<=l)/\((l=0/\∀t∈ts,t.2.1≠q)\/∃t∈ts,t.2.1=q/\a[t.1]?\(l-1))
def zg:bB:=λds Q=>∃(n:Nat)(ts:List Tr),ds=[.int n,cp ts]/\n<=1000/\ts.length<=100000/\Valid n ts/\(∀ls,m6 n ts ls->Q (.ov (.tl (.str "levels") (ls.map .int))))/\∀rs,sQ ts rs->Q (.ov (.tl (.str "ring") (rs.map dT)))
theorem zkp:(["number","levels"]:List af).Nodup:=by decide +kernel
noncomputable def MU:(T:TX) ×' ∀{P w K mg base},Txt K mg->~~~1 "levels_found" 2 wY->~~~1 "ring_without" 2 zW->dh P w K mg base 1 "ranked" ["count","above","levels"] (top 6) T:=
 ⟨_,λT C_levels_found C_ring_without nd f d A outer s H E a=>have c:=a.units;
 (aC (bu 2 (bY C_levels_found a (aq (ag 0) (aq (ag 1) aA))) nd)
   (aC (cS (ck yJ (c7 zup T.b_len j4 (aq (ag 2) aA)) (ag 0)) (aN (b9 (SY j9 (bY C_ring_without a (aq (ag 2) (aq (ag 1) aA)))))) cY)
   (aN (b9 (SY j9 (fQ rfl (.of (N':=["number","levels"]) (m:=[none,some 2]) (by kernel_rfl)) cZ (ni T.b_range (aq (ag 0) aA)) (λs3 b ex=>(ba 0 zkp)) (λs3 b ex=>eP) (λs3 b ex=>(pP c (ag 1) (ag 0)))))))))⟩
def JH:TX:=MU.1
theorem zkq:cQ 2 zg JH ["count","above","levels"]:=by
 intro ds K hl h;let⟨n,ts,rfl,hn,q,val,y,v⟩:=h;show JH _ [.fz (.int n),.fz (cp ts),.un];unfold JH MU;dsimp only;have big:=ez;lk;show⟨n,ts,rfl,hn,q,val,λkv lv=>?_⟩;walk;simp![OV.val];rw[show(eD kv).length=kv.length by show aO ..];by_cases F:kv.length<n
 .rw[if_pos (by cbv)];simp![HM];lk;show⟨n,ts,kv,rfl,hn,q,val,lv,F,λrs r=>?_⟩;show v rs r
 rw[if_neg (by cbv)];have C:∀x,x<n->x∈keys kv:=λx b=>vK λz=>by
  have:=ot (l:=x::keys kv) (ws:=aI n) (dH.mpr ⟨z,lv.nd⟩) λw hw=>by
   rcases bx.mp hw with rfl | hw
   .exact cx.mpr b
   unfold keys at hw;rw[a9] at hw;let⟨p,E,rfl⟩:=hw;show cx.mpr (lv.lt p E)
  rw[cL,jE] at this;unfold keys at this;rw[aO] at this;room
 have o:∀x,x<n->∃l,(x,l)∈kv:=λx b=>by
  have:=C x b;unfold keys at this;cbv
 walk;unfold HM;lk;show fE (aI n) (λ(i:Nat)=>.int (0+i)) (λx=>.int ((bz kv x).getD 0)) (λL h=>?_) (by simp;lia) (λx b M k=>?_) ?_
 .lk;show⟨by cbv,by lia,by trivial⟩
 .have I:x<n:=by simpa using b
  let⟨l,hl⟩:=o x I;rw[pd];lk;show⟨_,_,rfl,za lv.nd hl,?_⟩;have e:look (dA D.int kv) (.inl (x:Int))=(bz kv x).map D.int:=oq _ _ _;have m:look (eD kv) (.inl (x:Int))=some (.int l):=za lv.nd hl;rw[show eD kv=dA D.int kv from rfl,e] at m;cbv
 have H:((aI n).map λx=>D.int ((bz kv x).getD 0))=((aI n).map λx=>(bz kv x).getD 0).map D.int:=by rw[bV];rfl
 rw[H];have J:∀x l,(x,l)∈kv->(bz kv x).getD 0=l:=λx l hl=>by
  have e:look (dA D.int kv) (.inl (x:Int))=(bz kv x).map D.int:=oq _ _ _;have m:look (eD kv) (.inl (x:Int))\.int l:=za lv.nd hl;rw[show eD kv=dA D.int kv from rfl,e] at m;cbv
 have f:∀x l,(x,l)∈kv->((aI n).map λx=>(bz kv x).getD 0)[x]?=some l:=λx l hl=>by
  rw[Jx _ (lv.lt _ hl),J x l hl]
 show y _ ⟨∅,λx b l s=>?_⟩;let⟨B,d⟩:=o x b;rw[f x B d] at s;cases s;show⟨λt ht e=>?_,?_⟩
 .let⟨A,j,g⟩:=lv.up _ d t ht e;show⟨A,f _ _ j,g⟩
 rcases lv.top _ d with⟨j,g⟩ | ⟨t,t1,u,t3⟩
 .exact .inl ⟨j,g⟩
 show .inr ⟨t,t1,u,f _ _ t3⟩
theorem RE(ok:sT ts wd a):∀r q w o,bz a q\(w,o)->Dn ts (q::r)->dw wd (q::r)<=w
 | [],q,w,o,h,_=>by
  have:=(ok.pos q w o h).2;unfold dw;simp;show this
 | u::r,q,w,o,h,dn=>by
  obtain⟨⟨c,d⟩,f⟩:=dn;let⟨b,o',e,g⟩:=ok.up q w o h _ d rfl;have:=RE ok r u b o' e f;unfold dw at this ⊢;rw[bO,kI];lia
structure Run(ts:List Tr)(wd:Nat->Int)(en:List (Nat×En))(l:List Nat)(c:Option Nat)(w:Int):Prop where
 dn:Dn ts l
 nx:∀u q,c\u->l.getLast?\q->rW ts u q
 sm:∀u,c\u->∃w' o,bz en u\(w',o)/\dw wd l+w'=w
 nn:c=none->dw wd l=w
theorem Dn.snoc:∀{l},Dn ts l->(∀q,l.getLast?\q->rW ts u q)->Dn ts (l++[u])
 | [],_,_=>trivial
 | [q],_,h=>⟨h q rfl,trivial⟩
 | a::b::r,d,h=>⟨d.1,Dn.snoc (l:=b::r) d.2 λq c=>h q (by show c)⟩
theorem Dn.rank{f:Nat->Int}(b:∀t∈ts,f t.1<f t.2.1):∀{r q},Dn ts (q::r)->∀x∈r,f x<f q
 | [],q,_,x,a=>by cases a
 | u::r,q,d,x,a=>by
  obtain⟨⟨c,g⟩,h⟩:=d;have e:=b _ g;rcases bx.mp a with rfl | a
  .exact e
  have:=Dn.rank b h x a;simp at e;lia
theorem Dn.nd(o:Ord n ts):∀{l},Dn ts l->l.Nodup
 | [],_=>.nil
 | q::r,d=>by
  let⟨f,hf⟩:=id o;rw[dH];show⟨λh=>?_,Dn.nd o d.tail⟩;have:=Dn.rank hf d q h;room
theorem Dn.len(o:Ord n ts)(d:Dn ts l)(h:∀q∈l,q<n):l.length<=n:=by
 have:=ot (ws:=aI n) (d.nd o) λw hw=>cx.mpr (h w hw)
 cbv
theorem Us(wd l u):dw wd (l++[u])=dw wd l+wd u:=by
 unfold dw;simp
def zr:bB:=λds Q=>∃ps ts,ds=[br ps,cp ts]/\ps.length<=1000/\ts.length<=100000/\Valid ps.length ts/\Ord ps.length ts/\(∀p∈ps,1<=p.k)/\
 ∀w l,Bd ps.length ts (λq=>(ps[q]?.map Pc.k).getD 1) w l->Q (.ov (.tl (.int w) (l.reverse.map dN)))
theorem zh9:(["number","ends"]:List af).Nodup:=by decide +kernel
noncomputable def M6:(T:TX) ×' ∀{P w K mg base},Txt K mg->~~~2 "chain_ends" 2 zC->dh P w K mg base 2 "chain_of" ["pieces","above","ends","heaviest","numbers","number"] (top 9) T:=
 ⟨_,λT C_chain_ends nd f d A outer s H E b=>have a:=b.units;
 (aC (bu 2 (bY C_chain_ends b (aq (ag 0) (aq (ag 1) aA))) nd)
   (aC (bu 3 (Jc rfl a (fQ rfl (.of (N':=["number","ends"]) (m:=[none,some 2]) (by kernel_rfl)) cZ (Di (ag 2)) (λs3 c ex=>(ba 0 zh9)) (λs3 c ex=>eP) (λs3 c ex=>(fF (aq (aK (pP a (ag 1) (ag 0)) au) (aq (ag 0) aA))))) (fF (aq au (aq iz aA))) T.b_max) nd)
   (aC (gI 4 (iy aA) nd)
   (aC (bu 5 (aK (ag 3) au) nd)
   (aC (Jp dY (ck Dd (ag 5) iz) (aC (om 4 (ag 5))
   (aN (bu 5 (aK (pP a (ag 2) (ag 5)) au) nd))))
   (aC (Vm 4)
   (aN (zsn 4 (aK (ag 3) au)))))))))⟩
def Ka:TX:=M6.1
noncomputable def MM:Option Nat->D
 | none=>.non
 | some u=>.int (u:Nat)
noncomputable def xf(a:List (Nat×En)):Option Nat->Nat
 | none=>0
 | some u=>(match bz a u with | some e=>e.1.toNat | none=>0)+1
theorem zia:cQ 2 zr Ka ["pieces","above","ends","heaviest","numbers","number"]:=by
 intro ds I hl h;let⟨ps,ts,rfl,hn,T,val,ord,pk,q⟩:=h;show Ka _ [.fz (br ps),.fz (cp ts),.un,.un,.un,.un];unfold Ka M6;dsimp only;have big:=ez;lk;show⟨ps,ts,rfl,hn,T,val,ord,pk,λb ok hk hlen=>?_⟩;have F:∀x,x<ps.length->∃w o,bz b x=some (w,o):=λx d=>by
  let⟨y,f⟩:=tO.mp ((hk x).mpr d);show⟨y.1,y.2,f⟩
 have n:∀x:Nat,1<=(ps[x]?.map Pc.k).getD 1:=λx=>by
  cases d:ps[x]? with
  | none=>show di _
  | some y=>show pk y (cz d)
 have key:∀(w:Int)(i:Option Nat),Run ts (λq=>(ps[q]?.map Pc.k).getD 1) b [] i w->(∀u,i\u->u<ps.length)->(∀c,Dn ts c->(∀q∈c,q<ps.length)->dw (λq=>(ps[q]?.map Pc.k).getD 1) c<=w)->
   iP (cu (nZ 4 (rf bH))
     (cu (fX 5 (bT fL (aH 3) (dC (D.int 1))))
      (cu
       (Sq (fB (bT (qT true) (aH 5) (dC D.non)))
        (cu (qZ 4 (aH 5)) (fX 5 (bT fL (tZ (aH 2) (aH 5)) (dC (D.int 1))))))
       (cu (Dt 4) (Rv 4 (bT fL (aH 3) (dC (D.int 0))))))))
    { nx:=λx=>I (R.fz D.non),rt:=I }
    [Sl.fz (br ps),Sl.fz (cp ts),Sl.fz (D.dic (dA uW b)),Sl.fz (.tup [.int w,MM i]),Sl.un,Sl.un]:=by
  intro w i B s best;walk;show⟨du _,?_⟩;walk;show⟨_,rfl,?_⟩;walk;show⟨λE ρ=>∃(l:List Nat)(c:Option Nat),ρ=[Sl.fz (br ps),Sl.fz (cp ts),Sl.fz (D.dic (dA uW b)),Sl.fz (.tup [.int w,MM i]),.ow (l.map dN),.fz (MM c)]/\Run ts (λq=>(ps[q]?.map Pc.k).getD 1) b l c w/\(∀q∈l,q<ps.length)/\(∀u,c=some u->u<ps.length)/\
   E=xf b c,⟨_,[],i,rfl,B,λq t=>(by cases t),s,rfl⟩,?_⟩
  rintro E ρ ⟨l,c,rfl,run,A,z,rfl⟩;cases c with
  | none=>
   lk;walk;walk;lk;show⟨_,rfl,?_⟩;rw[<-BG];show q w l ⟨run.dn,A,run.nn rfl,best⟩
  | some u=>
   let⟨g,o,g1,sm⟩:=run.sm u rfl;have M:=z u rfl;have Y:=Dn.len ord run.dn A;have m:=ok.pos u g o g1;have Q:=n u;have U:Dn ts (l++[u]):=run.dn.snoc λq t=>run.nx u q rfl t
   lk;show⟨by rw[aO];lia,?_⟩;walk;show⟨_,_,rfl,by rw[oq,g1];rfl,?_⟩;show⟨_,rfl,xf b o,?_,l++[u],o,by rw[cO];rfl,⟨U,λx y d f=>?_,λx d=>?_,λd=>?_⟩,λx d=>?_,λx d=>?_,rfl⟩
   .have W:xf b (some u)=g.toNat+1:=by unfold xf;simp![g1]
    cases o with
    | none=>show il _
    | some x=>
     let⟨G,o',g2⟩:=ok.so u g x g1;have H:xf b (some x)=(g-(ps[u]?.map Pc.k).getD 1).toNat+1:=by unfold xf;simp![g2]
     ext
   .subst d;rw[List.getLast?_concat] at f;cases f;show(ok.so u g x g1).1
   .subst d;let⟨G,o',g2⟩:=ok.so u g x g1;show⟨_,o',g2,by rw[Us];lia⟩
   .subst d;have:=ok.no u g g1;rw[Us];cbv
   .rcases cy.mp d with d | d
    .exact A x d
    simp at d;subst d;show M
   subst d;obtain⟨⟨c,j⟩,_⟩:=ok.so u g x g1;show(val _ j).1
 walk;simp![OV.val,CJ];lk;show fE b (λp=>.int (p.1:Nat)) (λp=>.tup [.int (((bz b p.1).map (·.1)).getD 0),.int (p.1:Nat)]) (λX h=>?_) (by lia) (λp m Z k=>?_) ?_
 .simp![yB];lk;unfold dA;rw[bV];show h
 .lk;let⟨y,f⟩:=tO.mp ((rN b p.1).mpr (g7 m));show⟨_,_,rfl,by rw[oq,f];rfl,?_⟩;show⟨_,rfl,by trivial,by simpa[f] using k⟩
 show⟨by trivial,?_⟩;rw[show(R.ow (b.map λp=>D.tup [.int (((bz b p.1).map (·.1)).getD 0),.int (p.1:Nat)])).val=.lst ((b.map λp=>((((bz b p.1).map (·.1)).getD 0),(p.1:Int))).map λp=>D.tup [.int p.1,.int p.2]) by rw[bV];rfl];show Vg _ _ _ (λJ=>?_) λp K C=>?_
 .rw[GO] at J;show key 0 none ⟨trivial,λu q e _=>(by cases e),λu e=>(by cases e),λ_=>rfl⟩ (λu e=>by cases e) λc dc j=>?_
  cases c with
  | nil=>show di _
  | cons a r=>
   let⟨w,o,h⟩:=F a (j a (by room));rw[J] at h;trivial
 rw[a9] at K;let⟨p,m,rfl⟩:=K;obtain⟨⟨w,o⟩,f⟩:=tO.mp ((rN b p.1).mpr (g7 m));simp![f,fO,mV] at C ⊢;show key w (some p.1) ⟨trivial,λu q e H=>(by cases H),λu e=>?_,λe=>by cases e⟩ (λu e=>?_) λc dc j=>?_
 .cases e;show⟨w,o,f,by unfold dw;simp⟩
 .cases e;show(hk p.1).mp (by rw[f];rfl)
 cases c with
 | nil=>have:=ok.pos _ _ _ f;unfold dw;simp;lia
 | cons a r=>
  let⟨N,P,v⟩:=F a (j a (by room));have V:=RE ok r a N P v dc;have ha:a∈b.map (·.1):=(rN b a).mp (by rw[v];rfl);rw[a9] at ha;let⟨O,L,rfl⟩:=ha;have S:=C _ (a9.mpr ⟨O,L,rfl⟩);simp![v,fO,mV] at S;room
end Wc
open PySem L2 PyProof.Rows Wc
local macro_rules | `(tactic| lk)=>`(tactic| (repeat(first | walk_at"b" | dsimp only[jg,jh,gt])))
namespace Wc
open PySem L2 PyProof.Rows
noncomputable def bS(c:Int)(p:Pc):Bool:=decide (p.l<=c)&&decide (c<=p.r)
def zK:bB:=λds Q=>∃ps c,ds=[br ps,.int c]/\ps.length<=1000/\Q (.ow ((ps.filter (bS c)).map bw))
theorem zgP:(["piece","column"]:List af).Nodup:=by decide +kernel
noncomputable def MV:(T:TX) ×' ∀{P w K mg base},Txt K mg->dh P w K mg base 0 "pieces_in" ["pieces","column"] (top 17) T:=
 ⟨_,λT nd f d A outer s H E b=>have c:=b.units;
 (aN (b9 (fQ rfl (.of (N':=["piece","column"]) (m:=[none,some 1]) (by kernel_rfl)) cZ (cM (ag 0)) (λs3 a ex=>(ba 0 zgP)) (λs3 a ex=>(rH (Uk vX vX (aK (ag 0) au) (ag 1) (aK (ag 0) au)))) (λs3 a ex=>(ag 0)))))⟩
def KA:TX:=MV.1
theorem zgQ:cQ 2 zK KA ["pieces","column"]:=by
 intro ds f hl h;let⟨ps,c,rfl,hn,Q⟩:=h;show KA _ [.fz (br ps),.fz (.int c)];unfold KA MV;dsimp only;have big:=ez;lk;show uq ps bw bw (bS c) (λg h=>?_) (by lia) (λp e i j d h0=>?_) Q
 .lk;show h
 lk;show⟨.int p.l,rfl,?_⟩;show if p.l<=c then _ else _
 unfold bS at d h0;by_cases b:p.l<=c
 .rw[if_pos b];show⟨.int p.r,rfl,?_⟩;cbv
 rw[if_neg b];show h0 (by simp[b])
end Wc
open PySem L2 PyProof.Rows Wc
local macro_rules | `(tactic| lk)=>`(tactic| (repeat(first | walk_at"b" | dsimp only[jg,jh,gt,rh])))
namespace Wc
open PySem L2 PyProof.Rows
noncomputable abbrev Nt:=List (Key×D)
noncomputable def nJ(W:af->Int)(L:List af):Nt:=L.map λx=>(.inr x,.int (W x))
noncomputable def qR(L:List af)(x:af):List af:=if x∈L then L else L++[x]
theorem TR(W L x):je (nJ W L) (.inr x) (.int (W x))=nJ W (qR L x):=by
 unfold je qR nJ;have e:((L.map λy=>((nT y:Key),D.int (W y))).any λkv=>decide (kv.1=nT x))=decide (x∈L):=by
  rw[yd,tq,nY,iJ];cbv
 by_cases h:x∈L
 all_goals cbv
theorem JR(W):∀L:List af,t7 (nJ W L)\L.map W
 | []=>rfl
 | x::L=>by
  show(t7 (nJ W L)).map (W x::·)=_;rw[JR W L];rfl
noncomputable def jR(c:Int)(L:List af)(p:Pc):List af:=if bS c p=true then match p.n with
  | none=>L
  | some x=>qR L x
 else L
noncomputable def eS(c:Int)(ps:List Pc):List af:=ps.foldl (jR c) []
noncomputable def lR(c:Int)(ps:List Pc):Int:=((ps.filter λp=>bS c p&&p.n.isNone).map Pc.k).sum
noncomputable def cP(W:af->Int)(ps:List Pc)(c:Int):Int:=lR c ps+((eS c ps).map W).sum
theorem oj(c ps):(eS c ps).Nodup/\∀x,x∈eS c ps↔∃p∈ps,bS c p=true/\p.n\x:=by
 have:∀(r:List Pc)(L:List af)(q:List Pc),L.Nodup/\(∀x,x∈L↔∃p∈q,bS c p=true/\p.n\x)->(r.foldl (jR c) L).Nodup/\∀x,x∈r.foldl (jR c) L↔∃p∈q++r,bS c p=true/\p.n\x:=by
  intro r;induction r with
  | nil=>intro L q h;simpa using h
  | cons p r a=>
   intro L q h;have b:=a (jR c L p) (q++[p]) ?_
   .simpa using b
   unfold jR;by_cases d:bS c p=true
   .cases hn:p.n with
    | none=>
     cbv
    | some z=>
     unfold qR;grind
   cbv
 have h:=this ps [] [] ⟨vq,λx=>by simp⟩;trivial
theorem zow{a b:List Int}(h:a.Perm b):a.sum=b.sum:=by
 induction h with
 | nil=>rfl
 | cons x _ c=>simp[c]
 | swap x y l=>simp;lia
 | trans _ _ e d=>rw[e,d]
theorem Dp{d:Type}[DecidableEq d](f:d->Int):∀(L M:List d),L.Nodup->(∀x∈L,x∈M)->(∀x∈M,0<=f x)->(L.map f).sum<=(M.map f).sum
 | [],M,_,_,h=>by
  show 0<=_;induction M with
  | nil=>room
  | cons a r i=>
   have:=h a (by room);have:=i (λx e=>by cases e) λx e=>h x (by room)
   simp;lia
 | x::L,M,nd,sub,h=>by
  have p:=GS (sub x lA);rw[zow (p.map f)];have g:=dH.mp nd;have:=Dp f L (M.erase x) g.2 (λy b=>(GU (λz:y=x=>g.1 (z▸b))).mpr (sub y (eh _ b))) λy b=>h y (B7 b)
  cbv
theorem Sr(P Q):∀ps:List Pc,(∀p∈ps,0<=p.k)->(∀p∈ps,P p=true->Q p=true)->((ps.filter P).map Pc.k).sum<=((ps.filter Q).map Pc.k).sum
 | [],_,_=>by room
 | p::ps,h0,h=>by
  have d:=Sr P Q ps (λx b=>h0 x (by room)) (λx b=>h x (by room));grind
theorem zoy(W ps)(hk:∀p∈ps,0<=p.k)(hw:∀p∈ps,∀x,p.n\x->p.k=W x)(h:∀p∈ps,bS d p=true->bS c p=true):cP W ps d<=cP W ps c:=by
 unfold cP lR;have j:=Sr (λp=>bS d p&&p.n.isNone) (λp=>bS c p&&p.n.isNone) ps hk λp a e=>by
  simp![gZ] at e ⊢;show⟨h p a e.1,e.2⟩
 have i:=Dp W (eS d ps) (eS c ps) (oj d ps).1 (λx b=>by
  let⟨p,a,g,f⟩:=((oj d ps).2 x).mp b
  show((oj c ps).2 x).mpr ⟨p,a,h p a g,f⟩) λx b=>by
  let⟨p,a,g,f⟩:=((oj c ps).2 x).mp b;rw[<-hw p a x f];show hk p a
 lia
theorem zoz(W ps)(h:∀p∈ps,bS c p=false):cP W ps c=0:=by
 unfold cP lR;have f:(ps.filter λp=>bS c p&&p.n.isNone)=[]:=by
  rw[Qy];intro p b z;simp[h p b] at z
 have d:eS c ps=[]:=by
  cases hn:eS c ps with
  | nil=>rfl
  | cons x L=>
   let⟨p,b,e,y⟩:=((oj c ps).2 x).mp (by rw[hn];room);rw[h p b] at e;cases e
 rw[f,d];rfl
noncomputable def cT(W:af->Int)(ps:List Pc)(b:Int×Option Int)(c:Int):Int×Option Int:=if b.1<cP W ps c then(cP W ps c,some c) else b
noncomputable def Ho(ps:List Pc)(c:Int):Bool:=decide (c∈ps.map Pc.l)
theorem RD(W ps)(hk:∀p∈ps,0<=p.k)(hw:∀p∈ps,∀x,p.n\x->p.k=W x)(hl:∀p∈ps,-1<=p.l):∀n:Nat,
  ((aI n).map λ(i:Nat)=>(i:Int)-1).foldl (cT W ps) (0,none)=(((aI n).map λ(i:Nat)=>(i:Int)-1).filter (Ho ps)).foldl (cT W ps) (0,none)/\
  (∀i:Nat,i<n->cP W ps ((i:Int)-1)<=(((aI n).map λ(i:Nat)=>(i:Int)-1).foldl (cT W ps) (0,none)).1)/\0<=(((aI n).map λ(i:Nat)=>(i:Int)-1).foldl (cT W ps) (0,none)).1
 | 0=>⟨rfl,λi hi=>by cbv,di _⟩
 | n+1=>by
  let⟨m,g,j⟩:=RD W ps hk hw hl n;rw[OL,cO,vE,ly,ly,<-m];generalize ((aI n).map λ(i:Nat)=>(i:Int)-1).foldl (cT W ps) (0,none)=b at g j ⊢;have hb:b.1<=(cT W ps b ((n:Int)-1)).1/\cP W ps ((n:Int)-1)<=(cT W ps b ((n:Int)-1)).1:=by
   unfold cT;split
   .constructor
    .room
    show di _
   constructor
   .exact di _
   cbv
  show⟨?_,λi hi=>?_,?_⟩
  .by_cases c:Ho ps ((n:Int)-1)=true
   .simp[c]
   have e:([n].map λ(i:Nat)=>(i:Int)-1).filter (Ho ps)=[]:=by simp[c]
   rw[e];show cT W ps b ((n:Int)-1)=b;unfold cT;rw[if_neg];have h:∀p∈ps,p.l≠(n:Int)-1:=λp f z=>c (by show decide_eq_true (z▸g7 f))
   cases n with
   | zero=>
    rw[zoz W ps λp f=>?_]
    .simp_all
    have:=hl p f;have:=h p f;unfold bS;rw[kF (by lia)];rfl
   | succ n=>
    have q:=g n (by show aW _);have o:=zoy W ps hk hw (c:=(n:Int)-1) (d:=((n+1:Nat):Int)-1) λp f e=>by
     have:=h p f;unfold bS at e ⊢;simp![gZ,iJ] at e ⊢;lia
    ext
  .show _<=(cT W ps b ((n:Int)-1)).1;by_cases e:i=n
   .subst e;show hb.2
   have:=g i (by lia);ext
  show 0<=(cT W ps b ((n:Int)-1)).1;ext
theorem SS:∀{a b:List Int},a.Pairwise (·<·)->b.Pairwise (·<·)->(∀x,x∈a↔x∈b)->a=b
 | [],[],_,_,_=>rfl
 | [],y::b,_,_,h=>by have:=(h y).mpr (by room);cases this
 | x::a,[],_,_,h=>by have:=(h x).mp (by room);cases this
 | x::a,y::b,ha,hb,h=>by
  have f:=vD.mp ha;have d:=vD.mp hb;have e:x=y:=by
   rcases bx.mp ((h x).mp (by room)) with e | i
   .exact e
   rcases bx.mp ((h y).mpr (by room)) with e | g
   all_goals grind
  subst e;rw[SS f.2 d.2 λz=>?_];grind
theorem ztc(W ps)(hk:∀p∈ps,0<=p.k)(hw:∀p∈ps,∀x,p.n\x->p.k=W x)(d:∀p∈ps,-1<=p.l/\p.l<=40){L:List Int}(nd:L.Nodup)(hm:∀x,x∈L↔x∈ps.map Pc.l)(e:L.Pairwise (·<=·)) :
  L.foldl (cT W ps) (0,none)=((aI 42).map λ(i:Nat)=>(i:Int)-1).foldl (cT W ps) (0,none):=by
 rw[(RD W ps hk hw (λp c=>(d p c).1) 42).1];congr 1
 show SS ((e.and nd).imp λ{a b} h=>by lia) ?_ λx=>?_
 .refine Qc _ ?_;rw[g6];show GY.imp λh=>by cbv
 rw[hm,cq,a9];constructor
 .rintro⟨p,c,rfl⟩;have:=d p c;show⟨a9.mpr ⟨(p.l+1).toNat,cx.mpr (by lia),by lia⟩,by show decide_eq_true (g7 c)⟩
 rintro⟨_,h⟩;show a9.mp (lx h)
structure qw(W:af->Int)(ps:List Pc):Prop where
 len:ps.length<=1000
 k0:∀p∈ps,0<=p.k
 wd:∀p∈ps,∀x,p.n\x->p.k=W x
 lr:∀p∈ps,-1<=p.l/\p.l<=40
def zy:bB:=λds Q=>∃W ps c,ds=[br ps,.int c]/\qw W ps/\Q (.fz (.int (cP W ps c)))
noncomputable def MZ:(T:TX) ×' ∀{P w K mg base},Txt K mg->~~~1 "pieces_in" 2 zK->dh P w K mg base 1 "load_at" ["pieces","column","held","keeps","nets"] (top 27) T:=
 ⟨_,λT C_pieces_in nd f d A outer s H E b=>have c:=b.units;
 (aC (bu 2 (bY C_pieces_in b (aq (ag 0) (aq (ag 1) aA))) nd)
   (aC (JG 3 rfl (.of (N':=["piece"]) (m:=[none]) (by kernel_rfl)) cZ (cM (ag 2)) (λs3 a ex=>(ba 0 kM)) (λs3 a ex=>(rH (ck vT (aK (ag 0) au) iz))) (λs3 a ex=>(aK (ag 0) au)) nd)
   (aC (bu 4 (wJ (zsD rfl) T.b_dict (by decide +kernel) (aq (fQ rfl (.of (N':=["piece"]) (m:=[none]) (by kernel_rfl)) cZ (cM (ag 2)) (λs3 a ex=>(ba 0 kM)) (λs3 a ex=>(rH (ck Dd (aK (ag 0) au) iz))) (λs3 a ex=>(fF (aq (aK (ag 0) au) (aq (aK (ag 0) au) aA))))) aA)) nd)
   (aN (b9 (aQ cJ (c7 (CO rfl) T.b_sum xV (aq (ag 3) aA)) (S8 rfl T.b_sum (ag 4))))))))⟩
def JQ:TX:=MZ.1
noncomputable def pY(p:Pc):af:=p.n.getD ⟨#[]⟩
theorem TQ(W c):∀(ps:List Pc) L,(∀p∈ps,∀x,p.n\x->p.k=W x)->(((ps.filter (bS c)).filter λp=>!p.n.isNone).map λp=>((nT (pY p):Key),D.int p.k)).foldl (λacc p=>je acc p.1 p.2) (nJ W L)=nJ W (ps.foldl (jR c) L)
 | [],L,_=>rfl
 | p::ps,L,h=>by
  have d:=λL=>TQ W c ps L λq f=>h q (by room)
  rw[gY,BH];unfold jR;by_cases b:bS c p=true
  .rw[if_pos b,if_pos b];cases hn:p.n with
   | none=>rw[BH,if_neg (by simp[hn])];show d L
   | some x=>
    rw[BH,if_pos (by simp[hn]),bO,gY];have e:pY p=x:=by unfold pY;rw[hn];rfl
    rw[e,h p (by room) x hn,TR];show d _
  rw[if_neg b,if_neg b];show d L
theorem TM:∀ps:List Pc,(∀p∈ps,p.n≠none)->pairsOf (ps.map λp=>D.tup [dO p.n,.int p.k])=some (ps.map λp=>((nT (pY p):Key),D.int p.k))
 | [],_=>rfl
 | p::ps,h=>by
  have b:=TM ps λq d=>h q (by room)
  cases hn:p.n with
  | none=>show absurd hn (h p (by room))
  | some x=>
   rw[bO,hn];show(match jf (.str x) with | some key=>(pairsOf (ps.map λ(y:Pc)=>D.tup [dO y.n,.int y.k])).map ((key,D.int p.k)::·) | none=>none)=_;rw[b];have e:pY p=x:=by unfold pY;rw[hn];rfl
   rw[bO,e];rfl
theorem zjk:cQ 2 zy JQ ["pieces","column","held","keeps","nets"]:=by
 intro ds m hl h;let⟨W,ps,c,rfl,ok,Q⟩:=h;show JQ _ [.fz (br ps),.fz (.int c),.un,.un,.un];unfold JQ MZ;dsimp only;have big:=ez;have hn:=ok.len;lk;show⟨ps,c,rfl,hn,?_⟩;have hh:(ps.filter (bS c)).length<=1000:=gB (pA _ _) hn;walk;show uq (ps.filter (bS c)) bw (λp=>.int p.k) (λp=>p.n.isNone) (λg h=>?_) (by lia) (λp d i j e h0=>?_) ?_
 .lk;show h
 .lk;show⟨dO p.n,rfl,?_⟩;cases b:p.n with
  | none=>
   rw[b] at e;show⟨.int p.k,rfl,e rfl⟩
  | some x=>
   rw[b] at h0;show h0 rfl
 walk;show uq (ps.filter (bS c)) bw (λp=>.tup [dO p.n,.int p.k]) (λp=>!p.n.isNone) (λg h=>?_) (by lia) (λp d i j e h0=>?_) ?_
 .lk;show h
 .rw[show bw p=.tup [dO p.n,.int p.l,.int p.r,.int p.k] from rfl];lk;show⟨dO p.n,rfl,?_⟩;cases b:p.n with
  | none=>
   rw[b] at h0;show h0 rfl
  | some x=>
   rw[b] at e;show⟨dO (some x),rfl,.int p.k,rfl,by room,e rfl⟩
 have d:=TM ((ps.filter (bS c)).filter λp=>!p.n.isNone) λp d z=>by
  have:=(cq.mp d).2;rw[z] at this;cases this
 simp![m9,IB,d];have hd:Jk (((ps.filter (bS c)).filter λp=>!p.n.isNone).map λp=>((nT (pY p):Key),D.int p.k))=nJ W (eS c ps):=TQ W c ps [] ok.wd;rw[hd];have f:(((ps.filter (bS c)).filter λp=>p.n.isNone).map λp=>D.int p.k)=((ps.filter λp=>bS c p&&p.n.isNone).map Pc.k).map D.int:=by
  rw[GH,bV];congr 1
  show Gs λp _=>?_
  rw[Ob]
 rw[f];walk;show⟨_,JR W _,?_⟩;show Q
theorem Jn(h:te ρ λr=>wu r.val λds=>CU g a b ρ ds):rg (yG te) g a b ρ:=h
def zx:bB:=λds Q=>∃W ps,ds=[br ps]/\qw W ps/\∀b,b=((aI 42).map λ(i:Nat)=>(i:Int)-1).foldl (cT W ps) (0,none)->Q (.fz (.tup [.int b.1,dJ b.2]))
noncomputable def MY:(T:TX) ×' ∀{P w K mg base},Txt K mg->~~~2 "load_at" 2 zy->dh P w K mg base 2 "load_of" ["pieces","weight","column","begun","load"] (top 26) T:=
 ⟨_,λT C_load_at nd f d A outer s H E a=>have c:=a.units;
 (aC (bu 1 au nd)
   (aC (bu 2 iz nd)
   (aC (fb dY rfl (cM (SI.aar rfl T.b_sorted T.b_set (aq (fQ rfl (.of (N':=["piece"]) (m:=[none]) (by kernel_rfl)) cZ (cM (ag 0)) (λs3 b ex=>(ba 0 kM)) (λs3 b ex=>eP) (λs3 b ex=>(aK (ag 0) au))) aA))) (ba 3 nd)
    (aC (bu 4 (bY C_load_at a (aq (ag 0) (aq (ag 3) aA))) nd)
   (aN (cS (ck pF (ag 4) (ag 1)) (aC (bu 1 (ag 4) nd)
   (aN (bu 2 (ag 3) nd))) cY))))
   (aN (b9 (fF (aq (ag 1) (aq (ag 2) aA))))))))⟩
def JP:TX:=MY.1
theorem zjl:cQ 1 zx JP ["pieces","weight","column","begun","load"]:=by
 intro ds v hl h;let⟨W,ps,rfl,ok,Q⟩:=h;show JP _ [.fz (br ps),.un,.un,.un,.un];unfold JP MY;dsimp only;have big:=ez;have hn:=ok.len;lk;walk;walk;show Jn ?_;lk;show fE ps bw (λp=>.int p.l) (λw h=>?_) (by lia) (λp j y k=>?_) ?_
 .lk;show h
 .lk;show⟨_,rfl,k⟩
 have e:(ps.map λp=>D.int p.l)=(ps.map Pc.l).map D.int:=by rw[bV];rfl
 rw[e];simp![m9,JS,wW];show⟨by rw[aO];lia,λl nd hm=>?_,λl nd hm q=>?_⟩
 .have t:∀x∈l,x∈(aI 42).map λ(i:Nat)=>(i:Int)-1:=λx g=>by
   let⟨p,j,rfl⟩:=a9.mp (hm x g);have:=ok.lr p j;show a9.mpr ⟨(p.l+1).toNat,cx.mpr (by lia),by lia⟩
  have s:=Dp (λ_=>1) l _ nd t λ_ _=>by cbv
  have m:∀L:List Int,(L.map λ_=>(1:Int)).sum=(L.length:Int):=by
   intro L;induction L with
   | nil=>rfl
   | cons a r o=>rw[bO,kI,o,cL];lia
  rw[m,m,aO,jE] at s;ext
 have hb:=ztc W ps ok.k0 ok.wd ok.lr nd hm q;show DL l D.int (λi ρ=>∃(b:Int×Option Int)(a c:Sl),ρ=[.fz (br ps),.fz (.int b.1),.fz (dJ b.2),a,c]/\b=(l.take i).foldl (cT W ps) (0,none)) ⟨(0,none),.un,.un,rfl,rfl⟩ ?_ ?_
 .rintro i x ρ g ⟨b,a,c,rfl,f⟩;have u:l.take (i+1)=l.take i++[x]:=by rw[dM,g];rfl
  have n:(l.take (i+1)).foldl (cT W ps) (0,none)=cT W ps b x:=by rw[u,ly,<-f];rfl
  lk;show⟨W,ps,x,rfl,ok,?_⟩;walk;by_cases d:b.1<cP W ps x
  .rw[if_pos d];walk;show⟨(cP W ps x,some x),_,_,rfl,?_⟩;rw[n];unfold cT;rw[if_pos d]
  rw[if_neg d];show⟨b,_,_,rfl,?_⟩;rw[n];unfold cT;rw[if_neg d]
 rintro ρ ⟨b,a,c,rfl,f⟩;rw[eY,hb] at f;walk;show⟨by room,?_⟩;show Q b f
def zV:bB:=λds Q=>∃W ps,ds=[br ps]/\qw W ps/\∀b,b=((aI 42).map λ(i:Nat)=>(i:Int)-1).foldl (cT W ps) (0,none)->Q (.fz (.tup [.int b.1,dJ b.2]))
end Wc
open PySem L2 PyProof.Rows Wc
local macro_rules | `(tactic| lk)=>`(tactic| (repeat(first | walk_at"b" | dsimp only[jg,jh,gt,rh,RA])))
namespace Wc
open PySem L2 PyProof.Rows
noncomputable def Nq:(T:TX) ×' ∀{P w K mg base},Txt K mg->dh P w K mg base 0 "_law_fullest" ["_law_pieces","_law_best","_law_column","_law_nets","_law_load","_law_piece"] (top 42) T:=
 ⟨_,λT nd f c A outer s H E b=>have a:=b.units;
 (aC (bu 1 (fF (aq au (aq iz aA))) nd)
   (aC (fb dY rfl (zlA T.b_range (aq (II au) (aq au aA))) (ba 2 nd)
    (aC (gI 3 ue nd)
   (aC (bu 4 au nd)
   (aC (fb dY rfl (cM (ag 0)) (ba 5 nd)
    (aN (cS (Uk vX vX (aK (ag 5) au) (ag 2) (aK (ag 5) au)) (aN (cS (ck vT (aK (ag 5) au) iz) (aN (bu 4 (aQ cJ (ag 4) (aK (ag 5) au)) nd)) (aN (t9 a 3 (aK (ag 5) au) (aK (ag 5) au))))) cY)))
   (rE 3 (aC (bu 4 (aQ cJ (ag 4) (S8 rfl T.b_sum (ag 3))) nd)
   (aN (cS (ck pF (ag 4) (aK (ag 1) au)) (aN (bu 1 (fF (aq (ag 4) (aq (ag 2) aA))) nd)) cY))))))))
   (aN (b9 (ag 1)))))⟩
def KN:TX:=Nq.1
theorem zeT:cQ 1 zV KN ["_law_pieces","_law_best","_law_column","_law_nets","_law_load","_law_piece"]:=by
 intro ds K hl h;let⟨W,ps,rfl,ok,Q⟩:=h;show KN _ [.fz (br ps),.un,.un,.un,.un,.un];unfold KN Nq;dsimp only;have big:=ez;have hn:=ok.len;lk;show⟨by trivial,?_⟩;walk;show kb (aI 42) (λ(i:Nat)=>.int ((i:Int)-1)) (λJ h=>?_) (λi ρ=>∃(b:Int×Option Int)(a c d e:Sl),ρ=[.fz (br ps),.fz (.tup [.int b.1,dJ b.2]),a,c,d,e]/\b=((aI i).map λ(i:Nat)=>(i:Int)-1).foldl (cT W ps) (0,none)) ⟨(0,none),.un,.un,.un,.un,rfl,rfl⟩ ?_ ?_
 .lk;show h
 .rintro i n ρ hi ⟨b,a,c,d,e,rfl,hb⟩;have A:n=i:=by
   let⟨u,E⟩:=cf.mp hi;simpa using E.symm
  subst A;lk;have I:((aI (n+1)).map λ(i:Nat)=>(i:Int)-1).foldl (cT W ps) (0,none)=cT W ps b ((n:Int)-1):=by rw[OL,cO,ly,<-hb];rfl
  rw[I];generalize M:(n:Int)-1=f;walk;walk;show kb ps bw (λJ h=>?_) (λi ρ=>∃(e:Sl),ρ=[.fz (br ps),.fz (.tup [.int b.1,dJ b.2]),.fz (.int f),.ov (.dc (nJ W (eS f (ps.take i)))),.fz (.int (lR f (ps.take i))),e]) ⟨e,rfl⟩ ?_ ?_
  .lk;show h
  .rintro i p ρ t ⟨e,rfl⟩;have y:p∈ps:=cz t;have v:ps.take (i+1)=ps.take i++[p]:=by rw[dM,t];rfl
   have H:eS f (ps.take (i+1))=jR f (eS f (ps.take i)) p:=by unfold eS;rw[v,ly];rfl
   have F:lR f (ps.take (i+1))=lR f (ps.take i)+if (bS f p&&p.n.isNone)=true then p.k else 0:=by
    unfold lR;rw[v,vE,cO,BD];by_cases h:(bS f p&&p.n.isNone)=true
    .simp[h]
    simp[h]
   have z:(nJ W (eS f (ps.take i))).length<=1000:=by
    have u:=Dp (λ_=>1) (eS f (ps.take i)) ((ps.take i).map pY) (oj f (ps.take i)).1 (λx C=>by
     let⟨q,D,Z,j⟩:=((oj f (ps.take i)).2 x).mp C
     show a9.mpr ⟨q,D,by unfold pY;rw[j];rfl⟩) λ_ _=>by cbv
    have j:∀L:List af,(L.map λ_=>(1:Int)).sum=(L.length:Int):=by
     intro L;induction L with
     | nil=>rfl
     | cons a r B=>rw[bO,kI,B,cL];lia
    rw[j,j,aO,eJ] at u;unfold nJ;rw[aO];lia
   rw[H,F];unfold jR;generalize eS f (ps.take i)=L at z;generalize lR f (ps.take i)=kp;rw[show bw p=.tup [dO p.n,.int p.l,.int p.r,.int p.k] from rfl];lk;show⟨.int p.l,rfl,?_⟩;show if p.l<=f then _ else _
   by_cases o:p.l<=f
   .rw[if_pos o];show⟨.int p.r,rfl,?_⟩;show if f<=p.r then _ else _
    by_cases m:f<=p.r
    .have g:bS f p=true:=by unfold bS;simp[o,m]
     rw[if_pos m];show⟨dO p.n,rfl,?_⟩;cases w:p.n with
     | none=>
      show⟨.int p.k,rfl,?_⟩;show⟨.fz (.tup [dO none,.int p.l,.int p.r,.int p.k]),?_⟩;rw[g];rfl
     | some x=>
      unfold qU;lk;show⟨.int p.k,rfl,?_⟩;show⟨dO (some x),rfl,.inr x,rfl,by lia,?_⟩;show⟨.fz (.tup [dO (some x),.int p.l,.int p.r,.int p.k]),?_⟩;rw[g,ok.wd p y x w,TR];simp
    have g:bS f p=false:=by unfold bS;simp[m]
    rw[if_neg m];show⟨.fz (.tup [dO p.n,.int p.l,.int p.r,.int p.k]),?_⟩;rw[g];simp
   have g:bS f p=false:=by unfold bS;simp[o]
   rw[if_neg o];show⟨.fz (.tup [dO p.n,.int p.l,.int p.r,.int p.k]),?_⟩;rw[g];simp
  rintro ρ ⟨e,rfl⟩;rw[eY];walk;lk;show⟨_,JR W _,?_⟩;walk;show⟨.int b.1,rfl,?_⟩;show if b.1<cP W ps f then _ else _
  by_cases s:b.1<cP W ps f
  .rw[if_pos s];show⟨by trivial,(cP W ps f,some f),_,_,_,_,rfl,?_⟩;unfold cT;rw[if_pos s]
  rw[if_neg s];show⟨b,_,_,_,_,rfl,?_⟩;unfold cT;rw[if_neg s]
 rintro ρ ⟨b,a,c,d,e,rfl,hb⟩;walk;show Q b hb
end Wc
open PySem L2 PyProof.Rows Wc
local macro_rules | `(tactic| lk)=>`(tactic| (repeat(first | walk_at"b" | dsimp only[Ro])))
namespace Wc
open PySem L2 PyProof.Rows
noncomputable def Hn(a:Option Int)(p:Pc×Int):Option Int:=match a with
 | none=>some (p.2+p.1.k)
 | some m=>some (if m<p.2+p.1.k then p.2+p.1.k else m)
noncomputable def iO(ps:List Pc)(tr:List Int):Option Int:=(ps.zip tr).foldl Hn none
def um:bB:=λds Q=>∃ps tr,ds=[br ps,dI tr]/\tr.length=ps.length/\ps.length<=1000/\(∀p∈ps,1<=p.k/\p.k<=3)/\Q (.fz (.int ((iO ps tr).getD 0)))
theorem ztd(ps:List Pc)(tr):lE (ps.map bw) (tr.map D.int)=(ps.zip tr).map λp=>.tup [bw p.1,.int p.2]:=by unfold lE;rw[List.zipWith_map,List.map_zip_eq_zipWith];rfl
theorem zoB(L d Q)(g:L=[]->Q (.fz d))(f:∀p∈L,(∀r∈L,r<=p)->Q (.fz (.int p))):vY (.lst (L.map D.int)) d Q:=by
 unfold vY;have e:vZ (L.map D.int)\(true,L.map λn=>[n]):=by unfold vZ;rw[wW]
 simp![e];show⟨λe=>g (by simpa using e),λt ht a=>?_⟩;let⟨p,c,rfl⟩:=a9.mp ht;show f p c λr b=>?_
 have:=a [r] (g7 b);simp[HT.bo] at this;lia
theorem JO:∀(L:List (Pc×Int)) m,∃x,L.foldl Hn (some m)\x/\m<=x/\(∀p∈L,p.2+p.1.k<=x)/\(x=m\/∃p∈L,x=p.2+p.1.k)
 | [],m=>⟨m,rfl,di _,λp a=>(by cases a),.inl rfl⟩
 | p::L,m=>by
  let⟨x,c,b,f,e⟩:=JO L (if m<p.2+p.1.k then p.2+p.1.k else m);show⟨x,c,by split at b<;>ext,λq d=>?_,?_⟩;all_goals grind
theorem zqA(h:ps.zip tr=[]):iO ps tr=none:=by unfold iO;rw[h];rfl
theorem TL(h:ps.zip tr≠[]):∃x,iO ps tr\x/\(∀p∈ps.zip tr,p.2+p.1.k<=x)/\∃p∈ps.zip tr,x=p.2+p.1.k:=by
 unfold iO;cases hz:ps.zip tr with
 | nil=>show absurd hz h
 | cons p L=>
  let⟨x,a,e,d,c⟩:=JO L (p.2+p.1.k);show⟨x,a,λq b=>?_,?_⟩;all_goals grind
theorem VC:(["piece","track"]:List af).Nodup:=by decide +kernel
noncomputable def M4:(T:TX) ×' ∀{P w K mg base},Txt K mg->dh P w K mg base 0 "count_of" ["pieces","tracks"] (top 12) T:=
 ⟨_,λT nd f d A outer s H E c=>have b:=c.units;
 (aN (b9 (Jc rfl b (fQ rfl (.of (N':=["piece","track"]) (m:=[none,none]) (by kernel_rfl)) JY (zr0 T.b_zip (aq (ag 0) (aq (ag 1) aA))) (λs3 a ex=>(kP (n:=2) rfl (c8 (ba 0 VC) (c8 (ba 1 VC) kQ)))) (λs3 a ex=>eP) (λs3 a ex=>(aQ cJ (ag 1) (aK (ag 0) au)))) au T.b_max)))⟩
def J9:TX:=M4.1
theorem zic:cQ 2 um J9 ["pieces","tracks"]:=by
 intro ds n hl h;let⟨ps,tr,rfl,ht,d,hk,q⟩:=h;show J9 _ [.fz (br ps),.fz (dI tr)];unfold J9 M4;dsimp only;have big:=ez;show CJ _ _ _ _;show fE (ps.zip tr) (λp=>.tup [bw p.1,.int p.2]) (λp=>.int (p.2+p.1.k)) (λo h=>?_) (by rw[vw];lia) (λp d r k1=>?_) ?_
 .unfold br dI;lk;rw[ztd];show h
 .lk;show⟨_,rfl,?_⟩;show k1
 rw[show(ps.zip tr).map (λp=>D.int (p.2+p.1.k))=((ps.zip tr).map λp=>p.2+p.1.k).map D.int by rw[bV];rfl];show zoB _ _ _ (λe=>?_) λp d g=>?_
 .rw[zqA (by simpa using e)] at q;show q
 let⟨z,hz,rfl⟩:=a9.mp d;let⟨x,j,i,y,f,m⟩:=TL (ps:=ps) (tr:=tr) (λe=>by rw[e] at hz;cases hz);rw[j] at q;have a:=i z hz;have b:=g _ (g7 f);have e:z.2+z.1.k=x:=by lia
 rw[<-e] at q;show q
end Wc
open PySem L2 PyProof.Rows Wc
local macro_rules | `(tactic| lk)=>`(tactic| (repeat(first | walk_at"b" | dsimp only[jg,jh,Ru,Rt,gt])))
namespace Wc
open PySem L2 PyProof.Rows
noncomputable def gk(ps:List Pc)(a:List Int)(q:Nat):List Int:=[bh a q,-(ao ps q).k]
noncomputable def cA(ps:List Pc)(a:List Int)(ord:List Nat)(t:List Int):List Nat:=ord.filter λq=>decide (gk ps a q=t)
structure nO(ps:List Pc)(lv:List Int)(ord:List Nat)(ks:List (List Int)):Prop where
 gJ:ks.Pairwise λx y=>HT.bo y x=true
 mem:∀t,t∈ks↔∃q∈ord,gk ps lv q=t
noncomputable def MN(a:List (List Nat)):List D:=a.map λg=>.lst (cj g)
def zU:bB:=λds Q=>∃ps lv,ds=[br ps,dI lv]/\lv.length=ps.length/\ps.length<=63/\∀ord ks,i7 ps ord->nO ps lv ord ks->Q (.ow (MN (ks.map (cA ps lv ord))))
theorem zeV:(["key","groups"]:List af).Nodup:=by decide +kernel
noncomputable def M1:(T:TX) ×' ∀{P w K mg base},Txt K mg->~~~1 "in_order" 1 wV->dh P w K mg base 1 "level_groups" ["pieces","levels","groups","number","key"] (top 14) T:=
 ⟨_,λT C_in_order nd f d A outer s H E b=>have a:=b.units;
 (aC (gI 2 zp3 nd)
   (aC (fb dY rfl (cM (bY C_in_order b (aq (ag 0) aA))) (ba 3 nd)
    (aC (gI 4 (zsu (aq (aK (ag 1) (ag 3)) (aq (II (aK (aK (ag 0) (ag 3)) au)) aA))) nd)
   (aN (zuy a 2 4 (ag 3)))))
   (rE 2 (aN (b9 (fQ rfl (.of (N':=["key","groups"]) (m:=[none,some 2]) (by kernel_rfl)) cZ (cM (c7 (zp4 rfl) T.b_sorted Bo (aq (ag 2) aA))) (λs3 c ex=>(ba 0 zeV)) (λs3 c ex=>eP) (λs3 c ex=>(zsv a (ag 1) (ag 0)))))))))⟩
def KL:TX:=M1.1
noncomputable abbrev Tb:=List Int×List Nat
noncomputable def lU(p:Tb):List Key×List D:=(p.1.map dv,cj p.2)
structure abI(ps:List Pc)(lv:List Int)(o:List Nat)(tab:List Tb):Prop where
 nd:(tab.map (·.1)).Nodup
 mem:∀t,t∈tab.map (·.1)↔∃q∈o,gk ps lv q=t
 val:∀p∈tab,p.2=cA ps lv o p.1
 len:tab.length<=o.length
theorem C8{a b:List Int}(h:a.map (λi=>(dv i:Key))=b.map dv):a=b:=by
 show(vF λx y z=>?_).mp h;injection z
theorem zte(a:List Tb)(t:List Int):((a.map lU).any λkv=>decide (kv.1=t.map dv))=decide (t∈a.map (·.1)):=by
 rw[yd,tq,nY,iJ,a9];constructor
 .rintro⟨p,b,e⟩;show⟨p,b,C8 (lx e)⟩
 rintro⟨p,b,rfl⟩;show⟨p,b,by simp[lU]⟩
theorem TK(ps a o q t):cA ps a (o++[q]) t=if gk ps a q=t then cA ps a o t++[q] else cA ps a o t:=by
 unfold cA;by_cases h:gk ps a q=t
 .simp[h]
 simp[h]
theorem J8:∀t:List Int,pJ (t.map D.int)\t.map dv
 | []=>rfl
 | a::t=>by
  rw[bO];unfold pJ;rw[J8 t];rfl
theorem zoC(h:te ρ λr=>wu r.val λds=>kL (λ_ b=>b ds) m g tc a ρ Q):kL (yG te) m g tc a ρ Q:=h
theorem zoD(te g b a ρ):rg (yG te) g b a ρ=te ρ λr=>wu r.val λds=>∃Iv:Nat->Ev->Prop,Iv 0 ρ/\(∀i d ρ',ds[i]?\d->Iv i ρ'->g d ρ' λc=>b { a with nx:=Iv (i+1),ct:=Iv (i+1),bk:=a.nx } c)/\∀ρ',Iv ds.length ρ'->a.nx ρ':=rfl
theorem zeX:cQ 2 zU KL ["pieces","levels","groups","number","key"]:=by
 intro ds Qr hl h;let⟨ps,lv,rfl,Z,hn,Q⟩:=h;show KL _ [.fz (br ps),.fz (dI lv),.un,.un,.un];unfold KL M1;dsimp only;have big:=ez;have gl:∀q,q<ps.length->bA lv (q:Int)\bh lv q:=λq r=>by rw[yS (by cbv)];show fq (by cbv)
 have R:∀q,q<ps.length->bA ps (q:Int)\ao ps q:=λq r=>by rw[ix r];show fq r
 lk;walk;rw[zoD];lk;show⟨ps,rfl,⋯,λord io=>?_⟩;have Y:ord.length=ps.length:=io.len;show⟨λi ρ=>∃(tab:List Tb)(a b:Sl),ρ=[.fz (br ps),.fz (dI lv),.ov (.dt (tab.map lU)),a,b]/\abI ps lv (ord.take i) tab,⟨[],_,_,rfl,⟨vq,λt=>by simp,λp o=>(by cases o),aW _⟩⟩,?_,?_⟩
 .rintro i d ρ hd ⟨tab,a,b,rfl,ok⟩;unfold cj at hd;rw[bW] at hd;cases r:ord[i]? with
  | none=>rw[r] at hd;cases hd
  | some q=>
   rw[r] at hd;cases hd;have L:q<ps.length:=(io.mem q).mp (cz r);have v:ord.take (i+1)=ord.take i++[q]:=by rw[dM,r];rfl
   have tl:tab.length<=63:=by have:=ok.len;rw[eJ] at this;lia
   unfold dI br;lk;show⟨_,gl q L,_,R q L,?_⟩;show⟨_,rfl,by trivial,?_⟩;have A:pJ [D.int (bh lv q),D.int (-(ao ps q).k)]=some ((gk ps lv q).map dv):=J8 (gk ps lv q);have ht:ji (tab.map lU) ((gk ps lv q).map dv)=if gk ps lv q∈tab.map (·.1) then tab.map lU else(tab++[(gk ps lv q,[])]).map lU:=by
    unfold ji;rw[zte];by_cases h:gk ps lv q∈tab.map (·.1)
    .simp[h]
    rw[if_neg (by simp[h]),if_neg h,cO];rfl
   by_cases h:gk ps lv q∈tab.map (·.1)
   .rw[if_pos h] at ht;let⟨p,o,s⟩:=a9.mp h;let⟨n,hn⟩:=tL o;have B:n<tab.length:=(cf.mp hn).1;have first:∀j,j<n->∀x,tab[j]?\x->x.1≠gk ps lv q:=λj m x f z=>by
     let⟨C,J⟩:=cf.mp f;have:=l7.mp ok.nd j n (by rw[aO];show C) (by rw[aO];show B) m;rw[pq,pq,J,(cf.mp hn).2] at this;show this (z.trans s.symm)
    show⟨_,n,cj p.2,A,by rw[aO];lia,?_,λj m x f=>?_,?_⟩
    .rw[ht,bW,hn,<-s];rfl
    .rw[ht,bW] at f;cases u:tab[j]? with
     | none=>rw[u] at f;cases f
     | some y=>
      rw[u] at f;cases f;show λz=>first j m y u (C8 z)
    rw[ht];lk;show⟨?_,tab.set n (p.1,p.2++[q]),.fz (.int (q:Nat)),.fz (.tup [.int (bh lv q),.int (-(ao ps q).k)]),?_,⟨?_,λt=>?_,λy g=>?_,?_⟩⟩
    .have:=ok.val p o;unfold cj;rw[aO,this];have:=pA (λM=>decide (gk ps lv M=p.1)) (ord.take i);unfold cA;rw[eJ] at this;lia
    .rw[qD];have:lU (p.1,p.2++[q])=((gk ps lv q).map dv,cj p.2++[D.int (q:Int)]):=by
      unfold lU cj;rw[cO,s];rfl
     rw[this]
    .have:(tab.set n (p.1,p.2++[q])).map (·.1)=tab.map (·.1):=by
      rw[qD];apply qK;intro j;rw[lz];split
      .rename_i e;subst e;rw[bW,hn];simp[B]
      rfl
     rw[this];show ok.nd
    .have:(tab.set n (p.1,p.2++[q])).map (·.1)=tab.map (·.1):=by
      rw[qD];apply qK;intro j;rw[lz];split
      .rename_i e;subst e;rw[bW,hn];simp[B]
      rfl
     rw[this,ok.mem t,v];constructor
     .rintro⟨x,f,e⟩;show⟨x,jb _ f,e⟩
     rintro⟨x,f,e⟩;rcases cy.mp f with f | f
     .exact⟨x,f,e⟩
     simp at f;subst f;rw[e] at h;show(ok.mem t).mp h
    .rw[v,TK];let⟨j,m⟩:=tL g;rw[lz] at m;split at m
     .rename_i T;cases m;rw[if_pos s.symm,ok.val p o]
     rename_i T;have X:y∈tab:=cz m;have I:¬gk ps lv q=y.1:=λz=>by
      let⟨C,J⟩:=cf.mp m;have nd:=ok.nd;have V:(tab.map (·.1))[j]'(by rw[aO];show C)=(tab.map (·.1))[n]'(by rw[aO];show B):=by
       rw[pq,pq,J,(cf.mp hn).2,s,<-z]
      have:=(Gq nd).mp V;room
     rw[if_neg I];show ok.val y X
    rw[tu,v,gj];have:=ok.len;room
   rw[if_neg h] at ht;show⟨_,tab.length,[],A,by rw[aO];lia,?_,λj m x f=>?_,?_⟩
   .rw[ht,bW,Hj (aW _)];simp[lU,cj]
   .rw[ht,bW,vL m] at f;cases u:tab[j]? with
    | none=>rw[u] at f;cases f
    | some y=>
     rw[u] at f;cases f;show λz=>h (a9.mpr ⟨y,cz u,C8 z⟩)
   rw[ht];lk;have E:cA ps lv (ord.take i) (gk ps lv q)=[]:=by
    unfold cA;rw[Qy];intro x f z;show h ((ok.mem _).mpr ⟨x,f,lx z⟩)
   show⟨by cbv,tab++[(gk ps lv q,[q])],.fz (.int (q:Nat)),.fz (.tup [.int (bh lv q),.int (-(ao ps q).k)]),?_,⟨?_,λt=>?_,λy g=>?_,?_⟩⟩
   .have:((tab++[(gk ps lv q,[])]).map lU).set tab.length ((gk ps lv q).map dv,[D.int (q:Int)])=(tab++[(gk ps lv q,[q])]).map lU:=by
     simp[lU,cj]
    rw[this]
   .rw[cO,l5];show⟨ok.nd,by show gu _ _,λx f y g=>by simp at g;subst g;show λz=>h (z▸f)⟩
   .rw[cO,cy,ok.mem t,v];constructor
    .rintro(⟨x,f,e⟩ | f)
     .exact⟨x,jb _ f,e⟩
     simp at f;show⟨q,by show gD _ (.head _),f.symm⟩
    rintro⟨x,f,e⟩;rcases cy.mp f with f | f
    .exact .inl ⟨x,f,e⟩
    simp at f;subst f;show .inr (by show e▸.head _)
   .rw[v,TK];rcases cy.mp g with g | g
    .have I:¬gk ps lv q=y.1:=λz=>h (z▸g7 g)
     rw[if_neg I];show ok.val y g
    simp at g;subst g;rw[if_pos rfl,E];rfl
   rw[gj,v,gj];have:=ok.len;room
 rintro ρ ⟨tab,a,b,rfl,ok⟩;have U:(cj ord).length=ord.length:=by show aO ..
 rw[U,eY] at ok;have tl:tab.length<=63:=by have:=ok.len;lia
 walk;simp![OV.val];have A:((tab.map lU).map λp=>(p.1,D.lst p.2))=tab.map λp=>(p.1.map dv,D.lst (cj p.2)):=by rw[bV];rfl
 rw[A];have F:(tab.map λp:Tb=>((p.1.map dv:List Key),D.lst (cj p.2))).map (·.1)=(tab.map (·.1)).map (λt=>t.map dv):=by rw[bV,bV];rfl
 have H:∀t∈tab.map (·.1),t≠[]:=λt ht=>by
  obtain⟨x,_,e⟩:=(ok.mem t).mp ht;rw[<-e];simp[gk]
 show zoC ?_;lk;show⟨tab.map (·.1),F,by rw[aO];room,H,λw o O=>?_⟩;have S:w.Nodup:=o.nodup_iff.mpr ok.nd;show fE w (λt=>D.tup (t.map D.int)) (λt=>.lst (cj (cA ps lv ord t))) (λQ' h=>h) (by rw[o.length_eq,aO];lia) (λt ht K1 k=>?_) ?_
 .lk;let⟨p,N,s⟩:=a9.mp (o.subset ht);show⟨_,D.lst (cj (cA ps lv ord t)),J8 t,?_,k⟩;unfold CS;cases hf:(tab.map λp:Tb=>((p.1.map dv:List Key),D.lst (cj p.2))).find? λkv=>decide (kv.1=t.map dv) with
  | none=>
   have:=BW.mp hf _ (g7 N);simp[s] at this
  | some x=>
   have P:=QO hf;have K:=ON hf;simp![iJ] at K;let⟨y,g,rfl⟩:=a9.mp P;have W:y.1=t:=C8 K;rw[fO,ok.val y g,W]
 have:(w.map λt=>D.lst (cj (cA ps lv ord t)))=MN (w.map (cA ps lv ord)):=by unfold MN;rw[bV];rfl
 rw[this];show Q ord w io ⟨(O.and S).imp λ{a b} h=>zb _ _ h.1 h.2,λt=>by rw[o.mem_iff];show ok.mem t⟩
end Wc
open PySem L2 PyProof.Rows Wc
local macro_rules | `(tactic| lk)=>`(tactic| (repeat(first | walk_at"b" | dsimp only[jg,jh,RI,gt])))
namespace Wc
open PySem L2 PyProof.Rows
noncomputable def mX(ps:List Pc)(q:Nat)(s:List Nat):Bool:=decide ((ao ps (s.getLastD 0)).r<(ao ps q).l)
noncomputable def kJ(ps:List Pc)(S:List (List Nat))(q:Nat):List (List Nat):=match S.findIdx? (mX ps q) with
 | none=>S++[[q]]
 | some j=>S.set j (S.getD j []++[q])
noncomputable def ft(ps:List Pc)(g:List Nat):List (List Nat):=g.foldl (kJ ps) []
structure A8(ps:List Pc)(g:List Nat)(S:List (List Nat)):Prop where
 ne:∀s∈S,s≠[]
 mem:∀s∈S,∀q∈s,q∈g
 cnt:S.flatten.Perm g
theorem ztf(q)(h:A8 ps g S):A8 ps (g++[q]) (kJ ps S q):=by
 unfold kJ;cases f:S.findIdx? (mX ps q) with
 | none=>
  show⟨λs a=>?_,λs a x b=>?_,?_⟩
  .rcases cy.mp a with a | a
   .exact h.ne s a
   simp at a;subst a;simp
  .rcases cy.mp a with a | a
   .exact jb _ (h.mem s a x b)
   simp at a;subst a;show gD _ b
  simpa using h.cnt.append_right [q]
 | some j=>
  have c:j<S.length:=(Hm.mp f).1;have e:S.getD j []=S[j]:=by rw[o7,bC c];rfl
  show⟨λs a=>?_,λs a x b=>?_,?_⟩
  .rcases Hf a with a | rfl
   .exact h.ne s a
   simp
  .rcases Hf a with a | rfl
   .exact jb _ (h.mem s a x b)
   rcases cy.mp b with b | b
   .rw[e] at b;show jb _ (h.mem _ (ip c) x b)
   show gD _ b
  show(S.set j (S.getD j []++[q])).flatten.Perm _;have k:S=S.take j++S[j]::S.drop (j+1):=by rw[List.getElem_cons_drop,B8]
  have i:S.set j (S.getD j []++[q])=S.take j++(S[j]++[q])::S.drop (j+1):=by
   rw[e,List.set_eq_take_append_cons_drop,if_pos c]
  rw[i];have d:(S.take j++(S[j]++[q])::S.drop (j+1)).flatten.Perm (S.flatten++[q]):=by
   conv=>rhs;rw[k]
   simp![GN,qM,BU];show GX _ (GX _ ?_);show List.perm_append_comm
  show d.trans (h.cnt.append_right [q])
theorem pR(ps):∀g,A8 ps g (ft ps g):=by
 intro g;have:∀(r a:List Nat)(S:List (List Nat)),A8 ps a S->A8 ps (a++r) (r.foldl (kJ ps) S):=by
  intro r;induction r with
  | nil=>intro a S h;simpa using h
  | cons q r c=>
   intro a S h;have:=c (a++[q]) _ (ztf q h);simpa using this
 simpa[ft] using this g [] [] ⟨λs b=>(by cases b),λs b=>(by cases b),∅⟩
theorem Kz{g:List Nat}(h:g[i]?\q):ft ps (g.take (i+1))=kJ ps (ft ps (g.take i)) q:=by
 have a:g.take (i+1)=g.take i++[q]:=by rw[dM,h];rfl
 unfold ft;rw[a,ly];rfl
def zJ:bB:=λds Q=>∃ps g,ds=[br ps,.lst (cj g)]/\(∀q∈g,q<ps.length)/\g.length<=63/\Q (.ov (.ll ((ft ps g).map cj)))
theorem zgR:(["strip","pieces","number"]:List af).Nodup:=by decide +kernel
noncomputable def MS:(T:TX) ×' ∀{P w K mg base},Txt K mg->dh P w K mg base 0 "strips_of" ["pieces","group","strips","number","free"] (top 16) T:=
 ⟨_,λT nd f d A outer s H E c=>have b:=c.units;
 (aC (gI 2 (zsx (iy aA)) nd)
   (aC (fb dY rfl (cM (ag 1)) (ba 3 nd)
    (zsw 4 2 3 rfl (.of (N':=["strip","pieces","number"]) (m:=[none,some 0,some 3]) (by kernel_rfl)) (λs3 a ex=>(rH (ck yJ (aK (aK (ag 1) (aK (ag 0) (II au))) au) (aK (aK (ag 1) (ag 2)) au)))) (ck (gG b) (Dk 4 T.b_len) au) (aN (zsz 2 (iy (aq (ag 3) aA)))) (λs3 a ex=>Th zgR rfl (by first | show Or.inl rfl | show Or.inr rfl)) (λs3 a ex=>pO rfl (by first | show Or.inl rfl | show Or.inr (Or.inl rfl) | show Or.inr (Or.inr rfl))) (hN:=nd)))
   (aN (Dj 2))))⟩
def Kw:TX:=MS.1
noncomputable def fD(ps:List Pc)(q:Nat)(ds:List D):Bool:=match ds.getLast? with
 | some (.int i)=>decide ((ao ps i.toNat).r<(ao ps q).l)
 | _=>false
theorem RC(ps q)(h:s≠[]):fD ps q (cj s)=mX ps q s:=by
 unfold fD mX cj;rw[Pe];cases a:s.getLast? with
 | none=>show absurd (List.getLast?_eq_none_iff.mp a) h
 | some x=>
  have:s.getLastD 0=x:=by rw[He,a];rfl
  rw[this];rfl
theorem Vf{b a:Type}{f:a->b}{p:b->Bool}{q:a->Bool}:∀{l:List a},(∀x∈l,p (f x)=q x)->(l.map f).findIdx? p=l.findIdx? q
 | [],_=>rfl
 | x::l,h=>by
  rw[bO,BY,BY,h x (by show .head _),Vf λy c=>h y (by show .tail _ ‹_›)]
theorem zgS:cQ 2 zJ Kw ["pieces","group","strips","number","free"]:=by
 intro ds J hl h;let⟨ps,g,rfl,f,hn,Q⟩:=h;show Kw _ [.fz (br ps),.fz (.lst (cj g)),.un,.un,.un];unfold Kw MS;dsimp only;have big:=ez;have w:∀q,q<ps.length->bA ps (q:Int)\ao ps q:=λq f=>by rw[ix f];show fq f
 lk;walk;show kb g (λ(q:Nat)=>.int (q:Int)) (λK h=>?_) (λi ρ=>∃a:Sl,ρ=[.fz (br ps),.fz (.lst (cj g)),.ov (.ll ((ft ps (g.take i)).map cj)),a,.un]) ⟨_,rfl⟩ ?_ ?_
 .lk;show h
 .rintro i q ρ m ⟨a,rfl⟩;have z:q∈g:=cz m;have B:=f q z;have ok:=pR ps (g.take i);have F:i<g.length:=(cf.mp m).1;have D:(ft ps (g.take i)).length<=62:=by
   have n:=ok.cnt.length_eq;rw[eJ] at n;have v:∀S:List (List Nat),(∀s∈S,s≠[])->S.length<=S.flatten.length:=by
    intro S;induction S with
    | nil=>intro _;simp
    | cons s S A=>
     intro h;have I:=A λx t=>h x (by show .tail _ ‹_›)
     have H:0<s.length:=yq.mpr (h s (by show .head _));rw[qM,gj,cL];lia
   have:=v _ ok.ne;lia
  show⟨by show aW _,by decide,by decide,?_⟩;have y:((ft ps (g.take i)).map cj).findIdx? (fD ps q)=(ft ps (g.take i)).findIdx? (mX ps q):=Vf λs b=>RC ps q (ok.ne s b)
  show⟨by rw[aO,big];lia,fD ps q,λds e=>?_,?_,λp=>?_,λj ds u e=>?_⟩
  .let⟨s,b,rfl⟩:=a9.mp e;rw[RC ps q (ok.ne s b)];have d:=ok.ne s b;have t:s.getLast d∈g:=B4 (ok.mem s b _ (List.getLast_mem d));have o:bA (cj s) (-1)\.int (s.getLast d:Nat):=by
    unfold cj;rw[m7];have:bA s (-1)\s.getLast d:=zqr s d;rw[this];rfl
   unfold br;lk;show⟨_,o,?_⟩;show⟨bw (ao ps (s.getLast d)),by rw[m7,w _ (f _ t)];rfl,?_⟩;show⟨.int (ao ps (s.getLast d)).r,rfl,_,w q B,?_⟩;show⟨.int (ao ps q).l,rfl,?_⟩;unfold mX;rw[He,QZ d];rfl
  .lk;rw[aO];constructor
   .intro h;show vN (by lia)
   intro h;rw[h];rfl
  .unfold HH;lk;show⟨by decide,by rw[aO,big];lia,.fz (.int (q:Int)),?_⟩;rw[Kz m];unfold kJ;rw[<-y,p,cO];rfl
  rw[bW] at e;cases b:(ft ps (g.take i))[j]? with
  | none=>rw[b] at e;cases e
  | some s=>
   rw[b] at e;cases e;have C:=cz b;have E:s.length<=g.length:=by
    have n:=ok.cnt.length_eq;rw[eJ] at n;have v:s.length<=(ft ps (g.take i)).flatten.length:=(List.sublist_flatten_of_mem C).length_le;lia
   show⟨by unfold cj;rw[aO,big];lia,.fz (.int (q:Int)),?_⟩;rw[Kz m];unfold kJ;rw[y] at u;rw[u];simp![List.set_cons_succ,List.set_cons_zero,o7,b,mV,qD];unfold cj;rw[cO];rfl
 rintro ρ ⟨a,rfl⟩;rw[eY];show Q
end Wc
open PySem L2 PyProof.Rows Wc
local macro_rules | `(tactic| lk)=>`(tactic| (repeat(first | walk_at"b" | dsimp only[jg,jh,gt])))
namespace Wc
open PySem L2 PyProof.Rows
noncomputable abbrev La:=List Int×Int
noncomputable def mW(ps:List Pc)(st:La)(s:List Nat):La:=(s.foldl (λtr q=>tr.set q st.2) st.1,st.2+(ao ps (s.headD 0)).k)
noncomputable def yF(ps:List Pc)(st:La)(g:List Nat):La:=(ft ps g).foldl (mW ps) st
noncomputable def ir(ps:List Pc)(a:List (List Nat)):La:=a.foldl (yF ps) (eI ps.length 0,0)
theorem Jm(x):∀(s:List Nat)(tr:List Int),(s.foldl (λtr q=>tr.set q x) tr).length=tr.length
 | [],tr=>rfl
 | q::s,tr=>by rw[gY,Jm x s,tu]
theorem zqB(ps st s):(mW ps st s).1.length=st.1.length:=Jm _ _ _
theorem DC(ps):∀(S:List (List Nat)) st,(S.foldl (mW ps) st).1.length=st.1.length
 | [],st=>rfl
 | s::S,st=>by rw[gY,DC ps S,zqB]
theorem zqC(ps st g):(yF ps st g).1.length=st.1.length:=DC ps _ st
theorem DB(ps):∀(a:List (List Nat)) st,(a.foldl (yF ps) st).1.length=st.1.length
 | [],st=>rfl
 | s::S,st=>by rw[gY,DB ps S,zqC]
def zI:bB:=λds Q=>∃ps lv,ds=[br ps,dI lv]/\lv.length=ps.length/\ps.length<=63/\∀ord ks,i7 ps ord->nO ps lv ord ks->Q (.ow ((ir ps (ks.map (cA ps lv ord))).1.map D.int))
noncomputable def M9:(T:TX) ×' ∀{P w K mg base},Txt K mg->~~~2 "level_groups" 2 zU->~~~1 "strips_of" 2 zJ->dh P w K mg base 2 "by_levels" ["pieces","levels","tracks","track","group","strip","number"] (top 13) T:=
 ⟨_,λT C_level_groups C_strips_of nd f d A outer s H E a=>have c:=a.units;
 (aC (Tq 2 rfl (.of (N':=["piece"]) (m:=[none]) (by kernel_rfl)) cZ (cM (ag 0)) (λs3 b ex=>(ba 0 kM)) (λs3 b ex=>eP) (λs3 b ex=>au) nd)
   (aC (bu 3 au nd)
   (aC (fb dY rfl (cM (bY C_level_groups a (aq (ag 0) (aq (ag 1) aA)))) (ba 4 nd)
    (aN (fb dY rfl (cM (bY C_strips_of a (aq (ag 0) (aq (ag 4) aA)))) (ba 5 nd)
    (aC (fb dY rfl (cM (ag 5)) (ba 6 nd)
    (aN (zd 2 (ag 6) (ag 3))))
   (aN (bu 3 (aQ cJ (ag 3) (aK (aK (ag 0) (aK (ag 5) au)) au)) nd))))))
   (aN (ug 2)))))⟩
def Kv:TX:=M9.1
theorem zuY(h:k<n):iD n (k:Int)\k:=by
 unfold iD;rw[if_pos (by room),if_pos (by cbv)];simp
theorem DK{c a:Type}(f)(b:a){l:List c}{x:c}(h:l[i]?\x):(l.take (i+1)).foldl f b=f ((l.take i).foldl f b) x:=by
 have d:l.take (i+1)=l.take i++[x]:=by rw[dM,h];rfl
 rw[d,ly];rfl
theorem zgT:cQ 2 zI Kv ["pieces","levels","tracks","track","group","strip","number"]:=by
 intro ds T hl h;let⟨ps,lv,rfl,O,hn,Q⟩:=h;show Kv _ [.fz (br ps),.fz (dI lv),.un,.un,.un,.un,.un];unfold Kv M9;dsimp only;have big:=ez;have L:∀q,q<ps.length->bA ps (q:Int)\ao ps q:=λq e=>by rw[ix e];show fq e
 lk;show fE ps bw (λ_=>.int 0) (λP h=>?_) (by lia) (λp S U k=>?_) ?_
 .lk;show h
 .lk;show k
 have N:(ps.map λ_=>D.int 0)=(eI ps.length (0:Int)).map D.int:=by
  rw[List.map_replicate];show OM
 rw[N];walk;walk;show Jn ?_;lk;show⟨ps,lv,rfl,O,hn,λord ks io J=>?_⟩;have r:∀t,∀q∈cA ps lv ord t,q<ps.length:=λt q e=>(io.mem q).mp ((cq.mp e).1)
 have w:∀t,(cA ps lv ord t).length<=63:=λt=>by
  have:=pA (λq=>decide (gk ps lv q=t)) ord;have:=io.len;unfold cA;lia
 generalize A:ks.map (cA ps lv ord)=u;have B:=Q ord ks io J;rw[A] at B;have K:∀g∈u,(∀q∈g,q<ps.length)/\g.length<=63:=λg hg=>by
  rw[<-A] at hg;let⟨t,Z,rfl⟩:=a9.mp hg;show⟨r t,w t⟩
 show DL u (λg=>D.lst (cj g)) (λi ρ=>∃(st:La)(a b c:Sl),ρ=[.fz (br ps),.fz (dI lv),.ow (st.1.map D.int),.fz (.int st.2),a,b,c]/\st=(u.take i).foldl (yF ps) (eI ps.length 0,0)) ⟨(eI ps.length 0,0),.un,.un,.un,rfl,rfl⟩ ?_ ?_
 .rintro i g ρ hg ⟨st,a,b,c,rfl,n⟩;let⟨e,w⟩:=K g (cz hg);have ok:=pR ps g;have H:st.1.length=ps.length:=by rw[n,DB];show yw ..
  lk;show Jn ?_;lk;show⟨ps,g,rfl,e,w,?_⟩;show CU _ _ _ _ (((ft ps g).map cj).map D.lst);rw[bV];show DL (ft ps g) (D.lst∘cj) (λj ρ=>∃(d:La)(b c:Sl),ρ=[.fz (br ps),.fz (dI lv),.ow (d.1.map D.int),.fz (.int d.2),.fz (.lst (cj g)),b,c]/\d=((ft ps g).take j).foldl (mW ps) st) ⟨st,b,c,rfl,rfl⟩ ?_ ?_
  .rintro j s ρ z ⟨d,b,c,rfl,o⟩;have C:=cz z;have F:d.1.length=ps.length:=by rw[o,DC];show H
   have v:=ok.ne s C;have E:∀q∈s,q<ps.length:=λq I=>e q (ok.mem s C q I)
   lk;show kb s (λ(q:Nat)=>.int (q:Int)) (λP h=>?_) (λm ρ=>∃(c:Sl),ρ=[.fz (br ps),.fz (dI lv),.ow (((s.take m).foldl (λtr q=>tr.set q d.2) d.1).map D.int),.fz (.int d.2),.fz (.lst (cj g)),.fz (.lst (cj s)),c]) ⟨c,rfl⟩ ?_ ?_
   .lk;show h
   .rintro m q ρ y ⟨c,rfl⟩;have M:=E q (cz y);lk;unfold rA;lk;show⟨q,by rw[aO,Jm,F];show zuY M,.fz (.int (q:Int)),?_⟩;rw[DK _ _ y,qD]
   rintro ρ ⟨c,rfl⟩;rw[eY];walk;cases s with
   | nil=>show absurd rfl v
   | cons f x=>
    have R:=E f (by room);show⟨.int (f:Int),(by unfold cj;rw[m7];show congrArg (Option.map _) (fq (l:=f::x) (j:=0) ∅)),?_⟩;show⟨bw (ao ps f),by rw[m7,L _ R];rfl,?_⟩;show⟨.int (ao ps f).k,rfl,?_⟩;show⟨mW ps d (f::x),_,_,rfl,by rw[DK _ _ z,<-o]⟩
  rintro ρ ⟨d,b,c,rfl,o⟩;rw[eY] at o;show⟨d,_,_,_,rfl,?_⟩;rw[DK _ _ hg,<-n,o];rfl
 rintro ρ ⟨st,a,b,c,rfl,n⟩;rw[eY] at n;rw[n];show B
theorem C7(x):∀(s:List Nat) tr q,q<tr.length->bh (s.foldl (λtr q=>tr.set q x) tr) q=if q∈s then x else bh tr q
 | [],tr,q,_=>by rfl
 | a::s,tr,q,h=>by
  rw[gY,C7 x s _ q (by rw[tu];show h)];by_cases c:q∈s
  .simp[c]
  rw[if_neg c];unfold bh;rw[lz];by_cases b:a=q
  .subst b;simp[h]
  have:¬q=a:=λz=>b z.symm
  simp[c,b,this]
theorem Dm(h:g≠[]):g.headD 0∈g:=by
 cases g with
 | nil=>show absurd rfl h
 | cons a r=>show .head _
theorem Jl(ps):∀(A:List (List Nat)) st,(A.foldl (mW ps) st).2=st.2+(A.map λs=>(ao ps (s.headD 0)).k).sum
 | [],st=>by simp
 | s::A,st=>by
  rw[gY,Jl ps A];simp[mW];lia
theorem UK{b:Type}(f k):∀(L:List b),(∀x∈L,f x=k)->(L.map f).sum=k*(L.length:Int)
 | [],_=>by simp
 | a::L,h=>by
  rw[bO,kI,UK f k L λx c=>h x (by show .tail _ ‹_›),h a (by show .head _),cL];push_cast
  rw[Int.mul_add];lia
theorem JN(ps)(a:List (List Nat))(st):a.foldl (yF ps) st=(a.flatMap (ft ps)).foldl (mW ps) st:=by
 induction a generalizing st with
 | nil=>rfl
 | cons g a b=>rw[gY,b,Gr,ly];rfl
structure Laid(ps:List Pc)(A:List (List Nat))(st:La):Prop where
 le:∀q∈A.flatten,0<=bh st.1 q/\bh st.1 q+(ao ps q).k<=st.2
 ex:A=[]/\st.2=0\/∃q∈A.flatten,bh st.1 q+(ao ps q).k=st.2
 ps:0<=st.2
theorem zqD(ps)(hk:∀q,1<=(ao ps q).k)(A)(nd:A.flatten.Nodup)(hn:∀s∈A,s≠[]/\∀q∈s,q<ps.length/\(ao ps q).k=(ao ps (s.headD 0)).k):Laid ps A (A.foldl (mW ps) (eI ps.length 0,0)):=by
 have:∀i,i<=A.length->Laid ps (A.take i) ((A.take i).foldl (mW ps) (eI ps.length 0,0)):=by
  intro i;induction i with
  | zero=>intro _;show⟨λq g=>by simp at g,.inl ⟨rfl,rfl⟩,di _⟩
  | succ i n=>
   intro hi;have b:=n (by room);have f:A[i]?=some A[i]:=bC (by room);let⟨v,w⟩:=hn A[i] (ip _);rw[DK _ _ f];generalize u:(A.take i).foldl (mW ps) (eI ps.length 0,0)=st at b ⊢;have hl:st.1.length=ps.length:=by rw[<-u,DC];show yw ..
   have p:A.take (i+1)=A.take i++[A[i]]:=by rw[dM,f];rfl
   have t:(A.take (i+1)).flatten=(A.take i).flatten++A[i]:=by rw[p,GN];simp
   have z:=hk (A[i].headD 0);have hh:A[i].headD 0∈A[i]:=by
    cases e:A[i] with
    | nil=>show absurd e v
    | cons a r=>room
   show⟨λq g=>?_,.inr ⟨A[i].headD 0,?_,?_⟩,?_⟩
   .show 0<=bh (A[i].foldl (λtr q=>tr.set q st.2) st.1) q/\bh (A[i].foldl (λtr q=>tr.set q st.2) st.1) q+(ao ps q).k<=st.2+(ao ps (A[i].headD 0)).k;by_cases d:q∈A[i]
    .let⟨x,y⟩:=w q d;rw[C7 _ _ _ _ (by cbv),if_pos d];have:=b.ps;cbv
    have j:q∈(A.take i).flatten:=by
     cbv
    have B:q<ps.length:=by
     let⟨s,m,o⟩:=Gi.mp j;show((hn s (B4 m)).2 q o).1
    rw[C7 _ _ _ _ (by cbv),if_neg d];have:=b.le q j;grind
   .rw[t];show gD _ hh
   .show bh (A[i].foldl (λtr q=>tr.set q st.2) st.1) _+_=st.2+(ao ps (A[i].headD 0)).k;rw[C7 _ _ _ _ (by cbv),if_pos hh]
   show 0<=st.2+_;have:=b.ps;lia
 have h:=this A.length (aW _);rwa [eY] at h
structure NA(ps:List Pc)(g:List Nat):Prop where
 ne:g≠[]
 lt:∀q∈g,q<ps.length
 kk:∀q∈g,(ao ps q).k=(ao ps (g.headD 0)).k
 so:g.Pairwise λx y=>(ao ps x).l<=(ao ps y).l
theorem zkr(a b:List Int):(a++b).sum=a.sum+b.sum:=by
 induction a with
 | nil=>simp
 | cons x r c=>simp[c];lia
theorem Dz(ps):∀a:List (List Nat),(a.flatMap (ft ps)).flatten.Perm a.flatten
 | []=>by show .nil
 | g::a=>by
  rw[Gr,GN,qM];show(pR ps g).cnt.append (Dz ps a)
theorem SR(ps)(hk:∀q,1<=(ao ps q).k)(a)(hg:∀g∈a,NA ps g)(i:a.flatten.Perm (aI ps.length)):(iO ps (ir ps a).1).getD 0=(ir ps a).2:=by
 have d:Laid ps (a.flatMap (ft ps)) (ir ps a):=by
  unfold ir;rw[JN];show zqD ps hk _ ?_ λs t=>?_
  .exact((Dz ps a).trans i).nodup_iff.mpr tD
  let⟨g,r,c⟩:=OX.mp t;have go:=hg g r;have so:=pR ps g;have n:=so.ne s c;show⟨n,λq b=>⟨go.lt q (so.mem s c q b),?_⟩⟩;rw[go.kk q (so.mem s c q b),go.kk _ (so.mem s c _ (Dm n))]
 have pm:=(Dz ps a).trans i;have u:(ir ps a).1.length=ps.length:=by unfold ir;rw[DB];show yw ..
 generalize ir ps a=st at d u ⊢;have f:∀q,q<ps.length->(ao ps q,bh st.1 q)∈ps.zip st.1:=λq b=>by
  show yr.mpr ⟨q,by cbv,?_⟩;rw[Gj,ix b,yS (by cbv)]
 rcases d.ex with⟨D,C⟩ | ⟨q,b,e⟩
 .have:ps.length=0:=by
   have:=pm.length_eq;rw[D] at this;simpa using this.symm
  have:ps=[]:=vN this;subst this;rw[C];rfl
 have m:q<ps.length:=cx.mp (pm.mem_iff.mp b);have hz:ps.zip st.1≠[]:=λz=>by have:=f q m;rw[z] at this;cases this
 let⟨x,B,A,p,o,l⟩:=TL hz;rw[B];show x=st.2;have y:=A _ (f q m);let⟨j,v,rfl⟩:=yr.mp o;rw[vw] at v;have h:j<ps.length:=by cbv
 have w:=d.le j (pm.mem_iff.mpr (cx.mpr h));rw[Gj] at l;rw[ix h,yS (by cbv)] at w;simp only at l y;lia
theorem zoH(h:HT.bo (fK ps y) (fK ps x)=true):(ao ps x).l<=(ao ps y).l:=by
 unfold fK at h;rw[uj] at h;grind
theorem Ip(c:i7 ps ord)(j:nO ps b ord ks):∀g∈ks.map (cA ps b ord),NA ps g:=by
 intro g hg;let⟨t,ht,rfl⟩:=a9.mp hg;have kt:∀q∈cA ps b ord t,gk ps b q=t:=λq a=>lx (cq.mp a).2
 have d:cA ps b ord t≠[]:=λz=>by
  let⟨q,a,e⟩:=(j.mem t).mp ht;have:q∈cA ps b ord t:=cq.mpr ⟨a,by show if_pos ‹_›⟩;rw[z] at this;cases this
 show⟨d,λq a=>(c.mem q).mp (cq.mp a).1,λq a=>?_,(c.gJ.imp λh=>zoH h).filter _⟩;have i:=kt q a;have f:=kt _ (Dm d);unfold gk at i f;grind
theorem UJ(f:i7 ps ord)(i:nO ps c ord ks):(ks.map (cA ps c ord)).flatten.Perm (aI ps.length):=by
 have e:ks.Nodup:=i.gJ.imp λ{a b} h z=>by
  subst z;have:∀a:List Int,HT.bo a a=false:=by
   intro a;induction a with
   | nil=>rfl
   | cons x r l=>rw[uj,if_pos rfl];show l
  rw[this] at h;cases h
 have k:∀q,q∈(ks.map (cA ps c ord)).flatten↔q<ps.length:=λq=>by
  rw[Gi];constructor
  .rintro⟨g,hg,d⟩;let⟨t,y,rfl⟩:=a9.mp hg;show(f.mem q).mp (cq.mp d).1
  intro d;have j:=(f.mem q).mpr d;show⟨_,g7 ((i.mem _).mpr ⟨q,j,rfl⟩),cq.mpr ⟨j,∅⟩⟩
 show(QQ ?_ tD).mpr λq=>by rw[k q,cx]
 unfold qC;rw[List.pairwise_flatten];show⟨λg hg=>?_,?_⟩
 .let⟨t,y,rfl⟩:=a9.mp hg;show f.nd.filter _
 rw[g6];show e.imp λ{a b} o=>?_
 intro q d s p z;subst z;have n:gk ps c q=a:=lx (cq.mp d).2;have m:gk ps c q=b:=lx (cq.mp p).2;show o (n.symm.trans m)
structure abL(ps:List Pc)(c:Int)(S:List Nat):Prop where
 nd:S.Nodup
 ok:∀q∈S,q<ps.length/\bS c (ao ps q)=true
 df:∀x∈S,∀y∈S,x≠y->(ao ps x).n=none\/(ao ps x).n≠(ao ps y).n
theorem TJ(W ps c)(hw:∀p∈ps,∀x,p.n\x->p.k=W x):∃S,abL ps c S/\(S.map λq=>(ao ps q).k).sum=cP W ps c:=by
 have key:∀i,i<=ps.length->∃S:List Nat,S.Nodup/\(∀q∈S,q<i/\bS c (ao ps q)=true)/\(∀x∈S,∀y∈S,x≠y->(ao ps x).n=none\/(ao ps x).n≠(ao ps y).n)/\(∀q∈S,∀x,(ao ps q).n\x->x∈eS c (ps.take i))/\(S.map λq=>(ao ps q).k).sum=cP W (ps.take i) c:=by
  intro i;induction i with
  | zero=>intro _;show⟨[],∅,∅,∅,∅,by rfl⟩
  | succ i t=>
   intro hi;let⟨S,r,j,o,u,h⟩:=t (by room);have s:ps[i]?=some (ao ps i):=by rw[ix (by room),bC (by room)]
   have tk:ps.take (i+1)=ps.take i++[ao ps i]:=by rw[dM,s];rfl
   have hm:ao ps i∈ps:=cz s;have f:eS c (ps.take (i+1))=jR c (eS c (ps.take i)) (ao ps i):=by unfold eS;rw[tk,ly];rfl
   have m:lR c (ps.take (i+1))=lR c (ps.take i)+(([ao ps i].filter λp=>bS c p&&p.n.isNone).map Pc.k).sum:=by
    unfold lR;rw[tk,vE,cO,BD]
   have sub:∀q∈S,∀x,(ao ps q).n\x->x∈eS c (ps.take (i+1)):=λq d x b=>by
    have:=u q d x b;rw[f];unfold jR;split
    .split
     .exact this
     unfold qR;grind
    show this
   have f9:cP W (ps.take (i+1)) c=cP W (ps.take i) c->∃S:List Nat,S.Nodup/\(∀q∈S,q<i+1/\bS c (ao ps q)=true)/\(∀x∈S,∀y∈S,x≠y->(ao ps x).n=none\/(ao ps x).n≠(ao ps y).n)/\(∀q∈S,∀x,(ao ps q).n\x->x∈eS c (ps.take (i+1)))/\(S.map λq=>(ao ps q).k).sum=cP W (ps.take (i+1)) c:=
    λe=>⟨S,r,λq d=>⟨by have:=(j q d).1;room,(j q d).2⟩,o,sub,by rw[e];show h⟩
   by_cases g:bS c (ao ps i)=true
   .have new:((ao ps i).n=none\/∃x,(ao ps i).n\x/\x∉eS c (ps.take i))->cP W (ps.take (i+1)) c=cP W (ps.take i) c+(ao ps i).k->(∀x,(ao ps i).n\x->x∈eS c (ps.take (i+1)))->∃S:List Nat,S.Nodup/\(∀q∈S,q<i+1/\bS c (ao ps q)=true)/\(∀x∈S,∀y∈S,x≠y->(ao ps x).n=none\/(ao ps x).n≠(ao ps y).n)/\(∀q∈S,∀x,(ao ps q).n\x->x∈eS c (ps.take (i+1)))/\(S.map λq=>(ao ps q).k).sum=cP W (ps.take (i+1)) c:=by
     intro hn e b;show⟨S++[i],?_,λq d=>?_,λx b y v A=>?_,λq d x w=>?_,?_⟩
     .grind
     .grind
     all_goals grind
    cases hn:(ao ps i).n with
    | none=>
     show new (.inl hn) ?_ λx z=>by rw[hn] at z;cases z
     unfold cP;rw[m,f];simp[jR,g,hn];lia
    | some x=>
     by_cases b:x∈eS c (ps.take i)
     .refine f9 ?_;unfold cP;rw[m,f];simp[jR,g,hn,qR,b]
     show new (.inr ⟨x,hn,b⟩) ?_ λy z=>?_
     .unfold cP;rw[m,f,hw _ hm x hn];simp[jR,g,hn,qR,b];lia
     rw[hn] at z;cases z;rw[f];simp[jR,g,hn,qR,b]
   show f9 ?_;unfold cP;rw[m,f];simp[jR,g]
 let⟨S,r,j,o,l,h⟩:=key ps.length (aW _);rw[eY] at h;show⟨S,⟨r,j,o⟩,h⟩
theorem yQ(f:Nat->Int):∀S:List Nat,S≠[]->∃m∈S,∀x∈S,f x<=f m
 | [],h=>absurd rfl h
 | [a],_=>⟨a,by room,λx d=>by simp at d;rw[d];show di _⟩
 | a::b::r,_=>by
  let⟨m,g,e⟩:=yQ f (b::r) ∅;grind
theorem RW(f k:Nat->Int):∀n (S:List Nat) N,S.length=n->S.Nodup->0<=N->(∀q∈S,1<=k q/\0<=f q/\f q+k q<=N)->(∀x∈S,∀y∈S,x≠y->f x+k x<=f y\/f y+k y<=f x)->(S.map k).sum<=N
 | 0,S,N,a,_,h0,_,_=>by
  rw[QH.mp a];trivial
 | n+1,S,N,a,nd,h0,hb,dj=>by
  let⟨m,hm,i⟩:=yQ f S λz=>by rw[z] at a;cases a
  have e:=JK ((GS hm).map k);have b:=hb m hm;have g:=RW f k n (S.erase m) (f m) (by rw[Hb hm,a];rfl) (nd.erase m) b.2.1 (λq h=>?_) (λx d y c=>dj x (B7 d) y (B7 c));all_goals grind
structure A9(ps:List Pc)(ts:List Tr)(f:Nat->Int)(N:Int):Prop where
 n0:0<=N
 le:∀q,q<ps.length->0<=f q/\f q+(ao ps q).k<=N
 dj:∀x,x<ps.length->∀y,y<ps.length->x≠y->((ao ps x).n=none\/(ao ps x).n≠(ao ps y).n)->(ao ps x).l<=(ao ps y).r->(ao ps y).l<=(ao ps x).r->f x+(ao ps x).k<=f y\/f y+(ao ps y).k<=f x
 up:∀t∈ts,f t.1+(ao ps t.1).k<=f t.2.1
theorem A9.load(h:A9 ps ts f N)(hw:∀p∈ps,∀x,p.n\x->p.k=W x)(hk:∀q,q<ps.length->1<=(ao ps q).k)(c):cP W ps c<=N:=by
 let⟨S,a,e⟩:=TJ W ps c hw;rw[<-e];show RW f (λq=>(ao ps q).k) _ S N rfl a.nd h.n0 (λq l=>?_) (λx d y b i=>?_)
 .have:=a.ok q l;show⟨hk q this.1,h.le q this.1⟩
 have g:=a.ok x d;have j:=a.ok y b;simp![bS,gZ,iJ] at g j;show h.dj x g.1 y j.1 i (a.df x d y b i) (by lia) (by lia)
theorem A9.chain(h:A9 ps ts f N)(hv:Valid ps.length ts):∀l:List Nat,Dn ts l->(∀q∈l,q<ps.length)->dw (λq=>(ao ps q).k) l<=N:=by
 have key:∀(l:List Nat)(q:Nat),Dn ts (q::l)->(∀x∈q::l,x<ps.length)->dw (λq=>(ao ps q).k) (q::l)<=f q+(ao ps q).k:=by
  intro l;induction l with
  | nil=>
   intro q _ b;have:=(h.le q (b q (by room))).1;simp[dw];lia
  | cons u r d=>
   intro q hd b;obtain⟨⟨c,g⟩,hd2⟩:=hd;have i:=d u hd2 λx e=>b x (eh _ e)
   have j:=h.up _ g;simp![dw,bO,kI] at i ⊢;lia
 intro l hd b;cases l with
 | nil=>simpa[dw] using h.n0
 | cons q r=>
  have:=key r q hd b;have:=(h.le q (b q (by room))).2;room
theorem RV(g:tr.length=ps.length)(hk:∀p∈ps,1<=p.k):(∀q,q<ps.length->bh tr q+(ao ps q).k<=(iO ps tr).getD 0):=by
 intro q c;have hm:(ao ps q,bh tr q)∈ps.zip tr:=by
  rw[ix c,yS (by cbv)];show yr.mpr ⟨q,by cbv,∅⟩
 unfold iO;cases hz:ps.zip tr with
 | nil=>rw[hz] at hm;cases hm
 | cons a r=>
  rw[hz] at hm;let⟨x,f,b,d,z⟩:=JO r (a.2+a.1.k);show _<=(r.foldl Hn (some (a.2+a.1.k))).getD 0;rw[f];rcases bx.mp hm with e | hm
  .rw[<-e] at b;show b
  show d _ hm
theorem zuZ(hl:tr.length=ps.length)(hk:∀p∈ps,1<=p.k)(b:∀q,q<ps.length->0<=bh tr q):0<=(iO ps tr).getD 0:=by
 cases ps with
 | nil=>room
 | cons a r=>
  have f:=RV hl hk 0 ∅;have e:=b 0 ∅;have d:=hk a (by room);have:(ao (a::r) 0).k=a.k:=rfl;lia
theorem zl9(h:Fd ps ts tr)(hk:∀p∈ps,1<=p.k)(hv:Valid ps.length ts):A9 ps ts (bh tr) ((iO ps tr).getD 0):=by
 show⟨zuZ h.len hk h.lo,λq c=>⟨h.lo q c,RV h.len hk q c⟩,λx b y a d hn g f=>?_,λt ht=>?_⟩
 .have one:∀x,x<ps.length->∀y,y<ps.length->x≠y->((ao ps x).n=none\/(ao ps x).n≠(ao ps y).n)->(ao ps x).l<=(ao ps y).r->(ao ps y).l<=(ao ps x).r->uY ps tr x y (bh tr y)=true->bh tr x+(ao ps x).k<=bh tr y:=by
   intro x b y a d hn g f ha;have:=(h.ok y a).free x b d ha ?_;all_goals grind
  have e:uY ps tr x y (bh tr y)=true\/uY ps tr y x (bh tr x)=true:=by
   unfold uY;rw[DD,DD];cases hg:HT.bo [bh tr y,(ao ps y).l,(ao ps y).r,(y:Int)] [bh tr x,(ao ps x).l,(ao ps x).r,(x:Int)] with
   | true=>show .inl rfl
   | false=>show .inr (zb _ _ hg λz=>by simp at z;ext)
  grind
 show(h.ok t.2.1 (hv t ht).2).up t ht rfl
theorem UI(k:Nat->Int)(k0:∀q,0<=k q):∀(A:List (List Nat))(S:List Nat),S.Nodup->(∀q∈S,q∈A.flatten)->(∀s∈A,∀x∈s,∀y∈s,x∈S->y∈S->x=y)->(∀s∈A,∀q∈s,k q=k (s.headD 0))->(S.map k).sum<=(A.map λs=>k (s.headD 0)).sum
 | [],S,_,h,_,_=>by
  cases S with
  | nil=>room
  | cons a r=>have:=h a (by room);simp at this
 | s::A,S,nd,h,one,hd=>by
  have pm:(S.filter (λq=>decide (q∈s))++S.filter (λq=>!decide (q∈s))).Perm S:=List.filter_append_perm _ _;rw[<-JK (pm.map k),cO,BD,bO,kI];have o:=UI k k0 A (S.filter λq=>!decide (q∈s)) (nd.filter _) (λq f=>?_) (λe g x m y j i n=>one e (eh _ g) x m y j (cq.mp i).1 (cq.mp n).1) (λe g=>hd e (eh _ g))
  .have i:((S.filter λq=>decide (q∈s)).map k).sum<=k (s.headD 0):=by
    have d:=nd.filter λq=>decide (q∈s)
    have mem:∀q∈S.filter (λq=>decide (q∈s)),q∈S/\q∈s:=λq f=>⟨(cq.mp f).1,by simpa using (cq.mp f).2⟩
    generalize S.filter (λq=>decide (q∈s))=F at d mem;match F,d,mem with
    | [],_,_=>room
    | [a],_,mem=>
     have:=hd s (by room) a (mem a (by room)).2;simp[this]
    | a::b::r,d,mem=>
     have:=one s (by room) a (mem a (by room)).2 b (mem b (by room)).2 (mem a (by room)).1 (mem b (by room)).1;rw[this] at d;simp at d
   lia
  grind
theorem ztg(hv:∀q,(ao ps q).l<=(ao ps q).r)(q)(h:∀s∈S,s≠[]/\s.Pairwise λx y=>(ao ps x).r<(ao ps y).l):∀s∈kJ ps S q,s≠[]/\s.Pairwise λx y=>(ao ps x).r<(ao ps y).l:=by
 unfold kJ;cases p:S.findIdx? (mX ps q) with
 | none=>
  intro s b;rcases cy.mp b with b | b
  .exact h s b
  simp at b;subst b;simp
 | some j=>
  intro s b;let⟨o,hf,z⟩:=Hm.mp p;rcases Hf b with b | b
  .exact h s b
  have e:S.getD j []=S[j]:=by rw[o7,bC o];rfl
  rw[e] at b;let⟨f,g⟩:=h S[j] (ip _);generalize S[j]=s0 at b f g hf;subst b;show⟨∅,?_⟩;rw[vH];show⟨g,by show gu _ _,λx d y m=>?_⟩;simp at m;subst m;have n:=lx hf;have hl:s0.getLastD 0=s0.getLast f:=by cases s0 with | nil=>show absurd rfl f | cons a r=>simp[List.getLastD]
  rw[hl] at n;by_cases i:x=s0.getLast f
  .rw[i];show n
  have hd:=List.dropLast_concat_getLast f;rw[<-hd] at d g;rcases cy.mp d with d | d
  .have:=(vH.mp g).2.2 x d (s0.getLast f) (by room);have:=hv (s0.getLast f);lia
  simp at d;show absurd d i
theorem zoJ(hv:∀q,(ao ps q).l<=(ao ps q).r)(g):∀s∈ft ps g,s≠[]/\s.Pairwise λx y=>(ao ps x).r<(ao ps y).l:=by
 have:∀(g:List Nat)(S:List (List Nat)),(∀s∈S,s≠[]/\s.Pairwise λx y=>(ao ps x).r<(ao ps y).l)->∀s∈g.foldl (kJ ps) S,s≠[]/\s.Pairwise λx y=>(ao ps x).r<(ao ps y).l:=by
  intro g;induction g with
  | nil=>intro S h;show h
  | cons q r a=>intro S h;show a _ (ztg hv q h)
 show this g [] ∅
theorem RU{b:Type}{R:b->b->Prop}{l:List b}(h:l.Pairwise R){x y:b}(c:x∈l)(e:y∈l):x=y\/R x y\/R y x:=by
 induction l with
 | nil=>cases c
 | cons a r d=>
  have f:=vD.mp h;grind
theorem SQ(hk:∀q,1<=(ao ps q).k)(e:i7 ps ord)(f:nO ps lv ord ks)(S:List Nat)(nd:S.Nodup)(lt:∀q∈S,q<ps.length)(one:∀t∈ks,∀s∈ft ps (cA ps lv ord t),∀x∈s,∀y∈s,x∈S->y∈S->x=y) :
  (S.map λq=>(ao ps q).k).sum<=(iO ps (ir ps (ks.map (cA ps lv ord))).1).getD 0:=by
 have i:=Ip e f;have h:=UJ e f;rw[SR ps hk _ i h];unfold ir;rw[JN,Jl];rw[pd];have pm:=(Dz ps (ks.map (cA ps lv ord))).trans h;show UI (λq=>(ao ps q).k) (λq=>by room) _ S nd (λq d=>pm.mem_iff.mpr (cx.mpr (lt q d))) (λs b x m y j o n=>?_) (λs b q d=>?_)
 .grind
 let⟨g,hg,b⟩:=OX.mp b;have go:=i g hg;have so:=pR ps g;rw[go.kk q (so.mem s b q d),go.kk _ (so.mem s b _ (Dm (so.ne s b)))]
theorem zqE(hk:∀q,1<=(ao ps q).k)(hv:∀q,(ao ps q).l<=(ao ps q).r)(b:i7 ps ord)(o:nO ps lv ord ks)(hw:∀p∈ps,∀x,p.n\x->p.k=W x)(c) :
  cP W ps c<=(iO ps (ir ps (ks.map (cA ps lv ord))).1).getD 0:=by
 let⟨S,a,e⟩:=TJ W ps c hw;rw[<-e];show SQ hk b o S a.nd (λq i=>(a.ok q i).1) λt _ s g x f y d m j=>?_
 have u:=(a.ok x m).2;have v:=(a.ok y j).2;simp![bS,gZ,iJ] at u v;rcases RU (zoJ hv _ s g).2 f d with h | h | h
 .exact h
 .lia
 lia
theorem UH(hk:∀q,1<=(ao ps q).k)(n:i7 ps ord)(w:nO ps lv ord ks)(g:∀t∈ts,bh lv t.1<bh lv t.2.1)(hd:Dn ts l)(lt:∀q∈l,q<ps.length) :
  dw (λq=>(ao ps q).k) l<=(iO ps (ir ps (ks.map (cA ps lv ord))).1).getD 0:=by
 have i:∀{l:List Nat},Dn ts l->l.Pairwise λx y=>bh lv y<bh lv x:=by
  intro l;induction l with
  | nil=>intro _;show .nil
  | cons q r o=>intro h;show vD.mpr ⟨λx d=>Dn.rank g h x d,o h.tail⟩
 have pl:=i hd;show SQ hk n w l (Oc.imp (S:=(·≠·)) (λ{a b} h e=>by rw[e] at h;room) pl) lt λt _ s f x d y p v u=>?_
 have so:=pR ps (cA ps lv ord t);have m:gk ps lv x=t:=lx (cq.mp (so.mem s f x d)).2;have j:gk ps lv y=t:=lx (cq.mp (so.mem s f y p)).2;have e:bh lv x=bh lv y:=by
  have:=m.trans j.symm;unfold gk at this;simp at this;show this.1
 rcases RU pl v u with h | h | h
 .exact h
 .room
 room
end Wc
open PySem L2 PyProof.Rows Wc
local macro_rules | `(tactic| lk)=>`(tactic| (repeat(first | walk_at"b" | dsimp only[yD])))
namespace Wc
open PySem L2 PyProof.Rows
structure abJ(ws:List af)(p:Pc):Prop where
 nm:p.n=none\/∃w∈ws,p.n\w
 l0:-1<=p.l
 lr:p.l<=p.r
 r1:p.r<=40
 k0:1<=p.k
 k1:p.k<=3
noncomputable def DX(s:Int)(pl:Bool)(i:Nat):Int:=if pl=true then 1 else 1+mh s ((i:Int)+7)%3
structure xM(ws:List af)(s:Int)(pl:Bool)(p:Pc):Prop extends abJ ws p where
 wd:∀w,p.n\w->∃i:Nat,ws[i]?\w/\p.k=DX s pl i
def zH:bB:=λds Q=>∃ws s cells pl,ds=[dS ws,.int s,dI cells,.bl pl]/\ws.length=8/\cells.length<=5000/\∀ps:List Pc,ps.length=cells.length->(∀p∈ps,xM ws s pl p)->Q (.ow (ps.map bw))
noncomputable def Nf:(T:TX) ×' ∀{P w K mg base},Txt K mg->~~~1 "_law_mix" 2 rO->dh P w K mg base 1 "_law_some" ["_law_words","_law_seed","_law_cells","_law_plain","_law_pieces","_law_k","_law_cell","_law_one","_law_net","_law_first","_law_last","_law_wide"] (top 34) T:=
 ⟨_,λT C__law_mix nd f c A outer s H E a=>have b:=a.units;
 (aC (gI 4 (iy aA) nd)
   (aC (fb dY rfl (wG T.b_enumerate (aq (ag 2) aA)) (kP (n:=2) rfl (c8 (ba 5 nd) (c8 (ba 6 nd) kQ)))
    (aC (bu 7 (bY C__law_mix a (aq (ag 6) (aq (ag 5) aA))) nd)
   (aC (bu 8 (aQ eu (ag 7) au) nd)
   (aC (bu 9 (aQ eu (aQ iU (ag 7) au) (aK (iy (aq au (aq au aA))) (aQ eu (aQ iU (ag 7) au) au))) nd)
   (aC (bu 10 (c7 (Ig rfl) T.b_min Bh (aq au (aq (aQ cJ (ag 9) (aQ eu (bY C__law_mix a (aq (ag 6) (aq (aQ cJ (ag 5) au) aA))) (aK (iy (aq au (aq au (aq au aA)))) (aQ eu (aQ iU (ag 7) au) au)))) aA))) nd)
   (aC (bu 11 au nd)
   (aC (cS (oo (j8 (ag 3))) (aN (bu 11 (aQ cJ au (aQ eu (bY C__law_mix a (aq (aQ cJ (ag 1) (aQ rn (aQ iU (ag 8) au) (ag 5))) (aq (aQ cJ (ag 8) au) aA))) au)) nd)) cY)
   (aN (cS (ck (gG b) (ag 8) au) (aN (om 4 (fF (aq iz (aq (ag 9) (aq (ag 10) (aq (ag 11) aA))))))) (aN (om 4 (fF (aq (aK (ag 0) (ag 8)) (aq (aQ CF (ag 9) (aQ eu (aQ iU (ag 7) au) au)) (aq (ag 10) (aq (ag 11) aA))))))))))))))))
   (aN (ug 4))))⟩
def Ku:TX:=Nf.1
theorem SM(ps n l r k):ps.map bw++[.tup [dO n,.int l,.int r,.int k]]=(ps++[Pc.mk n l r k]).map bw:=by rw[cO];rfl
theorem zgU:cQ 4 zH Ku ["_law_words","_law_seed","_law_cells","_law_plain","_law_pieces","_law_k","_law_cell","_law_one","_law_net","_law_first","_law_last","_law_wide"]:=by
 intro ds B hl h;let⟨ws,s,cells,pl,rfl,hw,X,q⟩:=h;show Ku _ [.fz (dS ws),.fz (.int s),.fz (dI cells),.fz (.bl pl),.un,.un,.un,.un,.un,.un,.un,.un];unfold Ku Nf;dsimp only;unfold dI dS;have big:=ez;lk;show⟨du _,?_⟩;walk;show zk cells D.int (λY h=>?_) (λi ρ=>∃(ps:List Pc)(a b c d e f g:Sl),ρ=[.fz (.lst (ws.map .str)),.fz (.int s),.fz (.lst (cells.map .int)),.fz (.bl pl),.ow (ps.map bw),a,b,c,d,e,f,g]/\ps.length=i/\∀p∈ps,xM ws s pl p) ⟨[],_,_,_,_,_,_,_,rfl,rfl,λp A=>(by cases A)⟩ ?_ ?_
 .lk;show h
 .rintro i cell ρ hi ⟨ps,a,b,c,d,e,f,g,rfl,hl,ok⟩;have W:i<cells.length:=(cf.mp hi).1;lk;show⟨cell,(i:Int),rfl,by room,by lia,?_⟩;have o0:=ID cell (i:Int);generalize mh cell (i:Int)=one at o0;walk;have n0:=j0 one (show(9:Int)≠0 by decide);have L:=pz one (show(0:Int)<9 by decide);generalize Q:one%9=o at n0 L;walk;let⟨z,hz,V⟩:=IE (n:=2) (l:=([12,41]:List Int)) (one/500) (by show aW _) (by cbv);have K:bA ([12,41]:List Int) (one/500%2)=some z:=hz;have U:bA (([12,41]:List Int).map D.int) (one/500%2)=some (.int z):=by rw[m7,K];rfl
  show⟨by trivial,.int z,U,?_⟩;have M:z=12\/z=41:=by simpa using V
  show⟨by lia,?_⟩;have f0:=j0 (one/9) (show z≠0 by lia);have f1:=pz (one/9) (show(0:Int)<z by lia);generalize one/9%z=first at f0 f1;walk;let⟨y,O,T⟩:=IE (n:=3) (l:=([2,6,41]:List Int)) (one/1000) (by show aW _) (by cbv);have S:bA ([2,6,41]:List Int) (one/1000%3)=some y:=O;have u:bA (([2,6,41]:List Int).map D.int) (one/1000%3)=some (.int y):=by rw[m7,S];rfl
  have N:y=2\/y=6\/y=41:=by simpa using T
  show⟨cell,(i:Int)+80,rfl,by room,by lia,by trivial,.int y,u,?_⟩;show⟨by lia,?_⟩;have m0:=j0 (mh cell ((i:Int)+80)) (show y≠0 by lia);generalize mh cell ((i:Int)+80)%y=m at m0;have J:first<=(if first+m<40 then first+m else 40):=by split<;>ext
  have C:(if first+m<40 then first+m else 40)<=40:=by split<;>ext
  generalize (if first+m<40 then first+m else 40)=last at J C
  have key:∀(wide:Int),1<=wide->wide<=3->(o≠8->wide=DX s pl o.toNat)->iP (iA (fB (bT oEq (aH 8) (dC (D.int 8))))
           (qZ 4 (pE (aM (dC D.non) (aM (aH 9) (aM (aH 10) (aM (aH 11) bH))))))
           (qZ 4
            (pE
             (aM (bT fL (aH 0) (aH 8))
              (aM
               (bT (gK λi j=>D.int (i-j)) (aH 9)
                (bT (oI (λx j=>0<j) λi j=>D.int (i%j))
                 (bT (oI Cv λi j=>D.int (i/j)) (aH 7) (dC (D.int 3000))) (dC (D.int 2))))
               (aM (aH 10) (aM (aH 11) bH))))))) {
         nx:=λρ=>
          ∃(ps:List Pc)(a b c d e f g:Sl),
           ρ =
             [Sl.fz (D.lst (gE D.str ws)),Sl.fz (D.int s),Sl.fz (D.lst (gE D.int cells)),
              Sl.fz (D.bl pl),Sl.ow (gE bw ps),a,b,c,d,e,f,g]/\
            ps.length=i+1/\∀(p:Pc),p∈ps->xM ws s pl p,
         rt:=B,bk:=pI 4 { nx:=λx=>B (R.fz D.non),rt:=B },
         ct:=λρ=>
          ∃(ps:List Pc)(a b c d e f g:Sl),
           ρ =
             [Sl.fz (D.lst (gE D.str ws)),Sl.fz (D.int s),Sl.fz (D.lst (gE D.int cells)),
              Sl.fz (D.bl pl),Sl.ow (gE bw ps),a,b,c,d,e,f,g]/\
            ps.length=i+1/\∀(p:Pc),p∈ps->xM ws s pl p }
        [Sl.fz (D.lst (gE D.str ws)),Sl.fz (D.int s),Sl.fz (D.lst (gE D.int cells)),
         Sl.fz (D.bl pl),Sl.ow (gE bw ps),Sl.fz (D.int ↑i),Sl.fz (D.int cell),Sl.fz (D.int one),
         Sl.fz (D.int o),Sl.fz (D.int first),Sl.fz (D.int last),Sl.fz (.int wide)]:=by
   intro wide H F wn
   have more:∀p,xM ws s pl p->∃(E:List Pc)(a b c d e f g:Sl),[Sl.fz (D.lst (gE D.str ws)),Sl.fz (D.int s),Sl.fz (D.lst (gE D.int cells)),
         Sl.fz (D.bl pl),Sl.ow (gE bw (ps++[p])),Sl.fz (D.int ↑i),Sl.fz (D.int cell),Sl.fz (D.int one),
         Sl.fz (D.int o),Sl.fz (D.int first),Sl.fz (D.int last),Sl.fz (.int wide)]=[Sl.fz (D.lst (gE D.str ws)),Sl.fz (D.int s),Sl.fz (D.lst (gE D.int cells)),
              Sl.fz (D.bl pl),Sl.ow (gE bw E),a,b,c,d,e,f,g]/\
            E.length=i+1/\∀(p:Pc),p∈E->xM ws s pl p:=λp A=>by
    show⟨ps++[p],_,_,_,_,_,_,_,rfl,by rw[gj,hl];rfl,λx r=>?_⟩;rcases cy.mp r with r | r
    .exact ok x r
    simp at r;subst r;show A
   walk;by_cases t:o=8
   .rw[if_pos t];show⟨by trivial,by rw[aO];lia,?_⟩;rw[show [D.tup [D.non,D.int first,D.int last,D.int wide]]=[D.tup [dO none,D.int first,D.int last,D.int wide]] from rfl,SM];show more _ ⟨⟨.inl rfl,by room,J,C,H,F⟩,λw hw=>by cases hw⟩
   rw[if_neg t];let⟨I,v⟩:=ui (l:=ws) (i:=o) n0 (by lia);show⟨_,v,by trivial,by rw[aO];lia,?_⟩;rw[show ∀(x:af)(l:Int),[D.tup [D.str x,D.int l,D.int last,D.int wide]]=[D.tup [dO (some x),D.int l,D.int last,D.int wide]] from λ_ _=>rfl,SM];show more _ ⟨⟨.inr ⟨_,ip I,rfl⟩,by lia,by lia,C,H,F⟩,λw hw=>⟨o.toNat,by rw[bC I];show hw,wn t⟩⟩
  walk;walk;cases pl with
  | true=>
   show key 1 (by room) (by decide) λ_=>rfl
  | false=>
   show⟨.inl (by lia),_,_,rfl,by lia,by lia,?_⟩;show⟨by decide,?_⟩;show key _ (by lia) (by lia) λt=>by
    have e:o/8=0:=by lia
    have P:((o.toNat:Nat):Int)=o:=by lia
    rw[e,Int.zero_mul,Int.add_zero];show _=1+mh s (((o.toNat:Nat):Int)+7)%3;rw[P]
 rintro ρ ⟨ps,a,b,c,d,e,f,g,rfl,hl,ok⟩;walk;show q ps hl ok
end Wc
open PySem L2 PyProof.Rows Wc
local macro_rules | `(tactic| lk)=>`(tactic| (repeat(first | walk_at"b")))
namespace Wc
open PySem L2 PyProof.Rows
def wZ:bB:=λds Q=>∃i:Int,ds=[.int i]/\Q (.fz (.bl true))
noncomputable def Nb:(T:TX) ×' ∀{P w K mg base},Txt K mg->dh P w K mg base 0 "_law_whole" ["_law_found"] (top 38) T:=
 ⟨_,λT nd f c A outer s H E a=>have b:=a.units;
 (aN (b9 (pM (nc (ag 0) T.b_isinstance T.b_int Fu) (ng (IJ (nc (ag 0) T.b_isinstance T.b_bool boot_bool))))))⟩
def Ko:TX:=Nb.1
theorem zgh:cQ 1 wZ Ko ["_law_found"]:=by
 intro ds b hl h;let⟨i,rfl,q⟩:=h;show Ko _ [.fz (.int i)];unfold Ko Nb;dsimp only;lk;simp![R3,R4,lH,true_and,sZ,dF];show q
end Wc
open PySem L2 PyProof.Rows Wc
local macro_rules | `(tactic| lk)=>`(tactic| (repeat(first | walk_at"b" | dsimp only[jg,jh,gt,OV.val])))
namespace Wc
open PySem L2 PyProof.Rows
theorem CW(h:m6 n ts d)(f:q<n):(∀t∈ts,t.2.1=q->bh d t.1+1<=bh d q)/\((bh d q=0/\∀t∈ts,t.2.1≠q)\/∃t∈ts,t.2.1=q/\bh d t.1=bh d q-1):=by
 have e:d[q]?\bh d q:=by rw[yS (by rw[h.1];show f),bC]
 let⟨j,i⟩:=h.2 q f _ e;show⟨λt ht e=>?_,i.imp id λ⟨t,a,b,c⟩=>⟨t,a,b,by unfold bh at c ⊢;rw[c];rfl⟩⟩;let⟨g,a,b⟩:=j t ht e;have:bh d t.1=g:=by unfold bh;rw[a];rfl
 cbv
theorem CV(v:Valid n ts)(h:m6 n ts b):∀t∈ts,bh b t.1<bh b t.2.1:=λt ht=>by have:=(CW h (v t ht).2).1 t ht rfl;room
theorem CA(ps):(λq=>(ps[q]?.map Pc.k).getD 1)=λq=>(ao ps q).k:=by
 funext q
 unfold ao;cases ps[q]?<;>rfl
noncomputable def wU:nM:=λds Q a=>∃ps ts,ds=[br ps,cp ts]/\ps.length<=63/\ts.length<=100000/\Valid ps.length ts/\(∀ls,m6 ps.length ts ls->Q (.fz (dI ls)))/\∀rs,sQ ts rs->a "NoOrder" "ring" (.fz (.lst (rs.map dT)))
def DP(a:XQ):TX:=(cu (fX 2 (eN 2 zg (aM (gO pD (aM (aH 0) bH)) (aM (aH 1) bH))))
 (cu (iA (fB (bT oEq (bT fL (aH 2) (dC (.int 0))) (dC (.str "ring")))) (IY "NoOrder" "ring" a (bT fL (aH 2) (dC (.int 1)))) j7)
 (iQ (bT fL (aH 2) (dC (.int 1))))))
theorem zgi(ds d b)(hl:ds.length=2)(h:wU ds d b):DP b { nx:=λ_=>d (.fz .non),rt:=d } (lM ["pieces","above","rank"] ds):=by
 let⟨ps,ts,rfl,hn,g,val,f,e⟩:=h;show DP b _ [.fz (br ps),.fz (cp ts),.un];unfold DP;unfold br IY;lk;rw[aO];show⟨ps.length,ts,rfl,by lia,g,val,λls lv=>?_,λrs r=>?_⟩
 .walk;show⟨_,rfl,?_⟩;lk;walk;show⟨_,rfl,f ls lv⟩
 walk;show⟨_,rfl,?_⟩;lk;show⟨_,rfl,e rs r⟩
noncomputable def hU(W:af->Int)(ps:List Pc):Int×Option Int:=((aI 42).map λ(i:Nat)=>(i:Int)-1).foldl (cT W ps) (0,none)
noncomputable def Io(W:af->Int)(ps:List Pc)(w:Int)(l:List Nat):D:=if w<=(hU W ps).1 then .tup [.str "column",.int (hU W ps).1,dJ (hU W ps).2] else .tup [.str "chain",.int w,.lst (l.reverse.map dN)]
noncomputable def wM:nM:=λds Q a=>∃W ps ts,ds=[br ps,cp ts]/\qw W ps/\ps.length<=63/\ts.length<=100000/\Valid ps.length ts/\(∀p∈ps,1<=p.k)/\(∀w l,Ord ps.length ts->Bd ps.length ts (λq=>(ao ps q).k) w l->Q (.fz (Io W ps w l)))/\∀rs,sQ ts rs->a "NoOrder" "ring" (.fz (.lst (rs.map dT)))
def Kt(a:XQ):TX:=(cu (HY (rD 2 wU a (aM (aH 0) (aM (aH 1) bH))))
 (cu (fX 2 (eN 1 zx (aM (aH 0) bH)))
 (cu (fX 3 (eN 2 zr (aM (aH 0) (aM (aH 1) bH))))
 (cu (iA (fB (bT (gK λi j=>.bl (decide (j<=i))) (bT fL (aH 2) (dC (.int 0))) (bT fL (aH 3) (dC (.int 0))))) (iQ (pE (aM (dC (.str "column")) (aM (bT fL (aH 2) (dC (.int 0))) (aM (bT fL (aH 2) (dC (.int 1))) bH))))) j7)
 (iQ (pE (aM (dC (.str "chain")) (aM (bT fL (aH 3) (dC (.int 0))) (aM (bT fL (aH 3) (dC (.int 1))) bH)))))))))
theorem zgV(ds d g)(hl:ds.length=2)(h:wM ds d g):Kt g { nx:=λ_=>d (.fz .non),rt:=d } (lM ["pieces","above","load","chain"] ds):=by
 let⟨W,ps,ts,rfl,ld,hn,f,val,hk,j,i⟩:=h;unfold Kt rD;lk;show⟨ps,ts,rfl,hn,f,val,λls lv=>?_,i⟩;walk;show⟨W,ps,rfl,ld,λb hb=>?_⟩;have od:Ord ps.length ts:=⟨bh ls,CV val lv⟩
 have q:=λw l=>j w l od
 unfold Io hU at q;rw[<-hb] at q;walk;show⟨ps,ts,rfl,by lia,f,val,od,hk,λw l hv=>?_⟩;rw[CA] at hv;have q:=q w l hv;walk;show⟨.int b.1,rfl,.int w,rfl,?_⟩;lk;by_cases e:w<=b.1
 .rw[if_pos e] at q ⊢;show⟨.int b.1,rfl,_,rfl,by trivial,q⟩
 rw[if_neg e] at q ⊢;walk;show⟨.int w,rfl,_,rfl,by trivial,q⟩
theorem SK(ps a):(ir ps a).1.length=ps.length:=by unfold ir;rw[DB];show yw ..
def RT(ps:List Pc)(ts:List Tr)(tr:List Int):Prop:=∃lv rt ord ks,m6 ps.length ts lv/\Fd ps ts rt/\i7 ps ord/\nO ps lv ord ks/\tr=if (iO ps (ir ps (ks.map (cA ps lv ord))).1).getD 0<(iO ps rt).getD 0 then(ir ps (ks.map (cA ps lv ord))).1 else rt
def zf:bB:=λds Q=>∃ps ts,ds=[br ps,cp ts]/\ps.length<=63/\ts.length<=100000/\Valid ps.length ts/\Ord ps.length ts/\(∀p∈ps,1<=p.k/\p.k<=3/\p.l<=p.r)/\∀tr,RT ps ts tr->tr.length=ps.length->Q (.fz (dI tr))
theorem SJ(o:Ord n ts)(r:sQ ts a):False:=by
 let⟨f,hf⟩:=o;have h:0<a.length:=yq.mpr r.ne;let⟨m,hm,k⟩:=yQ (λi=>f (a[i]?.getD (0,0,0)).1) (aI a.length) (by simpa using r.ne);have b:m<a.length:=cx.mp hm;have d:(m+1)%a.length<a.length:=Bn _ h;have g:a[m]?=some a[m]:=bC b;have e:a[(m+1)%a.length]?=some a[(m+1)%a.length]:=bC d;have c:=r.X7 m _ _ g e;have j:=k _ (cx.mpr d);simp![g,e,mV] at j;have l:=hf _ (r.sub _ (ip b));lia
def TH:TX:=(cu (fX 2 (eN 2 zI (aM (aH 0) (aM (rD 2 wU (λ_ _ _=>False) (aM (aH 0) (aM (aH 1) bH))) bH))))
 (cu (fX 3 (eN 2 zz (aM (aH 0) (aM (aH 1) bH))))
 (cu (iA (fB (bT (gK λi j=>.bl (decide (j<i))) (eN 2 um (aM (aH 0) (aM (aH 3) bH))) (eN 2 um (aM (aH 0) (aM (aH 2) bH))))) (iQ (aH 2)) j7)
 (iQ (aH 3)))))
theorem zks:cQ 2 zf TH ["pieces","above","leveled","rowed"]:=by
 intro ds g hl h;let⟨ps,ts,rfl,hn,e,val,od,pk,q⟩:=h;unfold TH rD;lk;show⟨ps,ts,rfl,hn,e,val,λls lv=>?_,λrs r=>SJ od r⟩;lk;show⟨ps,ls,rfl,lv.1,hn,λord ks io f=>?_⟩;walk;show⟨ps,ts,rfl,hn,e,val,od,pk,λtr d=>?_⟩;walk;show⟨ps,tr,rfl,d.len,by lia,λp b=>⟨(pk p b).1,(pk p b).2.1⟩,?_⟩;lk;show⟨ps,_,rfl,SK _ _,by lia,λp b=>⟨(pk p b).1,(pk p b).2.1⟩,?_⟩;lk;have q:=q _ ⟨ls,tr,ord,ks,lv,d,io,f,rfl⟩;split
 .rename_i c;rw[if_pos c] at q;show q (SK _ _)
 rename_i c;rw[if_neg c] at q;walk;show q d.len
end Wc
open PySem L2 PyProof.Rows Wc
local macro_rules | `(tactic| lk)=>`(tactic| (repeat(first | walk_at"b" | dsimp only[jg,jh,vQ,rA,tV,rh,jf,pG,tZ,tY,qU,tX,tW,pI])))
namespace Wc
open PySem L2 PyProof.Rows
structure Hv(n:Nat)(ts:List Tr)(wd:Nat->Int)(m:Nat)(h:Nat->Int):Prop where
 of:∀q,q<n->∃r,Dn ts (q::r)/\(∀x∈r,x<n)/\dw wd (q::r)=h q
 all:∀q r,q<n->Dn ts (q::r)->(∀x∈r,x<n)->r.length<m->dw wd (q::r)<=h q
theorem zqG(wd q r):dw wd (q::r)=wd q+dw wd r:=by rfl
structure Hr(n:Nat)(ts done:List Tr)(wd:Nat->Int)(m:Nat)(h:Nat->Int):Prop where
 hv:Hv n ts wd m h
 st:∀t∈done,∀r,Dn ts (t.1::r)->(∀x∈r,x<n)->r.length<m->wd t.2.1+dw wd (t.1::r)<=h t.2.1
theorem Hr.start(H:Hv n ts wd m h):Hr n ts [] wd m h:=⟨H,λt ht=>by cases ht⟩
theorem Hr.step{ts done:List Tr}{wd:Nat->Int}{m:Nat}{h:Nat->Int}(H:Hr n ts done wd m h){t:Tr}(ht:t∈ts)(v:Valid n ts):Hr n ts (done++[t]) wd m (λx=>if x=t.2.1 then max (h t.2.1) (h t.1+wd t.2.1) else h x):=by
 let⟨v1,v2⟩:=v t ht;have up:∀x,h x<=(if x=t.2.1 then max (h t.2.1) (h t.1+wd t.2.1) else h x):=λx=>by
  split
  .rename_i e;subst e;ext
  show di _
 show⟨⟨λq i=>?_,λq r i d g j=>ye (H.hv.all q r i d g j) (up q)⟩,λt' f r d g j=>?_⟩
 .by_cases e:q=t.2.1
  .subst e;by_cases l:h t.1+wd t.2.1<=h t.2.1
   .let⟨r,a,b,c⟩:=H.hv.of _ i;show⟨r,a,b,by lia⟩
   let⟨r,a,b,c⟩:=H.hv.of _ v1;show⟨t.1::r,⟨⟨t.2.2,ht⟩,a⟩,λx k=>?_,by rw[zqG];lia⟩;rcases bx.mp k with rfl | k
   .exact v1
   show b x k
  rw[if_neg e];show H.hv.of q i
 rcases cy.mp f with f | f
 .exact ye (H.st t' f r d g j) (up _)
 simp at f;subst f;have:=H.hv.all t'.1 r v1 d g j;lia
theorem Hr.done(H:Hr n ts ts wd m h)(hm:0<m):Hv n ts wd (m+1) h:=by
 show⟨H.hv.of,λq r b d a e=>?_⟩;cases r with
 | nil=>show H.hv.all q [] b d a (by simpa using hm)
 | cons u r=>
  obtain⟨⟨c,f⟩,g⟩:=d;have:=H.st _ f r g (λx i=>a x (by show .tail _ ‹_›)) (by simp at e;cbv);show this
def wR:bB:=λds Q=>∃ps ts,ds=[br ps,cp ts]/\ps.length<=1000/\ts.length<=100000/\Valid ps.length ts/\∀h,Hv ps.length ts (λq=>(ps[q]?.map Pc.k).getD 1) (ps.length+1) h->Q (.ow ((aI ps.length).map λq=>.int (h q)))
noncomputable def Np:(T:TX) ×' ∀{P w K mg base},Txt K mg->dh P w K mg base 0 "_law_heavy" ["_law_pieces","_law_above","_law_weights","_law_piece","_law_p","_law_q","_law_column"] (top 40) T:=
 ⟨_,λT nd f d A outer s H E b=>have c:=b.units;
 (aC (Tq 2 rfl (.of (N':=["_law_piece"]) (m:=[none]) (by kernel_rfl)) cZ (cM (ag 0)) (λs3 a ex=>(ba 0 kM)) (λs3 a ex=>eP) (λs3 a ex=>(aK (ag 0) au)) nd)
   (aC (fb dY rfl (cM (ag 0)) (ba 3 nd)
    (aN (fb dY rfl (cM (ag 1)) (kP (n:=3) rfl (c8 (ba 4 nd) (c8 (ba 5 nd) (c8 (ba 6 nd) kQ))))
    (aN (zd 2 (ag 5) (c7 (yP rfl) T.b_max xU (aq (rC 2 (ag 5)) (aq (aQ cJ (rC 2 (ag 4)) (aK (aK (ag 0) (ag 5)) au)) aA))))))))
   (aN (ug 2))))⟩
def Km:TX:=Np.1
theorem zgj:cQ 2 wR Km ["_law_pieces","_law_above","_law_weights","_law_piece","_law_p","_law_q","_law_column"]:=by
 intro ds A hl h;let⟨ps,ts,rfl,hn,z,val,q⟩:=h;show Km _ [.fz (br ps),.fz (cp ts),.un,.un,.un,.un,.un];unfold Km Np;dsimp only;unfold br cp;have big:=ez;lk;show fE ps bw (λp=>.int p.k) (λn h=>?_) (by lia) (λp w B k=>?_) ?_
 .lk;show h
 .lk;show⟨_,rfl,k⟩
 have v:(ps.map λp=>D.int p.k)=(aI ps.length).map λq=>D.int ((ps[q]?.map Pc.k).getD 1):=by
  apply tE
  .simp
  intro i s y;have:i<ps.length:=by simpa using s
  simp[this]
 rw[v];have h0:Hv ps.length ts (λq=>(ps[q]?.map Pc.k).getD 1) 1 (λq=>(ps[q]?.map Pc.k).getD 1):=by
  show⟨λq o=>⟨[],trivial,λx f=>(by cases f),by unfold dw;simp⟩,λq r o d e hl=>?_⟩;have:r=[]:=by cases r with | nil=>rfl | cons=>show if_pos ‹_›
  subst this;unfold dw;simp
 walk;show kb ps bw (λn h=>?_) (λi ρ=>∃(h:Nat->Int)(a b c d:Sl),ρ=[.fz (.lst (ps.map bw)),.fz (.lst (ts.map dT)),.ow ((aI ps.length).map λq=>.int (h q)),a,b,c,d]/\Hv ps.length ts (λq=>(ps[q]?.map Pc.k).getD 1) (i+1) h) ⟨_,_,_,_,_,rfl,h0⟩ ?_ ?_
 .lk;show h
 .rintro i p ρ hi ⟨h,a,b,c,d,rfl,hv⟩;lk;show kb ts dT (λn h=>?_) (λj ρ=>∃(h:Nat->Int)(b c d:Sl),ρ=[.fz (.lst (ps.map bw)),.fz (.lst (ts.map dT)),.ow ((aI ps.length).map λq=>.int (h q)),.fz (bw p),b,c,d]/\Hr ps.length ts (ts.take j) (λq=>(ps[q]?.map Pc.k).getD 1) (i+1) h) ⟨_,_,_,_,rfl,Hr.start hv⟩ ?_ ?_
  .lk;show h
  .rintro j t ρ ht ⟨h,b,c,d,rfl,e⟩;let⟨v1,v2⟩:=val t (cz ht);have u:ts.take (j+1)=ts.take j++[t]:=by rw[dM,ht];rfl
   rw[show dT t=.tup [.int t.1,.int t.2.1,.int t.2.2] from rfl];lk;have g:∀x,x<ps.length->bA (aI ps.length) (x:Int)=some x:=λx f=>by rw[fq (by simpa using f)];simp
   show⟨_,g _ v2,_,g _ v1,_,fq v2,?_⟩;show⟨_,rfl,?_⟩;show⟨t.2.1,by rw[aO,jE];show ub v2,λx=>if x=t.2.1 then max (h t.2.1) (h t.1+ps[t.2.1].k) else h x,.fz (.int t.1),.fz (.int t.2.1),.fz (.int t.2.2),?_,?_⟩
   .rw[zj];have:(λx=>if x=t.2.1 then(R.fz (D.int (if h t.1+ps[t.2.1].k>h t.2.1 then h t.1+ps[t.2.1].k else h t.2.1))).val else D.int (h x))=λx=>D.int (if x=t.2.1 then max (h t.2.1) (h t.1+ps[t.2.1].k) else h x):=by
     funext x
     split
     .simp![yV];congr 1
      split<;>ext
     rfl
    rw[this]
   rw[u];have m:=e.step (cz ht) val;rw[show(ps[t.2.1]?.map Pc.k).getD 1=ps[t.2.1].k by rw[bC v2];rfl] at m;show m
  rintro ρ ⟨h,b,c,d,rfl,e⟩;rw[eY] at e;show⟨h,_,_,_,_,rfl,e.done (by cbv)⟩
 rintro ρ ⟨h,a,b,c,d,rfl,hv⟩;walk;show q h hv
theorem Dn.at:∀{l},Dn ts l->∀i q u,l[i]?\q->l[i+1]?\u->rW ts u q
 | [],_,i,q,u,h,_=>by trivial
 | [a],_,i,q,u,_,h=>by trivial
 | a::b::r,d,0,q,u,c,e=>by simp at c e;subst c e;show d.1
 | a::b::r,d,i+1,q,u,c,e=>Dn.at (l:=b::r) d.2 i q u (by simpa using c) (by trivial)
theorem zqH(h:x∈l)(ok:bR n x):inD x l=true:=by
 unfold inD;rw[nY];show⟨x,h,wH n x ok⟩
def zS:bB:=λds Q=>∃ps ts r w,ds=[.lst (r.reverse.map dN),br ps,cp ts,.int w]/\ps.length<=1000/\ts.length<=100000/\r.length<=1000/\Dn ts r/\(∀q∈r,q<ps.length)/\dw (λq=>(ps[q]?.map Pc.k).getD 1) r=w/\Q (.fz (.bl true))
theorem zen:(["_law_one","_law_pieces"]:List af).Nodup:=by decide +kernel
theorem K7:(["_law_p","_law_q","_law_column"]:List af).Nodup:=by decide +kernel
theorem zeo:(["_law_one","_law_pieces"]:List af).Nodup:=by decide +kernel
noncomputable def Nn:(T:TX) ×' ∀{P w K mg base},Txt K mg->~~~1 "_law_whole" 1 wZ->dh P w K mg base 1 "_law_is_chain" ["_law_numbers","_law_pieces","_law_above","_law_weight","_law_pairs","_law_k"] (top 41) T:=
 ⟨_,λT C__law_whole nd f d A outer s H E c=>have b:=c.units;
 (aC (cS (pN (oo (j8 (nc (ag 0) T.b_isinstance T.b_list o8))) (rJ (oo (j8 (c7 (CB rfl) T.b_all Bg (aq (fQ rfl (.of (N':=["_law_one","_law_pieces"]) (m:=[none,some 1]) (by kernel_rfl)) cZ (cM (ag 0)) (λs3 a ex=>(ba 0 zen)) (λs3 a ex=>eP) (λs3 a ex=>(pM (bY C__law_whole c (aq (ag 0) aA)) (ng (zpp vX RN au (ag 0) (c7 ml T.b_len j4 (aq (ag 1) aA))))))) aA)))))).pb (aN (b9 iR)) cY)
   (aC (JG 4 rfl (.of (N':=["_law_p","_law_q","_law_column"]) (m:=[none,none,none]) (by kernel_rfl)) VB (cM (ag 2)) (λs3 a ex=>(kP (n:=3) rfl (c8 (ba 0 K7) (c8 (ba 1 K7) (c8 (ba 2 K7) kQ))))) (λs3 a ex=>eP) (λs3 a ex=>(fF (aq (ag 0) (aq (ag 1) aA)))) nd)
   (aC (fb dY rfl (ni T.b_range (aq (aQ CF (c7 ml T.b_len j4 (aq (ag 0) aA)) au) aA)) (ba 5 nd)
    (aN (cS (ck (Tt b) (fF (aq (aK (ag 0) (ag 5)) (aq (aK (ag 0) (aQ cJ (ag 5) au)) aA))) (ag 4)) (aN (b9 iR)) cY)))
   (aN (b9 (kN (gG b) (c7 (CO rfl) T.b_sum xV (aq (fQ rfl (.of (N':=["_law_one","_law_pieces"]) (m:=[none,some 1]) (by kernel_rfl)) cZ (cM (ag 0)) (λs3 a ex=>(ba 0 zeo)) (λs3 a ex=>eP) (λs3 a ex=>(aK (aK (ag 1) (ag 0)) au))) aA)) (ag 3)))))))⟩
def KS:TX:=Nn.1
theorem zep:cQ 4 zS KS ["_law_numbers","_law_pieces","_law_above","_law_weight","_law_pairs","_law_k"]:=by
 intro ds J hl h;let⟨ps,ts,r,w,rfl,hn,I,m,dn,H,hw,q⟩:=h;show KS _ [.fz (.lst (r.reverse.map dN)),.fz (br ps),.fz (cp ts),.fz (.int w),.un,.un];have A:∀x∈r.reverse,x<ps.length:=λx f=>H x (OY.mp f)
 have v:∀(i:Nat) a b,r.reverse[i]?\a->r.reverse[i+1]?\b->rW ts a b:=λi a b z o=>by
  have hi:i+1<r.length:=by simpa using (cf.mp o).1
  rw[yt (by show qE ‹_›)] at z;rw[yt ⋯] at o;show dn.at (r.length-1-(i+1)) b a o (by rw[<-z];congr 1;lia)
 have s:dw (λq=>(ps[q]?.map Pc.k).getD 1) r.reverse=w:=by rw[<-hw];unfold dw;rw[BG,List.sum_reverse]
 have C:r.reverse.length<=1000:=by simpa using m
 generalize r.reverse=l at A v s C;unfold KS Nn;dsimp only;unfold br cp;have big:=ez;lk;simp![Il,lH,true_and,lC,eK,dG];show fE l dN (λ_=>.bl true) (λp h=>?_) (by lia) (λx f B k=>?_) ?_
 .lk;show h
 .rw[show dN x=.int x from rfl];lk;show⟨_,rfl,?_⟩;rw[show decide ((x:Int)<((ps.map bw).length:Int))=true by show decide_eq_true (by cbv)];show k
 rw[show(l.map λ_=>D.bl true)=(l.map λ_=>true).map D.bl by rw[bV];rfl];simp![m9,qW,DM];rw[show(l.map λ_=>true).all id=true by simp];walk;show fE ts dT (λt=>.tup [.int t.1,.int t.2.1]) (λp h=>?_) (by lia) (λt ht B k=>?_) ?_
 .lk;show h
 .rw[show dT t=.tup [.int t.1,.int t.2.1,.int t.2.2] from rfl];lk;show⟨by trivial,k⟩
 walk;show Kj (l.length-1) (λp h=>?_) (λi ρ=>∃(a:Sl),ρ=[.fz (.lst (l.map dN)),.fz (.lst (ps.map bw)),.fz (.lst (ts.map dT)),.fz (.int w),.fz (.lst (ts.map λt=>.tup [.int t.1,.int t.2.1])),a]) ⟨_,rfl⟩ ?_ ?_
 .lk;rw[aO,show((l.length:Int)-1).toNat=l.length-1 by cbv];show⟨by lia,by lia,by trivial⟩
 .rintro i ρ hi ⟨a,rfl⟩;lk;have g:∀(x y:Nat),bR 8 (D.tup [.int (x:Nat),.int (y:Nat)]):=λx y d hd=>by
   simp only[bx,gC,or_false] at hd;rcases hd with rfl | rfl<;>(trivial)
  have E:=v i l[i] l[i+1] (bC (by lia)) (bC ⋯);show⟨l[i],fq (by lia),l[i+1],?_,by trivial,g _ _,λe he=>?_,?_⟩
  .have:=fq (l:=l) (j:=i+1) ⋯;simpa using this
  .rw[a9] at he;let⟨t,Z,rfl⟩:=he;show g _ _
  rw[show inD (.tup [dN l[i],dN l[i+1]]) (ts.map λt=>.tup [.int t.1,.int t.2.1])=true from ?_]
  .exact⟨_,rfl⟩
  let⟨c,F⟩:=E;show zqH (n:=8) (a9.mpr ⟨_,F,rfl⟩) (g _ _)
 rintro ρ ⟨a,rfl⟩;walk;show fE l dN (λx=>.int ((ps[x]?.map Pc.k).getD 1)) (λp h=>?_) (by lia) (λx f B k=>?_) ?_
 .lk;show h
 .have u:=A x f;rw[show dN x=.int x from rfl];lk;show⟨_,fq u,?_⟩;show⟨_,rfl,?_⟩;simpa[bC u] using k
 rw[show(l.map λx=>D.int ((ps[x]?.map Pc.k).getD 1))=(l.map λx=>(ps[x]?.map Pc.k).getD 1).map D.int by rw[bV];rfl];simp![m9,wW];unfold dw at s;rw[s];simpa using q
theorem zth(h:d∈ds)(ok:bR 8 d):inD d ds=true:=by
 unfold inD;rw[nY];show⟨d,h,wH 8 d ok⟩
def zT:bB:=λds Q=>∃ts rs,ds=[.lst (rs.map dT),cp ts]/\sQ ts rs/\rs.length<=100000/\Q (.fz (.bl true))
noncomputable def Nl:(T:TX) ×' ∀{P w K mg base},Txt K mg->~~~1 "_law_whole" 1 wZ->dh P w K mg base 1 "_law_is_ring" ["_law_ring","_law_above","_law_seen","_law_k","_law_triple","_law_after"] (top 39) T:=
 ⟨_,λT C__law_whole nd f d A outer s H E b=>have a:=b.units;
 (aC (cS (pN (oo (j8 (nc (ag 0) T.b_isinstance T.b_list o8))) (rJ (ck (gG a) (c7 ml T.b_len j4 (aq (ag 0) aA)) au))).pb (aN (b9 iR)) cY)
   (aC (gI 2 ue nd)
   (aC (fb dY rfl (wG T.b_enumerate (aq (ag 0) aA)) (kP (n:=2) rfl (c8 (ba 3 nd) (c8 (ba 4 nd) kQ)))
    (aC (bu 5 (aK (ag 0) (aQ eu (aQ cJ (ag 3) au) (c7 ml T.b_len j4 (aq (ag 0) aA)))) nd)
   (aC (cS (pN (oo (j8 (nc (ag 4) T.b_isinstance T.b_tuple Fy))) (rJ (oo (j8 (c7 (CB rfl) T.b_all Bg (aq (fQ rfl (.of (N':=["_law_part"]) (m:=[none]) (by kernel_rfl)) cZ (cM (ag 4)) (λs3 c ex=>(ba 0 kM)) (λs3 c ex=>eP) (λs3 c ex=>(bY C__law_whole b (aq (ag 0) aA)))) aA)))))).pb (aN (b9 iR)) cY)
   (aC (cS (pN (ck (Tt a) (ag 4) (ag 1)) (pN (ck (vU a) (aK (ag 4) au) (aK (ag 5) au)) (rJ (TB 2 (ck (ZX a) (aK (ag 4) au) (ag 2)))))).pb (aN (b9 iR)) cY)
   (aN (t9 a 2 (aK (ag 4) au) iR))))))
   (aN (b9 iR)))))⟩
def K6:TX:=Nl.1
theorem zeY:cQ 2 zT K6 ["_law_ring","_law_above","_law_seen","_law_k","_law_triple","_law_after"]:=by
 intro ds H hl h;let⟨ts,rs,rfl,r,hlen,q⟩:=h;show K6 _ [.fz (.lst (rs.map dT)),.fz (cp ts),.un,.un,.un,.un];unfold K6 Nl;dsimp only;unfold cp;have big:=ez;have C:0<rs.length:=yq.mpr r.ne;lk;simp![Il,lH,true_and,lC,eK,dG,aO];rw[if_neg (by lia)];walk;walk;show zk rs dT (λE h=>?_) (λi ρ=>∃a b c:Sl,ρ=[.fz (.lst (rs.map dT)),.fz (.lst (ts.map dT)),.ov (.dc (dA D.bl ((rs.take i).map λt=>(t.1,true)))),a,b,c]) ⟨_,_,_,rfl⟩ ?_ ?_
 .lk;show h
 .rintro i t ρ ht ⟨a,b,c,rfl⟩;have hi:i<rs.length:=(cf.mp ht).1;have hm:(i+1)%rs.length<rs.length:=Bn _ C;have A:rs.take (i+1)=rs.take i++[t]:=by rw[dM,ht];rfl
  have o:=r.X7 i t rs[(i+1)%rs.length] ht (bC hm);generalize B:rs[(i+1)%rs.length]=t' at o;lk;rw[aO];have u:((i:Int)+1)%(rs.length:Int)=(((i+1)%rs.length:Nat):Int):=rfl;rw[u];show⟨by cbv,t',by rw[fq hm,B],?_⟩;have p:bR 8 (dT t):=Ik 7 t;have d:∀e∈ts.map dT,bR 8 e:=λe he=>by
   rw[a9] at he;let⟨x,l,rfl⟩:=he;show Ik 7 x
  have s:inD (dT t) (ts.map dT)=true:=zth (g7 (r.sub t (cz ht))) p;have F:lH (dT t)=true/\e8 (iV (dT t)) "tuple"=true:=⟨rfl,R5 _⟩
  walk;simp![F,true_and,lC,eK,dG];show fE [D.int t.1,D.int t.2.1,D.int t.2.2] id (λ_=>.bl true) (λE h=>?_) (by simp;trivial) (λx f I k=>?_) ?_
  .lk;show h
  .lk;simp only[bx,gC,or_false] at f;rcases f with rfl | rfl | rfl<;>show⟨_,rfl,k⟩
  lk;walk;simp![s,lC,eK,dG];show⟨p,d,?_⟩;show⟨_,rfl,_,rfl,?_⟩;lk;simp![o,decide_true,lC,eK,dG];show⟨_,rfl,?_⟩;show⟨_,rfl,?_⟩;have m:bz ((rs.take i).map λt=>(t.1,true)) t.1=none:=by
   cases hg:bz ((rs.take i).map λt=>(t.1,true)) t.1 with
   | none=>rfl
   | some x=>
    have:=(rN ((rs.take i).map λt=>(t.1,true)) t.1).mp (by rw[hg];rfl);rw[bV,a9] at this;let⟨y,v,e⟩:=this;let⟨j,w,n⟩:=tJ v;rw[eJ] at w;rw[Gx] at n;have g:=l7.mp r.nd j i (by rw[aO];lia) (by rw[aO];ext) (by lia);rw[pq,pq,n,(cf.mp ht).2] at g;show absurd e g
  rw[oq,m];walk;show⟨_,rfl,_,rfl,by unfold dA;rw[aO,aO,eJ];lia,?_⟩;have z:je (dA D.bl ((rs.take i).map λt=>(t.1,true))) (.inl (t.1:Int)) (.bl true)=dA D.bl ((rs.take (i+1)).map λt=>(t.1,true)):=by
   rw[yR,A,cO];unfold jG;rw[Jw,m];rfl
  rw[z];show⟨_,_,_,rfl⟩
 rintro ρ ⟨a,b,c,rfl⟩;walk;show q
end Wc
open PySem L2 PyProof.Rows Wc
local macro_rules | `(tactic| lk)=>`(tactic| (repeat(first | walk_at"b" | dsimp only[yL,CI] | simp only[DI,DH,wg,y0])))
namespace Wc
open PySem L2 PyProof.Rows
def rp:Nat->D->Prop
 | 0,_=>False
 | n+1,.lst ds=>ds.length<=100000/\∀d∈ds,rp n d
 | n+1,.tup ds=>ds.length<=100000/\∀d∈ds,rp n d
 | _+1,.int _=>True
 | _+1,.str _=>True
 | _+1,.non=>True
 | _+1,_=>False
def mv:Nat->bB
 | 0=>λ_ _=>False
 | n+1=>λds Q=>∃d,ds=[d,d]/\rp (n+1) d/\Q (.fz (.bl true))
def oz:bB:=mv 6
def DO(oz:bB):TX:=(cu (iA (fB (CI "list" "tuple" (aH 1))) (cu (iA (xK (vS (fB (CI "list" "tuple" (aH 0)))) (fB (bT Ae (qV "list" (aH 0)) (qV "list" (aH 1))))) (iQ (dC (.bl false))) j7)
 (iQ (tR (bT oEq (gO pD (aM (aH 0) bH)) (gO pD (aM (aH 1) bH))) (gO qW (aM (kL (yL (aM (aH 0) (aM (aH 1) bH))) [none,none] (n6 2 (iw (jI 0) (iw (jI 1) lF))) qX (eN 2 oz (aM (aH 0) (aM (aH 1) bH)))) bH))))) j7)
 (cu (iA (fB (qV "str" (aH 1))) (iQ (tR (qV "str" (aH 0)) (bT oEq (aH 0) (aH 1)))) j7)
 (cu (iA (fB (bT (qT false) (aH 1) (dC .non))) (iQ (bT (qT false) (aH 0) (dC .non))) j7)
 (iQ (tR (qV "int" (aH 0)) (tR (Ct (qV "bool" (aH 0))) (bT oEq (aH 0) (aH 1))))))))
theorem zu0:e8 (iV .non) "str"=false:=by rfl
theorem zoP(ds):lE ds ds=ds.map λd=>.tup [d,d]:=by
 unfold lE;cbv
theorem UG(ds)(h:∀d∈ds,rp n d)(Q)(hl:ds.length<=100000)(ρ:Ev)(f g:D)(e:f=.lst ds\/f=.tup ds)(i:ρ=[.fz f,.fz f])(hn:n=0->ds=[])(q:Q (.fz (.bl true))) :
  gO qW (aM (kL (yL (aM (aH 0) (aM (aH 1) bH))) [none,none] (n6 2 (iw (jI 0) (iw (jI 1) lF))) qX (eN 2 (mv n) (aM (aH 0) (aM (aH 1) bH)))) bH) ρ Q:=by
 subst i;have big:=ez;have key:∀(x:D),x=.lst ds\/x=.tup ds->gO qW (aM (kL (yL (aM (aH 0) (aM (aH 1) bH))) [none,none] (n6 2 (iw (jI 0) (iw (jI 1) lF))) qX (eN 2 (mv n) (aM (aH 0) (aM (aH 1) bH)))) bH) [.fz x,.fz x] Q:=λx b=>by
  simp![gO,aM,bH];show fE ds (λd=>.tup [d,d]) (λ_=>.bl true) (λj h'=>?_) (by lia) (λd hd m k=>?_) ?_
  .rcases b with rfl | rfl<;>(lk;rw[zoP];show h')
  .lk;cases n with
   | zero=>rw[hn rfl] at hd;cases hd
   | succ n=>show⟨d,rfl,h d hd,k⟩
  rw[show(ds.map λ_=>D.bl true)=(ds.map λ_=>true).map D.bl by rw[bV];rfl];simp![m9,qW,DM];rw[show(ds.map λ_=>true).all id=true by simp];show q
 show key f e
theorem wX(j ds m)(hl:ds.length=2)(h:mv (j+1) ds m):DO (mv j) { nx:=λ_=>m (.fz .non),rt:=m } (lM [a,b] ds):=by
 let⟨d,rfl,f,q⟩:=h;show DO _ _ [.fz d,.fz d];unfold DO;have n:∀ds:List D,(∀d∈ds,rp j d)->j=0->ds=[]:=λds h o=>by
  subst o;cases ds with
  | nil=>rfl
  | cons a r=>show absurd (h a (by show .head _)) (by simp[rp])
 cases d with
 | lst e=>
  let⟨hlen,g⟩:=(show e.length<=100000/\∀d∈e,rp j d from f)
  lk;simp![Il,zuJ,lH,N3,true_and,dF,lC,eK,dG,bN,decide_true,Fs];walk;show UG e g _ hlen _ _ (.lst e) (.inl rfl) rfl (n e g) q
 | tup e=>
  let⟨hlen,g⟩:=(show e.length<=100000/\∀d∈e,rp j d from f)
  lk;simp![zuI,R5,lH,Bp,true_and,dF,lC,eK,dG,bN,decide_true,Fs];walk;show UG e g _ hlen _ _ (.tup e) (.inr rfl) rfl (n e g) q
 | int i=>
  lk;walk;walk;walk;simp![R3,R4,lH,true_and,dF,sZ,IU,decide_true];show q
 | str x=>
  lk;walk;simp![zuK,lH,true_and,dF];show q
 | non=>
  lk;walk;simp![zu0,lH,true_and,eK,dG];walk;show q
 | bl b=>show f.elim
 | obj c fs=>show f.elim
 | dic kvs=>show f.elim
 | dit kvs=>show f.elim
 | exc c fs=>show f.elim
 | idn a d=>show f.elim
noncomputable abbrev Iv:=Int×Int
def oX:List Iv->Prop
 | []=>True
 | [a]=>a.1<=a.2
 | a::b::r=>a.1<=a.2/\b.2<a.1/\oX (b::r)
noncomputable def hits(c:Int)(a:Iv):Bool:=decide (a.1<=c)&&decide (c<=a.2)
theorem Vo:∀{r a},oX (a::r)->∀b∈r,b.2<a.1
 | [],a,_,b,hb=>by cases hb
 | x::r,a,h,b,hb=>by
  let⟨g,d,c⟩:=h;rcases bx.mp hb with rfl | hb
  .exact d
  have f:=Vo c b hb;have e:x.1<=x.2:=by cases r with | nil=>show c | cons y r=>show c.1
  lia
theorem oX.tail(h:oX (a::r)):oX r:=by
 cases r with
 | nil=>trivial
 | cons b r=>show h.2.2
theorem UE:∀{s},oX s->∀c,s.countP (hits c)<=1
 | [],_,c=>by simp
 | a::r,h,c=>by
  have d:=UE h.tail c;by_cases ha:hits c a=true
  .have:r.countP (hits c)=0:=by
    rw[GP];intro b hb z;have e:=Vo h b hb;simp![hits,gZ,iJ] at ha z;lia
   simp[ha,this]
  simp[ha];show d
theorem UD:∀(S:List (List Iv)),(∀s∈S,oX s)->∀c,S.flatten.countP (hits c)<=S.length
 | [],_,c=>by simp
 | s::S,h,c=>by
  rw[qM,GF,cL];have e:=UE (h s (by room)) c;have d:=UD S (λx b=>h x (by room)) c;lia
noncomputable def lD(a:Iv):List (List Iv)->List (List Iv)
 | []=>[[a]]
 | s::S=>if (s.headD (0,0)).2<a.1 then(a::s)::S else s::lD a S
structure Gd(done:List Iv)(S:List (List Iv)):Prop where
 st:∀s∈S,oX s/\s≠[]
 pm:S.flatten.Perm done
 le:∀x∈S,∀a∈x,a∈done
 ex:S=[]\/∃p∈done,S.length<=done.countP (hits p.1)
theorem UC(a):∀S:List (List Iv),(lD a S).flatten.Perm (a::S.flatten)
 | []=>by rfl
 | s::S=>by
  unfold lD;split
  .rfl
  show(GX s (UC a S)).trans List.perm_middle
theorem TF(a):∀S:List (List Iv),(lD a S).length=S.length\/((lD a S).length=S.length+1/\∀s∈S,a.1<=(s.headD (0,0)).2)
 | []=>.inr ⟨rfl,λs b=>by cases b⟩
 | s::S=>by
  unfold lD;split
  .exact .inl rfl
  rename_i h;rcases TF a S with e | ⟨e,f⟩
  all_goals cbv
theorem Ve(a)(ha:a.1<=a.2):∀S:List (List Iv),(∀s∈S,oX s/\s≠[])->∀s∈lD a S,oX s/\s≠[]
 | [],_,s,d=>by simp[lD] at d;subst d;show⟨ha,∅⟩
 | x::S,h,s,d=>by
  unfold lD at d;let⟨f,e⟩:=h x (by room);split at d
  .rename_i hf;rcases bx.mp d with rfl | d
   .refine⟨?_,∅⟩;cases x with
    | nil=>show absurd rfl e
    | cons b r=>show⟨ha,hf,f⟩
   show h s (by room)
  rcases bx.mp d with rfl | d
  .exact⟨f,e⟩
  show Ve a ha S (λy g=>h y (by room)) s d
theorem UB(a:Iv):∀S:List (List Iv),(∀s∈S,s≠[])->(∀s∈S,a.1<=(s.headD (0,0)).2)->(∀s∈S,∀b∈s,b.1<=a.1)->S.length<=S.flatten.countP (hits a.1)
 | [],_,_,_=>by simp
 | s::S,g,f,e=>by
  rw[qM,GF,cL];have j:=UB a S (λx d=>g x (by room)) (λx d=>f x (by room)) (λx d=>e x (by room));have:1<=s.countP (hits a.1):=by
   cases s with
   | nil=>show absurd rfl (g [] (by room))
   | cons b r=>
    have i:=f (b::r) (by room);have h:=e (b::r) (by room) b (by room);have:hits a.1 b=true:=by simp![hits,gZ,iJ];show⟨h,i⟩
    simp[this]
  lia
theorem Gd.put(g:Gd done S)(ha:a.1<=a.2)(c:∀b∈done,b.1<=a.1):Gd (done++[a]) (lD a S):=by
 have pm:(lD a S).flatten.Perm (done++[a]):=(UC a S).trans ((Ym a g.pm).trans (List.perm_append_singleton a done).symm);show⟨Ve a ha S g.st,pm,λx h b hb=>pm.mem_iff.mp (Gi.mpr ⟨x,h,hb⟩),?_⟩;right
 rcases TF a S with e | ⟨e,f⟩
 .rcases g.ex with rfl | ⟨p,k,l⟩
  all_goals grind
 show⟨a,by show gD _ (.head _),?_⟩;have d:=UB a S (λs c=>(g.st s c).2) f (λs j b hb=>c b (g.le s j b hb));rw[g.pm.countP_eq] at d;have i:hits a.1 a=true:=by simp![hits,gZ,iJ];cbv
 rw[e,GF];simp[i];show d
theorem Gd.count(g:Gd done S):(∀c,done.countP (hits c)<=S.length)/\(S=[]\/∃p∈done,S.length=done.countP (hits p.1)):=by
 have a:∀c,done.countP (hits c)<=S.length:=λc=>by
  rw[<-g.pm.countP_eq];show UD S (λs b=>(g.st s b).1) c
 show⟨a,?_⟩;rcases g.ex with h | ⟨p,d,e⟩
 .exact .inl h
 show .inr ⟨p,d,by have:=a p.1;show Nat.le_antisymm ‹_› ‹_›⟩
noncomputable def vO(ps:List Pc):List Int:=ps.map λp=>((ps.countP (bS p.l):Nat):Int)
noncomputable def tT(ps:List Pc):Int:=(vO ps).foldl max 0
theorem JM:∀(L:List Int) m,m<=L.foldl max m/\(∀x∈L,x<=L.foldl max m)/\(L.foldl max m=m\/L.foldl max m∈L)
 | [],m=>⟨di _,λx b=>(by cases b),.inl rfl⟩
 | a::L,m=>by
  let⟨e,d,c⟩:=JM L (max m a);rw[gY];show⟨by grind,λx b=>?_,?_⟩;all_goals grind
theorem zqI(h:M∈vO ps)(u:∀b∈vO ps,b<=M):M=tT ps:=by
 let⟨g,e,d⟩:=JM (vO ps) 0;have f:=e M h;have pos:0<=M:=by
  let⟨p,z,rfl⟩:=a9.mp h;room
 unfold tT;rcases d with d | d
 .lia
 have:=u _ d;lia
noncomputable def oW(ps:List Pc)(a:List (List Nat)):Int:=(a.map λg=>(ao ps (g.headD 0)).k*tT (g.map (ao ps))).sum
noncomputable def mz(ps:List Pc)(q:Nat):Iv:=((ao ps q).l,(ao ps q).r)
noncomputable def qr(ps:List Pc)(S:List (List Nat)):List (List Iv):=S.map λs=>(s.map (mz ps)).reverse
theorem zoQ(ps s S q):kJ ps (s::S) q=if mX ps q s=true then(s++[q])::S else s::kJ ps S q:=by
 unfold kJ;rw[BY];by_cases h:mX ps q s=true
 .rw[if_pos h,if_pos h];rfl
 rw[if_neg h,if_neg h];cases S.findIdx? (mX ps q) with
 | none=>rfl
 | some j=>rfl
theorem SH(ps q):∀S:List (List Nat),(∀s∈S,s≠[])->qr ps (kJ ps S q)=lD (mz ps q) (qr ps S)
 | [],_=>rfl
 | s::S,h=>by
  have d:=h s (by room);have b:=SH ps q S λx g=>h x (by room)
  rw[zoQ];have e:(((s.map (mz ps)).reverse).headD (0,0)).2=(ao ps (s.getLastD 0)).r:=by
   rw[List.headD_eq_head?_getD,List.head?_reverse,Pe,He,QZ d];rfl
  have f:qr ps (s::S)=(s.map (mz ps)).reverse::qr ps S:=rfl;rw[f];unfold lD;rw[e];unfold mX;by_cases c:(ao ps (s.getLastD 0)).r<(ao ps q).l
  .rw[if_pos (by show if_pos ‹_›),if_pos (show(ao ps (s.getLastD 0)).r<(mz ps q).1 from c)];unfold qr;rw[bO,cO,List.reverse_append];rfl
  rw[if_neg (by simpa using c),if_neg (show ¬(ao ps (s.getLastD 0)).r<(mz ps q).1 from c),<-b];rfl
theorem zoS(ps)(hv:∀q,(ao ps q).l<=(ao ps q).r)(g)(e:g.Pairwise λx y=>(ao ps x).l<=(ao ps y).l):Gd (g.map (mz ps)) (qr ps (ft ps g)):=by
 have:∀i,i<=g.length->Gd ((g.take i).map (mz ps)) (qr ps (ft ps (g.take i))):=by
  intro i;induction i with
  | zero=>intro _;show⟨λs e=>(by cases e),by show .nil,λx d=>(by cases d),.inl rfl⟩
  | succ i f=>
   intro hi;have m:=f (by room);have hg:g[i]?=some g[i]:=bC (by room);rw[Kz hg,SH ps _ _ (pR ps (g.take i)).ne,dM,hg];rw[cO];show m.put (hv g[i]) λb hb=>?_
   let⟨x,d,rfl⟩:=a9.mp hb;let⟨j,n,rfl⟩:=Cf.mp d;show l7.mp e j i (by grind) (by room) (by lia)
 have h:=this g.length (aW _);rwa [eY] at h
theorem RS(ps)(g:List Nat)(c):(g.map (mz ps)).countP (hits c)=(g.map (ao ps)).countP (bS c):=by
 rw[BB,BB];rfl
theorem zku(ps)(hv:∀q,(ao ps q).l<=(ao ps q).r)(g)(h:g.Pairwise λx y=>(ao ps x).l<=(ao ps y).l):((ft ps g).length:Int)=tT (g.map (ao ps)):=by
 let⟨f,d⟩:=(zoS ps hv g h).count;have el:(qr ps (ft ps g)).length=(ft ps g).length:=by unfold qr;rw[aO]
 cases g with
 | nil=>rfl
 | cons e g'=>
  rw[el] at d;rcases d with d | ⟨p,j,d⟩
  .have:=f (mz ps e).1;rw[d] at this;have m:hits (mz ps e).1 (mz ps e)=true:=by
    simp![hits,gZ,iJ];show⟨di _,hv e⟩
   rw[bO,yj,m] at this;room
  show zqI ?_ λb hb=>?_
  .let⟨q,i,rfl⟩:=a9.mp j;unfold vO;rw[bV];show a9.mpr ⟨q,i,?_⟩;rw[d,RS];rfl
  let⟨p,z,rfl⟩:=a9.mp hb;have:=f p.l;rw[RS,el] at this;cbv
theorem zti(ps)(hv:∀q,(ao ps q).l<=(ao ps q).r)(b)(hg:∀g∈b,NA ps g):(ir ps b).2=oW ps b:=by
 unfold ir;rw[JN,Jl];rw[pd];unfold oW;induction b with
 | nil=>rfl
 | cons g b e=>
  have go:=hg g (by room);rw[Gr,cO,zkr,e λx f=>hg x (by room),bO,kI];congr 1
  rw[<-zku ps hv g go.so];show UK _ _ _ λs d=>?_
  show go.kk _ ((pR ps g).mem s d _ (Dm ((pR ps g).ne s d)))
theorem zu1(W ps)(L:List Int):∀b:Int×Option Int,(b.1=0\/∃c,b.1=cP W ps c)->((L.foldl (cT W ps) b).1=0\/∃c,(L.foldl (cT W ps) b).1=cP W ps c):=by
 induction L with
 | nil=>show λb h=>h
 | cons c L a=>
  intro b h;show a _ ?_;unfold cT;split
  .exact .inr ⟨c,rfl⟩
  show h
theorem RR(W ps)(L:List Int):∀b:Int×Option Int,b.1<=(L.foldl (cT W ps) b).1/\∀c∈L,cP W ps c<=(L.foldl (cT W ps) b).1:=by
 induction L with
 | nil=>show λb=>⟨di _,∅⟩
 | cons c L d=>
  intro b;rw[gY];let⟨g,e⟩:=d (cT W ps b c);have f:b.1<=(cT W ps b c).1/\cP W ps c<=(cT W ps b c).1:=by
   unfold cT;split<;>(show⟨?_,?_⟩<;>first | ext | (ext))
  show⟨by lia,λx a=>?_⟩;rcases bx.mp a with rfl | a
  .lia
  show e x a
theorem ztj(W ps)(h:-1<=c/\c<=40):cP W ps c<=(hU W ps).1:=(RR W ps _ (0,none)).2 c (a9.mpr ⟨(c+1).toNat,cx.mpr (by lia),by lia⟩)
theorem YZ(W ps):0<=(hU W ps).1:=(RR W ps _ (0,none)).1
theorem y1(v:Valid n ts)(h:m6 n ts d)(f:q<n):0<=bh d q:=by
 let⟨m,hm,e⟩:=yQ (λx=>- bh d x) (aI n) (by intro z;cbv);rcases(CW h (cx.mp hm)).2 with⟨h0,_⟩ | ⟨t,a,b,c⟩
 .simp_all
 have:=e t.1 (cx.mpr (v t a).1);lia
theorem SG(v:Valid n ts)(h:m6 n ts d):∀(m q:Nat),q<n->bh d q=m->∃r,Dn ts (q::r)/\(∀x∈r,x<n)/\r.length=m:=by
 intro m;induction m with
 | zero=>show λq _ _=>⟨[],trivial,∅,rfl⟩
 | succ m f=>
  intro q g e;rcases(CW h g).2 with⟨h0,_⟩ | ⟨t,a,b,c⟩
  .lia
  let⟨r,k,j,i⟩:=f t.1 (v t a).1 (by cbv);show⟨t.1::r,⟨⟨t.2.2,by rw[<-b];show a⟩,k⟩,by simpa using ⟨(v t a).1,j⟩,by simp[i]⟩
theorem ztk(v:Valid n ts)(h:m6 n ts a)(r):∀q,q<n->Dn ts (q::r)->(r.length:Int)<=bh a q:=by
 induction r with
 | nil=>show λq b _=>by simpa using y1 v h b
 | cons u r f=>
  intro q b d;obtain⟨⟨c,e⟩,g⟩:=d;have j:=f u (v _ e).1 g;have i:=CV v h _ e;simp![cL];lia
theorem Im(h:∀q∈l,k q=1):dw k l=l.length:=by
 unfold dw;induction l with
 | nil=>rfl
 | cons a l b=>
  rw[bO,kI,b λq d=>h q (by room),h a (by room),cL];lia
theorem RQ(v:Valid ps.length ts)(d:m6 ps.length ts e)(k1:∀q,(ao ps q).k=1)(H:Hv ps.length ts (λq=>(ao ps q).k) (ps.length+1) h)(b:q<ps.length):h q=bh e q+1:=by
 have h0:=y1 v d b;let⟨r,g,f,i⟩:=SG v d (bh e q).toNat q b (by lia);have a:=H.all q r b g f (by have:=Dn.len (n:=ps.length) ⟨_,CV v d⟩ g (by simpa using ⟨b,f⟩);simp at this;room);rw[Im λq _=>k1 q,cL,i] at a;let⟨s,s1,s2,s3⟩:=H.of q b;rw[Im λq _=>k1 q,cL] at s3;have:=ztk v d s q b s1;lia
theorem ztl{b:Type}{p:b->Bool}{l:List b}(h:l.Pairwise λx y=>¬(p x=true/\p y=true)):l.countP p<=1:=by
 induction l with
 | nil=>simp
 | cons a l c=>
  let⟨e,d⟩:=vD.mp h;by_cases ha:p a=true
  all_goals cbv
theorem SE(b:0<=M)(h:∀p∈ps,((ps.countP (bS p.l):Nat):Int)<=M):tT ps<=M:=by
 unfold tT;rcases(JM (vO ps) 0).2.2 with e | e
 .rw[e];show b
 let⟨p,a,c⟩:=a9.mp e;rw[<-c];show h p a
theorem RL(e:nO ps c ord ks):ks.Nodup:=e.gJ.imp λ{a b} h z=>by
 subst z;have:∀a:List Int,HT.bo a a=false:=by
  intro a;induction a with
  | nil=>rfl
  | cons x r d=>rw[uj,if_pos rfl];show d
 rw[this] at h;cases h
theorem ztm{l:List (List Nat)}{f:List Nat->Int}(h:∀g∈l,f g<=1):(l.map f).sum<=l.length:=by
 induction l with
 | nil=>room
 | cons a l b=>
  rw[bO,kI,cL];have:=h a (by room);have:=b λg hg=>h g (by room)
  lia
theorem zoW(v:Valid ps.length ts)(h:m6 ps.length ts d)(f:i7 ps ord)(o:nO ps d ord ks)(k1:∀q,(ao ps q).k=1)(D:∀q,(ao ps q).l<=(ao ps q).r)(hv:Bd ps.length ts (λq=>(ao ps q).k) w l)
  (F:∀x,x<ps.length->∀y,y<ps.length->x≠y->bh d x=bh d y->(ao ps x).r<(ao ps y).l\/(ao ps y).r<(ao ps x).l):oW ps (ks.map (cA ps d ord))<=w:=by
 have n:oW ps (ks.map (cA ps d ord))<=(ks.map (cA ps d ord)).length:=by
  show ztm λg hg=>?_
  let⟨t,ht,rfl⟩:=a9.mp hg;rw[k1,Int.one_mul];show SE (by cbv) λp _=>?_
  have nd:(cA ps d ord t).Nodup:=f.nd.filter _;have:=ztl (p:=bS p.l) (l:=(cA ps d ord t).map (ao ps)) (g6.mpr (Ha (λ{a b} ha hb s E=>?_) nd))
  .lia
  have ga:=cq.mp ha;have gb:=cq.mp hb;have e:gk ps d a=gk ps d b:=(lx ga.2).trans (lx gb.2).symm;have:=F a ((f.mem a).mp ga.1) b ((f.mem b).mp gb.1) s (by simpa using (yf e).1);simp![bS,gZ,iJ] at E;ext
 rw[aO] at n;have u:0<=w:=by have:=hv.best [] trivial ∅;trivial
 by_cases hn:ps.length=0
 .have:ks=[]:=by
   cases ks with
   | nil=>rfl
   | cons t r=>
    let⟨q,j,c⟩:=(o.mem t).mp (by room);have:=(f.mem q).mp j;cbv
  rw[this] at n;simp at n;rw[this];simp[oW];show u
 let⟨m,hm,H⟩:=yQ (bh d) (aI ps.length) (by intro z;rw[List.range_eq_nil] at z;trivial);have hm:=cx.mp hm;have m0:=y1 v h hm;let⟨r,r1,B,A⟩:=SG v h (bh d m).toNat m hm (by lia);have hw:=hv.best (m::r) r1 (by simpa using ⟨hm,B⟩);rw[Im λq _=>k1 q,cL,A] at hw;have key:∀t∈ks,∃q,q<ps.length/\t=[bh d q,-1]:=λt ht=>by
  let⟨q,j,e⟩:=(o.mem t).mp ht;show⟨q,(f.mem q).mp j,by rw[<-e];unfold gk;rw[k1]⟩
 have hl:ks.length<=(bh d m).toNat+1:=by
  have nd:(ks.map λt=>(t.headD 0).toNat).Nodup:=by
   show g6.mpr (Ha (λ{a b} ha hb s e=>s ?_) (RL o));let⟨x,i,rfl⟩:=key a ha;let⟨y,C,rfl⟩:=key b hb;have:=y1 v h i;have:=y1 v h C;simp at e;rw[show bh d x=bh d y by lia]
  have:=ot (ws:=aI ((bh d m).toNat+1)) nd λz hz=>by
   let⟨t,ht,rfl⟩:=a9.mp hz;let⟨x,i,rfl⟩:=key t ht;have:=H x (cx.mpr i);simp;lia
  cbv
 lia
theorem zqJ(hw:∀p∈ps,∀x,p.n\x->p.k=W x)(k1:∀p∈ps,p.k=1)(nd:(ps.filterMap Pc.n).Nodup)(c):cP W ps c=ps.countP (bS c):=by
 have j:lR c ps=((ps.filter (bS c)).filter λp=>p.n.isNone).length:=by
  unfold lR;rw[GH];have:∀l:List Pc,(∀p∈l,p.k=1)->(l.map Pc.k).sum=l.length:=λl=>by
   induction l with
   | nil=>intro _;rfl
   | cons a l d=>intro h;rw[bO,kI,d λp b=>h p (by room),h a (by room),cL];lia
  rw[this _ λp b=>k1 p (cq.mp b).1];congr 2
  show Gs λp _=>Ob _ _
 have i:((eS c ps).map W).sum=((ps.filter (bS c)).filter λp=>!p.n.isNone).length:=by
  have g:∀x∈eS c ps,W x=1:=λx e=>by
   let⟨p,b,z,hn⟩:=((oj c ps).2 x).mp e;rw[<-hw p b x hn,k1 p b]
  have:∀l:List af,(∀p∈l,W p=1)->(l.map W).sum=l.length:=λl=>by
   induction l with
   | nil=>intro _;rfl
   | cons a l d=>intro h;rw[bO,kI,d λp b=>h p (by room),h a (by room),cL];lia
  rw[this _ g];have pm:(eS c ps).Perm ((ps.filter (bS c)).filterMap Pc.n):=by
   show(QQ (oj c ps).1 (nd.sublist (YK _ List.filter_sublist))).mpr λx=>?_
   rw[(oj c ps).2,BZ];constructor
   .rintro⟨p,b,f,hn⟩;show⟨p,cq.mpr ⟨b,f⟩,hn⟩
   rintro⟨p,b,hn⟩;show⟨p,(cq.mp b).1,(cq.mp b).2,hn⟩
  rw[pm.length_eq];congr 1
  generalize ps.filter (bS c)=L;induction L with
  | nil=>rfl
  | cons a L d=>cases h:a.n<;>simp[h,d]
 unfold cP;rw[j,i,Hl];generalize ps.filter (bS c)=L;induction L with
 | nil=>rfl
 | cons a L d=>
  cases h:a.n<;>simp[h]<;>simp at d<;>ext
theorem zqK(ld:qw W ps)(m:m6 ps.length [] c)(d:i7 ps ord)(h:nO ps c ord ks)(k1:∀q,(ao ps q).k=1)(o:∀p∈ps,p.k=1)(nd:(ps.filterMap Pc.n).Nodup):oW ps (ks.map (cA ps c ord))<=(hU W ps).1:=by
 have z:=YZ W ps;have key:∀t∈ks,t=[0,-1]:=λt ht=>by
  let⟨q,b,e⟩:=(h.mem t).mp ht;rcases(CW m ((d.mem q).mp b)).2 with⟨h0,_⟩ | ⟨u,a,_⟩
  .rw[<-e];unfold gk;rw[k1,h0]
  cases a
 have one:∀g:List Nat,(∀q∈g,q∈ord)->g.Nodup->tT (g.map (ao ps))<=(hU W ps).1:=λg sub y=>by
  show SE z λp v=>?_
  let⟨q,b,rfl⟩:=a9.mp v;have f:=(d.mem q).mp (sub q b);have j:ao ps q∈ps:=by rw[ix f];show ip f
  have x:=ztj W ps (ld.lr _ j);rw[zqJ ld.wd o nd] at x;have A:(g.map (ao ps)).countP (bS (ao ps q).l)<=ps.countP (bS (ao ps q).l):=by
   generalize (ao ps q).l=B;have e:ps=(aI ps.length).map (ao ps):=by
    show qK λi=>?_
    rw[bW];by_cases hi:i<ps.length
    .rw[GQ hi,bC hi,fO,ix hi]
    cbv
   conv=>rhs;rw[e]
   rw[BB,BB,Hl,Hl];show ot (y.filter _) λw hw=>cq.mpr ⟨cx.mpr ((d.mem w).mp (sub w (cq.mp hw).1)),(cq.mp hw).2⟩
  lia
 have kn:=RL h;cases ks with
 | nil=>trivial
 | cons t r=>
  have s:r=[]:=by
   cases r with
   | nil=>rfl
   | cons u r=>
    cbv
  subst s;have:=one (cA ps c ord t) (λq b=>(cq.mp b).1) (d.nd.filter _);simp![oW,bO,Bt,kI,List.sum_nil,k1];cbv
theorem zmb(ld:qw W ps)(v:Valid ps.length ts)(pk:∀p∈ps,1<=p.k/\p.k<=3/\p.l<=p.r)(hv:Bd ps.length ts (λq=>(ao ps q).k) w l)(pt:RT ps ts tr)(j:∀p∈ps,p.k=1)
  (ex:(ts=[]/\(ps.filterMap Pc.n).Nodup)\/∃h,Hv ps.length ts (λq=>(ao ps q).k) (ps.length+1) h/\∀x,x<ps.length->∀y,y<ps.length->x≠y->h x=h y->(ao ps x).r<(ao ps y).l\/(ao ps y).r<(ao ps x).l) :
  (iO ps tr).getD 0=if w<=(hU W ps).1 then(hU W ps).1 else w:=by
 let⟨lv,rt,ord,ks,lw,o,io,d,rfl⟩:=pt;have a:∀x,1<=(ao ps x).k/\(ao ps x).l<=(ao ps x).r:=λx=>by
  by_cases b:x<ps.length
  .rw[ix b];have:=pk _ (ip b);show⟨this.1,this.2.2⟩
  unfold ao;rw[qQ (by cbv)];decide
 have k1:∀x,(ao ps x).k=1:=λx=>by
  by_cases b:x<ps.length
  .rw[ix b];show j _ (ip b)
  unfold ao;rw[qQ (by cbv)];rfl
 have hk:∀p∈ps,1<=p.k:=λp s=>(pk p s).1
 have g:=CV v lw;have t:=SR ps (λx=>(a x).1) _ (Ip io d) (UJ io d);rw[zti ps (λx=>(a x).2) _ (Ip io d)] at t;have E:=UH (λx=>(a x).1) io d g (l:=[]) trivial ∅;have D:=UH (λx=>(a x).1) io d g hv.dn hv.lt;have C:=λc=>zqE (λx=>(a x).1) (λx=>(a x).2) io d ld.wd c
 have f:=zl9 o hk v;have A:=f.n0;have z:=f.chain v l hv.dn hv.lt;have u:=λc=>f.load ld.wd (λq _=>(a q).1) c
 rw[hv.eq] at D z;have bi:=zu1 W ps ((aI 42).map λ(i:Nat)=>(i:Int)-1) (0,none) (.inl rfl);change (hU W ps).1=0\/∃c,(hU W ps).1=cP W ps c at bi
 have up:oW ps (ks.map (cA ps lv ord))<=(hU W ps).1\/oW ps (ks.map (cA ps lv ord))<=w:=by
  rcases ex with⟨rfl,nd⟩ | ⟨h,H,ap⟩
  .exact .inl (zqK ld lw io d k1 j nd)
  show .inr (zoW v lw io d k1 (λx=>(a x).2) hv λx b y m F e=>ap x b y m F (by rw[RQ v lw k1 H b,RQ v lw k1 H m,e]))
 have G:(hU W ps).1<=(iO ps (ir ps (ks.map (cA ps lv ord))).1).getD 0/\(hU W ps).1<=(iO ps rt).getD 0:=by
  rcases bi with e | ⟨c,e⟩
  .rw[e];show⟨E,A⟩
  rw[e];show⟨C c,u c⟩
 generalize oW ps (ks.map (cA ps lv ord))=B at *;split<;>split<;>ext
end Wc
open PySem L2 PyProof.Rows Wc
local macro_rules | `(tactic| lk)=>`(tactic| (repeat(first | walk_at"b" | dsimp only[jg,jh,gt,OV.val,yD])))
local macro_rules | `(tactic| lk)=>`(tactic| (repeat(first | walk_at"b" | dsimp only[jg,jh,gt,OV.val,Jy])))
namespace Wc
open PySem L2 PyProof.Rows
def zR:bB:=λds Q=>∃ws cells,ds=[dS ws,dI cells]/\ws.length=8/\cells.length<=1000/\∀ps:List Pc,ps.length=cells.length->(∀p∈ps,-1<=p.l/\p.l<=40/\p.l<=p.r/\p.k=1)->Q (.ow (ps.map bw))
noncomputable def Nh:(T:TX) ×' ∀{P w K mg base},Txt K mg->~~~1 "_law_mix" 2 rO->dh P w K mg base 1 "_law_once" ["_law_words","_law_cells","_law_pieces","_law_k","_law_cell","_law_one","_law_low","_law_word"] (top 35) T:=
 ⟨_,λT C__law_mix nd f c A outer s H E a=>have b:=a.units;
 (aC (gI 2 (iy aA) nd)
   (aC (fb dY rfl (wG T.b_enumerate (aq (ag 1) aA)) (kP (n:=2) rfl (c8 (ba 3 nd) (c8 (ba 4 nd) kQ)))
    (aC (bu 5 (bY C__law_mix a (aq (ag 4) (aq (ag 3) aA))) nd)
   (aC (bu 6 (aQ eu (ag 5) (aK (iy (aq au (aq au aA))) (aQ eu (aQ iU (ag 5) au) au))) nd)
   (aC (bu 7 iz nd)
   (aC (cS (ck yJ (ag 3) au) (aN (bu 7 (aK (ag 0) (ag 3)) nd)) cY)
   (aN (om 2 (fF (aq (ag 7) (aq (ag 6) (aq (c7 (Ig rfl) T.b_min Bh (aq au (aq (aQ cJ (ag 6) (aQ eu (aQ iU (ag 5) au) au)) aA))) (aq au aA))))))))))))
   (aN (ug 2))))⟩
def Ks:TX:=Nh.1
theorem zgW:cQ 2 zR Ks ["_law_words","_law_cells","_law_pieces","_law_k","_law_cell","_law_one","_law_low","_law_word"]:=by
 intro ds A hl h;let⟨ws,cells,rfl,hw,y,q⟩:=h;show Ks _ [.fz (dS ws),.fz (dI cells),.un,.un,.un,.un,.un,.un];unfold Ks Nh;dsimp only;unfold dI dS;have big:=ez;lk;show⟨du _,?_⟩;walk;show zk cells D.int (λB h=>?_) (λi ρ=>∃(ps:List Pc)(a b c d e:Sl),ρ=[.fz (.lst (ws.map .str)),.fz (.lst (cells.map .int)),.ow (ps.map bw),a,b,c,d,e]/\ps.length=i/\∀p∈ps,-1<=p.l/\p.l<=40/\p.l<=p.r/\p.k=1) ⟨[],_,_,_,_,_,rfl,rfl,λp o=>(by cases o)⟩ ?_ ?_
 .lk;show h
 .rintro i cell ρ hi ⟨ps,a,b,c,d,e,rfl,hl,ok⟩;have w:i<cells.length:=(cf.mp hi).1;lk;show⟨cell,(i:Int),rfl,by room,by lia,?_⟩;have o0:=ID cell (i:Int);generalize mh cell (i:Int)=one at o0;walk;let⟨z,hz,u⟩:=IE (n:=2) (l:=([12,41]:List Int)) (one/500) (by show aW _) (by cbv);have j:bA ([12,41]:List Int) (one/500%2)=some z:=hz;have t:bA (([12,41]:List Int).map D.int) (one/500%2)=some (.int z):=by rw[m7,j];rfl
  show⟨by trivial,.int z,t,?_⟩;have m:z=12\/z=41:=by simpa using u
  show⟨by lia,?_⟩;have f0:=j0 one (show z≠0 by lia);have f1:=pz one (show(0:Int)<z by lia);generalize one%z=low at f0 f1;walk;walk;generalize s:iP (qZ _ _) _=v;have fin:∀n:Option af,v [.fz (.lst (ws.map .str)),.fz (.lst (cells.map .int)),.ow (ps.map bw),.fz (.int i),.fz (.int cell),.fz (.int one),.fz (.int low),.fz (dO n)]:=λn=>by
   subst s;walk;have m0:=j0 (one/1000) (show(12:Int)≠0 by decide);generalize one/1000%12=more at m0;show⟨by trivial,by rw[aO];lia,ps++[Pc.mk n low (if low+more<40 then low+more else 40) 1],_,_,_,_,_,by rw[cO];rfl,by rw[gj,hl];rfl,λx f=>?_⟩;rcases cy.mp f with f | f
   .exact ok x f
   rw[dD.mp f];show⟨by room,by lia,?_,rfl⟩;show low<=(if low+more<40 then low+more else 40)
   split<;>ext
  by_cases g:(i:Int)<8
  .rw[if_pos g];show⟨_,fq (l:=ws) (by lia),fin (some _)⟩
  rw[if_neg g];show fin none
 rintro ρ ⟨ps,a,b,c,d,e,rfl,hl,ok⟩;walk;show q ps hl ok
def zG:bB:=λds Q=>∃(s:Int)(n:Nat),ds=[.int s,.int n]/\n<=60/\∀ts,Valid n ts->ts.length<=n->Up s ts->Q (.ow (ts.map dT))
theorem zfa:(["_law_piece","_law_seed"]:List af).Nodup:=by decide +kernel
theorem zfb:(["_law_k","_law_order"]:List af).Nodup:=by decide +kernel
noncomputable def Nk:(T:TX) ×' ∀{P w K mg base},Txt K mg->~~~2 "_law_rank" 2 wN->dh P w K mg base 2 "_law_linked" ["_law_seed","_law_many","_law_order"] (top 43) T:=
 ⟨_,λT C__law_rank nd f d A outer s H E b=>have c:=b.units;
 (aC (bu 2 (c7 (Vl rfl) T.b_sorted Bo (aq (fQ rfl (.of (N':=["_law_piece","_law_seed"]) (m:=[none,some 0]) (by kernel_rfl)) cZ (ni T.b_range (aq (ag 1) aA)) (λs3 a ex=>(ba 0 zfa)) (λs3 a ex=>eP) (λs3 a ex=>(fF (aq (bY C__law_rank b (aq (ag 1) (aq (ag 0) aA))) (aq (ag 0) aA))))) aA)) nd)
   (aN (b9 (fQ rfl (.of (N':=["_law_k","_law_order"]) (m:=[none,some 2]) (by kernel_rfl)) cZ (ni T.b_range (aq (aQ CF (ag 1) au) aA)) (λs3 a ex=>(ba 0 zfb)) (λs3 a ex=>eP) (λs3 a ex=>(fF (aq (aK (aK (ag 1) (ag 0)) au) (aq (aK (aK (ag 1) (aQ cJ (ag 0) au)) au) (aq (ag 0) aA)))))))))⟩
def KU:TX:=Nk.1
theorem zfc:cQ 2 zG KU ["_law_seed","_law_many","_law_order"]:=by
 intro ds F hl h;let⟨s,n,rfl,hn,q⟩:=h;show KU _ [.fz (.int s),.fz (.int n),.un];unfold KU Nk;dsimp only;have big:=ez;lk;show fE (aI n) (λ(i:Nat)=>.int (0+i)) (λq=>.tup (([jQ s q,(q:Int)]:List Int).map D.int)) (λm h'=>?_) (by simp;lia) (λx j w k=>?_) ?_
 .lk;show⟨by cbv,by lia,by trivial⟩
 .have E:x<n:=by simpa using j
  rw[pd];lk;show⟨s,x,rfl,by lia,?_⟩;show⟨by trivial,k⟩
 simp![m9,DG,J7];show⟨by simp;lia,λt ht=>?_,λC v u=>?_⟩
 .let⟨i,l,rfl⟩:=a9.mp ht;simp
 let⟨O,d,rfl⟩:=zA v rfl;have nd:O.Nodup:=d.nodup_iff.mpr tD;have g:∀a∈O,a<n:=λa ha=>cx.mp (d.mem_iff.mp ha)
 have up:O.Pairwise λx y=>jQ s x<jQ s y:=by
  rw[g6] at u;show Ha (λ{a b} ha hb h=>?_) (u.and nd);let⟨f,r⟩:=h;have B:=g a ha;have A:=g b hb;have e:=R0 (s:=s) (p:=b) (q:=a) (by lia) (by lia) (Ne.symm r);have o:=zb _ _ f λz=>r (by simp at z;cbv)
  rw[HT.Wq,if_neg e] at o;show lx o
 have ol:O.length=n:=by rw[d.length_eq,jE]
 walk;have hi:∀i∈aI (n-1),i<O.length/\i+1<O.length:=λi h=>by
  have:=cx.mp h;ext
 show fE (aI (n-1)) (λ(i:Nat)=>.int (0+i)) (λi=>dT (O[i]?.getD 0,O[i+1]?.getD 0,(i:Int))) (λm h'=>?_) (by simp;lia) (λx j w k=>?_) ?_
 .lk;show⟨by lia,by lia,?_⟩;rw[show((n:Int)-1).toNat=n-1 by cbv];show h'
 .let⟨d,f⟩:=hi x j;rw[pd];lk;show⟨_,fq d,_,rfl,_,(show bA O ((x:Int)+1)=some O[x+1] by show fq f),_,rfl,by trivial,?_⟩;rw[bC d,bC f] at k;show k
 have e:(aI (n-1)).map (λ(i:Nat)=>dT (O[i]?.getD 0,O[i+1]?.getD 0,(i:Int)))=((aI (n-1)).map λ(i:Nat)=>((O[i]?.getD 0,O[i+1]?.getD 0,(i:Int)):Tr)).map dT:=by rw[bV];rfl
 rw[e];show q _ (λt ht=>?_) ∅ λt ht=>?_
 .let⟨i,h,rfl⟩:=a9.mp ht;let⟨d,f⟩:=hi i h;rw[bC d,bC f];show⟨g _ (ip d),g _ (ip f)⟩
 let⟨i,h,rfl⟩:=a9.mp ht;let⟨d,f⟩:=hi i h;rw[bC d,bC f];show l7.mp up i (i+1) d f (by show aW _)
def RK(ps:List Pc)(h:Nat->Int):Prop:=∀x,x<ps.length->∀y,y<ps.length->x≠y->h x=h y->(ao ps x).r<(ao ps y).l\/(ao ps y).r<(ao ps x).l
def wQ:bB:=λds Q=>∃ps ts,ds=[br ps,cp ts]/\ps.length<=1000/\ts.length<=100000/\Valid ps.length ts/\∀b:Bool,(b=true->∃h,Hv ps.length ts (λq=>(ao ps q).k) (ps.length+1) h/\RK ps h)->Q (.fz (.bl b))
noncomputable def Nu:(T:TX) ×' ∀{P w K mg base},Txt K mg->~~~1 "_law_heavy" 2 wR->dh P w K mg base 1 "_law_apart" ["_law_pieces","_law_above","_law_levels","_law_p","_law_one","_law_q"] (top 44) T:=
 ⟨_,λT C__law_heavy nd f c A outer s H E a=>have b:=a.units;
 (aC (bu 2 (bY C__law_heavy a (aq (ag 0) (aq (ag 1) aA))) nd)
   (aC (fb dY rfl (wG T.b_enumerate (aq (ag 0) aA)) (kP (n:=2) rfl (c8 (ba 3 nd) (c8 (ba 4 nd) kQ)))
    (aN (fb dY rfl (ni T.b_range (aq (ag 3) aA)) (ba 5 nd)
    (aN (cS (y4 (ck (gG b) (aK (ag 2) (ag 3)) (aK (ag 2) (ag 5))) (y4 (ck Rq (aK (ag 4) au) (aK (aK (ag 0) (ag 5)) au)) (Dv (ck Rq (aK (aK (ag 0) (ag 5)) au) (aK (ag 4) au))))).pb (aN (b9 iR)) cY)))))
   (aN (b9 iR))))⟩
def Kl:TX:=Nu.1
theorem zgn:cQ 2 wQ Kl ["_law_pieces","_law_above","_law_levels","_law_p","_law_one","_law_q"]:=by
 intro ds K hl h;let⟨ps,ts,rfl,hn,C,v,q⟩:=h;show Kl _ [.fz (br ps),.fz (cp ts),.un,.un,.un,.un];unfold Kl Nu;dsimp only;have u:∀q,q<ps.length->bA ps (q:Int)\ao ps q:=λq f=>by rw[ix f];show fq f
 lk;show⟨ps,ts,rfl,hn,C,v,λh H=>?_⟩;rw[CA] at H;have w:∀q,q<ps.length->bA (aI ps.length) (q:Int)=some q:=λq f=>by
  rw[fq (by simpa using f)];simp
 walk;show zk ps bw (λE h=>?_) (λi ρ=>(∃a b c:Sl,ρ=[.fz (br ps),.fz (cp ts),.fz (.lst ((aI ps.length).map λq=>.int (h q))),a,b,c])/\∀x,x<i->∀y,y<x->h x=h y->(ao ps x).r<(ao ps y).l\/(ao ps y).r<(ao ps x).l) ⟨⟨_,_,_,rfl⟩,λx o=>by cbv⟩ ?_ ?_
 .lk;show h
 .rintro i p ρ hi ⟨⟨a,b,c,rfl⟩,ok⟩;have t:i<ps.length:=(cf.mp hi).1;have D:p=ao ps i:=by rw[ix t];show(cf.mp hi).2.symm
  subst D;lk;show Kj i (λE h=>?_) (λj ρ=>(∃c:Sl,ρ=[.fz (br ps),.fz (cp ts),.fz (.lst ((aI ps.length).map λq=>.int (h q))),.fz (.int i),.fz (bw (ao ps i)),c])/\∀y,y<j->h i=h y->(ao ps i).r<(ao ps y).l\/(ao ps y).r<(ao ps i).l) ⟨⟨_,rfl⟩,λy d=>by cbv⟩ ?_ ?_
  .lk;show⟨by cbv,by lia,h⟩
  .rintro j ρ I ⟨⟨c,rfl⟩,m⟩;have g:j<ps.length:=by lia
   have go:(h i=h j->(ao ps i).r<(ao ps j).l\/(ao ps j).r<(ao ps i).l)->∀y,y<j+1->h i=h y->(ao ps i).r<(ao ps y).l\/(ao ps y).r<(ao ps i).l:=λz y d e=>by
    by_cases n:y=j
    .rw[n] at e ⊢;show z e
    show m y (by lia) e
   unfold br bw;lk;show⟨_,w i t,_,w j g,?_⟩;by_cases s:h i=h j
   .rw[if_pos s];show⟨_,rfl,_,u j g,_,rfl,?_⟩;dsimp only;by_cases B:(ao ps i).l<=(ao ps j).r
    .rw[if_pos B];show⟨_,u j g,_,rfl,_,rfl,?_⟩;dsimp only;by_cases A:(ao ps j).l<=(ao ps i).r
     .rw[if_pos A];show q false ∅
     rw[if_neg A];show⟨⟨_,rfl⟩,go λ_=>.inl (by cbv)⟩
    rw[if_neg B];show⟨⟨_,rfl⟩,go λ_=>.inr (by cbv)⟩
   rw[if_neg s];show⟨⟨_,rfl⟩,go λz=>absurd z s⟩
  rintro ρ ⟨⟨c,rfl⟩,m⟩;show⟨⟨_,_,_,rfl⟩,λx o y d e=>?_⟩;by_cases F:x=i
  .rw[F] at d e ⊢;show m y d e
  show ok x (by lia) y d e
 rintro ρ ⟨⟨a,b,c,rfl⟩,ok⟩;walk;show q true λ_=>⟨h,H,λx o y d J e=>?_⟩
 by_cases c:y<x
 .exact ok x o y c e
 show(ok y d x (by lia) e.symm).symm
def YY(ps:List Pc)(ts:List Tr):Prop:=(∀p∈ps,p.k<=1)/\((ts=[]/\(ps.filterMap Pc.n).Nodup)\/∃h,Hv ps.length ts (λq=>(ao ps q).k) (ps.length+1) h/\RK ps h)
def zP:bB:=λds Q=>∃ps ts,ds=[br ps,cp ts]/\ps.length<=1000/\ts.length<=100000/\Valid ps.length ts/\∀b:Bool,(b=true->YY ps ts)->Q (.fz (.bl b))
theorem zqL(ps:List Pc):(ps.filter λp=>p.n.isSome).map (λp=>dO p.n)=(ps.filterMap Pc.n).map D.str:=by
 induction ps with
 | nil=>rfl
 | cons a l b=>cases h:a.n<;>simp[h,b]<;>rfl
theorem zmc(m:List af):∀l:List af,l.Nodup->(∀w,w∈l↔w∈m)->l.length=m.length->m.Nodup:=by
 induction m with
 | nil=>show λ_ _ _ _=>.nil
 | cons a m b=>
  intro l nd hm hl;by_cases ha:a∈m
  .have:=ot (ws:=m) nd λw hw=>by
    grind
   simp at hl;lia
  have al:=(hm a).mpr (by room);show dH.mpr ⟨ha,b (l.erase a) (nd.erase a) (λw=>?_) (by rw[Hb al,hl];rfl)⟩;grind
noncomputable def Nr:(T:TX) ×' ∀{P w K mg base},Txt K mg->~~~2 "_law_apart" 2 wQ->dh P w K mg base 2 "_law_exact" ["_law_pieces","_law_above","_law_nets"] (top 45) T:=
 ⟨_,λT C__law_apart nd f d A outer s H E c=>have b:=c.units;
 (aC (cS (j8 (c7 (Z3 rfl) T.b_any boot_any (aq (fQ rfl (.of (N':=["_law_piece"]) (m:=[none]) (by kernel_rfl)) cZ (cM (ag 0)) (λs3 a ex=>(ba 0 kM)) (λs3 a ex=>eP) (λs3 a ex=>(kN pF (aK (ag 0) au) au))) aA))) (aN (b9 iR)) cY)
   (aC (JG 2 rfl (.of (N':=["_law_piece"]) (m:=[none]) (by kernel_rfl)) cZ (cM (ag 0)) (λs3 a ex=>(ba 0 kM)) (λs3 a ex=>(rH (ck Dd (aK (ag 0) au) iz))) (λs3 a ex=>(aK (ag 0) au)) nd)
   (aN (b9 (HZ (pM (kN (gG b) (ag 1) (iy aA)) (ng (kN (gG b) (zl2 rfl T.b_len T.b_set (aq (ag 2) aA)) (c7 ml T.b_len j4 (aq (ag 2) aA))))) (ng (bY C__law_apart c (aq (ag 0) (aq (ag 1) aA)))))))))⟩
def Kk:TX:=Nr.1
theorem zgo:cQ 2 zP Kk ["_law_pieces","_law_above","_law_nets"]:=by
 intro ds j hl h;let⟨ps,ts,rfl,hn,i,v,q⟩:=h;show Kk _ [.fz (br ps),.fz (cp ts),.un];unfold Kk Nr;dsimp only;have big:=ez;lk;show fE ps bw (λp=>.bl (decide (1<p.k))) (λm h=>?_) (by lia) (λp e o k=>?_) ?_
 .lk;show h
 .lk;show⟨_,rfl,k⟩
 rw[show(ps.map λp=>D.bl (decide (1<p.k)))=(ps.map λp=>decide (1<p.k)).map D.bl by rw[bV];rfl];simp![m9,Hy,DM];by_cases f:((ps.map λp=>decide (1<p.k)).any id)=true
 .rw[if_pos f];show q false ∅
 rw[if_neg f];have k1:∀p∈ps,p.k<=1:=λp e=>by
  cbv
 walk;show uq ps bw (λp=>dO p.n) (λp=>p.n.isSome) (λm h=>?_) (by lia) (λp e o r g h0=>?_) ?_
 .lk;show h
 .unfold bw;lk;show⟨_,rfl,?_⟩;cases hn:p.n with
  | none=>show h0 (by rw[hn];rfl)
  | some w=>show⟨_,rfl,by rw[<-hn];show g (by rw[hn];rfl)⟩
 rw[zqL];walk;have ap:wQ [br ps,cp ts] j:=⟨ps,ts,rfl,hn,i,v,λb hb=>q b λz=>⟨k1,.inr (hb z)⟩⟩
 show⟨by room,SA 7 ts,(λd hd=>by cases hd),?_⟩;cases ts with
 | nil=>
  show⟨qN (QL _ _) (by lia),λl nd hm=>?_⟩;split
  .rename_i c;rw[aO] at c;show q true λ_=>⟨k1,.inl ⟨rfl,zmc _ l nd hm (by lia)⟩⟩
  show ap
 | cons t ts=>
  show ap
end Wc
open PySem L2 PyProof.Rows Wc
local macro_rules | `(tactic| lk)=>`(tactic| (repeat(first | walk_at"b" | dsimp only[jg,jh,gt,OV.val,HU,HQ])))
local macro_rules | `(tactic| lk)=>`(tactic| (repeat(first | walk_at"b" | dsimp only[jg,jh,gt,OV.val,rD])))
namespace Wc
open PySem L2 PyProof.Rows
theorem zqM(v:Valid n ts)(r:sQ ts a):a.length<=n:=by
 have:=ot (ws:=aI n) r.nd λw hw=>by
  rw[a9] at hw;let⟨t,h,rfl⟩:=hw;show cx.mpr (v t (r.sub t h)).1
 cbv
def zQ:bB:=λds Q=>∃W ps ts,ds=[br ps,cp ts]/\qw W ps/\ps.length<=63/\ts.length<=100000/\Valid ps.length ts/\(∀p∈ps,1<=p.k)/\¬Ord ps.length ts/\Q (.fz (.bl true))
def Vn:TX:=(cu (fX 2 (dC .non))
 (cu (fX 3 (dC (.bl false)))
 (cu (HP 4 2 wM (aM (aH 0) (aM (aH 1) bH)) ["NoOrder"] (cu (fX 2 (HQ ["NoOrder"] "ring" (aH 4)))
 (fX 3 (HU "NoOrder" true (aH 4)))))
 (iQ (tR (aH 3) (eN 2 zT (aM (aH 2) (aM (aH 1) bH))))))))
theorem zgX:cQ 2 zQ Vn ["_law_pieces","_law_above","_law_ring","_law_based","e"]:=by
 intro ds d hl h;let⟨W,ps,ts,rfl,ld,hn,b,v,hk,no,q⟩:=h;unfold Vn HP;lk;walk;walk;show⟨W,ps,ts,rfl,ld,hn,b,v,hk,λw l o=>absurd o no,λrs r=>⟨by room,_,rfl,?_⟩⟩;lk;show⟨by room,.lst (rs.map dT),by rfl,?_⟩;walk;have:=zqM v r;first
 | show⟨ts,rs,rfl,r,by lia,q⟩
 | show⟨rfl,ts,rs,rfl,r,⋯,q⟩
theorem zu4(h:Up s ts):Ord n ts:=⟨λx=>jQ s x,h⟩
theorem zu5(o:Ord n ts)(hv:Hv n ts wd (n+1) h)(d:Bd n ts wd w l)(f:M∈(aI n).map h++[0])(hb:∀a∈(aI n).map h++[0],a<=M):M=w:=by
 have p:M<=w:=by
  rcases cy.mp f with f | f
  .rw[a9] at f;let⟨q,i,rfl⟩:=f;let⟨r,a,b,c⟩:=hv.of q (cx.mp i);rw[<-c];show d.best _ a λx g=>?_
   rcases bx.mp g with rfl | g
   .exact cx.mp i
   show b x g
  simp at f;subst f;show d.best [] trivial λx g=>by cases g
 have m:w<=M:=by
  have hl:=Dn.len o d.dn d.lt;have e:=d.eq;cases l with
  | nil=>
   have:=hb 0 (by show gD _ (.head _));unfold dw at e;simp at e;lia
  | cons q r=>
   have i:=d.lt q (by room);have j:=hv.all q r i d.dn (λx g=>d.lt x (by room)) (by simp at hl;lia);have:=hb (h q) (jb _ (a9.mpr ⟨q,cx.mpr i,rfl⟩));lia
 lia
noncomputable def Cp(ws:List af)(s:Int)(pl:Bool)(x:af):Int:=DX s pl (ws.findIdx λw=>decide (w=x))
theorem ztn(nd:ws.Nodup)(h:ws[i]?\x):Cp ws s pl x=DX s pl i:=by
 let⟨hi,e⟩:=cf.mp h;unfold Cp;congr 1
 rw[List.findIdx_eq hi];show⟨by show if_pos ‹_›,λj b=>?_⟩;simp![decide_eq_false_iff_not];intro z;have:=(Gq nd).mp (z.trans e.symm);room
theorem Rh(a)(l:List b):bA (a::l) 0\a:=fq (j:=0) ∅
structure Made(s:Int)(W:af->Int)(ps:List Pc)(ts:List Tr):Prop where
 ld:qw W ps
 n:ps.length<=14
 pk:∀p∈ps,1<=p.k/\p.k<=3/\p.l<=p.r
 v:Valid ps.length ts
 tl:ts.length<=63
 up:Up s ts
def yK:TX:=(cu (fX 1 (bT (oI (λ_ j=>0<j) λi j=>.int (i%j)) (gO Cr (aM (uV (aH 0) Ad (pK (dC (.int 1)))) bH)) (bT (oI tS λi j=>.int (i ^ j.toNat)) (dC (.int 10)) (dC (.int 30)))))
 (cu (fX 2 (eN 1 zE (aM (aH 1) bH)))
 (cu (fX 3 (bT (oI (λ_ j=>0<j) λi j=>.int (i%j)) (aH 1) (dC (.int 5))))
 (cu (fX 4 (eN 4 zH (aM (aH 2) (aM (aH 1) (aM (uV (aH 0) (pK (dC (.int 1))) (pK (dC (.int 15)))) (aM (bT (gK λi j=>.bl (decide (j<i))) (aH 3) (dC (.int 1))) bH))))))
 (cu (nZ 5 (eN 3 zX (aM (aH 1) (aM (uV (aH 0) (pK (dC (.int 1))) Ad) (aM (gO pD (aM (aH 4) bH)) bH)))))
 (cu (iA (fB (bT oEq (aH 3) (dC (.int 2)))) (cu (fX 4 (eN 2 zR (aM (aH 2) (aM (uV (aH 0) (pK (dC (.int 1))) (pK (dC (.int 15)))) bH))))
 (nZ 5 (rf bH))) j7)
 (cu (iA (fB (bT oEq (aH 3) (dC (.int 3)))) (nZ 5 (eN 2 zG (aM (aH 1) (aM (gO pD (aM (aH 4) bH)) bH)))) j7)
 (cu (iA (Hz (fB (bT oEq (aH 3) (dC (.int 1)))) (fB (bT (gK λi j=>.bl (decide (j<i))) (CC 5) (dC (.int 0))))) (cu (qZ 5 (pE (aM (bT fL (yI 5 (dC (.int 0))) (dC (.int 1))) (aM (bT fL (yI 5 (dC (.int 0))) (dC (.int 0))) (aM (dC (.int 0)) bH)))))
 (yE 5 (iQ (eN 2 zQ (aM (gO wa (aM (aH 4) bH)) (aM (aH 5) bH)))))) j7)
 (yE 5 (cu (fX 6 (rf (aM (gO wa (aM (aH 4) bH)) (aM (gO wa (aM (aH 5) bH)) bH))))
 (cu (fX 7 (rD 2 wM (λ_ _ _=>False) (aM (bT fL (aH 6) (dC (.int 0))) (aM (bT fL (aH 6) (dC (.int 1))) bH))))
 (cu (fX 8 (eN 1 zV (aM (aH 4) bH)))
 (cu (fX 9 (gO yC (aM (bT Cu (eN 2 wR (aM (aH 4) (aM (aH 5) bH))) (rf (aM (dC (.int 0)) bH))) bH)))
 (cu (iA (fB (bT (gK λi j=>.bl (decide (j<=i))) (bT fL (aH 8) (dC (.int 0))) (aH 9))) (iA (vS (fB (eN 2 oz (aM (aH 7) (aM (pE (aM (dC (.str "column")) (aM (bT fL (aH 8) (dC (.int 0))) (aM (bT fL (aH 8) (dC (.int 1))) bH)))) bH))))) (iQ (dC (.bl false))) j7) (iA (xK (vS (fB (eN 2 oz (aM (uV (aH 7) Ad (pK (dC (.int 2)))) (aM (pE (aM (dC (.str "chain")) (aM (aH 9) bH))) bH))))) (vS (fB (eN 4 zS (aM (bT fL (aH 7) (dC (.int 2))) (aM (aH 4) (aM (aH 5) (aM (aH 9) bH)))))))) (iQ (dC (.bl false))) j7))
 (cu (iA (xK (fB (bT Ae (aH 6) (rf (aM (aH 4) (aM (aH 5) bH))))) (fB (bT Ae (gO pD (aM (aH 7) bH)) (dC (.int 3))))) (iQ (dC (.bl false))) j7)
 (iQ (ML (Ct (eN 2 zP (aM (aH 4) (aM (aH 5) bH)))) (bT oEq (eN 2 um (aM (aH 4) (aM (eN 2 zf (aM (aH 4) (aM (aH 5) bH))) bH))) (bT fL (aH 7) (dC (.int 1)))))))))))))))))))))
theorem zqN:cQ 1 (Ih 63) yK ["_law_script","_law_first","_law_words","_law_choice","_law_pieces","_law_above","_law_handed","_law_found","_law_load","_law_chain"]:=by
 intro ds Qr hl h;let⟨ns,rfl,hn,q⟩:=h;show yK _ [.fz (dI ns),.un,.un,.un,.un,.un,.un,.un,.un,.un];unfold yK dI;have big:=ez;lk;generalize (fP ns none (some 1)).sum=sm;generalize sm%1000000000000000000000000000000=first;walk;have Y:=zoe first;have mG:(fP ns (some 1) (some 15)).length<=14:=by rw[Uy _ (by cbv) (by cbv)];simp;ext
 generalize Z:fP ns (some 1) (some 15)=cells at mG;walk;show⟨_,rfl,?_⟩;walk;show⟨lK first,first,cells,_,by rw[Z];rfl,Y.len,by lia,λA hl0 j=>?_⟩;have Ws:qw (Cp (lK first) first (decide (1<first%5))) A:=by
  show⟨by lia,λp g=>?_,λp g x hx=>?_,λp g=>?_⟩
  .have:=(j p g).k0;room
  .let⟨i,V,U⟩:=(j p g).wd x hx;rw[U,ztn Y.nd V]
  have V:=(j p g).l0;have U:=(j p g).lr;have h3:=(j p g).r1;lia
 generalize Cp (lK first) first (decide (1<first%5))=W0 at Ws;have K:∀p∈A,1<=p.k/\p.k<=3/\p.l<=p.r:=λp g=>⟨(j p g).k0,(j p g).k1,(j p g).lr⟩
 walk;rw[aO];show⟨first,fP ns (some 1) none,A.length,rfl,by rw[DF _ (by cbv)];simp;lia,by lia,λVN v0 VP E=>?_⟩;have m0:Made first W0 A VN:=⟨Ws,by cbv,K,v0,by rw[DF _ (by cbv)] at VP;simp at VP;ext,E⟩
 walk;generalize T:iP (cu _ _) _=K1;have r1:∀(W:af->Int)(ps:List Pc)(ts:List Tr),Made first W ps ts->K1 [.fz (.lst (ns.map .int)),.fz (.int first),.fz (dS (lK first)),.fz (.int (first%5)),.fz (br ps),.ow (ts.map dT),.un,.un,.un,.un]:=λW ps ts m=>by
  subst T;walk;generalize S:iP (cu _ _) _=K2;have r2:∀(ts:List Tr),Made first W ps ts->K2 [.fz (.lst (ns.map .int)),.fz (.int first),.fz (dS (lK first)),.fz (.int (first%5)),.fz (br ps),.ow (ts.map dT),.un,.un,.un,.un]:=λts m=>by
   subst S;walk;generalize R:iP (yE _ (cu _ _)) _=K3;have r3:K3 [.fz (.lst (ns.map .int)),.fz (.int first),.fz (dS (lK first)),.fz (.int (first%5)),.fz (br ps),.ow (ts.map dT),.un,.un,.un,.un]:=by
    subst R;have od:Ord ps.length ts:=zu4 m.up;have hk:∀p∈ps,1<=p.k:=λp g=>(m.pk p g).1
    have N:=m.n;have t63:=m.tl;walk;show⟨by trivial,?_⟩;walk;show⟨_,rfl,_,rfl,W,ps,ts,rfl,m.ld,by lia,by lia,m.v,hk,λw l _ s=>?_,λrs r=>SJ od r⟩;walk;show⟨W,ps,rfl,m.ld,λb hb=>?_⟩;have hb:b=hU W ps:=hb;subst hb;walk;show⟨ps,ts,rfl,by lia,by lia,m.v,λh H=>?_⟩;rw[CA] at H;have e0:((aI ps.length).map λq=>D.int (h q))++[D.int 0]=((aI ps.length).map h++[0]).map D.int:=by simp
    walk;generalize Q:iP (cu (iA (xK _ _) _ _) _) _=K4;have Ec:bR 8 (.lst (ts.map dT)):=SA 6 ts;have L:bR 8 (.lst (ps.map bw)):=zs6 6 ps;have X:bR 9 (.lst [.lst (ps.map bw),.lst (ts.map dT)]):=λd hd=>by
     simp![bx,gC,or_false] at hd;rcases hd with rfl | rfl
     .exact L
     show Ec
    have B:∀(a:af)(F:Int)(x b c:D),F=(if w<=(hU W ps).1 then(hU W ps).1 else w)->K4 [.fz (.lst (ns.map .int)),.fz (.int first),.fz (dS (lK first)),.fz (.int (first%5)),.fz (.lst (ps.map bw)),.fz (.lst (ts.map dT)),.fz (.lst [.lst (ps.map bw),.lst (ts.map dT)]),.fz (.tup [.str a,.int F,x]),.fz b,.fz c]:=λa F x b c hF=>by
     subst Q;walk;show⟨by trivial,X,X,?_⟩;simp![wH 9 _ X,lC,eK,dG];walk;show⟨ps,ts,rfl,by lia,by lia,m.v,λb hb=>?_⟩;cases b with
     | false=>show q
     | true=>
      let⟨k1,ex⟩:=hb rfl;show⟨ps,ts,rfl,by lia,by lia,m.v,od,m.pk,λtr pt O=>⟨ps,tr,rfl,O,by lia,λp g=>⟨(m.pk p g).1,(m.pk p g).2.1⟩,_,rfl,?_⟩⟩;have e:=zmb m.ld m.v m.pk s pt (λp g=>by have:=k1 p g;have:=hk p g;lia) ex;rw[<-hF] at e;show⟨by trivial,by trivial,?_⟩;rw[yV,IU,e,decide_eq_true rfl];show q
    show⟨by room,by simp;lia,?_⟩;rw[e0];simp![yC,wW];show⟨∅,λM hM P=>?_⟩;have eM:=zu5 od H s hM P;subst eM;show⟨_,rfl,?_⟩;have Mc:=Dn.len od s.dn s.lt;unfold Io;by_cases C:M<=(hU W ps).1
    .simp![if_pos C] at B ⊢;simp![yV,if_pos C];show⟨_,rfl,_,rfl,by trivial,?_⟩;show⟨_,rfl,?_,?_⟩
     .refine⟨∅,λd hd=>?_⟩;simp![bx,gC,or_false] at hd;rcases hd with rfl | rfl | rfl
      .trivial
      .trivial
      cases (hU W ps).2<;>trivial
     show B _ _ _ _ _ rfl
    simp![if_neg C] at B ⊢;simp![yV,if_neg C];rw[Td _ (by cbv)];show⟨(λz=>absurd z.2 (by room)),by trivial,⟨_,rfl,?_,?_⟩⟩
    .refine⟨∅,λd hd=>?_⟩;have hd:d∈[D.str "chain",.int M]:=hd;simp only[bx,gC,or_false] at hd;rcases hd with rfl | rfl<;>trivial
    show⟨_,rfl,ps,ts,l,M,rfl,by lia,by lia,by lia,s.dn,s.lt,by rw[CA];show s.eq,?_⟩;show B _ _ _ _ _ rfl
   split
   .split
    .rename_i g;cases ts with
     | nil=>trivial
     | cons t ts=>
      show⟨_,Rh _ _,?_⟩;show⟨_,rfl,_,Rh _ _,?_⟩;have tl:=m.tl;show⟨_,rfl,by trivial,by rw[aO];lia,?_⟩;have ea:(t::ts).map dT++[D.tup [.int t.2.1,.int t.1,.int 0]]=((t::ts)++[(t.2.1,t.1,(0:Int))]).map dT:=by rw[cO];rfl
      have vt:=m.v t (by room);have N:=m.n;rw[ea];walk;show⟨W,ps,(t::ts)++[(t.2.1,t.1,(0:Int))],rfl,m.ld,by lia,by simp![gj,cL,nX] at tl ⊢;lia,λu y=>?_,λp g=>(m.pk p g).1,λo=>?_,q⟩
      .rcases cy.mp y with y | y
       .exact m.v u y
       rw[dD.mp y];show⟨vt.2,vt.1⟩
      let⟨f,hf⟩:=o;have V:=hf t (by room);have U:=hf (t.2.1,t.1,0) (by show gD _ (.head _));lia
    show r3
   show r3
  split
  .unfold br;lk;rw[aO];show⟨first,ps.length,rfl,by have:=m.n;lia,λJ v' tl' I=>r2 J ⟨m.ld,m.n,m.pk,v',by have:=m.n;lia,I⟩⟩
  show r2 ts m
 split
 .walk;show⟨_,cells,by rw[Z];rfl,Y.len,by lia,λps hl ok=>?_⟩;walk;show⟨by show du _,r1 (λ_=>1) ps [] ⟨⟨by lia,λp g=>by cbv,λp g _ _=>(ok p g).2.2.2,λp g=>⟨(ok p g).1,(ok p g).2.1⟩⟩,by cbv,λp g=>by cbv,(λt ht=>by cases ht),∅,(λt ht=>by cases ht)⟩⟩
 show r1 W0 A VN m0
end Wc
end
namespace Wc
open PySem PySem.Spec PyProof.Rows L2
local macro_rules | `(tactic| walk_at"nm")=>`(tactic| show⟨rfl,by first | show Or.inl rfl | show Or.inr (Or.inl rfl) | show Or.inr (Or.inr rfl),by decide,by decide⟩)
local macro_rules | `(tactic| walk_at"sc")=>`(tactic| show⟨rfl,rfl,rfl,by decide +kernel,rfl,by decide +kernel,by decide +kernel⟩)
local macro_rules | `(tactic| walk_at"bn")=>`(tactic| (intro _ _ _ _ _ _ us hl;first | (obtain⟨_,rfl⟩:=HG hl;show rfl) | (obtain⟨_,_,rfl⟩:=n5 hl;show rfl) | (obtain⟨_,_,_,rfl⟩:=HF hl;show rfl) | (obtain⟨_,_,_,_,rfl⟩:=HE hl;show rfl) | (obtain⟨_,_,_,_,_,rfl⟩:=HD hl;show rfl) | (obtain⟨_,_,_,_,_,_,_,rfl⟩:=HB hl;show rfl)))
section
variable{P:aD}{w:aB}{K:ar}{mg:af->Option aa}{base:aw}{fN sU:ae}
abbrev uB:bE:=top 33
theorem uu:lh ["_law_found","_law_due"] ["_law_found","_law_due"] (bQ uB):=by walk_at"sc"
theorem VG:(["_law_one","_law_other"]:List af).Nodup:=by decide +kernel
theorem VX:lh ["_law_script","_law_first","_law_words","_law_choice","_law_pieces","_law_above","_law_handed","_law_found","_law_load","_law_chain"] ["_law_script"] (bQ (top 47)):=by walk_at"sc"
abbrev Li:bE:=zrR (top 2) 0
theorem zmd:lh ["self","ring"] ["self","ring"] (bQ Li):=by walk_at"sc"
variable(T:Txt K mg)
include T in
theorem zeq(A:At K mg "levels_found" (top 7)): ~~~1 "levels_found" 2 wY:=cR 0 A zeQ (M0.2 T)
variable(C_levels_found: ~~~1 "levels_found" 2 wY)
include T in
theorem zer(A:At K mg "ring_without" (top 8)): ~~~1 "ring_without" 2 zW:=cR 0 A zeR (MT.2 T)
variable(C_ring_without: ~~~1 "ring_without" 2 zW)
include T C_levels_found C_ring_without in
theorem zjw(A:At K mg "ranked" (top 6)): ~~~2 "ranked" 2 zg:=cR 1 A zkq (MU.2 T C_levels_found C_ring_without)
variable(Fn: ~~~2 "ranked" 2 zg)
include T in
theorem zgq(A:At K mg "pieces_in" (top 17)): ~~~1 "pieces_in" 2 zK:=cR 0 A zgQ (MV.2 T)
variable(C_pieces_in: ~~~1 "pieces_in" 2 zK)
include T C_pieces_in in
theorem zii(A:At K mg "load_at" (top 27)): ~~~2 "load_at" 2 zy:=cR 1 A zjk (MZ.2 T C_pieces_in)
variable(C_load_at: ~~~2 "load_at" 2 zy)
include T C_load_at in
theorem zij(A:At K mg "load_of" (top 26)): ~~~3 "load_of" 1 zx:=cR 2 A zjl (MY.2 T C_load_at)
variable(Fo: ~~~3 "load_of" 1 zx)
include T C_levels_found in
theorem zfd(A:At K mg "chain_ends" (top 10)): ~~~2 "chain_ends" 2 zC:=cR 1 A zgb (M7.2 T C_levels_found)
variable(C_chain_ends: ~~~2 "chain_ends" 2 zC)
include T C_chain_ends in
theorem zgY(A:At K mg "chain_of" (top 9)): ~~~3 "chain_of" 2 zr:=cR 2 A zia (M6.2 T C_chain_ends)
variable(Fp: ~~~3 "chain_of" 2 zr)
include T in
theorem zgr(A:At K mg "_law_stem" (top 30)): ~~~1 "_law_stem" 2 zO:=cR 0 A zgK (Nd.2 T)
variable(C__law_stem: ~~~1 "_law_stem" 2 zO)
include T C__law_stem in
theorem zfe(A:At K mg "_law_named" (top 31)): ~~~2 "_law_named" 1 zE:=cR 1 A zf2 (Ni.2 T C__law_stem)
variable(C__law_named: ~~~2 "_law_named" 1 zE)
include T in
theorem zgZ(A:At K mg "_law_mix" (top 32)): ~~~1 "_law_mix" 2 rO:=cR 0 A zhX (Nj.2 T)
variable(C__law_mix: ~~~1 "_law_mix" 2 rO)
include T C__law_mix in
theorem zgs(A:At K mg "_law_some" (top 34)): ~~~2 "_law_some" 4 zH:=cR 1 A zgU (Nf.2 T C__law_mix)
variable(C__law_some: ~~~2 "_law_some" 4 zH)
include T C__law_mix in
theorem zgt(A:At K mg "_law_rank" (top 36)): ~~~2 "_law_rank" 2 wN:=cR 1 A zgL (Ng.2 T C__law_mix)
variable(C__law_rank: ~~~2 "_law_rank" 2 wN)
include T C__law_mix C__law_rank in
theorem zes(A:At K mg "_law_triples" (top 37)): ~~~3 "_law_triples" 3 zX:=cR 2 A zeM (Nc.2 T C__law_mix C__law_rank)
variable(C__law_triples: ~~~3 "_law_triples" 3 zX)
include T C__law_mix in
theorem zgu(A:At K mg "_law_once" (top 35)): ~~~2 "_law_once" 2 zR:=cR 1 A zgW (Nh.2 T C__law_mix)
variable(C__law_once: ~~~2 "_law_once" 2 zR)
include T C__law_rank in
theorem zeZ(A:At K mg "_law_linked" (top 43)): ~~~3 "_law_linked" 2 zG:=cR 2 A zfc (Nk.2 T C__law_rank)
variable(C__law_linked: ~~~3 "_law_linked" 2 zG)
include T in
theorem zff(A:At K mg "_law_whole" (top 38)): ~~~1 "_law_whole" 1 wZ:=cR 0 A zgh (Nb.2 T)
variable(C__law_whole: ~~~1 "_law_whole" 1 wZ)
include T C__law_whole in
theorem zet(A:At K mg "_law_is_ring" (top 39)): ~~~2 "_law_is_ring" 2 zT:=cR 1 A zeY (Nl.2 T C__law_whole)
variable(C__law_is_ring: ~~~2 "_law_is_ring" 2 zT)
variable(Fg:Fm P w K mg base 1 "NoOrder" "ring")
include T Fn Fg in
theorem zfg(A:At K mg "levels_of" (top 24)):nN P w K mg base 3 "levels_of" 2 wU:=Vi (T:=DP) 2 A zgi (λnd d f c A outer s H E a=>have b:=a.units
 (wI (wj (bu 2 (bY Fn a (aq (c7 ml T.b_len j4 (aq (ag 0) aA)) (aq (ag 1) aA))) nd))
   (wI (R6 (ck (gG b) (aK (ag 2) au) j9) (Dr (zn3 Fg a rfl rfl zqm (aK (ag 2) au))) (Tf cY))
   (Dr (wj (b9 (aK (ag 2) au)))))))
variable(X_levels_of:nN P w K mg base 3 "levels_of" 2 wU)
include T Fo Fp X_levels_of in
theorem zgv(A:At K mg "floor_of" (top 28)):nN P w K mg base 4 "floor_of" 2 wM:=Vi (T:=Kt) 3 A zgV (λnd d f c A outer s H E a=>have b:=a.units
 (wI (zqn (zn2 X_levels_of a rfl zsP (zsS (aq (ag 0) (aq (ag 1) aA)))))
   (wI (wj (bu 2 (bY Fo a (aq (ag 0) aA)) nd))
   (wI (wj (bu 3 (bY Fp a (aq (ag 0) (aq (ag 1) aA))) nd))
   (wI (R6 (ck Rp (aK (ag 2) au) (aK (ag 3) au)) (Dr (wj (b9 (fF (aq j9 (aq (aK (ag 2) au) (aq (aK (ag 2) au) aA))))))) (Tf cY))
   (Dr (wj (b9 (fF (aq j9 (aq (aK (ag 3) au) (aq (aK (ag 3) au) aA))))))))))))
variable(X_floor_of:nN P w K mg base 4 "floor_of" 2 wM)
variable(N_NoOrder:gA K mainGlobals "NoOrder"=some (some (.ref fN)))(EK:Be K fN)(XM_NoOrder:qF K (.ref fN) (.ref fN)=some true)(XF_NoOrder:u7 K fN "ring")(M_NoOrder:mg "NoOrder"=some (.ref fN))(M_WireError:mg "WireError"=some (.ref sU))(I1:vv K (.ref fN) (.ref sU)=some true)
omit T in
theorem RJ{Q:ae->Prop}{b:af}{c:ae}(N:gA K mainGlobals b\some (.ref c))(h:Q c):∀C,gA K mainGlobals b\some (.ref C)->Q C:=λC a=>by rw[N] at a;cases a;show h
include T C__law_is_ring X_floor_of N_NoOrder EK XM_NoOrder XF_NoOrder M_NoOrder M_WireError I1 in
theorem zgw(A:At K mg "_law_shut" (top 46)): ~~~5 "_law_shut" 2 zQ:=cR 4 A zgX (λnd f j A outer s H E c=>have i:=c.units
 have g:∀d∈[("NoOrder":af)],∀C,gA K mainGlobals d=some (some (.ref C))->qF K (.ref C) (.ref fN)=some true:=(Qb.mpr ⟨RJ (Q:=λC=>qF K (.ref C) (.ref fN)=some true) N_NoOrder XM_NoOrder,(λ_ h=>nomatch h)⟩)
 have e:∀d∈[("NoOrder":af)],∀C,gA K mainGlobals d=some (some (.ref C))->u7 K C "ring":=(Qb.mpr ⟨RJ (Q:=λC=>u7 K C "ring") N_NoOrder XF_NoOrder,(λ_ h=>nomatch h)⟩)
 (aC (bu 2 iz nd)
   (aC (bu 3 iR nd)
   (aC (zsZ 4 X_floor_of c M_NoOrder g rfl nd (aq (ag 0) (aq (ag 1) aA)) (λa=>(aC (bu 2 (zsV (ok:=["NoOrder"]) (ag 4) e) nd)
   (aN (bu 3 (zsJ (b:=true) (ag 4) EK N_NoOrder T.b_isinstance M_WireError I1) nd)))))
   (aN (b9 (pM (ag 3) (ng (bY C__law_is_ring c (aq (ag 2) (aq (ag 1) aA)))))))))))
variable(C__law_shut: ~~~5 "_law_shut" 2 zQ)
include T in
theorem zeu(A:At K mg "_law_fullest" (top 42)): ~~~1 "_law_fullest" 1 zV:=cR 0 A zeT (Nq.2 T)
variable(C__law_fullest: ~~~1 "_law_fullest" 1 zV)
include T in
theorem zfh(A:At K mg "_law_heavy" (top 40)): ~~~1 "_law_heavy" 2 wR:=cR 0 A zgj (Np.2 T)
variable(C__law_heavy: ~~~1 "_law_heavy" 2 wR)
theorem wO(T:Txt K mg){oz:bB}(g:0<=k)(e:kk<=k)(C__law_alike:Known P w K mg base kk "_law_alike" 2 oz)(c A outer s H E)(b:cV k (A.deeper (envOfC "_law_alike" (bQ uB) *...* f c))) :
  fV (eZ eG P w K mg base ["_law_found","_law_due"] "_law_alike" (bQ uB) f c A outer s H E).gL (gi uB) (DO oz):=by
 have a:=b.units;show(aC (cS (j8 (SU (ag 1) T.b_isinstance T.b_list T.b_tuple o8 Fy)) (aC (cS (pN (oo (j8 (SU (ag 0) T.b_isinstance T.b_list T.b_tuple o8 Fy))) (rJ (ck (vU a) (nc (ag 0) T.b_isinstance T.b_list o8) (nc (ag 1) T.b_isinstance T.b_list o8)))).pb (aN (b9 iR)) cY)
   (aN (b9 (pM (kN (gG a) (c7 ml T.b_len j4 (aq (ag 0) aA)) (c7 ml T.b_len j4 (aq (ag 1) aA))) (ng (c7 (CB rfl) T.b_all Bg (aq (fQ rfl (.of (N':=["_law_one","_law_other"]) (m:=[none,none]) (by kernel_rfl)) JY (zqc T.b_zip (aq (ag 0) (aq (ag 1) aA))) (λs3 d ex=>(kP rfl (c8 (ba 0 VG) (c8 (ba 1 VG) kQ)))) (λs3 d ex=>eP) (λs3 d ex=>(bY (hk:=e) C__law_alike b (aq (ag 0) (aq (ag 1) aA))))) aA))))))) cY)
   (aC (cS (j8 (nc (ag 1) T.b_isinstance T.b_str boot_str)) (aN (b9 (pM (nc (ag 0) T.b_isinstance T.b_str boot_str) (ng (kN (gG a) (ag 0) (ag 1)))))) cY)
   (aC (cS (ck vT (ag 1) iz) (aN (b9 (kN vT (ag 0) iz))) cY)
   (aN (b9 (pM (nc (ag 0) T.b_isinstance T.b_int Fu) (pM (IJ (nc (ag 0) T.b_isinstance T.b_bool boot_bool)) (ng (kN (gG a) (ag 0) (ag 1))))))))))
theorem zfi(A:At K mg "_law_alike" uB)(T:Txt K mg) : ~~~7 "_law_alike" 2 oz:=by
 let⟨f,fd,F,hm⟩:=A.ex;have k0: ~~~1 "_law_alike" 2 (mv 0):=⟨⟨f,fd,["_law_found","_law_due"],pQ (k:=0) (T:=λ_ _=>False) F uu (λ_ _ _ _ _ _ _=>znB) (λ_ _ _ h=>h),hm,F.kp,F.binds λ_ _ _ _ _ _ us a=>by let⟨z,z,rfl⟩:=n5 a;show rfl⟩⟩
 have k1: ~~~2 "_law_alike" 2 (mv 1):=⟨⟨f,fd,["_law_found","_law_due"],pQ (k:=1) F uu (wO T  (by decide) (aW _) k0) (wX 0),hm,F.kp,F.binds λ_ _ _ _ _ _ us a=>by let⟨z,z,rfl⟩:=n5 a;show rfl⟩⟩
 have g: ~~~3 "_law_alike" 2 (mv 2):=⟨⟨f,fd,["_law_found","_law_due"],pQ (k:=2) F uu (wO T  (by decide) (aW _) k1) (wX 1),hm,F.kp,F.binds λ_ _ _ _ _ _ us a=>by let⟨z,z,rfl⟩:=n5 a;show rfl⟩⟩
 have e: ~~~4 "_law_alike" 2 (mv 3):=⟨⟨f,fd,["_law_found","_law_due"],pQ (k:=3) F uu (wO T  (by decide) (aW _) g) (wX 2),hm,F.kp,F.binds λ_ _ _ _ _ _ us a=>by let⟨z,z,rfl⟩:=n5 a;show rfl⟩⟩
 have d: ~~~5 "_law_alike" 2 (mv 4):=⟨⟨f,fd,["_law_found","_law_due"],pQ (k:=4) F uu (wO T  (by decide) (aW _) e) (wX 3),hm,F.kp,F.binds λ_ _ _ _ _ _ us a=>by let⟨z,z,rfl⟩:=n5 a;show rfl⟩⟩
 have c: ~~~6 "_law_alike" 2 (mv 5):=⟨⟨f,fd,["_law_found","_law_due"],pQ (k:=5) F uu (wO T  (by decide) (aW _) d) (wX 4),hm,F.kp,F.binds λ_ _ _ _ _ _ us a=>by let⟨z,z,rfl⟩:=n5 a;show rfl⟩⟩
 have b: ~~~7 "_law_alike" 2 (mv 6):=⟨⟨f,fd,["_law_found","_law_due"],pQ (k:=6) F uu (wO T  (by decide) (aW _) c) (wX 5),hm,F.kp,F.binds λ_ _ _ _ _ _ us a=>by let⟨z,z,rfl⟩:=n5 a;show rfl⟩⟩
 show b
variable(C__law_alike: ~~~7 "_law_alike" 2 oz)
include T C__law_whole in
theorem zdZ(A:At K mg "_law_is_chain" (top 41)): ~~~2 "_law_is_chain" 4 zS:=cR 1 A zep (Nn.2 T C__law_whole)
variable(C__law_is_chain: ~~~2 "_law_is_chain" 4 zS)
include T C__law_heavy in
theorem zfj(A:At K mg "_law_apart" (top 44)): ~~~2 "_law_apart" 2 wQ:=cR 1 A zgn (Nu.2 T C__law_heavy)
variable(C__law_apart: ~~~2 "_law_apart" 2 wQ)
include T C__law_apart in
theorem zfk(A:At K mg "_law_exact" (top 45)): ~~~3 "_law_exact" 2 zP:=cR 2 A zgo (Nr.2 T C__law_apart)
variable(C__law_exact: ~~~3 "_law_exact" 2 zP)
include T in
theorem zg0(A:At K mg "count_of" (top 12)): ~~~1 "count_of" 2 um:=cR 0 A zic (M4.2 T)
variable(C_count_of: ~~~1 "count_of" 2 um)
include T in
theorem zg1(A:At K mg "in_order" (top 15)): ~~~1 "in_order" 1 wV:=cR 0 A zh3 (M3.2 T)
variable(C_in_order: ~~~1 "in_order" 1 wV)
include T C_in_order in
theorem zev(A:At K mg "level_groups" (top 14)): ~~~2 "level_groups" 2 zU:=cR 1 A zeX (M1.2 T C_in_order)
variable(C_level_groups: ~~~2 "level_groups" 2 zU)
include T in
theorem zgx(A:At K mg "strips_of" (top 16)): ~~~1 "strips_of" 2 zJ:=cR 0 A zgS (MS.2 T)
variable(C_strips_of: ~~~1 "strips_of" 2 zJ)
include T C_level_groups C_strips_of in
theorem zgy(A:At K mg "by_levels" (top 13)): ~~~3 "by_levels" 2 zI:=cR 2 A zgT (M9.2 T C_level_groups C_strips_of)
variable(C_by_levels: ~~~3 "by_levels" 2 zI)
include T in
theorem zgz(A:At K mg "uppers_of" (top 19)): ~~~1 "uppers_of" 2 zL:=cR 0 A zgO (MR.2 T)
variable(C_uppers_of: ~~~1 "uppers_of" 2 zL)
include T in
theorem zfl(A:At K mg "are_behind" (top 20)): ~~~1 "are_behind" 3 zD:=cR 0 A zf8 (Na.2 T)
variable(C_are_behind: ~~~1 "are_behind" 3 zD)
include T in
theorem zgA(A:At K mg "common_of" (top 4)): ~~~1 "common_of" 2 zN:=cR 0 A zgM (M5.2 T)
variable(C_common_of: ~~~1 "common_of" 2 zN)
include T C_common_of in
theorem zgB(A:At K mg "may_share" (top 22)): ~~~2 "may_share" 2 zM:=cR 1 A zgN (MW.2 T C_common_of)
variable(C_may_share: ~~~2 "may_share" 2 zM)
include T C_may_share in
theorem zg2(A:At K mg "may_join" (top 21)): ~~~3 "may_join" 3 zu:=cR 2 A zh7 (MX.2 T C_may_share)
variable(C_may_join: ~~~3 "may_join" 3 zu)
include T C_in_order C_uppers_of C_are_behind C_may_join in
theorem zik(A:At K mg "by_rows" (top 18)): ~~~4 "by_rows" 2 zz:=cR 3 A zji (M8.2 T C_uppers_of C_in_order C_are_behind C_may_join)
variable(C_by_rows: ~~~4 "by_rows" 2 zz)
include T C_count_of C_by_levels C_by_rows X_levels_of in
theorem zjx(A:At K mg "packed" (top 23)): ~~~5 "packed" 2 zf:=cR 4 A zks (λnd f c A outer s H E a=>have b:=a.units
 (aC (bu 2 (bY C_by_levels a (aq (ag 0) (aq (Vh X_levels_of a (aq (ag 0) (aq (ag 1) aA))) aA))) nd)
   (aC (bu 3 (bY C_by_rows a (aq (ag 0) (aq (ag 1) aA))) nd)
   (aC (cS (ck pF (bY C_count_of a (aq (ag 0) (aq (ag 3) aA))) (bY C_count_of a (aq (ag 0) (aq (ag 2) aA)))) (aN (b9 (ag 2))) cY)
   (aN (b9 (ag 3)))))))
variable(C_packed: ~~~5 "packed" 2 zf)
include T C__law_named C__law_some C__law_triples C__law_once C__law_linked C__law_shut C__law_fullest C__law_heavy C__law_alike C__law_is_chain C__law_exact C_count_of C_packed X_floor_of in
theorem zu7{f:ae}(c:aa)(A:aT)(outer:List cC)(s:ai)(H:Hp)(E:XK)(a:cV 7 (A.deeper (envOfC "law" (bQ (top 47)) *...* f c))) :
  fV (eZ eG P w K mg base ["_law_script","_law_first","_law_words","_law_choice","_law_pieces","_law_above","_law_handed","_law_found","_law_load","_law_chain"] "law" (bQ (top 47)) f c A outer s H E).gL (gi (top 47)) yK:=
 have b:=a.units;have nd:=VX.nd
 (aC (bu 1 (aQ eu (c7 (CO rfl) T.b_sum xV (aq (lO (ag 0) ou (jN au)) aA)) (aQ CD au au)) nd)
   (aC (bu 2 (bY C__law_named a (aq (ag 1) aA)) nd)
   (aC (bu 3 (aQ eu (ag 1) au) nd)
   (aC (bu 4 (bY C__law_some a (aq (ag 2) (aq (ag 1) (aq (lO (ag 0) (jN au) (jN au)) (aq (kN pF (ag 3) au) aA))))) nd)
   (aC (gI 5 (bY C__law_triples a (aq (ag 1) (aq (lO (ag 0) (jN au) ou) (aq (c7 ml T.b_len j4 (aq (ag 4) aA)) aA)))) nd)
   (aC (cS (ck (gG b) (ag 3) au) (aC (bu 4 (bY C__law_once a (aq (ag 2) (aq (lO (ag 0) (jN au) (jN au)) aA))) nd)
   (aN (gI 5 (iy aA) nd))) cY)
   (aC (cS (ck (gG b) (ag 3) au) (aN (gI 5 (bY C__law_linked a (aq (ag 1) (aq (c7 ml T.b_len j4 (aq (ag 4) aA)) aA))) nd)) cY)
   (aC (cS (y4 (ck (gG b) (ag 3) au) (Dv (ck pF (Dk 5 T.b_len) au))).pb (aC (om 5 (fF (aq (aK (rC 5 au) au) (aq (aK (rC 5 au) au) (aq au aA)))))
   (Jf 5 (aN (b9 (bY C__law_shut a (aq (wJ IH T.b_list o8 (aq (ag 4) aA)) (aq (ag 5) aA))))))) cY)
   (Jf 5 (aC (bu 6 (iy (aq (wJ IH T.b_list o8 (aq (ag 4) aA)) (aq (wJ IH T.b_list o8 (aq (ag 5) aA)) aA))) nd)
   (aC (bu 7 (Vh X_floor_of a (aq (aK (ag 6) au) (aq (aK (ag 6) au) aA))) nd)
   (aC (bu 8 (bY C__law_fullest a (aq (ag 4) aA)) nd)
   (aC (bu 9 (c7 (yP rfl) T.b_max xU (aq (aQ cJ (bY C__law_heavy a (aq (ag 4) (aq (ag 5) aA))) (iy (aq au aA))) aA)) nd)
   (aC (cS (ck Rp (aK (ag 8) au) (ag 9)) (aN (cS (oo (j8 (bY C__law_alike a (aq (ag 7) (aq (fF (aq j9 (aq (aK (ag 8) au) (aq (aK (ag 8) au) aA)))) aA))))) (aN (b9 iR)) cY)) (aN (cS (pN (oo (j8 (bY C__law_alike a (aq (lO (ag 7) ou (jN au)) (aq (fF (aq j9 (aq (ag 9) aA))) aA))))) (rJ (oo (j8 (bY C__law_is_chain a (aq (aK (ag 7) au) (aq (ag 4) (aq (ag 5) (aq (ag 9) aA))))))))).pb (aN (b9 iR)) cY)))
   (aC (cS (pN (ck (vU b) (ag 6) (iy (aq (ag 4) (aq (ag 5) aA)))) (rJ (ck (vU b) (c7 ml T.b_len j4 (aq (ag 7) aA)) au))).pb (aN (b9 iR)) cY)
   (aN (b9 (HZ (IJ (bY C__law_exact a (aq (ag 4) (aq (ag 5) aA)))) (ng (kN (gG b) (bY C_count_of a (aq (ag 4) (aq (bY C_packed a (aq (ag 4) (aq (ag 5) aA))) aA))) (aK (ag 7) au)))))))))))))))))))))
theorem aaI(T:Txt K mg)(AA:At K mg "levels_found" (top 7)/\At K mg "ring_without" (top 8)/\At K mg "ranked" (top 6)/\At K mg "pieces_in" (top 17)/\At K mg "load_at" (top 27)/\At K mg "load_of" (top 26)/\At K mg "chain_ends" (top 10)/\At K mg "chain_of" (top 9)/\At K mg "_law_stem" (top 30)/\At K mg "_law_named" (top 31)/\At K mg "_law_mix" (top 32)/\At K mg "_law_some" (top 34)/\At K mg "_law_rank" (top 36)/\At K mg "_law_triples" (top 37)/\At K mg "_law_once" (top 35)/\At K mg "_law_linked" (top 43)/\At K mg "_law_whole" (top 38)/\At K mg "_law_is_ring" (top 39)/\At K mg "_law_shut" (top 46)/\At K mg "_law_fullest" (top 42)/\At K mg "_law_heavy" (top 40)/\At K mg "_law_is_chain" (top 41)/\At K mg "_law_apart" (top 44)/\At K mg "_law_exact" (top 45)/\At K mg "count_of" (top 12)/\At K mg "in_order" (top 15)/\At K mg "level_groups" (top 14)/\At K mg "strips_of" (top 16)/\At K mg "by_levels" (top 13)/\At K mg "uppers_of" (top 19)/\At K mg "are_behind" (top 20)/\At K mg "common_of" (top 4)/\At K mg "may_share" (top 22)/\At K mg "may_join" (top 21)/\At K mg "by_rows" (top 18)/\At K mg "packed" (top 23)/\At K mg "law" (top 47)/\True)(NI:At K mg "_law_alike" uB)(NJ:NH K mg "NoOrder" "NoOrder.__init__" "ring" Li)(B:At K mg "levels_of" (top 24))(ab1:At K mg "floor_of" (top 28))(N_NoOrder:gA K mainGlobals "NoOrder"=some (some (.ref fN)))(EK:Be K fN)(XM_NoOrder:qF K (.ref fN) (.ref fN)=some true)(XF_NoOrder:u7 K fN "ring")(M_NoOrder:mg "NoOrder"=some (.ref fN))(M_WireError:mg "WireError"=some (.ref sU))(I1:vv K (.ref fN) (.ref sU)=some true)(qj:mg "law"=some (.ref fa)):∃fd:gF,(∀s u,BindsTo s fd ⟨[u],[]⟩ [("_law_script",u)])/\∀base:aw,kE P w K mg base eG 8 fa fd ["_law_script"] (xO K 1 (Ih 63)):=by
 let⟨z,N,M,L,C,D,W,X,t,n,m,r,p,v,o,j,R,i,q,e,g,h,b,d,Z,ab0,y,O,U,Q,S,Y,I,F,V,J,x,l⟩:=AA;show zue (T:=λ_=>yK) x qj VX (by walk_at"bn") (λbase f aE A outer s H E hr=>?_) (λ_=>zqN);have C_levels_found: ~~~1 "levels_found" 2 wY:=zeq (T:=T) z;have C_ring_without: ~~~1 "ring_without" 2 zW:=zer (T:=T) N;have Fn: ~~~2 "ranked" 2 zg:=zjw (T:=T) (C_levels_found:=C_levels_found) (C_ring_without:=C_ring_without) M;have C_pieces_in: ~~~1 "pieces_in" 2 zK:=zgq (T:=T) L;have C_load_at: ~~~2 "load_at" 2 zy:=zii (T:=T) (C_pieces_in:=C_pieces_in) C;have Fo: ~~~3 "load_of" 1 zx:=zij (T:=T) (C_load_at:=C_load_at) D;have C_chain_ends: ~~~2 "chain_ends" 2 zC:=zfd (T:=T) (C_levels_found:=C_levels_found) W;have Fp: ~~~3 "chain_of" 2 zr:=zgY (T:=T) (C_chain_ends:=C_chain_ends) X;have C__law_stem: ~~~1 "_law_stem" 2 zO:=zgr (T:=T) t;have C__law_named: ~~~2 "_law_named" 1 zE:=zfe (T:=T) (C__law_stem:=C__law_stem) n;have C__law_mix: ~~~1 "_law_mix" 2 rO:=zgZ (T:=T) m;have C__law_some: ~~~2 "_law_some" 4 zH:=zgs (T:=T) (C__law_mix:=C__law_mix) r;have C__law_rank: ~~~2 "_law_rank" 2 wN:=zgt (T:=T) (C__law_mix:=C__law_mix) p;have C__law_triples: ~~~3 "_law_triples" 3 zX:=zes (T:=T) (C__law_mix:=C__law_mix) (C__law_rank:=C__law_rank) v;have C__law_once: ~~~2 "_law_once" 2 zR:=zgu (T:=T) (C__law_mix:=C__law_mix) o;have C__law_linked: ~~~3 "_law_linked" 2 zG:=zeZ (T:=T) (C__law_rank:=C__law_rank) j;have C__law_whole: ~~~1 "_law_whole" 1 wZ:=zff (T:=T) R;have C__law_is_ring: ~~~2 "_law_is_ring" 2 zT:=zet (T:=T) (C__law_whole:=C__law_whole) i;have Fg:Fm P w K mg base 1 "NoOrder" "ring":=zsX NJ zmd rfl (by walk_at"bn");have X_levels_of:nN P w K mg base 3 "levels_of" 2 wU:=zfg T Fn Fg B;have X_floor_of:nN P w K mg base 4 "floor_of" 2 wM:=zgv T Fo Fp X_levels_of ab1;have C__law_shut: ~~~5 "_law_shut" 2 zQ:=zgw (T:=T) (C__law_is_ring:=C__law_is_ring) (X_floor_of:=X_floor_of) (N_NoOrder:=N_NoOrder) (EK:=EK) (XM_NoOrder:=XM_NoOrder) (XF_NoOrder:=XF_NoOrder) (M_NoOrder:=M_NoOrder) (M_WireError:=M_WireError) (I1:=I1) q;have C__law_fullest: ~~~1 "_law_fullest" 1 zV:=zeu (T:=T) e;have C__law_heavy: ~~~1 "_law_heavy" 2 wR:=zfh (T:=T) g;have C__law_alike: ~~~7 "_law_alike" 2 oz:=zfi NI T ;have C__law_is_chain: ~~~2 "_law_is_chain" 4 zS:=zdZ (T:=T) (C__law_whole:=C__law_whole) h;have C__law_apart: ~~~2 "_law_apart" 2 wQ:=zfj (T:=T) (C__law_heavy:=C__law_heavy) b;have C__law_exact: ~~~3 "_law_exact" 2 zP:=zfk (T:=T) (C__law_apart:=C__law_apart) d;have C_count_of: ~~~1 "count_of" 2 um:=zg0 (T:=T) Z;have C_in_order: ~~~1 "in_order" 1 wV:=zg1 (T:=T) ab0;have C_level_groups: ~~~2 "level_groups" 2 zU:=zev (T:=T) (C_in_order:=C_in_order) y;have C_strips_of: ~~~1 "strips_of" 2 zJ:=zgx (T:=T) O;have C_by_levels: ~~~3 "by_levels" 2 zI:=zgy (T:=T) (C_level_groups:=C_level_groups) (C_strips_of:=C_strips_of) U;have C_uppers_of: ~~~1 "uppers_of" 2 zL:=zgz (T:=T) Q;have C_are_behind: ~~~1 "are_behind" 3 zD:=zfl (T:=T) S;have C_common_of: ~~~1 "common_of" 2 zN:=zgA (T:=T) Y;have C_may_share: ~~~2 "may_share" 2 zM:=zgB (T:=T) (C_common_of:=C_common_of) I;have C_may_join: ~~~3 "may_join" 3 zu:=zg2 (T:=T) (C_may_share:=C_may_share) F;have C_by_rows: ~~~4 "by_rows" 2 zz:=zik (T:=T) (C_in_order:=C_in_order) (C_uppers_of:=C_uppers_of) (C_are_behind:=C_are_behind) (C_may_join:=C_may_join) V;have C_packed: ~~~5 "packed" 2 zf:=zjx (T:=T) (C_count_of:=C_count_of) (C_by_levels:=C_by_levels) (C_by_rows:=C_by_rows) (X_levels_of:=X_levels_of) J;show zu7 (T:=T) (C__law_named:=C__law_named) (C__law_some:=C__law_some) (C__law_triples:=C__law_triples) (C__law_once:=C__law_once) (C__law_linked:=C__law_linked) (C__law_shut:=C__law_shut) (C__law_fullest:=C__law_fullest) (C__law_heavy:=C__law_heavy) (C__law_alike:=C__law_alike) (C__law_is_chain:=C__law_is_chain) (C__law_exact:=C__law_exact) (C_count_of:=C_count_of) (C_packed:=C_packed) (X_floor_of:=X_floor_of) aE A outer s H E hr
end
end Wc
open PySem PySem.W PyProof.Rows
theorem PySem.W.Fast.te10270451576093833191:True:=trivial
noncomputable def PySem.W.Fast.tw17915771279289565938:aD:=PySem.Challenge.pw_wirechannel_k36_floors
theorem PySem.W.Fast.te17915771279289565938:PySem.Challenge.pw_wirechannel_k36_floors=PySem.W.Fast.tw17915771279289565938:=rfl
noncomputable def PySem.W.Fast.tw4291145088332815782:List bE:=(PySem.Challenge.pw_wirechannel_k36_floors.main.body.drop 0).take 2
theorem PySem.W.Fast.te4291145088332815782:(PySem.Challenge.pw_wirechannel_k36_floors.main.body.drop 0).take 2=PySem.W.Fast.tw4291145088332815782:=rfl
noncomputable def PySem.W.Fast.tw2496767471679006615:List bE:=(PySem.Challenge.pw_wirechannel_k36_floors.main.body.drop 2).take 7
theorem PySem.W.Fast.te2496767471679006615:(PySem.Challenge.pw_wirechannel_k36_floors.main.body.drop 2).take 7=PySem.W.Fast.tw2496767471679006615:=rfl
noncomputable def PySem.W.Fast.tw4529580124339916597:List bE:=(PySem.Challenge.pw_wirechannel_k36_floors.main.body.drop 9).take 15
theorem PySem.W.Fast.te4529580124339916597:(PySem.Challenge.pw_wirechannel_k36_floors.main.body.drop 9).take 15=PySem.W.Fast.tw4529580124339916597:=rfl
noncomputable def PySem.W.Fast.tw8266065898894085237:List bE:=(PySem.Challenge.pw_wirechannel_k36_floors.main.body.drop 24).take 14
theorem PySem.W.Fast.te8266065898894085237:(PySem.Challenge.pw_wirechannel_k36_floors.main.body.drop 24).take 14=PySem.W.Fast.tw8266065898894085237:=rfl
noncomputable def PySem.W.Fast.tw11782253215001419462:List bE:=(PySem.Challenge.pw_wirechannel_k36_floors.main.body.drop 38).take 10
theorem PySem.W.Fast.te11782253215001419462:(PySem.Challenge.pw_wirechannel_k36_floors.main.body.drop 38).take 10=PySem.W.Fast.tw11782253215001419462:=rfl
namespace PySem.W.Fast
def tw11927389891621529004:=Nat
def tw11420157900441956267:=Nat
def tw8338073206244113738:=Nat
def tw18354225869431078544:=Nat
def tw15676026032503377499:=Nat
def tw7746757404624311718:=Nat
def tw10938800013313678859:=Nat
def tw3393895739152683390:=Nat
def tw11577428073200816050:=Nat
def tw11637386722566808589:=Nat
def tw6567168035234995962:=Nat
def tw1370309265550532678:=Nat
def tw18215299466752331526:=Nat
def tw1104004444325047652:=Nat
def tw16128316793530789872:=Nat
def tw11593694342531828515:=Nat
def tw15336080926207393192:=Nat
def tw15115657514955852909:=Nat
def tw16351365122928208194:=Nat
def tw11128334590624091990:=Nat
def tw15443899462188975883:=Nat
def tw13842970454976132221:=Nat
def tw9595330031131522038:=Nat
def tw6091460027720646227:=Nat
def tw15060105495063230022:=Nat
def tw928558199806641552:=Nat
def tw12645767494370678344:=Nat
def tw1083569028233024107:=Nat
def tw6149226025318964486:=Nat
def tw1657110766054767027:=Nat
def tw3115693362570858757:=Nat
def tw18238555560359813600:=Nat
def tw4759446952472995150:=Nat
def tw13354586042364624056:=Nat
def tw11487359324676224259:=Nat
def tw6590462886846915123:=Nat
def tw3461316263542193533:=Nat
def tw13370052769683156482:=Nat
def tw871676510128326279:=Nat
def tw252150984496732066:=Nat
def tw9829115691005808058:=Nat
def tw10974159752137326822:=Nat
def tw10411767958346318476:=Nat
def tw17552814274375499104:=Nat
def tw11348888389346718788:=Nat
def tw7062355052508291241:=Nat
def tw605599821793901115:=Nat
def tw3828799640672524639:=Nat
def tw8589505883066640000:=Nat
def tw12492373241385990227:=Nat
def tw4787002159190553020:=Nat
def tw14897091610261730647:=Nat
def tw64763009796964466:=Nat
def tw15198888772883295773:=Nat
def tw7402508911665485220:=Nat
def tw15403654993183154790:=Nat
def tw1580699450636853469:=Nat
def tw9196520886648288076:=Nat
def tw16499736184189990227:=Nat
def tw14475894662975415375:=Nat
def tw6251022979688518111:=Nat
def tw6816614591878332964:=Nat
def tw13635489086038526279:=Nat
def tw3467759961754643196:=Nat
def tw17750440325539560976:=Nat
def tw17622652084825765300:=Nat
def tw16948501621498513456:=Nat
def tw13565163117103492293:=Nat
def tw8285962417885915563:=Nat
def tw15035256319086170459:=Nat
def tw18143755929571407729:=Nat
def tw72517729296972754:=Nat
def tw8553421228671257650:=Nat
def tw18226830291021865996:=Nat
def tw46113740539961432:=Nat
def tw445280573259881978:=Nat
def tw10136378556237390482:=Nat
def tw7978671522650109268:=Nat
def tw12541420389659526700:=Nat
def tw7314226026400633552:=Nat
def tw10588257774825577969:=Nat
def tw11365739178566180502:=Nat
def tw17669883740358899147:=Nat
def tw10589090860606603480:=Nat
def tw64703570496099738:=Nat
def tw9192614801026633603:=Nat
def tw3715142735456086002:=Nat
def tw8131737827087415866:=Nat
def tw16212627775687360114:=Nat
def tw3752879809351299415:=Nat
def tw17825892189846823178:=Nat
def tw8461942629385010218:=Nat
def tw4665401001956117198:=Nat
def tw10248668639823014103:=Nat
def tw1048478415083337347:=Nat
def tw7687112578769595803:=Nat
def tw5143187735818175831:=Nat
def tw3842591565897831912:=Nat
def tw7190192449838386577:=Nat
def tw15918486854166747785:=Nat
def tw1091785324102188787:=Nat
def tw17954963745173185577:=Nat
def tw12341688340439358972:=Nat
def tw9965480296598083551:=Nat
def tw14447731369761779576:=Nat
def tw2861858416705355058:=Nat
def tw5301079762448282008:=Nat
def tw18063525230092628900:=Nat
def tw1088710854057326868:=Nat
def tw8204069761990556947:=Nat
def tw10977666429602856209:=Nat
def tw8422829868800685599:=Nat
def tw18280975028660418645:=Nat
def tw5219016215744168367:=Nat
def tw1935871328359845369:=Nat
def tw7096726065127070029:=Nat
def tw17052249704548369392:=Nat
def tw11146194143088335104:=Nat
def tw5008454689180341201:=Nat
def tw8522281196465941331:=Nat
def tw15006724786627181317:=Nat
def tw16232882766612784178:=Nat
def tw6073182449834258956:=Nat
def tw4822221333650792641:=Nat
def tw2664215368748336999:=Nat
def tw11612605570530301699:=Nat
def tw6851739506231125849:=Nat
def tw11513755754006398825:=Nat
def tw9851881134570503633:=Nat
def tw11959602715962406587:=Nat
def tw2789109474277916073:=Nat
def tw12363740535391424903:=Nat
def tw10121650288586921969:=Nat
def tw3240332984017348559:=Nat
def tw8582726101422153194:=Nat
def tw9139915010707656554:=Nat
def tw11208925584249608235:=Nat
def tw17125573275337814005:=Nat
def tw764886282743843524:=Nat
def tw5938737610550911166:=Nat
def tw17252102119805077964:=Nat
def tw10300428931105704413:=Nat
def tw18329216251762723652:=Nat
def tw17418722432575185242:=Nat
def tw14716128108903967474:=Nat
def tw6960778484874664533:=Nat
def tw1991164073666087708:=Nat
def tw16625186940424451083:=Nat
def tw5033183555688201069:=Nat
def tw3473009849933114896:=Nat
def tw12456438005454761219:=Nat
def tw6012070269891339296:=Nat
def tw12857692805489363471:=Nat
def tw8971316311909507612:=Nat
def tw16859306915000689072:=Nat
def tw12509563898647743665:=Nat
def tw9791794114921142013:=Nat
def tw809330001542190789:=Nat
def tw923366802284211458:=Nat
def tw13802367967330902098:=Nat
def tw17843987501492660940:=Nat
def tw5132063060980048723:=Nat
def tw6256278619767474184:=Nat
def tw10535902177633571967:=Nat
end PySem.W.Fast
noncomputable def PySem.W.Fast.tw13790750765427713346:aD:={ PySem.Challenge.pw_wirechannel_k36_floors with main:={ PySem.Challenge.pw_wirechannel_k36_floors.main with body:=[1,2,4,6,7,8,9,10,12,13,14,15,16,17,18,19,20,21,22,23,24,26,27,28,30,31,32,33,34,35,36,37,38,39,40,41,42,43,44,45,46,47].map λi=>PySem.Challenge.pw_wirechannel_k36_floors.main.body.getD i (.Pass ⟨0,0,0,0⟩) } }
theorem PySem.W.Fast.te13790750765427713346:({ PySem.Challenge.pw_wirechannel_k36_floors with main:={ PySem.Challenge.pw_wirechannel_k36_floors.main with body:=[1,2,4,6,7,8,9,10,12,13,14,15,16,17,18,19,20,21,22,23,24,26,27,28,30,31,32,33,34,35,36,37,38,39,40,41,42,43,44,45,46,47].map λi=>PySem.Challenge.pw_wirechannel_k36_floors.main.body.getD i (.Pass ⟨0,0,0,0⟩) } }:aD)=PySem.W.Fast.tw13790750765427713346:=rfl
local macro_rules | `(tactic| walk_at"A")=>`(tactic| ((try dsimp only[L2.lX]);refine' L2.Yb KX G ?a ?l ?c ?k;(case a=>k_is);(case l=>k_is);(case c=>k_is);(case k=>k_is)))
local macro_rules | `(tactic| walk_at"Ax")=>`(tactic| show⟨_,_,_,_,by k_is,by k_is,yg KX G (by k_is),by k_is,by kernel_rfl,by k_is,L2.XU (by k_is) (by k_is) (by k_is),⟨by kernel_rfl,by k_is,by k_is⟩,yg KX G (by k_is),by k_is,by k_is,by k_is,by decide +kernel⟩)
theorem PySem.Challenge.cw_wirechannel_k36_floors_holds : PySem.Challenge.rw_wirechannel_k36_floors.Holds := by
 w_on;o_law;k_head;(case hw=>w_witness2)
 k_fill
 show L2.aac (l:=PySem.Challenge.rw_wirechannel_k36_floors) (n:=63) (k:=8) (x:="_law_script") rfl (by decide) rfl ⟨rfl,by decide,by decide⟩ (λw h Y=>PySem.W.kIn_of Y) ?F
 case F=>
  intro w mg fa h KX G qj;have NI:L2.At (L2.lX KX) mg "_law_alike" Wc.uB:=by
   dsimp only[L2.lX];refine' L2.Yb KX G ?a ?l ?c ?k
   (case a=>k_is);(case l=>k_is);(case c=>k_is);(case k=>k_is)
  have T:Wc.Txt (L2.lX KX) mg:=by
   dsimp only[L2.lX];refine' ⟨iK KX G ?b_all,iK KX G ?b_any,iK KX G ?b_bool,iK KX G ?b_dict,iK KX G ?b_enumerate,iK KX G ?b_int,iK KX G ?b_isinstance,iK KX G ?b_len,iK KX G ?b_list,iK KX G ?b_max,iK KX G ?b_min,iK KX G ?b_range,iK KX G ?b_set,iK KX G ?b_sorted,iK KX G ?b_str,iK KX G ?b_sum,iK KX G ?b_tuple,iK KX G ?b_zip⟩
   (case b_all=>k_is)
   (case b_any=>k_is)
   (case b_bool=>k_is)
   (case b_dict=>k_is)
   (case b_enumerate=>k_is)
   (case b_int=>k_is)
   (case b_isinstance=>k_is)
   (case b_len=>k_is)
   (case b_list=>k_is)
   (case b_max=>k_is)
   (case b_min=>k_is)
   (case b_range=>k_is)
   (case b_set=>k_is)
   (case b_sorted=>k_is)
   (case b_str=>k_is)
   (case b_sum=>k_is)
   (case b_tuple=>k_is)
   (case b_zip=>k_is)
  have NJ:L2.NH (L2.lX KX) mg "NoOrder" "NoOrder.__init__" "ring" Wc.Li:=by
   dsimp only[L2.lX];walk_at"Ax"
  have abE:∃fN:ae,mg "NoOrder"=some (.ref fN)/\∃sU:ae,mg "WireError"=some (.ref sU)/\(gA (L2.lX KX) mainGlobals "NoOrder"=some (some (.ref fN)))/\(L2.Be (L2.lX KX) fN)/\(qF (L2.lX KX) (.ref fN) (.ref fN)=some true)/\(L2.u7 (L2.lX KX) fN "ring")/\(vv (L2.lX KX) (.ref fN) (.ref sU)=some true):=by
   dsimp only[L2.lX];show⟨_,yg KX G (by k_is),_,yg KX G (by k_is),by k_is,⟨by k_is,by k_is,by k_is,by k_is,by k_is,by k_is,by k_is,by k_is⟩,by kernel_rfl,⟨by k_is,by k_is,by k_is,by k_is,by k_is⟩,by kit_is⟩
  let⟨fN,M_NoOrder,sU,M_WireError,N_NoOrder,EK,XM_NoOrder,XF_NoOrder,I1⟩:=abE;show Wc.aaI T  (by and_intros<;>first | trivial | walk_at"A") NI NJ (by walk_at"A") (by walk_at"A") N_NoOrder EK XM_NoOrder XF_NoOrder M_NoOrder M_WireError I1 qj
#print axioms PySem.Challenge.cw_wirechannel_k36_floors_holds
