import PyProof.Rows.All
import Wide.All
import OpenK.AllK
import Wide.FinOn
import Lean
import PyProof.EqAt
import PyProof.EqKinds
import PyProof.TupleCall
import PyProof.NeKinds
import PyProof.SliceStr2
import PyProof.ConsumeWalk
import KE.KDictSum
import PyProof.DictWalks
import PyProof.AttrMissSeq
import KE.KDictOf
import PyProof.WalksS
import PyProof.Walks
import PyProof.DictList
import PyProof.MeetsDict
import PyProof.FactsAll.dict_3
import PyProof.MinMaxWalk
import PyProof.WalkInts
import PyProof.Rows.CallKwBuiltin
import PyProof.MaxThree
import PyProof.Rows.SortRunsK
import PyProof.Rows.SortShellK
import KE.KSortTup
import PyProof.DictRoadsH
import PyProof.DictIter
import KE.KDictList
import PyProof.ZipIter
import PyProof.TupleIter
import PyProof.WalksMore
import PyProof.SumWalkG
import PyProof.DictValues
import PyProof.FactsAll.dict_4
import PySem.SetOps
import PyProof.Rows.Walk
import OpenK.KMore
import PyProof.ListRange
import PyProof.DictItems
import PyProof.CallStr
import KE.KIntText
import PyProof.StrCalls2
import PyProof.Rows.StrItems
import PyProof.FactsAll.NoneType
import KE.KTryOn
import PyProof.Draws
import PyProof.EnumMake
import PyProof.Rows.Range3
import KE.KRevIter
import PyProof.ListStr
import PyProof.NsDelKeeps
import PyProof.RulesAs
import KE.KIsAll
import PyProof.ExcArgsOwn
import KE.KFind
import PyProof.ExcInit
import KE.KTryMore
import PySem.Challenge.RW_wirechannel_k73_groups_of_piles
set_option hygiene false
set_option compiler.extract_closed false
local macro_rules(kind:=Lean.Parser.Command.declaration) | s=>do
 let d:=s[1]
 unless s[0].getArgs.all (·.getNumArgs==0) do Lean.Macro.throwUnsupported
 if d.isOfKind `Lean.Parser.Command.definition && d[3][1].isOfKind `Lean.Parser.Term.byTactic then return s.setArg 1 (Lean.mkNode `Lean.Parser.Command.theorem #[Lean.mkAtom "theorem",d[1],Lean.mkNode `Lean.Parser.Command.declSig #[d[2][0],d[2][1][0]],d[3]])
 unless d.isOfKind `Lean.Parser.Command.definition || d.isOfKind `Lean.Parser.Command.abbrev do Lean.Macro.throwUnsupported
 return s.setArg 0 (s[0].setArg 4 (Lean.mkNullNode #[Lean.mkNode `Lean.Parser.Command.noncomputable #[Lean.mkAtom "noncomputable"]]))
noncomputable section
@[inline]def qn(s:String):=(s.splitOn " ").toArray.map λx=>Lean.mkIdent x.toName
local macro_rules|`(tactic|omega)=>`(tactic|first|decide|lia)
local macro_rules|`(tactic|ext)=>`(tactic|omega)
local macro_rules|`(tactic|show $t)=>`(tactic|refine $t)
set_option Elab.async false
set_option linter.all false
local macro_rules|`(tactic|let⟨$x:ident,*⟩:=$e)=>`(tactic|obtain⟨$[$x:ident],*⟩:=$e)
local macro_rules|`(tactic|simp![$a,*] $[$l:location]?)=>`(tactic|simp only[$a,*] $[$l:location]?)
local macro_rules|`($a\$b)=>`($a=some $b)
local macro_rules|`(⋯)=>`(by ext)
local macro_rules|`(tactic|cbv)=>`(tactic|simp_all)
local macro_rules|`(∅)=>`(by simp)
local macro_rules|`(*...*)=>`(s.heap.objs.size)
local macro_rules|`(~~~$d $x $n $t)=>`(Known P w K mg base $d $x $n $t)
local macro_rules|`(↥$c)=>`(wpAny (model prog w) A $c)
local macro_rules|`(⇑$c)=>`(wpAny (model X.prog X.w) X.A $c)
local macro_rules|`('a')=>`(by lia)|`('b')=>`(by kernel_rfl)|`('c')=>`(by show .head _)|`('d')=>`(.ListComp elt [⟨tg,iter,ifs,0⟩] scope pos)|`('e')=>`(λ_=>False)|`('f')=>`(s.heap.get?)|`('g')=>`(by cbv)|`('h')=>`(bG c ar l)|`('i')=>`(by show .tail _ ‹_›)|`('j')=>`({ s with heap:=h' })|`('k')=>`(s1.heap.objs.size)|`('l')=>`(by show if_pos ‹_›)
set_option maxRecDepth 100000
local macro_rules | `(tactic| room)=>`(tactic| solve_by_elim (maxDepth:=4) [jm,qh,bK,fc,cC,rf,bB,b9,Nat.lt_succ_of_le,nK,Jq,Nat.not_lt_of_le,Nat.not_le_of_lt,Nat.le_of_lt_succ,Int.lt_of_lt_of_le,Int.lt_of_le_of_lt,IK,kd,Int.ne_of_lt])
local macro_rules | `(tactic| symm)=>`(tactic| show let G7:Prop:=_;(?_:G7))
open PySem renaming wpAny_bind->aj,Value->af,wpAny_pure->ay,Shared->ai,Spec->acZ,Addr->ag,Str->aa,Program->aI,World->aH,Around->bh,Expr->az,Heap->aD,wpAny_holding->gi,wpAny_newObj_type->jj,wpAny_loadPart'->lC,wpAny_truthy_bool->lA,wpAny_call_entry->kJ,codeAny_builtin->kL,plainId_quiet->lE,wpAny_callSpecial?_slot->vC,mem_of_lookup->t9,FuncData->gR,wpAny_mono->j7,wpAny_pyIter_list->tZ,Pos->aR,boot_len->iY,wpAny_Call_Name_kw->vy,tupleKind_room_in1->vw,wpAny_typeNameOfWhole_keyiter->EA,wpAny_typeNameOfWhole_valiter->Ez,wpAny_setState_of->vv,wpAny_dictEntries->vt,wpAny_rule->mB,Stmt->cq,Obj->aV,wpAny_passesOwn->vq,wpAny_askSetting->xM,call_meets->qd,wpAny_ite_split->xK,wpAny_dictEpoch->xG,wpAny_attempt->vo,wpAny_notOrdered_dict->El,wpAny_pyIter_slot->AJ,wpAny_fieldsOf->xD,wpAny_seqItems->xC,wpAny_tryCatch->xB,codeAny_mono->vn,wpAny_standAt->xA,wpAny_updateSeq->AB,fits_of_scanBound->D7,wpAny_setField->Ay,Scope->iH,wpAny_isOneOf_valiter->JC,wpAny_eqBool_int->D3,wpAny_eqBool_str->D2,wpAny_isInstance->DY,wpAny_callSpecialIfBound?_slot->Td,wpAny_execs_nil->DS,wpAny_specialOf->DR,wpAny_typeOf->As,wpAny_of_eq->An,wpAny_comprehension_free->SY,wpAny_Call_method0_late->SR,wpAny_pyNext_list_item->SH,pushCells_keeps->Jc,wpAny_pyNext_list_end->Sx,wpAny_isOneOf_keyiter->Ss,wpAny_field->DH,codeAny_call_builtin->Sj,entryFor_alias->IX,isSubtype_stop->IW,wpAny_letGo->DG,evalArgs_none->Se,Env->eO,wpAny_handled->IQ,wpAny_newList->IP,wpAny_load->DD,wpAny_call->DC,slot_dict_contains->R5,Within->IJ,wpAny_assign_Name->R0,seqIndex_neg->IF,wpAny_pyIter_enum->RX,wpAny_Call_method->RU,call_meetsIn->IB,wpAny_execs_cons->RQ,wpAny_pyIter_zip->RN,seqIndex_of->Iz,wpAny_throw->Iy,codeAny_of_tree->RH,wpAny_Name->Ir,wpAny_bindName->RB,typeIs_str->Im,numAt_eq->Dy,wpAny_runValue->Rw,wpAny_newTuple->Ru,KeyKind->Rn,rangeSize_one->Rm,intBits_le_64->Rj,evalPart_none->Ri,call_list_seq->Rh,call_range_1->Q8,call->QL
open PySem.W renaming Frag->ao,mg_none_of->jD,emptyDict->rA,keepIn->oW,fnOf->mD,findIn->rh,instObj->tU,kia_one->xI,codeIn->xE,hasDictIn->D9,plainGet->D0,nsIn->Aq,methodObj->Jp,plainOver->Jo,cellsFrom_some->SG,takerIn->Je,makesIn->Jd,lookIn->Jb,mg_of->IT,callWith_K->R6,handedIn->RP,OpenLaw->RJ,isFn->Q7
open List renaming length_map->aE,mem_map->aK,getElem?_eq_getElem->cA,length_append->bP,mem_append->bx,getElem?_eq_some_iff->c7,getElem?_map->b8,mem_cons->bE,mem_cons_of_mem->cJ,map_append->bX,map_map->bz,mem_singleton->cG,map_cons->bT,mem_of_getElem?->dZ,range->bA,length_take->cN,mem_filter->cF,length_cons->cZ,mem_cons_self->et,append_assoc->eF,mem_append_right->fT,size_toArray->eP,append_nil->eS,take_add_one->fG,pairwise_singleton->jo,map->bW,take_length->gk,getElem?_of_mem->iW,nodup_cons->fY,pairwise_map->gQ,mem_append_left->jn,length_filter_le->jE,getElem_mem->gP,pairwise_cons->iV,eq_nil_of_length_eq_zero->oS,flatMap_cons->iU,getElem?_zip_eq_some->oR,flatten_cons->jY,pairwise_append->mn,mem_range->iT,not_mem_nil->jX,of_mem_zip->jC,mem_map_of_mem->ml,nodup_append->lq,drop_eq_getElem_cons->qX,take_of_length_le->p9,mem_flatten->lH,take_append_drop->qm,cons_append->mG,getElem_of_mem->qj,flatMap_append->qi,length_set->mF,filter_cons_of_neg->ud,mem_flatMap->nI,filter_cons_of_pos->uc,mem_of_mem_take->rD,map_nil->j8,filter_eq_nil_iff->ub,length_zip->nH,length_drop->o4,filter_sublist->rC,length_range->qg,mem_of_mem_drop->ua,find?_cons->oY,map_congr_left->t8,perm_append_comm->vA,length_filterMap_le->xT,count_eq_zero->t6,filter_append->t5,getElem?_set_ne->vz,drop_length_add_append->AS,ext_getElem?->tY,getElem?_inj->tX,nil_append->rn,length_nil->rj,getElem?_take->vx,flatMap_nil->tV,drop_append_of_le_length->EB,getElem?_cons_succ->AR,mem_zipIdx_iff_getElem?->Ex,any_cons->rg,mem_filterMap->xR,getElem?_drop->xP,perm_ext_iff_of_nodup->Ew,nodup_iff_pairwise_ne->Eu,pairwise_iff_getElem->Es,any_map->qZ,Nodup->oU,any_eq_true->xO,countP_cons->xN,pairwise_mergeSort->Eo,getElem?_set_self->Em,map_inj_right->AM,foldl_cons->xH,mem_iff_getElem?->Ek,take_sublist->AK,getElem?_set->AI,replicate->xF,casesOn->vm,ext_getElem->AG,map_set->vj,filter_cons->AE,getElem_append_right->JQ,mergeSort_perm->Ed,length_erase_of_mem->JM,range_succ->Az,find?_eq_none->Ea,getElem?_cons_zero->JL,eraseIdx_cons_succ->JK,flatMap_eq_nil_iff->JI,getElem_take->D6,length_singleton->JG,getElem?_toArray->JF,getElem?_eq_none->JE,singleton_append->JB,pairwise_flatMap->JA,lookup_cons->DZ,cons->tQ,map_fst_zip->DV,map_snd_zip->DU,getLast_mem->DT,getElem?_mapIdx->Jy,take_append_of_le_length->Tc,filterMap_cons->Jw,map_eq_nil_iff->Jv,length_pos_iff->Ju,flatten_append->Jt,sublist_flatten_of_mem->S8,length_zipIdx->Jr,getElem?_append_left->S5,length->Ao,drop_sublist->Jn,getElem_drop->Jm,getElem_append_left->SW,sum_cons->DL,all_eq_true->Jl,Perm->xv,drop_length->Jj,mem_reverse->Ji,zipIdx_cons->Jh,length_eq_zero_iff->SN,append_cancel_left->SK,nodup_range->Jf,extract->DK,drop_eq_nil_of_le->SE,length_pos_of_mem->Sz,append_eq_nil_iff->Sy,filterMap_append->Sw,dropLast_eq_take->Su,set_append_right->Sn,lookup->DI,take_zero->I0,drop_zero->IZ,mem_iff_getElem->Sk,nodup_nil->IY,length_eraseIdx->Si,mem_erase_of_ne->Sf,filter->DF,filter_eq_self->R7,all_cons->IU,perm_nil->IL,zip_cons_cons->R4,ne_nil_of_mem->R3,map_filterMap->R1,find?_append->RT,foldl_append->RS,Sublist->IA,getLast_cons->RR,drop->DB,append_inj'->RL,map_flatten->RK,map_id->Iu,countP_map->RE,count_cons->RD,erase_cons->RC,take_left->Rq,perm_cons->Ro,map_take->Rc,Pairwise->Rb,toArray->Q6,not_lt->QO,count->QI
open PySem.Heap renaming get?_push_of_some->cy,get?_push_size->cT,lt_size->cf,get?_update_other->nC,get?_update_self->rE,SameBut->j9,size_push->oX,get?_push_ne->D5,ExtBut->xw,size_update->Jg
open Array renaming length_toList->cH,getElem_toList->kK,getElem?_eq_getElem->oQ,getElem?_toList->nB,getElem_mem->lp,toList_append->nA,mem_toList_iff->ql,toList_push->o6,getElem?_eq_none->AO,toList_extract->Ej,toList_reverse->Ei,getD_eq_getD_getElem?->S9,getD->Ak,size_map->Rp,toList->Q9
open Nat renaming le_trans->bK,le_refl->bB,zero_le->b9,ne_of_lt->cC,le_of_lt->fc,lt_of_lt_of_le->jm,succ_pos->gh,lt_succ_of_lt->nK,le_succ->iZ,min_eq_left->mE,lt_of_le_of_lt->qh,zero_add->lD,lt_succ_self->tW,lt_irrefl->qf,ne_of_gt->rf,succ_mul->tR,le_add_right->AH,le_of_not_lt->AF,mul_le_mul->Aw,mul_le_mul_right->Jx,not_lt_zero->DQ,lt_trans->Ap,le_succ_of_le->Jq,add_one_sub_one->Sb,le_of_eq->II,add_comm->ID,not_lt->Il,add_zero->QY,sub_self->QV,mod_lt->QJ
open PyProof.Rows renaming wpS_bind->aT,wpS_pure->bw,wpS_forRange->jq,callWith_type1->xV,wpS_mono->iX,wpS_modify->nE,boot_list->mq,boot_sorted->qe,slot_tuple_getitem->Th,callWith_builtin1->Tf,wpS_get->oT,assignInOrder_cons->Js,subscriptTail_builtinR->SF,pairsOf_size->DJ,pairsOf->Sg,getElem?_mirror_all->Sa,lt_str->R9,lt_int->R8,sortedAll_old->IS,listUpdate_at->IM,assignInOrder_nil->RZ,sortedAll_at->IE,boot_max->Ah,boot_sum->Ag,seqEpoch_at->Iw,entry_list_sort->RG,getElem?_bubble->RF,boot_range->Iq,slicePart_none->Ry,Subscript_->Ip,slot_list_sort->Rt,args_list_sort->Rr,size_push'->Ij,boot_min->Dx,plain_sorted->Q4,entry_sorted->Q0,args_sorted1->QZ,boot_int->Ie,gt_int->aaE
open PySem.PassesOwn renaming never->eE
open Bool renaming false_eq_true->fZ,false_ne_true->jk,not_eq_true'->lh,and_eq_true->oZ,eq_iff_iff->xJ,or_eq_true->AD,not_true->Av,and_false->Ja,not_false->IV,false_and->RA,or_false->Rg,true_and->Ra
open Option.some renaming injEq->gw,inj->iu
open Option renaming map_eq_some_iff->jZ,map_some->lG,map_eq_none_iff->AN,toList_some->AL,isSome_some->Ec,isSome_map->D4,isSome_iff_exists->S0,getD_some->Jk,getD_none->RO,casesOn->Rx,map->Ik,none->QR
open PySem.Str renaming ofString->fS,length->Io,empty->QF
open Int renaming le_refl->fA,emod_nonneg->lF,emod_lt_of_pos->o7,le_of_lt->kd,natCast_nonneg->rB,toNat_natCast->rq,toNat_of_nonneg->Ef,zero_add->xx,eq_ofNat_of_zero_le->SJ,le_trans->IK,toNat->QD
open PySem.Value renaming ref->fw,none->jF,type->oV,isStrOf_shape->Eg,int->vi,str->vh,isStrOf->DO,bool->Am,bytes->QU,float->QT
open PySem.F renaming plainAttrs_list->rG,slot_dict_valueiterator_next->EC,slot_dict_keyiterator_next->Ey,slot_list_lt->Eh,slot_dict_valueiterator_iter->Tn,slot_list_append->JO,type_list_append->JN,plainAttrs_dict->JJ,args_dict_valueiterator_next_1->Ti,entry_dict_valueiterator_next->Tg,entry_max_loop->DX,args_dict_keyiterator_next_1->Te,plain_max_loop->DW,entry_dict_keyiterator_next->Tb,slot_dict_setdefault->Ta,plain_extend_loop->S4,slot_list_extend->DN,type_list_extend->SX,slot_dict_values->SV,slot_list_count->SQ,slot_dict_values_iter->SM,args_list_lt_2->SA,slot_set_iter->Sv,slot_dict_get->Sq,entry_list_lt->So,args_list_extend_2->Sm,entry_list_extend->Sd,slot_dict_iter->RM
open PySem.Builtin.Str renaming strSliceIndices->xU,occurrences->xS
open PySem.Heap.SameBut renaming update->t7,refl->aay
open List.Perm renaming append_left->vB,of_eq->rm,append_right->JH,refl->DP,swap->Rv
open PySem.NameKind renaming free->nG,cell->xy
open PySem.Spec renaming ltCps->j6
open PySem.Obj renaming mapSeq->mv,data_mapFields->Eb,mapFields->Au,isFreed_of_fields->Sr,data_mapDictKeys->Sh,cls_mapFields->RV,putSet->QK
open ForInStep renaming yield->tT
open PySem.Calls renaming callWith_builtin->AQ,spliced_cons->xQ,spliced_nil->D8,evalArgs_plain->Jz,Name_function_global->S7,call_function_entry->S1
open PySem.Builtin.Slice renaming slicePlaces->Et,sliceAdjust->JR,sliceApplied->S6,slicePartIndex->aaU,sliceFields->aaN
open PySem.Paired renaming length->tS,snoc->QP
open PySem.Builtin.Tuple renaming tupleExact->Er,tupleCompareSizes->aaW,tupleItemsOf->aaO
open PySem.Builtin.List renaming listTooLong->Ep,listLengthHint->aaR,listExtendWith->aaQ,listSameRef->aaJ
open PySem.SetTable renaming grown->vp,below->Ax
open PyProof.Rows.SortSt renaming mk'->qc
open True renaming intro->qY
open Decidable renaming byContradiction->JP,em->QW
open PyProof.Rows.F renaming entry_set_update_loop->To,plain_set_update_loop->aaX
open Function renaming comp_apply->Ee,comp->Rf
open Sum renaming inl->nD,inr->xu,isRight->QN
open PySem.AutoSeq1 renaming list_extend_list_list_0->Tj,sub_tuple_tuple->SU,sub_list_list->SD
open PySem.Builtin.Dict renaming showsAll->JD,dictSlotNone->aaM,noArgs->aaF
open List.cons renaming inj->DM
open List.Pairwise renaming imp_of_mem->SS,nil->RY,filter->aaG,map->aax
open PySem.Walks renaming list->Al
open PySem.Expr renaming Name->Aj
open PySem.Around renaming under->IH
open PySem.Code renaming isFrame->IG,frames->QS
open Prod renaming ext->Ai,fst->QC,snd->QB,mk->QA
open PySem.pickOrder renaming go->IC
open PySem.SetTable.below renaming go->RW
open PySem.Builtin.Dict_items renaming newIterator->aaV,ownsTuple->aaS,dictOf->aaL
open PySem.Builtin.Frozenset renaming updateFrom->aaT,sizeOf->aaK
open PySem.Builtin.Builtins renaming bindParams->aaP
open PySem.Data renaming seq->Dz,cell->Ii,fields->QQ
open PySem.Builtin.Range renaming rangeSize->aaI
open And renaming intro->Ih
open PySem.Txt renaming slice->Ig
open PySem.W.KatTups renaming cons->QX
open PySem.W.OpenLaw renaming Holds->aaH
open PySem.SeqAt.EqAt renaming int_str->aaD,str_int->aaC
open PySem.W.Looks renaming here->aaB
open PySem.Heap.IsSliceOf renaming new->aaA
open PySem.W.WShape renaming has->QM
open PySem.Within renaming cons->aaz
open List.Sublist renaming refl->aaw,map->aas
open PySem.Flow renaming next->QH
open PyProof.Rows.IsTup renaming new->QG
open PySem.DictEntry renaming refKey->aav
open PySem.IsL renaming update->aau
open PySem.W.WData renaming int->QE
open PySem.Heap.DictOfH renaming new->aat
open Array.Perm renaming refl->aar
def j5:=@decide_eq_false_iff_not
def iG:=@decide_eq_true_eq
def iS:=@decide_eq_true
def eC:=@if_false
def jW:=@decide_eq_false
def nJ:=@of_decide_eq_true
def eG:=@if_true
def o5:=@beq_self_eq_true
def gy:=@congrArg
namespace L2
open PySem PySem.Spec PyProof.Rows
abbrev Key:=Sum Int aa
def Fe:Key->af->Bool
 | .inl k,v=>Value.isInt k v
 | .inr x,v=>DO x v
def zza(w:aH):Key->Int
 | .inl k=>hashInt k
 | .inr x=>hashStr w x
theorem su:∀{k v},Fe k v=true->(∃i t,k=nD i/\v=vi i t)\/(∃x t,k=xu x/\v=vh x t)
 | .inl i,v,h=>by
  let⟨t,e⟩:=Value.isInt_shape (k:=i) (v:=v) h;show .inl ⟨i,t,rfl,e⟩
 | .inr x,v,h=>by
  let⟨t,e⟩:=Eg (x:=x) (v:=v) h;show .inr ⟨x,t,rfl,e⟩
def znZ(i t):Fe (.inl i) (.int i t)=true:=by show o5 _
def zn0(x t):Fe (.inr x) (.str x t)=true:=by show o5 _
def zvv(a b):decide ((nD a:Key)=nD b)=(a==b):=by
 grind
def zvw(a b):decide ((xu a:Key)=xu b)=decide (a=b):=by
 cbv
theorem zvx(a b):decide ((nD a:Key)=xu b)=false:=jW (λq=>nomatch q)
theorem zvy(a b):decide ((xu a:Key)=nD b)=false:=jW (λq=>nomatch q)
def jt(prog w):Rn prog w Key where
 is:=Fe
 hash:=zza w
 inj:=λv a b g d=>by
  rcases su g with⟨i,t,rfl,rfl⟩ | ⟨x,t,rfl,rfl⟩
  .rcases su d with⟨j,u,rfl,e⟩ | ⟨y,u,rfl,e⟩
   .injection e with c _;rw[c]
   show nomatch e
  rcases su d with⟨j,u,rfl,e⟩ | ⟨y,u,rfl,e⟩
  .exact nomatch e
  injection e with c _;rw[c]
 byValue:=λk v h=>by
  rcases su h with⟨i,t,rfl,rfl⟩ | ⟨x,t,rfl,rfl⟩<;>rfl
 pyHash:=λhv h=>by
  rcases su hv with⟨i,t,rfl,rfl⟩ | ⟨x,t,rfl,rfl⟩
  .exact wpAny_pyHash_int h
  show wpAny_pyHash_str h
 eqBool:=λf hv h=>by
  rcases su f with⟨i,t,rfl,rfl⟩ | ⟨x,t,rfl,rfl⟩
  .rcases su hv with⟨j,u,rfl,rfl⟩ | ⟨y,u,rfl,rfl⟩
   .rw[zvv] at h;show D3 h
   rw[zvx] at h;show aaD i t y u _ _ _ _ h
  rcases su hv with⟨j,u,rfl,rfl⟩ | ⟨y,u,rfl,rfl⟩
  .rw[zvy] at h;show aaC x t j u _ _ _ _ h
  rw[zvw] at h;show D2 h
 «strs»:=λk x t v h=>by
  rcases su h with⟨i,u,rfl,e⟩ | ⟨y,u,rfl,e⟩
  .exact nomatch e
  injection e with c _
  subst c;cases v<;>rfl
theorem zkP(prog w i t):(jt prog w).is (.inl i) (.int i t)=true:=znZ i t
theorem zkQ(prog w x t):(jt prog w).is (.inr x) (.str x t)=true:=zn0 x t
inductive V where
 | non | bl (b:Bool) | int (i:Int) | str (x:aa) | Dj (b:Array UInt8) | C5 (b:UInt64) | ref (a:ag) | ty (n:String)
 deriving DecidableEq
def RelV:V->af->Prop
 | .non,u=>u=jF
 | .bl b,u=>u=Am b
 | .int i,u=>∃t,u=vi i t
 | .str x,u=>∃t,u=vh x t
 | .Dj b,u=>∃t,u=QU b t
 | .C5 b,u=>∃t,u=QT b t
 | .ref a,u=>u=fw a
 | .ty n,u=>u=oV n
abbrev Vals:List V->List af->Prop:=Paired RelV
theorem Vals.length(r:Vals xs a):xs.length=a.length:=tS r
theorem Vals.get:∀{xs us}{i:Nat}{x},Vals xs us->xs[i]?\x->∃u,us[i]?\u/\RelV x u
 | _,_,_,_,.nil,e=>by trivial
 | _,_,0,_,.cons r _,e=>by simp at e;subst e;show⟨_,rfl,r⟩
 | _,_,i+1,x,.cons _ t,e=>by
  let⟨u,b,a⟩:=Vals.get (i:=i) (x:=x) t (by simpa using e);show⟨u,by trivial,a⟩
theorem Vals.set(r:RelV x u):∀{xs us} i,Vals xs us->Vals (xs.set i x) (us.set i u)
 | _,_,_,.nil=>.nil
 | _,_,0,.cons _ t=>.cons r t
 | _,_,i+1,.cons q t=>.cons q (Vals.set r i t)
def Vals.append(h:Vals xs a)(s:Vals ys ws):Vals (xs++ys) (a++ws):=by
 induction h with
 | nil=>show s
 | cons r t b=>show .cons r b
theorem Vals.take:∀{xs us} n,Vals xs us->Vals (xs.take n) (us.take n)
 | _,_,0,_=>.nil
 | _,_,_+1,.nil=>.nil
 | _,_,n+1,.cons r t=>.cons r (Vals.take n t)
theorem Vals.drop:∀{xs us} n,Vals xs us->Vals (xs.drop n) (us.drop n)
 | _,_,0,r=>r
 | _,_,_+1,.nil=>.nil
 | _,_,n+1,.cons _ t=>Vals.drop n t
def nj:Option V->Option af->Prop
 | some v,some u=>RelV v u
 | none,none=>True
 | _,_=>False
def KV{κ:Type}:List (κ×V)->List (κ×af)->Prop:=Paired λ(p:κ×V)(q:κ×af)=>p.1=q.1/\RelV p.2 q.2
def kV:Key->V
 | .inl i=>.int i
 | .inr x=>.str x
inductive HO where
 /-- a list -/
 | lst (xs:List V)
 /-- a tuple (never changes) -/
 | tup (xs:List V)
 /-- a dict aaY keys are ints and texts;one aaY keys are tuples of ints and texts (oe empty one is both) -/
 | dK (kvs:List (Key×V)) (ep:Nat) | dT (kvs:List (List Key×V)) (bs:List ag×Nat)
 /-- a set of ints: its members,its size -/
 | set (S:Int->Bool) (n:Nat)
 /-- an instance of oe class at C,its dict at dx,its attributes -/
 | ins (C dx:ag) (fs:List (aa×V))
 /-- oe dict of oe instance at x -/
 | own (x:ag)
 /-- oe dict of an exception -/
 | xd (fs:List (aa×V))
 /-- a bound method,f of x -/
 | met (f x:ag)
 /-- a range object lo,lo+1,.. below hi -/
 | wB (lo hi:Int)
 /-- a aa2 ac3 is known to oe object (oe Za;a dict while a loop walks it): read,never written while it is so -/
 | gE (o:aV) (u:HO)
 /-- a code ac8 table -/
 | wg (ps:Array af)
 /-- any other aa2,by aaZ is true of its one object (a def of ac5 own: adn a S n:=HO.ext λh=>..) -/
 | ext (φ:aD->Prop)
abbrev Hp:=ag->Option HO
def upd(H:Hp)(a:ag)(o:HO):Hp:=λb=>if b=a then some o else H b
def eV:upd H a o a\o:=by unfold upd;rw[if_pos rfl]
def bQ(h:b≠a):upd H a o b=H b:=by unfold upd;rw[if_neg h]
def Up{H:Hp}(h:H a\o)(h':H b\u)(d:o≠u):a≠b:=by
 intro e;subst e;rw[h] at h';show d (iu h')
def iL{H:Hp}(h:H a\o)(h':H b=none):a≠b:=by
 intro e;subst e;rw[h] at h';cases h'
section
variable(P:aI)(w:aH)
def gc(H:Hp)(h:aD)(a:ag):HO->Prop
 | .lst xs=>xs.length<=sizeLine/\∃(its:List af)(n:Nat),Vals xs its/\h.get? a=some { cls:=.type "list",data:=.seq its.toArray n }
 | .tup xs=>xs.length<=sizeLine/\∃its:List af,Vals xs its/\IsTup h a its.toArray
 | .dK kvs c=>kvs.length<=sizeLine/\(a==sysModules)=false/\∃g,KV kvs g/\h.DictAt (jt P w) a g c
 | .dT kvs bs=>kvs.length<=sizeLine/\(a==sysModules)=false/\∃xs:List (List Key×ag×af),xs.map (λx=>x.2.1)=bs.1/\
   Paired (λ(p:List Key×V)(q:List Key×ag×af)=>p.1=q.1/\H q.2.1\.tup (p.1.map kV)/\RelV p.2 q.2.2) kvs xs/\
   ∃o k c,h.get? a\o/\o.ExactDict/\o.data=.dict k c/\k.toList=xs.map (entryOfKey (tupleKind (jt P w)))/\(xs.map (·.1)).Nodup/\c=bs.2
 | .set S n=>h.SetOf (intKind P w) a S n
 | .ins C d fs=>H d\.own a/\fs.length<=1000/\d≠a/\h.get? a\tU C d/\
   ∃b,h.Ns1 d b/\(∀f,nj (fs.lookup f) (b f))/\IJ b (fs.map (·.1))
 | .own _=>∃o,h.get? a=some o
 | .xd fs=>∃b,h.Ns1 a b/\∀f,nj (fs.lookup f) (b f)
 | .wB lo l=>∃t u v,h.get? a=some { cls:=.type "range",data:=.fields #[.int lo t,.int l u,.int 1 v] }
 | .gE o u=>h.get? a\o/\gc H h a u
 | .wg ps=>h.get? a=some { cls:=.none,data:=.fields ps }
 | .met f x=>h.get? a=some (Jp (.ref f) (.ref x))
 | .ext e=>e h/\(∃o,h.get? a\o)/\∀j i:aD,e j->(∀o,j.get? a\o->i.get? a\o)->e i
def fR(H:Hp)(h:aD):Prop:=∀a o,H a\o->gc P w H h a o
end
section
variable{a:ag}
def gc.lt(x:gc P w H h a o):a<h.objs.size:=by
 cases o with
 | lst xs=>let⟨z,z,z,z,e⟩:=x;show cf e
 | tup xs=>let⟨z,z,z,p⟩:=x;show p.lt
 | dK kvs d=>let⟨z,z,z,z,o,z,e,z⟩:=x;show cf e
 | dT kvs bs=>let⟨z,z,z,z,z,o,z,z,e,z⟩:=x;show cf e
 | set S n=>let⟨o,z,z,z,e,z⟩:=x;show cf e
 | ins C g fs=>let⟨z,z,z,e,z⟩:=x;show cf e
 | own y=>let⟨z,e⟩:=x;show cf e
 | xd fs=>obtain⟨_,⟨_,_,_,e,_⟩,_⟩:=x;show cf e
 | wB lo c=>let⟨z,z,z,e⟩:=x;show cf e
 | gE ob u=>let⟨e,z⟩:=x;show cf e
 | wg ps=>show cf (show h.get? a\_ from x)
 | met f y=>show cf (show h.get? a\_ from x)
 | ext b=>obtain⟨_,⟨_,e⟩,_⟩:=x;show cf e
def Paired.Zx{l₁:List α}{l₂:List c}(h:Paired F l₁ l₂)(f:∀a b,F a b->G a b):Paired G l₁ l₂:=by
 induction h with
 | nil=>show .nil
 | cons r t d=>show .cons (f _ _ r) d
def gc.wu(x:gc P w H h a o)(k:∀b u,(b=a\/H b\.own a)->h.get? b\u->h'.get? b\u)
  (D:∀b,H b\.own a->H' b\.own a) (B:∀b xs,H b\.tup xs->H' b\.tup xs):gc P w H' h' a o:=by
 induction o with
 | lst xs=>let⟨z,its,n,r,e⟩:=x;show⟨z,its,n,r,k _ _ (.inl rfl) e⟩
 | tup xs=>let⟨z,its,r,ob,e,c⟩:=x;show⟨z,its,r,ob,k _ _ (.inl rfl) e,c⟩
 | dK kvs i=>let⟨z,y,s,r,ob,g,e,c⟩:=x;show⟨z,y,s,r,ob,g,k _ _ (.inl rfl) e,c⟩
 | dT kvs bs=>
  symm;let⟨z,y,xs,F,r,ob,g,i,e,c⟩:=x;show⟨z,y,xs,F,Paired.Zx r λp q z=>⟨z.1,B _ _ z.2.1,z.2.2⟩,ob,g,i,k _ _ (.inl rfl) e,c⟩
 | set S n=>let⟨ob,g,i,t,e,c⟩:=x;show⟨ob,g,i,t,k _ _ (.inl rfl) e,c⟩
 | ins C K fs=>
  symm;obtain⟨d,z,ne,e,m,⟨j,g,i,E,c⟩,r⟩:=x;show⟨D _ d,z,ne,k _ _ (.inl rfl) e,m,⟨j,g,i,k _ _ (.inr d) E,c⟩,r⟩
 | own y=>let⟨ob,e⟩:=x;show⟨ob,k _ _ (.inl rfl) e⟩
 | xd fs=>obtain⟨m,⟨j,g,i,e,c⟩,r⟩:=x;show⟨m,⟨j,g,i,k _ _ (.inl rfl) e,c⟩,r⟩
 | wB lo J=>let⟨t,u,v,e⟩:=x;show⟨t,u,v,k _ _ (.inl rfl) e⟩
 | gE ob u A=>let⟨e,q⟩:=x;show⟨k _ _ (.inl rfl) e,A q⟩
 | wg ps=>
  have e:h.get? a=some { cls:=.none,data:=.fields ps }:=x;show h'.get? a=some { cls:=.none,data:=.fields ps };show k a _ (.inl rfl) e
 | met f y=>
  have e:h.get? a\Jp (.ref f) (.ref y):=x;show h'.get? a\Jp (.ref f) (.ref y);show k a _ (.inl rfl) e
 | ext I=>obtain⟨p,⟨o,e⟩,st⟩:=x;show⟨st _ _ p λo q=>k _ _ (.inl rfl) q,⟨o,k _ _ (.inl rfl) e⟩,st⟩
theorem fR.lt(x:fR P w H h)(e:H a\o):a<h.objs.size:=(x a o e).lt
def fR.fresh(x:fR P w H h)(e:h.objs.size<=a):H a=none:=by
 cases q:H a with
 | none=>rfl
 | some u=>show absurd (jm (x.lt q) e) (qf _)
theorem fR.kept(x:fR P w H h)(k:∀b u,h.get? b\u->h'.get? b\u):fR P w H h':=λa o e=>
 (x a o e).wu (λb u _ q=>k b u q) (λ_ q=>q) λ_ _ q=>q
theorem fR.laid(x:fR P w H h)(k:∀b u,h.get? b\u->h'.get? b\u)(g:h.objs.size<=a)(new:gc P w (upd H a o) h' a o):fR P w (upd H a o) h':=λb u e=>by
 have d:=x.fresh g;by_cases f:b=a
 .subst f;rw[eV] at e;cases e;show new
 rw[bQ f] at e;show(x b u e).wu (λc v _ q=>k c v q) (λc q=>by rw[bQ (iL q d)];show q) λc xs q=>by rw[bQ (iL q d)];show q
end
def Rd(H:Hp)(a:ag)(u:HO):Prop:=H a=some u\/∃o,H a=some (.gE o u)
def Rd.ok(r:Rd H a u)(x:fR P w H h):gc P w H h a u:=by
 rcases r with r | ⟨o,r⟩
 .exact x a u r
 let⟨z,q⟩:=x a _ r;show q
def Dr:Option HO->Prop
 | some (.lst _)=>True
 | some (.dK _ _)=>True
 | some (.dT _ _)=>True
 | some (.set _ _)=>True
 | some (.ins _ _ _)=>True
 | some (.ext _)=>True
 | _=>False
theorem fR.write(ok:fR P w H h)(a:Dr (H x))(he:e=x\/H e\.own x)(k:∀b u,b≠e->h.get? b\u->h'.get? b\u)(j:∃u,h'.get? e\u)
  (new:gc P w (upd H x o') h' x o'):fR P w (upd H x o') h':=λb u q=>by
 have d:∀c y,H c\.own y->c≠x:=λc y r z=>by subst z;rw[r] at a;show a
 have f:∀c xs,H c\.tup xs->c≠x:=λc xs r z=>by subst z;rw[r] at a;show a
 by_cases i:b=x
 .subst i;rw[eV] at q;cases q;show new
 rw[bQ i] at q;by_cases l:b=e
 .have g:H b\.own x:=by
   grind
  rw[q] at g;cases g;let⟨v,hv⟩:=j;show⟨v,by rw[l];show hv⟩
 show(ok b u q).wu (λc v m r=>k c v ?_ r) (λc r=>by rw[bQ (d c b r)];show r) λc xs r=>by rw[bQ (f c xs r)];show r
 grind
structure Un(fs ex:List ag)(H H':Hp)(h h':aD):Prop where
 keep:∀b o,h.get? b\o->H b=none->b∉fs->b∉ex->h'.get? b\o
 slot:∀b o,h.get? b\o->H b=none->b∈fs->b∉ex->∃sl,h'.get? b=some { o with slots:=sl }
 free:∀b o,h.get? b\o->H b=none->b∉ex->H' b=none
 there:∀b o,h.get? b\o->b∉ex->∃o',h'.get? b\o'
 uB:∀b xs,H b\.tup xs->H' b\.tup xs
 tm:∀b o u,H b\.gE o u->H' b\.gE o u
 we:∀b ps,H b\.wg ps->∃more,H' b=some (.wg (ps++more))
section
variable{h h1 h2 h':aD}{a x e:ag}
def Un.any(u:Un fs ex H H1 h h1)(q:h.get? b\ob)(n:H b=none)(hx:b∉ex):∃sl,h1.get? b=some { ob with slots:=sl }:=by
 by_cases a:b∈fs
 .exact u.slot b ob q n a hx
 show⟨ob.slots,u.keep b ob q n a hx⟩
theorem Un.kept(k:∀b u,h.get? b\u->h'.get? b\u):Un fs ex H H h h':=
 ⟨λb ob q _ _ _=>k b ob q,λb ob q _ _ _=>⟨ob.slots,k b ob q⟩,λ_ _ _ n _=>n,λb ob q _=>⟨ob,k b ob q⟩,λ_ _ q=>q,λ_ _ _ q=>q,λ_ ps q=>⟨#[],by rw[q];rfl⟩⟩
theorem Un.refl:Un fs ex H H h h:=Un.kept λ_ _ q=>q
theorem Un.laid(k:∀b u,h.get? b\u->h'.get? b\u)(d:h.objs.size<=a)(c:H a=none):Un fs ex H (upd H a o) h h' where
 keep:=λb u q _ _ _=>k b u q
 slot:=λb u q _ _ _=>⟨u.slots,k b u q⟩
 free:=λb u q n _=>by rw[bQ (cC (jm (cf q) d))];show n
 there:=λb u q _=>⟨u,k b u q⟩
 uB:=λb xs q=>by rw[bQ (iL q c)];show q
 tm:=λb u xs q=>by rw[bQ (iL q c)];show q
 we:=λb ps q=>⟨#[],by rw[bQ (iL q c),q];rfl⟩
def Un.write(a:Dr (H x))(he:e=x\/H e\.own x)(k:∀b u,b≠e->h.get? b\u->h'.get? b\u)(f:∃u,h'.get? e\u):Un fs ex H (upd H x o) h h':=by
 have hx:∀b,H b=none->b≠x:=λb n z=>by subst z;rw[n] at a;show a
 have c:∀b,H b=none->b≠e:=λb n z=>by
  cbv
 have hm:∀b u,H b\u->¬Dr (some u)->b≠x:=λb u q nm z=>by subst z;rw[q] at a;show nm a
 show⟨λb u q n _ _=>k b u (c b n) q,λb u q n _ _=>⟨u.slots,k b u (c b n) q⟩,λb u q n _=>by rw[bQ (hx b n)];show n,λb u q _=>?_,
  λb xs q=>by rw[bQ (hm b _ q λz=>z)];show q,λb u xs q=>by rw[bQ (hm b _ q λz=>z)];show q,λb ps q=>⟨#[],by rw[bQ (hm b _ q λz=>z),q];rfl⟩⟩
 by_cases d:b=e
 .subst d;show f
 show⟨u,k b u d q⟩
end
def sA(h:aD)(H:Hp):List ag:=(bA h.objs.size).filter λa=>(H a).isSome
def rT(h:aD)(H:Hp):aD:=PySem.W.hideAll h (sA h H)
theorem zn1(h H):(rT h H).objs.size=h.objs.size:=PySem.W.hideAll_size _ _
theorem zqP(e:h.get? b\o)(n:H b=none):(rT h H).get? b\o:=
 PySem.W.hideAll_get _ e λhm=>by
  have q:(H b).isSome=true:=(cF.mp hm).2;rw[n] at q;simp at q
def ztA(e:(rT h H).get? b\o):h.get? b\o/\H b=none:=by
 have a:h.get? b\o:=PySem.W.of_hideAll (sA h H) e;show⟨a,?_⟩;cases q:H b with
 | none=>rfl
 | some x=>
  have hm:b∈sA h H:=cF.mpr ⟨iT.mpr (cf a),by simp[q]⟩;have z:(rT h H).get? b=none:=PySem.W.hideAll_none (sA h H) hm;rw[z] at e;cases e
def ztB(g h:aD)(L:ag):List (ag×aV):=(bA h.objs.size).filterMap λa=>if a=L\/(g.get? a).isSome=true then none else(h.get? a).map λo=>(a,o)
def fg(g h:aD)(L d:ag):List (ag×aV):=(ztB g h L).filter λp=>decide (p.1≠d)
structure Mod(K:ao)(mg:aa->Option af)(base:aD):Prop where
 zg:K.In base
 glob:base.Ns mainGlobals mg
 blt:∃mb,base.Ns builtinsNs mb/\∀x:aa,x≠"__name__"->mb x=bootBuiltins x
 nolimit:base.NoLimit
structure Cx where
 prog:aI
 w:aH
 K:ao
 mg:aa->Option af
 base:aD
 A:bh
 N:List aa
 gC:ai
 Dv:Hp
 env:eO
 outer:List eO
 stack:List eO
 ex:List ag
 fn:aa->Bool
 calm:Bool
 pn:List (ag×aV)
 xe:af->ai->Prop
def pS(l:List eO):List ag:=l.filterMap (·.frame)
abbrev Cx.fs(X:Cx):List ag:=pS X.outer
def u7(sc:iH)(x:aa):Prop:=sc.names.lookup x=some .local\/sc.names.lookup x\.cell\/sc.names.lookup x=some .free
def Loc(sc:iH)(x:aa):Prop:=sc.names.lookup x=some .local\/sc.names.lookup x=some .cell
def Look(env:eO)(h:aD)(m:aa->Option af)(x:aa)(u:af):Prop:=
 (env.kindOf x\.local/\m x\u)\/((env.kindOf x\.cell\/env.kindOf x\.free)/\∃c,env.cells.lookup x\c/\h.IsCell c (some u))
structure Cx.Ok(X:Cx):Prop where
 mod:Mod X.K X.mg X.base
 kind:X.env.scope.kind=.function
 glob:X.env.globals=mainGlobals
 blt:X.env.builtins=builtinsNs
 above:X.gC.heap.objs.size<=X.env.locals
 inj:∀x y c,X.env.cells.lookup x\c->X.env.cells.lookup y\c->x=y
 has:∀x,(X.env.kindOf x\.cell\/X.env.kindOf x\.free)->∃c,X.env.cells.lookup x\c
 cab:∀x c,X.fn x=true->X.env.cells.lookup x\c->X.gC.heap.objs.size<=c
 hd:X.calm=true->X.A.handled=none
 frames:X.A.frames\X.stack
 GH:X.stack=X.outer\/(X.stack=X.env::X.outer/\X.env.frame\X.env.locals)
 exf:∀b∈X.ex,b≠X.env.locals/\∀x c,X.env.cells.lookup x\c->c≠b
 bs:∀b o,X.base.get? b\o->X.gC.heap.get? b\o/\X.Dv b=none
 u6:X.base.objs.size<=X.gC.heap.objs.size
 Cy:∀b o,X.base.get? b\o->b∉X.ex
 C8:∀b∈X.ex,b∉X.fs
 oE:X.gC.heap.FunFrames X.base X.outer
 xb:∀b∈X.fs,X.Dv b=none
structure Inv(X:Cx)(J':List (ag×aV))(σ:List (Option V))(H:Hp)(s:ai):Prop where
 ok:X.Ok
 os:s.os=X.gC.os
 bare:AllBare s.gens
 base:Un X.fs X.ex X.Dv H X.gC.heap s.heap
 loc:∃m,s.heap.Ns X.env.locals m/\∀(i:Nat)(x:aa)(v:V),X.N[i]?\x->σ[i]?\some v->u7 X.env.scope x->∃u,RelV v u/\Look X.env s.heap m x u
 cell:∀x c,X.env.cells.lookup x\c->∃v,s.heap.IsCell c v
 free:H X.env.locals=none
 pT:∀x c,X.env.cells.lookup x\c->H c=none
 pin:∀p∈X.pn++J','f' p.1\p.2/\H p.1=none/\p.1≠X.env.locals/\p.1∉X.fs/\∀v,p.2.data≠.cell v
 aU:fR X.prog X.w H s.heap
 len:σ.length=X.N.length
section
variable{X:Cx}
theorem Cx.Ok.abl(ok:X.Ok)(e:X.base.get? b\o):b∉X.fs:=λa=>by
 have:=(ok.oE.mem a).1;rw[e] at this;cases this
theorem Inv.bs(I:Inv X J' σ H s):∀b o,X.base.get? b\o->'f' b\o/\H b=none:=λb o e=>
 ⟨I.base.keep b o (I.ok.bs b o e).1 (I.ok.bs b o e).2 (I.ok.abl e) (I.ok.Cy b o e),I.base.free b o (I.ok.bs b o e).1 (I.ok.bs b o e).2 (I.ok.Cy b o e)⟩
theorem Inv.bk(I:Inv X J' σ H s):∀b o,X.base.get? b\o->'f' b\o:=λb o e=>(I.bs b o e).1
theorem Inv.mod(I:Inv X J' σ H s):Mod X.K X.mg X.base:=I.ok.mod
theorem Inv.jw(I:Inv X J' σ H s):X.K.In s.heap:=I.ok.mod.zg.keeps I.bk
theorem Inv.lt(I:Inv X J' σ H s):X.env.locals< *...*:=let⟨_,a,_⟩:=I.loc;a.lt
theorem Inv.sz(I:Inv X J' σ H s):X.gC.heap.objs.size<=*...*:=bK I.ok.above (fc I.lt)
theorem Inv.abj(I:Inv X J' σ H s){a:ag}(h:*...*<=a):a∉X.fs:=λc=>by
 let⟨z,o,b,z⟩:=I.ok.oE.mem c;show absurd (jm (cf b) (bK I.sz h)) (qf _)
theorem Inv.xg(I:Inv X J' σ H s):∀x c,X.env.cells.lookup x\c->c≠X.env.locals:=λx c e z=>by
 let⟨v,o,a,hd⟩:=I.cell x c e;obtain⟨m,⟨o',f,g,b,d,_⟩,_⟩:=I.loc;rw[z,b] at a;cases a;rw[d] at hd;cases hd
def Inv.oE(I:Inv X J' σ H s):s.heap.FunFrames X.base X.outer:=by
 have all:∀(l:List eO),(∀b∈pS l,b∈X.fs)->X.gC.heap.FunFrames X.base l->s.heap.FunFrames X.base l:=by
  intro l;induction l with
  | nil=>intro _ _;trivial
  | cons env r h=>
   intro g hl;symm;obtain⟨n,⟨L,o,hf,m,j,hd⟩,i⟩:=hl;have f:L∈X.fs:=g L (by unfold pS;rw[Jw,hf];show et);let⟨sl,e⟩:=I.base.slot L o j (I.ok.xb L f) f λz=>I.ok.C8 L z f
   show⟨n,⟨L,_,hf,m,e,hd⟩,h (λb d=>g b (by unfold pS;rw[Jw,hf];show cJ _ d)) i⟩
 show all X.outer (λ_ d=>d) I.ok.oE
def Inv.stack(I:Inv X J' σ H s):s.heap.FunFrames X.base X.stack:=by
 rcases I.ok.GH with e | ⟨e,hf⟩
 .rw[e];show I.oE
 rw[e];let⟨m,a,z⟩:=I.loc;show .cons (by rw[I.ok.kind];decide) hf a ?_ I.oE;show Heap.get?_none_of_le (bK I.ok.u6 I.ok.above)
theorem Inv.NG(I:Inv X J' σ H s):∀b∈pS X.stack,b∈X.env.locals::X.fs:=λb a=>by
 rcases I.ok.GH with e | ⟨e,hf⟩
 .rw[e] at a;show cJ _ a
 rw[e] at a;unfold pS at a;rw[Jw,hf] at a;show a
theorem Inv.Y2(I:Inv X J' σ H s):∀b∈pS X.stack,H b=none:=λb a=>by
 rcases bE.mp (I.NG b a) with e | a
 .rw[e];show I.free
 let⟨y,o,c,y⟩:=I.ok.oE.mem a;show I.base.free b o c (I.ok.xb b a) λz=>I.ok.C8 b z a
def Inv.step{ch:List ag}(I:Inv X J' σ H s)
  (h:∀b∈ch,(b∈X.ex\/X.gC.heap.objs.size<=b)/\b≠X.env.locals/\(∀x c,X.env.cells.lookup x\c->c≠b)/\∀p∈X.pn++J',p.1≠b)
  (keep:∀b o,b≠X.env.locals->b∉X.fs->b∉ch->'f' b\o->H b=none->h'.get? b\o)
  (slot:∀b o,b≠X.env.locals->b∈X.fs->b∉ch->'f' b\o->H b=none->∃sl,h'.get? b=some { o with slots:=sl }) (free:∀b o,b∉ch->'f' b\o->H b=none->H' b=none)
  (there:∀b o,b∉ch->'f' b\o->∃o',h'.get? b\o')
  (uB:∀b xs,H b\.tup xs->H' b\.tup xs) (tm:∀b o u,H b\.gE o u->H' b\.gE o u) (we:∀b ps,H b\.wg ps->∃more,H' b\.wg (ps++more))
  (ns:∀m,s.heap.Ns X.env.locals m->h'.Ns X.env.locals m) (aU:fR X.prog X.w H' h') (G:AllBare g') :
  Inv X J' σ H' { s with heap:=h',gens:=g',drawn:=d',toks:=t' }:=by
 have C:∀b o,X.gC.heap.get? b\o->b≠X.env.locals:=λb o e=>cC (jm (cf e) I.ok.above)
 have j:∀b o,X.gC.heap.get? b\o->b∉X.ex->b∉ch:=λb o e hx f=>by
  rcases(h b f).1 with z | z
  .exact hx z
  show absurd (jm (cf e) z) (qf _)
 have cellK:∀x c,X.env.cells.lookup x\c->∀v,s.heap.IsCell c v->h'.IsCell c v:=λx c e v ⟨o,g,hd⟩=>by
  have B:c∉ch:=λz=>(h c z).2.2.1 x c e rfl
  by_cases A:c∈X.fs
  .let⟨sl,q⟩:=slot c o (I.xg x c e) A B g (I.pT x c e);show⟨_,q,hd⟩
  show⟨o,keep c o (I.xg x c e) A B g (I.pT x c e),hd⟩
 show⟨I.ok,I.os,G,⟨λb o e n f hx=>?_,λb o e n f hx=>?_,λb o e n hx=>?_,λb o e hx=>?_,λb xs e=>uB b xs (I.base.uB b xs e),λb o xs e=>tm b o xs (I.base.tm b o xs e),λb ps e=>?_⟩,?_,λx c e=>?_,?_,λx c e=>?_,λp D=>?_,aU,I.len⟩
 .exact keep b o (C b o e) f (j b o e hx) (I.base.keep b o e n f hx) (I.base.free b o e n hx)
 .let⟨sl,a⟩:=I.base.slot b o e n f hx;let⟨t,y⟩:=slot b _ (C b o e) f (j b o e hx) a (I.base.free b o e n hx);show⟨t,y⟩
 .let⟨o',a⟩:=I.base.there b o e hx;show free b o' (j b o e hx) a (I.base.free b o e n hx)
 .let⟨o',a⟩:=I.base.there b o e hx;show there b o' (j b o e hx) a
 .let⟨K,a⟩:=I.base.we b ps e;grind
 .let⟨m,E,F⟩:=I.loc;show⟨m,ns m E,λi x v a y e3=>?_⟩;let⟨u,r,l⟩:=F i x v a y e3;show⟨u,r,?_⟩;rcases l with l | ⟨k,c,e,z⟩
  .exact .inl l
  show .inr ⟨k,c,e,cellK x c e _ z⟩
 .let⟨v,z⟩:=I.cell x c e;show⟨v,cellK x c e v z⟩
 .obtain⟨m,⟨o,_,_,g,_⟩,_⟩:=I.loc;show free _ o (λz=>(h _ z).2.1 rfl) g I.free
 .let⟨v,o,g,hd⟩:=I.cell x c e;show free c o (λz=>(h c z).2.2.1 x c e rfl) g (I.pT x c e)
 let⟨e,n,ne,J,d⟩:=I.pin p D;grind
def Inv.un(I:Inv X J' σ H s)(u:Un X.fs [] H H' s.heap h')(aU:fR X.prog X.w H' h'):Inv X J' σ H' { s with heap:=h',toks:=t' }:=by
 symm;obtain⟨m,⟨o,t,v,g,r⟩,_⟩:=id I.loc;let⟨sl,j⟩:=u.any g I.free ∅
 show I.step (g':=s.gens) (d':=s.drawn) (ch:=[]) (λ_ z=>nomatch z) (λb o _ d _ e n=>u.keep b o e n d (by trivial)) (λb o _ d _ e n=>u.slot b o e n d (by trivial)) (λb o _ e n=>u.free b o e n (by trivial)) (λb o _ e=>u.there b o e (by trivial)) u.uB u.tm u.we (λq hm=>by
  symm;let⟨o',p,h,f,i⟩:=hm;rw[g] at f;cases f;show⟨_,p,h,j,i⟩) aU I.bare
def Inv.call(I:Inv X J' σ H s)(u:Un (pS X.stack) ch H H' s.heap h')(aU:fR X.prog X.w H' h')(t:AllBare g')
  (g:∀b∈ch,(b∈X.ex\/X.gC.heap.objs.size<=b)/\b≠X.env.locals/\(∀x c,X.env.cells.lookup x\c->c≠b)/\∀p∈X.pn++J',p.1≠b) :
  Inv X J' σ H' { s with heap:=h',gens:=g',drawn:=d',toks:=t' }:=by
 symm;obtain⟨m,⟨o,B,C,i,r⟩,_⟩:=id I.loc;let⟨sl,f⟩:=u.any i I.free λz=>(g _ z).2.1 rfl
 show I.step (ch:=ch) g (λb o f v d e n=>u.keep b o e n (λz=>(bE.mp (I.NG b z)).elim f v) d) (λb o _ _ d e n=>u.any e n d) (λb o d e n=>u.free b o e n d) (λb o d e=>u.there b o e d) u.uB u.tm u.we (λA hm=>by
  symm;let⟨o',y,j,h,q⟩:=hm;rw[i] at h;cases h;show⟨_,y,j,f,q⟩) aU t
def Inv.turned(I:Inv X J' σ H s)(k:∀b o,b≠a->'f' b\o->h'.get? b\o)(i:H a=none)(g:a≠X.env.locals)
  (w:a∈X.ex\/X.gC.heap.objs.size<=a) (t:∀x c,X.env.cells.lookup x\c->c≠a) (l:∀p∈X.pn++J',p.1≠a):Inv X J' σ H { s with heap:=h',toks:=t' }:=by
 have f:∀b u,H b\u->b≠a:=λb u e z=>by rw[z,i] at e;cases e
 show I.step (g':=s.gens) (d':=s.drawn) (ch:=[a]) (λb j=>?_) (λb o _ _ d e _=>k b o (λz=>d (by show z▸.head _)) e) (λb o _ _ d e _=>⟨o.slots,k b o (λz=>d (by show z▸.head _)) e⟩) (λ_ _ _ _ n=>n)
  (λb o d e=>⟨o,k b o (λz=>d (by show z▸.head _)) e⟩) (λ_ _ e=>e) (λ_ _ _ e=>e) (λb ps e=>⟨#[],by rw[e];rfl⟩) (λm hm=>?_) (λb u e=>?_) I.bare
 .have e:b=a:=by simpa using j
  subst e;show⟨w,g,t,l⟩
 .let⟨o,y,A,h,r⟩:=hm;show⟨o,y,A,k _ o (Ne.symm g) h,r⟩
 show(I.aU b u e).wu (λc v d q=>k c v ?_ q) (λ_ q=>q) λ_ _ q=>q
 rcases d with z | z
 .rw[z];show f b u e
 show f c _ z
theorem Inv.tok(I:Inv X J' σ H s)(t):Inv X J' σ H { s with toks:=t }:=I.un (h':=s.heap) (t':=t) Un.refl I.aU
theorem Inv.kept(I:Inv X J' σ H s)(k:∀b u,'f' b\u->h'.get? b\u):Inv X J' σ H { s with heap:=h',toks:=t' }:=I.un (Un.kept k) (I.aU.kept k)
theorem Inv.laid{a:ag}(I:Inv X J' σ H s)(k:∀b u,'f' b\u->h'.get? b\u)(c:*...*<=a)(new:gc X.prog X.w (upd H a o) h' a o) :
  Inv X J' σ (upd H a o) { s with heap:=h',toks:=t' }:=I.un (Un.laid k c (I.aU.fresh c)) (I.aU.laid k c new)
theorem Inv.write(I:Inv X J' σ H s)(c:Dr (H x))(he:e=x\/H e\.own x)(k:∀b u,b≠e->'f' b\u->h'.get? b\u)(a:∃u,h'.get? e\u)
  (new:gc X.prog X.w (upd H x o) h' x o):Inv X J' σ (upd H x o) { s with heap:=h',toks:=t' }:=I.un (Un.write c he k a) (I.aU.write c he k a new)
theorem Inv.Zi(I:Inv X J' σ H s)(h:∀p∈a,'f' p.1\p.2/\H p.1=none/\p.1≠X.env.locals/\p.1∉X.fs/\∀v,p.2.data≠.cell v):Inv X a σ H s:=
 ⟨I.ok,I.os,I.bare,I.base,I.loc,I.cell,I.free,I.pT,λp b=>(bx.mp b).elim (λz=>I.pin p (jn _ z)) (h p),I.aU,I.len⟩
def W9{N:List aa}(hN:N.Nodup){i j:Nat}(a:N[i]?\x)(b:N[j]?\x):i=j:=by
 let⟨f,d⟩:=c7.mp a;let⟨e,c⟩:=c7.mp b;show(List.getElem_inj hN).mp (d.trans c.symm)
def XZ(I:Inv X J' σ H s)(hN:X.N.Nodup)(J:X.N[i]?\x)(hx:Loc X.env.scope x)(r:RelV v u)
  (h:∀S,Inv X J' (σ.set i (some v)) H S->(∃a,j9 a s.heap S.heap/\(a=X.env.locals\/X.env.cells.lookup x\a))->Q () S) (hf:X.fn x=true\/X.env.scope.names.lookup x\.local:=by first | show .inl rfl | show .inr rfl | assumption):wpAny M A (storeName X.env x u) Q E s:=by
 symm;let⟨m,Y,hl⟩:=id I.loc;have Z:(X.env.scope.kind==.class||(X.env.scope.kind==.module&&X.env.locals != X.env.globals))=false:=by rw[I.ok.kind];rfl
 have Z9:i<σ.length:=by rw[I.len];show(c7.mp J).1
 have xg:=I.xg;have tracked:∀{a:ag}{h':aD},(∃o,'f' a\o/\H a=none)->j9 a s.heap h'->fR X.prog X.w H h':=λ{a h'} ha f b ob e=>by
  let⟨l,l,kF⟩:=ha;show(I.aU b ob e).wu (λc O t q=>(f.2 c ?_).trans q) (λ_ q=>q) λ_ _ q=>q
  grind
 rcases hx with C | C
 .refine wpAny_storeName_local C Y (λh' Ou f=>?_) Z;let⟨oL,l,l,uU,l⟩:=id Y;show h _ ⟨I.ok,I.os,I.bare,⟨λb o e n F hx=>?_,λb o e n F hx=>?_,I.base.free,λb o e hx=>?_,I.base.uB,I.base.tm,I.base.we⟩,⟨_,Ou,λj y P g B e3=>?_⟩,λy c e=>?_,I.free,I.pT,λp W=>?_,tracked ⟨oL,uU,I.free⟩ f,by simpa using I.len⟩ ⟨_,f,.inl rfl⟩
  .exact(f.2 b (cC (jm (cf e) I.ok.above))).trans (I.base.keep b o e n F hx)
  .let⟨sl,g⟩:=I.base.slot b o e n F hx;show⟨sl,(f.2 b (cC (jm (cf e) I.ok.above))).trans g⟩
  .let⟨o',g⟩:=I.base.there b o e hx;show⟨o',(f.2 b (cC (jm (cf e) I.ok.above))).trans g⟩
  .by_cases D:j=i
   .subst D;rw[J] at g;cases g;rw[Em Z9] at B;cases B;show⟨u,r,.inl ⟨C,∅⟩⟩
   rw[vz (Ne.symm D)] at B;let⟨R,T,q⟩:=hl j y P g B e3;show⟨R,T,?_⟩;rcases q with⟨k,e⟩ | ⟨k,c,e,z⟩
   .refine .inl ⟨k,?_⟩;have:y≠x:=λe=>D (W9 hN g (e▸J))
    simp[this,e]
   show .inr ⟨k,c,e,z.sameBut f (xg y c e)⟩
  .let⟨O,z⟩:=I.cell y c e;show⟨O,z.sameBut f (xg y c e)⟩
  let⟨e,n,ne,U,d⟩:=I.pin p W;show⟨(f.2 p.1 ne).trans e,n,ne,U,d⟩
 have OF:X.fn x=true:=by
  rcases hf with z | z
  .exact z
  rw[z] at C;cases C
 let⟨c,t⟩:=I.ok.has x (.inl C);let⟨O,z⟩:=I.cell x c t;show wpAny_storeName_cell I.ok.kind C t z (λh' k6 f=>?_);let⟨oc,CP,adg⟩:=id z;show h 'j' ⟨I.ok,I.os,I.bare,⟨λb o e n F hx=>?_,λb o e n F hx=>?_,I.base.free,λb o e hx=>?_,I.base.uB,I.base.tm,I.base.we⟩,⟨m,Y.sameBut f (Ne.symm (xg x c t)),λj y P g B e3=>?_⟩,λy L e=>?_,I.free,I.pT,λp W=>?_,tracked ⟨oc,CP,I.pT x c t⟩ f,by simpa using I.len⟩ ⟨c,f,.inr t⟩
 .exact(f.2 b (cC (jm (cf e) (I.ok.cab x c OF t)))).trans (I.base.keep b o e n F hx)
 .let⟨sl,g⟩:=I.base.slot b o e n F hx;show⟨sl,(f.2 b (cC (jm (cf e) (I.ok.cab x c OF t)))).trans g⟩
 .let⟨o',g⟩:=I.base.there b o e hx;show⟨o',(f.2 b (cC (jm (cf e) (I.ok.cab x c OF t)))).trans g⟩
 .by_cases D:j=i
  .subst D;rw[J] at g;cases g;rw[Em Z9] at B;cases B;show⟨u,r,.inr ⟨.inl C,c,t,k6⟩⟩
  rw[vz (Ne.symm D)] at B;let⟨R,T,q⟩:=hl j y P g B e3;show⟨R,T,?_⟩;rcases q with q | ⟨k,L,e,z'⟩
  .exact .inl q
  show .inr ⟨k,L,e,z'.sameBut f ?_⟩;rintro rfl;show D (W9 hN g (I.ok.inj _ _ _ e t▸J))
 .by_cases K:L=c
  .subst K;show⟨_,k6⟩
  let⟨w2,z2⟩:=I.cell y L e;show⟨w2,z2.sameBut f K⟩
 let⟨e,n,ne,U,d⟩:=I.pin p W;show⟨(f.2 p.1 ?_).trans e,n,ne,U,d⟩;grind
theorem F1(I:Inv X J' σ H s)(hN:X.N.Nodup)(b:X.N[i]?\x)(hx:Loc X.env.scope x)(r:RelV v u)
  (h:∀a,Inv X J' (σ.set i (some v)) H a->Q () a) (c:X.fn x=true\/X.env.scope.names.lookup x\.local:=by first | show .inl rfl | show .inr rfl | assumption):wpAny M A (storeName X.env x u) Q E s:=
 XZ I hN b hx r (λa d _=>h a d) c
def Inv.ab8(I:Inv X J' σ H s)(f:a.os=s.os)(u:Un (pS X.stack) ch H H' s.heap a.heap)(aU:fR X.prog X.w H' a.heap)(g:AllBare a.gens)
  (d:∀b∈ch,(b∈X.ex\/X.gC.heap.objs.size<=b)/\b≠X.env.locals/\(∀x c,X.env.cells.lookup x\c->c≠b)/\∀p∈X.pn++J',p.1≠b):Inv X J' σ H' a:=by
 let⟨h',g',d',t',o'⟩:=a;have e:o'=s.os:=f;subst e;show I.call (g':=g') (t':=t') (d':=d') u aU g d
end
abbrev XK:=af->Option ag->Hp->Prop
abbrev St:=List (Option V)
abbrev VK:=V->Hp->Prop
abbrev TE:=St->Hp->VK->Prop
abbrev TT:=St->Hp->(Bool->Hp->Prop)->Prop
abbrev TA:=St->Hp->(List V->Hp->Prop)->Prop
structure Ends where
 nx:St->Hp->Prop
 rt:VK
 bk:St->Hp->Prop:=λ_ _=>False
 ct:St->Hp->Prop:=λ_ _=>False
abbrev TS:=Ends->St->Hp->Prop
def EP(X:Cx)(c:List (ag×aV))(a:St)(Q:VK)(u:af)(b:ai):Prop:=∃v H',Inv X c a H' b/\RelV v u/\Q v H'
def TP(X:Cx)(d:List (ag×aV))(a:St)(Q:Bool->Hp->Prop)(b:Bool)(c:ai):Prop:=∃H',Inv X d a H' c/\Q b H'
def AP(X:Cx)(e:List (ag×aV))(b:St)(Q:List V->Hp->Prop)(c:List af)(d:ai):Prop:=∃a H',Inv X e b H' d/\Vals a c/\Q a H'
def SP(X:Cx)(c:List (ag×aV))(D:Ends)(f:Flow)(b:ai):Prop:=
 match f with
 | .next=>∃a H',Inv X c a H' b/\D.nx a H'
 | .brk=>∃a H',Inv X c a H' b/\D.bk a H'
 | .cont=>∃a H',Inv X c a H' b/\D.ct a H'
 | .ret u=>∃v a H',Inv X c a H' b/\RelV v u/\D.rt v H'
def PE(X:Cx)(e:az)(t:TE):Prop:=
 ∀a s (σ:St) H Q,Inv X a σ H s->t σ H Q->⇑(eval e X.env) (EP X a σ Q) X.xe s
def PT(X:Cx)(e:az)(t:TT):Prop:=
 ∀a s (σ:St) H Q,Inv X a σ H s->t σ H Q->⇑(isTrue e X.env (eval e X.env)) (TP X a σ Q) X.xe s
def PW(X:Cx)(e:az)(t:TT):Prop:=
 ∀whole a s (σ:St) H Q,Inv X a σ H s->t σ H Q->⇑(isTrue e X.env whole) (TP X a σ Q) X.xe s
theorem PW.pt(h:PW X e t):PT X e t:=h _
def PA(X:Cx)(b:List az)(t:TA):Prop:=
 ∀pos a s (σ:St) H Q,Inv X a σ H s->t σ H Q->⇑(spliced (backTo pos (starEach b X.env))) (AP X a σ Q) X.xe s
def PS(X:Cx)(st:cq)(t:TS):Prop:=
 ∀a s (σ:St) H D,Inv X a σ H s->t D σ H->⇑(exec st X.env) (SP X a D) X.xe s
def jU(X:Cx)(st:List cq)(t:TS):Prop:=
 ∀a s (σ:St) H D,Inv X a σ H s->t D σ H->⇑(execs st X.env) (SP X a D) X.xe s
theorem aX{Q b:α->ai->Prop}(h:wpAny M A t Q E s)(c:∀a s,Q a s->b a s):wpAny M A t b E s:=j7 h c λ_ _ x=>x
section
variable{X:Cx}
def Kd(i:Nat):TE:=λσ H Q=>∃v,σ[i]?\some v/\Q v H
def tC(v:V):TE:=λ_ H Q=>Q v H
def Bi(hN:X.N[i]?=some x)(hv:u7 X.env.scope x)(hd:(x==("__debug__":aa))=false:=by decide)(g:(x==("__classdict__":aa))=false:=by decide):PE X (.Name x pos) (Kd i):=by
 intro n s σ H Q I h;symm;let⟨v,e,h⟩:=h;let⟨m,j,hl⟩:=I.loc;let⟨u,r,l⟩:=hl i x v hN e hv;have fin:EP X n σ Q u s:=⟨v,H,I,r,h⟩
 symm;rcases l with⟨b,hm⟩ | ⟨b,c,f,d⟩
 .exact Ir (wpAny_loadName_local I.ok.kind b j hm fin) hd
 symm;rcases b with b | b
 .exact Ir (wpAny_loadName_cell I.ok.kind b f d fin) hd
 show Ir (wpAny_loadName_free I.ok.kind b f d fin g) hd
theorem zvA:PE X (.Constant (.int i) j pos) (tC (.int i)):=λ_ _ _ H _ I h=>wpAny_Constant_int ⟨.int i,H,I.tok _,⟨_,rfl⟩,h⟩
theorem Ur:PE X (.Constant (.bool b) j pos) (tC (.bl b)):=λ_ _ _ H _ I h=>Constant_bool ⟨.bl b,H,I,rfl,h⟩
theorem zvC:PE X (.Constant .none j pos) (tC .non):=λ_ _ _ H _ I h=>Constant_none ⟨.non,H,I,rfl,h⟩
theorem zvD:PE X (.Constant (.str x) j pos) (tC (.str x)):=λ_ _ _ H _ I h=>Calls.Constant_str ⟨.str x,H,I.tok _,⟨_,rfl⟩,h⟩
def Gl(X:Cx)(x:aa):Prop:=X.env.kindOf x=some .globalImplicit
theorem Wq{a:St}(I:Inv X d a H s)(c:Gl X x)(b:X.mg x\u)(h:Q u s)
  (hd:(x==("__debug__":aa))=false:=by decide):⇑(eval (.Name x pos) X.env) Q E s:=
 S7 I.ok.kind c (Calls.loadGlobal_global (by rw[I.ok.glob];show I.mod.glob.keeps I.bk) b h) hd
def qH{a:St}(I:Inv X g a H s)(d:Gl X x)(c:X.mg x=none)(hv:bootBuiltins x\u)(h:Q u s)
  (b:x≠"__name__":=by decide) (hd:(x==("__debug__":aa))=false:=by decide):⇑(eval (.Name x pos) X.env) Q E s:=by
 let⟨i,f,e⟩:=I.mod.blt;show S7 I.ok.kind d (Calls.loadGlobal_builtin (by rw[I.ok.glob];show I.mod.glob.keeps I.bk) c (by rw[I.ok.blt];show f.keeps I.bk) ((e x b).trans hv) h) hd
theorem ztC(c:Gl X x)(b:X.mg x=none)(hv:bootBuiltins x=some u)(r:RelV v u)(a:x≠"__name__":=by decide)(hd:(x==("__debug__":aa))=false:=by decide):PE X (.Name x pos) (tC v):=
 λ_ _ _ H _ I h=>qH I c b hv ⟨v,H,I,r,h⟩ a hd
variable{a b:az}{ta tb:TE}
def tB(t:TE):TT:=λσ H Q=>t σ H λx H1=>∃c,x=.bl c/\Q c H1
def zvE(h:PE X e t)(he:∀whole,isTrue e X.env whole=(do let v <-whole;standAt e.pos;holding [v] (truthy v)):=by intro _;rfl):PT X e (tB t):=by
 intro i s σ H Q I hw;show isTrue_plain (aX (h i s σ H _ I hw) λv s1 g=>?_) (he _);symm;let⟨x,H1,j,b,f⟩:=g;let⟨d,rfl,q⟩:=f;cases b;show lA ⟨H1,j,q⟩
variable{fg:List az}
def zzb(t u:TT):TT:=λσ H Q=>t σ H λc H1=>if c=true then u σ H1 Q else Q false H1
def tOr(t u:TT):TT:=λσ H Q=>t σ H λc H1=>if c=true then Q true H1 else u σ H1 Q
def zzc(t:TT):TT:=λσ H Q=>t σ H λc H1=>Q (!c) H1
def ztD(b:PT X a tA):PW X (.BoolOp .And [a] pos) tA:=by
 intro f d s σ H Q I h;show isTrue_and (aX (b d s σ H Q I h) λc s1 e=>?_);cases c with
 | true=>show isTrue_and_nil e
 | false=>show e
def zvF(b:PT X a tA):PW X (.BoolOp .Or [a] pos) tA:=by
 intro f d s σ H Q I h;show isTrue_or (aX (b d s σ H Q I h) λc s1 e=>?_);cases c with
 | false=>show isTrue_or_nil e
 | true=>show e
def zvG(j:PT X a tA)(i:PW X (.BoolOp .And (b::fg) pos) GF):PW X (.BoolOp .And (a::b::fg) pos) (zzb tA GF):=by
 intro g e s σ H Q I h;show isTrue_and (aX (j e s σ H _ I h) λc s1 k=>?_);let⟨H1,f,d⟩:=k;cases c with
 | true=>show i g e s1 σ H1 Q f d
 | false=>show⟨H1,f,d⟩
def zxJ(j:PT X a tA)(i:PW X (.BoolOp .Or (b::fg) pos) GF):PW X (.BoolOp .Or (a::b::fg) pos) (tOr tA GF):=by
 intro g e s σ H Q I h;show isTrue_or (aX (j e s σ H _ I h) λc s1 k=>?_);let⟨H1,f,d⟩:=k;cases c with
 | true=>show⟨H1,f,d⟩
 | false=>show i g e s1 σ H1 Q f d
def zvH(b:PT X a tA):PT X (.UnaryOp .Not a pos) (zzc tA):=by
 intro d s σ H Q I h;show isTrue_not (b d s σ H (λc H1=>Q (!c) H1) I h)
def zxK(ta tb:TE):TE:=λσ H Q=>ta σ H λx H1=>∃c,x=.bl c/\if c=true then tb σ H1 Q else Q (.bl false) H1
def zxL(ta:TE):TE:=λσ H Q=>ta σ H λx H1=>∃c,x=.bl c/\Q (.bl (!c)) H1
theorem zvI(h:PE X a t):PE X (.BoolOp op [a] pos) t:=λb s σ H Q I hw=>BoolOp_one (h b s σ H Q I hw)
def zvJ(j:PE X a ta)(i:PE X (.BoolOp .And (b::fg) pos) tb):PE X (.BoolOp .And (a::b::fg) pos) (zxK ta tb):=by
 intro e s σ H Q I h;show BoolOp_and (aX (j e s σ H _ I h) λv s1 m=>?_);symm;let⟨x,H1,f,g,d⟩:=m;let⟨c,rfl,d⟩:=d;cases g;show lA ?_;cases c with
 | true=>show i e s1 σ H1 Q f d
 | false=>show⟨.bl false,H1,f,rfl,d⟩
def zvK(e:PE X a ta):PE X (.UnaryOp .Not a pos) (zxL ta):=by
 intro g s σ H Q I h;show UnaryOp_ (aX (e g s σ H _ I h) λv s1 f=>?_);symm;let⟨x,H1,i,d,b⟩:=f;let⟨c,rfl,b⟩:=b;cases d;show not_of (lA ⟨.bl (!c),H1,i,rfl,b⟩)
def tIf(t:TT)(ta tb:TE):TE:=λσ H Q=>t σ H λc H1=>if c=true then ta σ H1 Q else tb σ H1 Q
def zqQ(i:PT X c tA)(k:PE X a ta)(j:PE X b tb):PE X (.IfExp c a b pos) (tIf tA ta tb):=by
 intro e s σ H Q I h;show wpAny_IfExp (aX (i e s σ H _ I h) λd s1 l=>?_);let⟨H1,g,f⟩:=l;cases d with
 | true=>show k e s1 σ H1 Q g f
 | false=>show j e s1 σ H1 Q g f
end
def bS(K:ao)(H:Hp)(a:ag)(xs:List V):Prop:=
 Rd H a (.lst xs)\/
  ∃o its n,K.lookup a=some o/\o.cls=.type "list"/\o.dict=none/\o.data=.seq its n/\its.size<=sizeLine/\Vals xs its.toList
def cY(K:ao)(H:Hp)(a:ag)(xs:List V):Prop:=
 Rd H a (.tup xs)\/
  ∃o its n,K.lookup a=some o/\o.cls=.type "tuple"/\o.data=.seq its n/\its.size<=sizeLine/\Vals xs its.toList
def zzd:af->Option V
 | .none=>some .non
 | .bool b=>some (.bl b)
 | .int i _=>some (.int i)
 | .str x _=>some (.str x)
 | .bytes b _=>some (.Dj b)
 | .float b _=>some (.C5 b)
 | .ref a=>some (.ref a)
 | .type n=>some (.ty n)
 | _=>none
def RelV.abs(r:RelV x u):zzd u\x:=by
 cases x with
 | non=>cases r;rfl
 | bl _=>cases r;rfl
 | int _=>let⟨t,rfl⟩:=r;rfl
 | str _=>let⟨t,rfl⟩:=r;rfl
 | Dj _=>let⟨t,rfl⟩:=r;rfl
 | C5 _=>let⟨t,rfl⟩:=r;rfl
 | ref _=>cases r;rfl
 | ty _=>cases r;rfl
theorem RelV.inj(r:RelV x u)(q:RelV y u):x=y:=iu (r.abs.symm.trans q.abs)
def Vals.inj(h:Vals xs a)(k:Vals ys a):xs=ys:=by
 induction h generalizing ys with
 | nil=>cases k;rfl
 | cons r t c=>
  cases k with
  | cons b t'=>rw[r.inj b,c t']
section
variable{σ:St}
theorem bS.of{K:ao}(h:H a\.lst xs):bS K H a xs:=.inl (.inl h)
theorem cY.of{K:ao}(h:H a\.tup xs):cY K H a xs:=.inl (.inl h)
def Inv.list(I:Inv X J' σ H s)(h:bS X.K H a xs):∃its:List af,Vals xs its/\PlainL s.heap a its.toArray/\xs.length<=sizeLine:=by
 symm;rcases h with h | ⟨o,its,n,d,f,hd,b,hz,r⟩
 .symm;let⟨z,its,n,r,e⟩:=h.ok I.aU;show⟨its,r,⟨_,n,e,rfl,rfl,rfl⟩,z⟩
 show⟨its.toList,r,⟨o,n,I.jw a o d,f,hd,by simpa using b⟩,?_⟩;have e:=r.length;simp![cH] at e;cbv
def Inv.tuple(I:Inv X J' σ H s)(h:cY X.K H a xs):∃its:List af,Vals xs its/\IsTup s.heap a its.toArray/\xs.length<=sizeLine:=by
 symm;rcases h with h | ⟨o,its,n,d,f,b,hz,r⟩
 .let⟨z,its,r,p⟩:=h.ok I.aU;show⟨its,r,p,z⟩
 show⟨its.toList,r,⟨o,I.jw a o d,f,n,by simpa using b⟩,?_⟩;have e:=r.length;simp![cH] at e;cbv
def Inv.CC(I:Inv X J' σ H s)(h:bS X.K H a xs)(h':bS X.K H a ys):xs=ys:=by
 symm;obtain⟨its,r,⟨o,n,e,_,_,d⟩,_⟩:=I.list h;obtain⟨its',f,⟨o',i,b,_,_,d'⟩,_⟩:=I.list h';rw[e] at b;cases b;rw[d] at d';injection d' with g _
 have:its=its':=by simpa using gy Q9 g
 subst this;show r.inj f
def Inv.YZ(I:Inv X J' σ H s)(h:cY X.K H a xs)(h':cY X.K H a ys):xs=ys:=by
 symm;obtain⟨its,r,⟨o,e,_,n,d⟩,_⟩:=I.tuple h;obtain⟨its',f,⟨o',b,_,i,d'⟩,_⟩:=I.tuple h';rw[e] at b;cases b;rw[d] at d';injection d' with g _
 have:its=its':=by simpa using gy Q9 g
 subst this;show r.inj f
end
abbrev Cx.qL(X:Cx)(E:af->ai->Prop):Cx:={ X with xe:=E }
abbrev Cx.oj(X:Cx):Cx:=X.qL λ_ _=>False
theorem Cx.Ok.qL{X:Cx}(ok:X.Ok)(E):(X.qL E).Ok:=
 ⟨ok.mod,ok.kind,ok.glob,ok.blt,ok.above,ok.inj,ok.has,ok.cab,ok.hd,ok.frames,ok.GH,ok.exf,ok.bs,ok.u6,ok.Cy,ok.C8,ok.oE,ok.xb⟩
theorem Cx.Ok.uz{X:Cx}(ok:(X.qL E).Ok):X.Ok:=
 ⟨ok.mod,ok.kind,ok.glob,ok.blt,ok.above,ok.inj,ok.has,ok.cab,ok.hd,ok.frames,ok.GH,ok.exf,ok.bs,ok.u6,ok.Cy,ok.C8,ok.oE,ok.xb⟩
section
variable{σ:St}
theorem Inv.qL(I:Inv X J' σ H s)(E):Inv (X.qL E) J' σ H s:=⟨I.ok.qL E,I.os,I.bare,I.base,I.loc,I.cell,I.free,I.pT,I.pin,I.aU,I.len⟩
theorem Inv.uz(I:Inv (X.qL E) J' σ H s):Inv X J' σ H s:=⟨I.ok.uz,I.os,I.bare,I.base,I.loc,I.cell,I.free,I.pT,I.pin,I.aU,I.len⟩
def SP.uz{D:Ends}(h:SP (X.qL E) J' D f b):SP X J' D f b:=by
 cases f with
 | next=>let⟨a,H',I,q⟩:=h;show⟨a,H',I.uz,q⟩
 | brk=>let⟨a,H',I,q⟩:=h;show⟨a,H',I.uz,q⟩
 | cont=>let⟨a,H',I,q⟩:=h;show⟨a,H',I.uz,q⟩
 | ret u=>let⟨v,a,H',I,r,q⟩:=h;show⟨v,a,H',I.uz,r,q⟩
theorem jU.oj{st:List cq}(h:jU X.oj st t):jU X st t:=λJ' s σ H D I hw=>
 j7 (h J' s σ H D (I.qL _) hw) (λ_ _ q=>q.uz) λ_ _ z=>False.elim z
end
section
variable{st:cq}{fg:List cq}{t u:TS}{e:az}{te:TE}
def zxM:TS:=λD σ H=>D.nx σ H
def zze(t u:TS):TS:=λD σ H=>t { D with nx:=u D } σ H
theorem Lz:jU X [] zxM:=λ_ _ σ H _ I h=>DS ⟨σ,H,I,h⟩
def LP(e:PS X st t)(d:jU X fg u):jU X (st::fg) (zze t u):=by
 intro b s σ H D I h;show RQ (aX (e b s σ H { D with nx:=u D } I h) λf s1 q=>?_);cases f with
 | next=>
  symm;let⟨g,H',i,q⟩:=q;show d b s1 g H' D i q
 | ret v=>show q
 | brk=>show q
 | cont=>show q
def Ly(a:PS X st t):jU X [st] t:=by
 intro b s σ H D I h;show RQ (aX (a b s σ H D I h) λf s1 q=>?_);cases f with
 | next=>show DS q
 | ret v=>show q
 | brk=>show q
 | cont=>show q
def Inv.quiet{a:St}(I:Inv X b a H s):interactive X.env=false:=by simp[interactive,I.ok.kind]
def zxN(te:TE):TS:=λD σ H=>te σ H λ_ H1=>D.nx σ H1
def uo(he:PE X e te)(b:swapsWith e none pos.line X.env=pure false:=by rfl):PS X (.Expr e pos) (zxN te):=by
 intro d s σ H D I h;show wpAny_Expr_any (aX (he d s σ H _ I h) λv s1 c=>by let⟨x,H1,f,g,a⟩:=c;show⟨σ,H1,f,a⟩) I.quiet b
def zzf(te:TE):TS:=λD σ H=>te σ H D.rt
def Fy(he:PE X e te):PS X (.Return (some e) pos) (zzf te):=by
 intro d s σ H D I h;show wpAny_Return_some (aX (he d s σ H _ I h) λv s1 c=>by let⟨x,H1,f,a,b⟩:=c;show⟨x,σ,H1,f,a,b⟩)
def zzg(c:TT)(t u:TS):TS:=λD σ H=>c σ H λb H1=>if b=true then t D σ H1 else u D σ H1
def Uq(i:PT X c tc)(k:jU X a t)(j:jU X b u):PS X (.If c a b pos) (zzg tc t u):=by
 intro e s σ H D I h;show wpAny_If (aX (i e s σ H _ I h) λd s1 l=>?_);let⟨H1,g,f⟩:=l;cases d with
 | true=>show k e s1 σ H1 D g f
 | false=>show j e s1 σ H1 D g f
def zvM:TS:=λ_ _ _=>False
theorem zqR:PS X st zvM:=λ_ _ _ _ _ _ h=>h.elim
end
abbrev TG:=V->St->Hp->(St->Hp->Prop)->Prop
abbrev tJ:=List V->St->Hp->(St->Hp->Prop)->Prop
def PG(X:Cx)(a:az)(t:TG):Prop:=
 ∀c s (σ:St) H v u Q,Inv X c σ H s->RelV v u->t v σ H Q->
  ⇑(assign a X.env u) (λ_ d=>∃b H',Inv X c b H' d/\Q b H') X.xe s
def zF(X:Cx)(ts:List az)(t:tJ):Prop:=
 ∀c s (σ:St) H a us Q,Inv X c σ H s->Vals a us->t a σ H Q->
  ⇑(assignInOrder ((assignEach ts X.env).map (·.2)) us) (λ_ d=>∃b H',Inv X c b H' d/\Q b H') X.xe s
abbrev Kb:=V->V->V->Hp->(Hp->Prop)->Prop
def Tx(X:Cx)(t:Kb):Prop:=
 ∀a s (σ:St) H o i v ov iv u Q,Inv X a σ H s->RelV o ov->RelV i iv->RelV v u->t o i v H Q->
  ⇑(setItem ov iv u) (λ_ b=>∃H',Inv X a σ H' b/\Q H') X.xe s
def Fd(i:Nat):TG:=λv σ H Q=>Q (σ.set i (some v)) H
def Wo(hN:X.N.Nodup)(a:X.N[i]?\x)(hx:Loc X.env.scope x)(b:X.fn x=true\/X.env.scope.names.lookup x\.local:=by first | show .inl rfl | show .inr rfl | assumption):PG X (.Name x pos) (Fd i):=by
 intro e s σ H v u Q I r h;show R0 (F1 I hN a hx r (λd c=>⟨_,H,c,h⟩) b)
def zzh:tJ:=λa σ H Q=>a=[]/\Q σ H
def zxP(t:TG)(u:tJ):tJ:=λa σ H Q=>∃v r,a=v::r/\t v σ H λb H'=>u r b H' Q
def ztE:zF X [] zzh:=by
 intro d s σ H b us Q I r h;symm;let⟨e,h⟩:=h;subst e;cases r;show RZ ⟨σ,H,I,h⟩
def zqT(n:PG X e t)(m:zF X b u)
  (j:(assignEach (e::b) X.env).map (·.2)=assign e X.env::(assignEach b X.env).map (·.2):=by rfl):zF X (e::b) (zxP t u):=by
 intro d s σ H w us Q I r h;let⟨v,x,o,h⟩:=h;subst o;cases r with
 | cons r g=>
  rw[j];show Js (aX (n d s σ H _ _ _ I r h) λ_ s1 p=>?_);symm;let⟨f,H1,q,i⟩:=p;show m d s1 f H1 _ _ Q q g i
def zzi(K:ao)(n:Nat)(t:tJ):TG:=λv σ H Q=>∃a xs,v=.ref a/\cY K H a xs/\xs.length=n/\t xs σ H Q
def zvN(p:X.calm=true)(h:zF X d t)
  (m:(assignEach d X.env).length=n:=by rfl) (w:(assignEach d X.env).findIdx? (·.1)=none:=by rfl):PG X (.Tuple d k pos) (zzi X.K n t):=by
 intro g s σ H v u Q I r hw;symm;let⟨a,xs,q,j,hl,hw⟩:=hw;subst q;cases r;symm;let⟨its,f,i,hz⟩:=I.tuple j;show assign_Tuple_tuple (I.ok.hd p) i (by simp[m,<-hl,f.length]) w λh' hx=>?_
 have x:Inv X g σ H 'j':=I.kept (t':=s.toks) λb o e=>hx b o (cC (cf e)) e
 show h g _ σ H xs _ Q x (by simpa using f) hw
def zzj(to a:TE)(t:Kb):TG:=λv σ H Q=>to σ H λo H1=>a σ H1 λi c=>t o i v c λb=>Q σ b
def zvO(q:PE X o to)(w:PE X i e)(p:Tx X t)
  (z:∀v,assign (.Subscript o i pos) X.env v=(do
   let ov <-holding [v] (eval o X.env)
   let iv <-holding [v,ov] (eval i X.env)
   standAt pos
   holding [v,ov,iv] (setItem ov iv v)
   release [v,ov,iv] []):=by intro _;rfl):PG X (.Subscript o i pos) (zzj to e t):=by
 intro d s σ H v u Q I r h;rw[z];show aj (gi (aX (q d s σ H _ I h) λov s1 b=>?_));symm;let⟨x,H1,C,g,n⟩:=b;show aj (gi (aX (w d s1 σ H1 _ C n) λiv s2 b=>?_));symm;let⟨y,E,B,f,m⟩:=b;show aj (xA (aj (gi (aX (p d s2 σ E x y v ov iv u _ B g f r m) λ_ s3 b=>?_))));symm;let⟨D,A,j⟩:=b;show wpAny_release ⟨σ,D,A,j⟩
def ED(te:TE)(g:TG):TS:=λD σ H=>te σ H λx H1=>g x σ H1 D.nx
def Vd(he:PE X e te)(i:PG X a g)(f:swapsWithSole [a] e pos.line X.env=pure false:=by rfl)(hw:swappedStores [a] e X.env=pure none:=by rfl)
  (j:(assignEach [a] X.env).map (·.2)=[assign a X.env]:=by rfl):PS X (.Assign [a] e pos) (ED te g):=by
 intro b s σ H D I h;show wpAny_Assign_stores (aX (he b s σ H _ I h) λv s1 k=>?_) f hw;let⟨x,H1,l,c,d⟩:=k;rw[j];show aX (i b s1 σ H1 x v _ l c d) λ_ s2 q=>q
def Ld(hN:X.N.Nodup)(j:X.N[i]?\x)(hx:Loc X.env.scope x)(he:PE X e te)(g:swapsWith e (some (.Name x b)) pos.line X.env=pure false:=by rfl)(m:X.fn x=true\/X.env.scope.names.lookup x\.local:=by first | show .inl rfl | show .inr rfl | assumption) :
  PS X (.Assign [.Name x b] e pos) (ED te (Fd i)):=by
 intro o s σ H D I h;show wpAny_Assign_Name (aX (he o s σ H _ I h) λv s1 n=>?_) g;symm;let⟨y,H1,q,d,f⟩:=n;show F1 q hN j hx d (λs2 p=>⟨_,H1,p,f⟩) m
def zzk(i j:Nat)(b:TA):TS:=λD σ H=>b σ H λa H1=>∃v w,a=[v,w]/\D.nx ((σ.set i (some v)).set j (some w)) H1
def zvP(R:X.calm=true)(hN:X.N.Nodup)(Q:X.N[i]?\x)(P:X.N[j]?\y)(U:i≠j)
  (hx:X.env.scope.names.lookup x\.local) (z:X.env.scope.names.lookup y\.local) (S:PA X [a,b] u)
  (hw:swappedStores [.Tuple [.Name x r,.Name y n] kt pt] (.Tuple [a,b] t g) X.env=pure (some [x,y]))
  (O:swapsWithSole [.Tuple [.Name x r,.Name y n] kt pt] (.Tuple [a,b] t g) pos.line X.env=pure false:=by rfl) :
  PS X (.Assign [.Tuple [.Name x r,.Name y n] kt pt] (.Tuple [a,b] t g) pos) (zzk i j u):=by
 intro B s σ H D I h;rw[exec_Assign_arm];show aj (xA ?_);rw[O];show aj (ay ?_);rw[if_neg (by decide)];show aj (Tuple_ (aX (S _ B s σ H _ I h) λus s1 V=>?_));symm;let⟨vs,H1,I1,F,m⟩:=V;let⟨v,w,T,m⟩:=m;subst T;obtain⟨f,d,rfl,E,M⟩:∃f d,us=[f,d]/\RelV v f/\RelV w d:=by
  cases F with
  | cons p q=>
   cases q with
   | cons K J=>
    cases J;show⟨_,_,rfl,p,K⟩
 show jj ?_ (by show 2<=sizeLine;decide);have Z:Inv X B σ H1 { s1 with heap:=s1.heap.push { cls:=.type "tuple",data:=.seq [f,d].toArray } }:=I1.kept (t':=s1.toks) λb o e=>cy _ e
 rw[hw];show aj (ay ?_);show ⇑(do rule "assign.swapped-stores";let items <-unpackItems (.ref 'k') 2 none;assignInOrder [λv=>bindName X.env y v,λv=>bindName X.env x v] items.reverse;pure QH) _ _ _;show aj (mB (aj (unpackItems_tuple (items:=#[f,d]) (I.ok.hd R) (QG s1.heap _) λh' L=>?_)));have Y:=Z.kept (h':=h') (t':=s1.toks) λb o e=>L b o (cC (cf e)) e
 show wpAny _ _ (assignInOrder [λv=>bindName X.env y v,λv=>bindName X.env x v] [d,f] >>= λ_=>pure QH) _ _ _;show aj (Js (RB (F1 Y hN P (.inl z) M (λs2 W=>?_) (.inr z))));show Js (RB (F1 W hN Q (.inl hx) E (λs3 C=>RZ (ay ?_)) (.inr hx)));rw[List.set_comm _ _ (Ne.symm U)] at C;show⟨_,H1,C,m⟩
def zvQ(c:TT)(e:TS):TS:=λD σ H=>∃W:Nat->St->Hp->Prop,(∃m,W m σ H)/\∀m σ H,W m σ H->
 c σ H λb H1=>if b=true then ∃N:St->Hp->Prop,(∀d H',N d H'->∃a,a<m/\W a d H')/\e { D with nx:=N,ct:=N,bk:=D.nx } σ H1 else D.nx σ H1
def zqU(m:PassesOwn (model X.prog X.w) X.A X.env X.xe)(x:PT X c tc)(y:jU X body j):PS X (.While c body [] pos) (zvQ tc j):=by
 intro i s σ H D I h;symm;obtain⟨W,⟨m0,r⟩,turn⟩:=h;show wpAny_While (codeAny_whileLoop (λn t=>∃o H',Inv X i o H' t/\W n o H') ?_ m0 ⟨σ,H,I,r⟩);rintro n s1 z;symm;let⟨d,H1,E,w1⟩:=z;show vq m (aX (x i s1 d H1 _ E (turn n d H1 w1)) λb s2 B=>?_);let⟨q,p,g⟩:=B;cases b with
 | true=>
  let⟨N,hN,g⟩:=g;rw[if_pos rfl];show vq m (aX (y i s2 d q _ p g) λf s3 e=>?_);cases f with
  | next=>
   symm;let⟨u,F,C,n3⟩:=e;grind
  | cont=>
   symm;let⟨u,F,C,n3⟩:=e;grind
  | brk=>show e
  | ret v=>show e
 | false=>
  rw[if_neg jk];show DS ⟨d,q,p,g⟩
structure It where
 go:Nat->Hp->Prop
 Gy:Nat->Hp->V->Hp->Prop
 stop:Nat->Hp->Prop
def nt(X:Cx)(a:List (ag×aV))(H:Hp)(b:ag):Prop:=
 H b=none/\b≠X.env.locals/\b∉X.fs/\(b∈X.ex\/X.gC.heap.objs.size<=b)/\(∀x c,X.env.cells.lookup x\c->c≠b)/\∀p∈X.pn++a,p.1≠b
def Inv.qR{f:St}{b:ag}(I:Inv X d f H s)(a:*...*<=b)(h:H' b=none):nt X d H' b:=by
 show⟨h,rf (jm I.lt a),I.abj a,.inr (bK I.sz a),λx c e z=>?_,λp g z=>?_⟩
 .let⟨v,q⟩:=I.cell x c e;show absurd (jm q.lt (by rw[z];show a)) (qf _)
 show absurd (jm (cf (I.pin p g).1) (by rw[z];show a)) (qf _)
structure Turn(P:aI)(w:aH)(K:ao)(tg:az)(J:It)(fp:List ag)(it:ag)(tn:Nat->aD->Prop):Prop where
 mem:it∈fp
 obj:∀i h,tn i h->∀b∈fp,∃o,h.get? b\o/\∀v,o.data≠.cell v
 keep:∀i h h',tn i h->(∀b∈fp,∀o,h.get? b\o->h'.get? b\o)->tn i h'
 item:∀(X:Cx),X.prog=P->X.w=w->X.K=K->X.calm=true->∀(i:Nat)(J':List (ag×aV))(s:ai)(σ:St)(H:Hp)(E:af->ai->Prop),Inv X J' σ H s->(∀b∈fp,nt X J' H b)->tn i s.heap->J.go i H->
  wpAny (model P w) X.A (pyNext (.ref it)) (λr s1=>∃u,r\u/\
   wpAny (model P w) X.A (letOwnedTupleGo tg (.ref it) u) (λ_ s2=>∃x H',Inv X J' σ H' s2/\RelV x u/\J.Gy i H x H'/\tn (i+1) s2.heap/\∀b∈fp,H' b=none) E s1) E s
 done:∀(X:Cx),X.prog=P->X.w=w->X.K=K->X.calm=true->∀(i:Nat)(J':List (ag×aV))(s:ai)(σ:St)(H:Hp)(E:af->ai->Prop),Inv X J' σ H s->(∀b∈fp,nt X J' H b)->tn i s.heap->J.stop i H->
  wpAny (model P w) X.A (pyNext (.ref it)) (λr s1=>r=none/\Inv X J' σ H s1) E s
 self:∀(A:bh)(i:Nat)(s:ai)(Q:af->ai->Prop)(E:af->ai->Prop),tn i s.heap->Q (.ref it) s->wpAny (model P w) A (pyIter (.ref it)) Q E s
abbrev TI:=St->Hp->(It->Hp->Prop)->Prop
def HF(X:Cx)(d:List (ag×aV))(e:St)(f:az)(R:It->Hp->Prop)(g:af)(c:ai):Prop:=
 ∃it fp a J H',g=.ref it/\Inv X d e H' c/\Turn X.prog X.w X.K f J fp it a/\a 0 c.heap/\(∀b∈fp,nt X d H' b)/\R J H'
def PI(X:Cx)(d a:az)(c:TI):Prop:=
 ∀b s (σ:St) H R,Inv X b σ H s->c σ H R->
  ⇑(eval a X.env) (λv s1=>⇑(pyIter v) (HF X b σ d R) X.xe s1) X.xe s
def yo(e:'f' d\o)(g:o.cls=.type n)(hd:o.data=.fields b)
  (f:["enumerate","zip","dict_itemiterator","dict_reverseitemiterator","odict_iterator","itertools.zip_longest","itertools.pairwise"].contains n=false) (a:Q () s):wpAny M A (letOwnedTupleGo c (.ref d) u) Q E s:=by
 unfold letOwnedTupleGo;cases c<;>first
  | show ay a
  | (cases u<;>first
    | show ay a
    | (show aj (DD e ?_)
       rw[g,hd];show wpAny M A (if (["enumerate","zip","dict_itemiterator","dict_reverseitemiterator","odict_iterator","itertools.zip_longest","itertools.pairwise"].contains n&&b[0]?==some (rawInt _))=true then _ else _) Q E s;rw[if_neg (by intro h;rw[f,RA] at h;cases h)];show ay a))
def HH(K:ao)(a:ag):It:=
 ⟨λi H=>∃xs x,bS K H a xs/\xs[i]?\x,λi H x H'=>H'=H/\∀xs,bS K H a xs->xs[i]?\x,λi H=>∃xs,bS K H a xs/\xs.length<=i⟩
def Qs(K:ao)(a:ag):It:=
 ⟨λi H=>∃xs x,cY K H a xs/\xs[i]?\x,λi H x H'=>H'=H/\∀xs,cY K H a xs->xs[i]?\x,λi H=>∃xs,cY K H a xs/\xs.length<=i⟩
def Du(lo:Int)(n:Nat):It:=⟨λi _=>i<n,λi H x H'=>H'=H/\x=.int (lo+i),λi _=>n<=i⟩
def XY{K:ao}{D:az}(a f):Turn P w K D (HH K a) [f] f (λi h=>h.IsListIter f a i) where
 mem:=by room
 obj:=λi h st b g=>by
  have e:b=f:=by simpa using g
  subst e;symm;let⟨o,e,c,d⟩:=st;show⟨o,e,λv z=>by rw[d] at z;cases z⟩
 keep:=λi h h' st k=>st.at λo e=>k f (by room) o e
 item:=by
  intro X q hw r A i C s σ H E I hf st n;subst q hw r;symm;let⟨xs,x,j,hx⟩:=n;let⟨its,m,p,hz⟩:=I.list j;let⟨u,M,J⟩:=m.get hx;let⟨f0,f1,f2,y,f4,t⟩:=hf f (by room);show SH st p.isList (x:=u) (by simpa using M) λh' B F=>?_
  have O:Inv X C σ H 'j':=I.turned (t':=s.toks) (λb o g e=>(F.2 b g).trans e) f0 f1 y f4 t;symm;let⟨o,e,c,d⟩:=id B;show⟨u,rfl,yo (s:='j') e c d (by rfl) ⟨x,H,O,J,⟨rfl,λys L=>by rw[I.CC L j];show hx⟩,B,λb g=>(hf b g).1⟩⟩
 done:=by
  intro X q hw r A i C s σ H E I hf st n;subst q hw r;symm;let⟨xs,j,hx⟩:=n;let⟨its,m,p,hz⟩:=I.list j;let⟨f0,f1,f2,y,f4,t⟩:=hf f (by room);have hl:=m.length;show Sx (I.ok.hd A) st p.isList (by simp;cbv) λh' N=>⟨rfl,I.turned (t':=s.toks) (λb o g e=>N b o g e) f0 f1 y f4 t⟩
 self:=λ_ _ _ _ _ st h=>wpAny_pyIter_listiter st h
def zmO{K:ao}{D:az}(a f):Turn P w K D (Qs K a) [f] f (λi h=>h.IsTupleIter f a i) where
 mem:=by room
 obj:=λi h st b g=>by
  have e:b=f:=by simpa using g
  subst e;symm;let⟨o,e,c,d⟩:=st;show⟨o,e,λv z=>by rw[d] at z;cases z⟩
 keep:=λi h h' st k=>st.at λo e=>k f (by room) o e
 item:=by
  intro X q hw r A i C s σ H E I hf st n;subst q hw r;symm;let⟨xs,x,j,hx⟩:=n;let⟨its,m,p,hz⟩:=I.tuple j;let⟨u,M,J⟩:=m.get hx;let⟨f0,f1,f2,y,f4,t⟩:=hf f (by room);show wpAny_pyNext_tuple_item st (show s.heap.IsTuple a its.toArray from p) (x:=u) (by simpa using M) λh' B F=>?_
  have O:Inv X C σ H 'j':=I.turned (t':=s.toks) (λb o g e=>(F.2 b g).trans e) f0 f1 y f4 t;symm;let⟨o,e,c,d⟩:=id B;show⟨u,rfl,yo (s:='j') e c d (by rfl) ⟨x,H,O,J,⟨rfl,λys L=>by rw[I.YZ L j];show hx⟩,B,λb g=>(hf b g).1⟩⟩
 done:=by
  intro X q hw r A i C s σ H E I hf st n;subst q hw r;symm;let⟨xs,j,hx⟩:=n;let⟨its,m,p,hz⟩:=I.tuple j;let⟨f0,f1,f2,y,f4,t⟩:=hf f (by room);have hl:=m.length;show wpAny_pyNext_tuple_end (I.ok.hd A) st (show s.heap.IsTuple a its.toArray from p) (by simp;cbv) λh' N=>⟨rfl,I.turned (t':=s.toks) (λb o g e=>N b o g e) f0 f1 y f4 t⟩
 self:=λ_ _ _ _ _ st h=>wpAny_pyIter_tupleiter st h
def zmP{K:ao}(d lo n):Turn P w K y (Du lo n) [d] d (λi h=>IsRangeIter h d (lo+(i:Nat)*1) ((n:Int)-(i:Nat)) 1) where
 mem:=by room
 obj:=λi h st b f=>by
  cbv
 keep:=λi h h' st k=>k d (by room) _ st
 item:=by
  intro X m hw p j i x s σ H E I hf st g;subst m hw p;symm;let⟨f0,f1,f2,r,f4,q⟩:=hf d (by room);have W:=Walks.range (prog:=X.prog) (w:=X.w) (I.ok.hd j) d lo 1 n;show W.item i s _ _ g st λv h' tk hv u kk=>?_
  symm;let⟨t,rfl⟩:=hv;have A:Inv X x σ H { s with heap:=h',toks:=tk }:=I.turned (λb o f e=>kk b o (by simpa using f) e) f0 f1 r f4 q;show⟨_,rfl,yo (s:={ s with heap:=h',toks:=tk }) (n:="range_iterator") u rfl rfl (by rfl) ⟨.int (lo+i),H,A,⟨t,?_⟩,⟨rfl,rfl⟩,u,λb f=>(hf b f).1⟩⟩;rw[Int.mul_one]
 done:=by
  intro X m hw p j i x s σ H E I hf st g;subst m hw p;symm;let⟨f0,f1,f2,r,f4,q⟩:=hf d (by room);show wpAny_pyNext_range_end (I.ok.hd j) st (by have:n<=i:=g;lia) λh' z=>⟨rfl,I.turned (t':=s.toks) (λb o f e=>z b o f e) f0 f1 r f4 q⟩
 self:=λ_ _ _ _ _ st h=>wpAny_pyIter_rangeiter st h
def zxQ(K:ao)(tl:TE):TI:=λσ H R=>tl σ H λx H1=>∃a,x=.ref a/\(∃xs,bS K H1 a xs)/\R (HH K a) H1
def ztF(hl:PE X l tl):PI X tg l (zxQ X.K tl):=by
 intro n s σ H R I h;show aX (hl n s σ H _ I h) λv s1 m=>?_
 let⟨x,H1,d,f,g⟩:=m;symm;obtain⟨a,e,⟨xs,i⟩,q⟩:=g;subst e;cases f;symm;let⟨its,r,p,hz⟩:=d.list i;show tZ p.isList ?_;show⟨'k',['k'],_,_,H1,rfl,d.kept (t':=s1.toks) λb o e=>cy _ e,XY a _,⟨_,cT _ rfl,rfl,rfl⟩,λb j=>?_,q⟩;have e:b='k':=by simpa using j
 subst e;show d.qR (bB _) (d.aU.fresh (bB _))
def W8{c:St}{R:It->Hp->Prop}{lo a:Int}(I:Inv X d c H s)(j:-(2 ^ 62)<=lo)(i:lo<2 ^ 62)(h:-(2 ^ 62)<=a)(g:a<2 ^ 62)
  (q:R (Du lo (a-lo).toNat) H):⇑(pyIter (.ref *...*)) (HF X d c tg R) E { s with heap:=s.heap.push { cls:=.type "range",data:=.fields #[.int lo t,.int a u,.int 1 v] },toks:=tk }:=by
 show wpAny_pyIter_range (IsRange.new ..) (small_one j i h g) ?_;have f:Inv X d c H { s with heap:=s.heap.push { cls:=.type "range",data:=.fields #[.int lo t,.int a u,.int 1 v] },toks:=tk }:=I.kept λb o e=>cy _ e
 show⟨(s.heap.push { cls:=.type "range",data:=.fields #[.int lo t,.int a u,.int 1 v] }).objs.size,[(s.heap.push { cls:=.type "range",data:=.fields #[.int lo t,.int a u,.int 1 v] }).objs.size],_,_,H,rfl,
  f.kept (t':=tk) λb o e=>cy _ e,zmP _ lo (a-lo).toNat,?_,λb m=>?_,q⟩
 .have l:lo+((0:Nat):Int)*1=lo:=by simp
  have k:(((a-lo).toNat:Nat):Int)-((0:Nat):Int)=aaI lo a 1:=by rw[Rm];split<;>grind
  show IsRangeIter _ _ (lo+((0:Nat):Int)*1) ((((a-lo).toNat:Nat):Int)-((0:Nat):Int)) 1;rw[l,k];show cT _ rfl
 have e:b=(s.heap.push { cls:=.type "range",data:=.fields #[.int lo t,.int a u,.int 1 v] }).objs.size:=by show cG.1 ‹_›
 subst e;show f.qR (bB _) (f.aU.fresh (bB _))
def zxR(b:TA):TI:=λσ H R=>b σ H λa H1=>∃j:Int,a=[.int j]/\-(2 ^ 62)<=j/\j<2 ^ 62/\R (Du 0 j.toNat) H1
def zxS(b:TA):TI:=λσ H R=>b σ H λa H1=>∃i j:Int,a=[.int i,.int j]/\(-(2 ^ 62)<=i/\i<2 ^ 62/\-(2 ^ 62)<=j/\j<2 ^ 62)/\R (Du i (j-i).toNat) H1
def zn5(o:Gl X "range")(n:X.mg "range"=none)(u:PA X [a] d)(m:starEach [a] X.env=[(false,eval a X.env)]:=by rfl):PI X tg (.Call (.Name "range" p) [a] [] pos) (zxR d):=by
 intro w s σ H R I h;show Call_ (qH I o n Iq (xV (aX (u pos w s σ H _ I h) λus s1 v=>?_) m rfl));let⟨y,H1,x,g,b⟩:=v;symm;let⟨j,e,b,i,q⟩:=b;subst e;cases g with
 | cons r f=>
  cases f;symm;let⟨t,rfl⟩:=r;show Q8 (W8 x 'g' 'g' b i (by simpa using q))
def zn6(z:Gl X "range")(y:X.mg "range"=none)(A:PA X [a,b] g)(x:starEach [a,b] X.env=[(false,eval a X.env),(false,eval b X.env)]:=by rfl)(m:starEach [b] X.env=[(false,eval b X.env)]:=by rfl) :
  PI X tg (.Call (.Name "range" p) [a,b] [] pos) (zxS g):=by
 intro B s σ H R I h;show Call_ (qH I z y Iq (xV (aX (A pos B s σ H _ I h) λus s1 ⟨D,H1,C,n,f⟩=>?_) (by rw[x,m]) (by rw[m];rfl)));symm;obtain⟨i,j,e,⟨f,w,v,u⟩,q⟩:=f;subst e;cases n with
 | cons r d=>
  cases d with
  | cons o d=>
   cases d;symm;let⟨t,rfl⟩:=r;let⟨t',rfl⟩:=o;show call_range_2 (W8 C f w v u q)
def zzl(c:TI)(g:TG)(d:TS):TS:=λD σ H=>c σ H λJ H1=>∃W:Nat->Nat->St->Hp->Prop,(∃m,W 0 m σ H1)/\∀i m σ H,W i m σ H->
 (J.stop i H/\D.nx σ H)\/(J.go i H/\∃N:St->Hp->Prop,(∀b H',N b H'->∃a,a<m/\W (i+1) a b H')/\∀x H',J.Gy i H x H'->g x σ H' λe f=>d { D with nx:=N,ct:=N,bk:=D.nx } e f)
def Bh(fp:List ag)(h:aD):List (ag×aV):=fp.filterMap λb=>(h.get? b).map λo=>(b,o)
theorem Gv(a:b∈fp)(e:h.get? b\o):(b,o)∈Bh fp h:=xR.mpr ⟨b,a,by rw[e];rfl⟩
def zn7(d:p∈Bh fp h):p.1∈fp/\h.get? p.1\p.2:=by
 symm;let⟨b,f,e⟩:=xR.mp d;cases q:h.get? b with
 | none=>rw[q] at e;cases e
 | some o=>
  grind
theorem Inv.pinned{c:St}(I:Inv X a c H s)(f:∀b∈fp,nt X a H b)(h:∀b∈fp,∃o,'f' b\o/\∀v,o.data≠.cell v):Inv X (a++Bh fp s.heap) c H s:=
 I.Zi λp d=>(bx.mp d).elim (λz=>I.pin p (fT _ z)) λz=>by
  let⟨g,e⟩:=zn7 z;let⟨f0,f1,f2,y⟩:=f p.1 g;grind
theorem Inv.Gz{a:St}(I:Inv X (b++pl) a H s):Inv X b a H s:=I.Zi λp c=>I.pin p (fT _ (jn _ c))
def Vc(K:PassesOwn (model X.prog X.w) X.A X.env X.xe)(hc:X.calm=true)(hi:PI X tg p Z)(hg:PG X tg g)(q:jU X body tb)
  (hs:∀x,foldedSetIterable p X.env x=pure x:=by intro _;rfl):PS X (.For tg p body [] pos) (zzl Z g tb):=by
 intro C s σ H D I h;show wpAny_For (aX (hi C s σ H _ I h) λv s1 h1=>aX h1 λOa s2 h2=>?_) hs;symm;obtain⟨it,fp,tn,J,H2,e,I2,T,br,f2,W,⟨m0,w0⟩,turn⟩:=h2;subst e
 -- aaZ stays true of oe ada objects through oe loop
 have V:∀{H':Hp},(∀b∈fp,H' b=none)->∀b∈fp,nt X C H' b:=λhn b q=>⟨hn b q,(f2 b q).2⟩
 show codeAny_forLoop_any (λn s'=>∃i M H',Inv X C M H' s'/\tn i s'.heap/\(∀b∈fp,H' b=none)/\W i n M H') ?_ m0 ⟨0,σ,H2,I2,br,λb q=>(f2 b q).1,w0⟩;rintro n s3 gv;symm;let⟨i,E,O,I3,GI,L,w3⟩:=gv;symm;rcases turn i n E O w3 with⟨stop,qn⟩ | ⟨go,N,hN,step⟩
 .refine vq K (aX (T.done X rfl rfl rfl hc i C s3 E O X.xe I3 (V L) GI stop) λr s4 B=>?_);symm;let⟨R,I4⟩:=B;subst R;show DS ⟨E,O,I4,qn⟩
 show vq K (aX (T.item X rfl rfl rfl hc i C s3 E O X.xe I3 (V L) GI go) λr s4 B=>?_);symm;let⟨u,R,h4⟩:=B;subst R;show vq K (aX h4 λ_ s5 B=>?_);symm;let⟨x,H5,I5,r5,y5,U,S⟩:=B;have Y:=I5.pinned (V S) (T.obj _ _ U);show vq K (aX (hg _ s5 E H5 x u _ Y r5 (step x H5 y5)) λ_ s6 B=>?_);symm;let⟨P,H6,I6,q6⟩:=B;show vq K (aX (q _ s6 P H6 _ I6 q6) λf Q z=>?_);have again:∀{j:St}{y:Hp},Inv X (C++Bh fp s5.heap) j y Q->N j y->∃m,m<n/\∃i M H',Inv X C M H' Q/\tn i Q.heap/\(∀b∈fp,H' b=none)/\W i m M H':=λ{j y} t F=>by
  symm;let⟨m',hm,w7⟩:=hN j y F;show⟨m',hm,i+1,j,y,t.Gz,T.keep _ _ _ U λb q o e=>(t.pin (b,o) (fT _ (fT _ (Gv q e)))).1,λb q=>?_,w7⟩;symm;let⟨o,e,d⟩:=T.obj _ _ U b q;show(t.pin (b,o) (fT _ (fT _ (Gv q e)))).2.1
 cases f with
 | next=>let⟨j,y,t,F⟩:=z;show again t F
 | cont=>let⟨j,y,t,F⟩:=z;show again t F
 | brk=>let⟨j,y,t,z⟩:=z;show⟨j,y,t.Gz,z⟩
 | ret v=>let⟨x7,j,y,t,r7,z⟩:=z;show⟨x7,j,y,t.Gz,r7,z⟩
abbrev R2:=V->V->Hp->VK->Prop
def eh(X:Cx)(f:af->af->Sem af)(r:R2):Prop:=
 ∀a s (σ:St) H x y v u Q,Inv X a σ H s->RelV x v->RelV y u->r x y H Q->
  ⇑(f v u) (EP X a σ Q) X.xe s
def Pr(X:Cx)(f:af->Sem af)(r:V->Hp->VK->Prop):Prop:=
 ∀a s (σ:St) H x v Q,Inv X a σ H s->RelV x v->r x H Q->
  ⇑(f v) (EP X a σ Q) X.xe s
def fX(X:Cx)(f:af)(r:List V->Hp->VK->Prop):Prop:=
 ∀a s (σ:St) H xs us Q,Inv X a σ H s->Vals xs us->r xs H Q->
  ⇑(call f us) (EP X a σ Q) X.xe s
def Co(r:R2)(b a:TE):TE:=λσ H Q=>b σ H λx H1=>a σ H1 λy c=>r x y c Q
def tUn(r:V->Hp->VK->Prop)(a:TE):TE:=λσ H Q=>a σ H λx H1=>r x H1 Q
def rI(C:Int->Int->Prop)(g:Int->Int->V):R2:=λx y H Q=>∃i j,x=.int i/\y=.int j/\C i j/\Q (g i j) H
def mW(g:Int->Int->V):R2:=λx y H Q=>∃i j,x=.int i/\y=.int j/\Q (g i j) H
def rU(g:Int->V):V->Hp->VK->Prop:=λx H Q=>∃i,x=.int i/\Q (g i) H
section
variable{a b c:az}
def Ka(t:PE X a ta)(r:PE X b tb){d:St}{R:V->V->Hp->Prop}(I:Inv X g d H s)
  (h:ta d H λx H1=>tb d H1 λy e=>R x y e)  {f:af->af->Sem af}
  (q:∀v u s2 x y e,Inv X g d e s2->RelV x v->RelV y u->R x y e->⇑(f v u) Q X.xe s2) :
  ⇑(eval a X.env) (λv z=>⇑(eval b X.env) (λu p=>⇑(f v u) Q X.xe p) X.xe z) X.xe s:=by
 show aX (t g s d H _ I h) λv s1 i=>?_
 symm;let⟨x,H1,C,m,o⟩:=i;show aX (r g s1 d H1 _ C o) λu s2 i=>?_
 symm;let⟨y,e,B,j,n⟩:=i;show q v u s2 x y e B m j n
def zxU(e:eh X (binaryOp op) r)(g:PE X a ta)(f:PE X b tb):PE X (.BinOp a op b pos) (Co r ta tb):=by
 intro i s σ H Q I h;show wpAny_BinOp (Ka g f I h λv u s2 x y k j d c q=>e i s2 σ k x y v u Q j d c q)
def zxV(e:Pr X (unaryOp op) r)(f:PE X a ta):PE X (.UnaryOp op a pos) (tUn r ta):=by
 intro b s σ H Q I h;show UnaryOp_ (aX (f b s σ H _ I h) λv s1 g=>by let⟨x,H1,i,c,d⟩:=g;show e b s1 σ H1 x v Q i c d)
def GO{g:Int->Int->Int}
  (b:∀i j t u s Q E,C i j->Q (.int (g i j) s.toks) { s with toks:=s.toks+1 }->⇑(f (.int i t) (.int j u)) Q E s) :
  eh X f (rI C λi j=>.int (g i j)):=by
 intro n s σ H x y v u Q I e d h;symm;let⟨i,j,rfl,rfl,m,q⟩:=h;let⟨t,rfl⟩:=e;let⟨t',rfl⟩:=d;show b i j t t' s _ _ m ⟨.int (g i j),H,I.tok _,⟨_,rfl⟩,q⟩
def Tw{g:Int->Int->Int}
  (b:∀i j t u s Q E,Q (.int (g i j) s.toks) { s with toks:=s.toks+1 }->⇑(f (.int i t) (.int j u)) Q E s) :
  eh X f (mW λi j=>.int (g i j)):=by
 intro m s σ H x y v u Q I e d h;symm;let⟨i,j,rfl,rfl,q⟩:=h;let⟨t,rfl⟩:=e;let⟨t',rfl⟩:=d;show b i j t t' s _ _ ⟨.int (g i j),H,I.tok _,⟨_,rfl⟩,q⟩
def EO{g:Int->Int->Bool}
  (b:∀i j t u s Q E,Q (.bool (g i j)) s->⇑(f (.int i t) (.int j u)) Q E s) :
  eh X f (mW λi j=>.bl (g i j)):=by
 intro m s σ H x y v u Q I e d h;symm;let⟨i,j,rfl,rfl,q⟩:=h;let⟨t,rfl⟩:=e;let⟨t',rfl⟩:=d;show b i j t t' s _ _ ⟨.bl (g i j),H,I,rfl,q⟩
def A1(i j:Int):Prop:=0<j/\j<1073741824
def vJ(i j:Int):Prop:=0<=j/\j<=1000000/\i.natAbs<2 ^ 64
def xp(i j:Int):Prop:=(-(2 ^ 64)<i/\i<2 ^ 64)\/(-(2 ^ 64)<j/\j<2 ^ 64)
def xp.ok(h:xp i j):IntMulOk i j:=by
 rcases h with⟨b,a⟩ | ⟨b,a⟩
 .exact .of_left (Rj b a)
 show .of_right (Rj b a)
theorem abf:eh X (binaryOp .Add) (mW λi j=>.int (i+j)):=Tw λ_ _ _ _ _ _ _ q=>add_int q
theorem zvS:eh X (binaryOp .Sub) (mW λi j=>.int (i-j)):=Tw λ_ _ _ _ _ _ _ q=>sub_int q
theorem zvT:eh X (binaryOp .Mult) (rI xp λi j=>.int (i*j)):=GO λ_ _ _ _ _ _ _ a q=>mul_int q a.ok
theorem ztH:eh X (binaryOp .FloorDiv) (rI A1 λi j=>.int (i/j)):=GO λi j _ _ _ _ _ b q=>by
 have e:(0:Int)<j:=b.1;have d:j<1073741824:=b.2;show floordiv_int 'a' (by rw[Int.fdiv_eq_ediv_of_nonneg i (by room)];show q) (.inl (PyProof.noPylong_small (by grind)))
theorem zvU:eh X (binaryOp .Mod) (rI (λ_ j=>0<j) λi j=>.int (i%j)):=GO λi j _ _ _ _ _ b q=>by
 have d:(0:Int)<j:=b;show mod_int' 'a' (by rw[Int.fmod_eq_emod_of_nonneg i (by room)];show q)
theorem zvV:eh X (binaryOp .Pow) (rI vJ λi j=>.int (i ^ j.toNat)):=GO λ_ _ _ _ _ _ _ a q=>pow_int_small a.1 a.2.1 a.2.2 q
def unI{g:Int->Int}
  (a:∀i t s Q E,Q (.int (g i) s.toks) { s with toks:=s.toks+1 }->⇑(f (.int i t)) Q E s) :
  Pr X f (rU λi=>.int (g i)):=by
 intro c s σ H x v Q I b h;let⟨i,rfl,q⟩:=h;let⟨t,rfl⟩:=b;show a i t s _ _ ⟨.int (g i),H,I.tok _,⟨_,rfl⟩,q⟩
theorem zvW:Pr X (unaryOp .USub) (rU λi=>.int (-i)):=unI λ_ _ _ _ _ q=>neg_int q
end
section
variable{a b c:az}{ta tb tc:TE}
def Lc{c:List (ag×aV)}{a:St}{k b:Bool}(I:Inv X c a H s)(q:Q (.bl k) H)(e:k=b):EP X c a Q (.bool b) s:=by
 subst e;show⟨.bl k,H,I,rfl,q⟩
theorem zxW:eh X (compareOp .Lt) (mW λi j=>.bl (decide (i<j))):=EO λ_ _ _ _ _ _ _ q=>lt_int q
theorem KA:eh X (compareOp .LtE) (mW λi j=>.bl (decide (i<=j))):=EO λ_ _ _ _ _ _ _ q=>le_int q
theorem zxX:eh X (compareOp .Gt) (mW λi j=>.bl (decide (j<i))):=EO λ_ _ _ _ _ _ _ q=>gt_int q
theorem zxY:eh X (compareOp .GtE) (mW λi j=>.bl (decide (j<=i))):=EO λ_ _ _ _ _ _ _ q=>ge_int q
def zn9:eh X (compareOp .In) (λx y H Q=>∃i j,x=.str i/\y=.str j/\Q (.bl (!(xS j i 0 j.length 1).isEmpty)) H):=by
 intro e s σ H x y v u Q I d b h;symm;let⟨i,j,rfl,rfl,q⟩:=h;let⟨t,rfl⟩:=d;let⟨t',rfl⟩:=b;show in_str (Lc I q rfl)
def zvX:eh X (compareOp .Is) (λx y H Q=>y=.non/\Q (.bl (decide (x=.non))) H):=by
 intro c s σ H x y v u Q I a b h;let⟨rfl,q⟩:=h;cases b;show is_none_gen (Lc I q ?_);cases x<;>first
  | (cases a;rfl)
  | (let⟨t,rfl⟩:=a;rfl)
def ztJ:eh X (compareOp .IsNot) (λx y H Q=>y=.non/\Q (.bl (!decide (x=.non))) H):=by
 intro c s σ H x y v u Q I a b h;let⟨rfl,q⟩:=h;cases b;show isnot_none_gen (Lc I q ?_);cases x<;>first
  | (cases a;rfl)
  | (let⟨t,rfl⟩:=a;rfl)
def eh.or{r c:R2}(h:eh X f r)(h':eh X f c):eh X f (λx y H Q=>r x y H Q\/c x y H Q):=by
 intro d s σ H x y v u Q I b a q;rcases q with q | q
 .exact h d s σ H x y v u Q I b a q
 show h' d s σ H x y v u Q I b a q
def Vb(b)(h:op≠.In:=by decide)(a:op≠.NotIn:=by decide):behindInMarks op b=false:=by
 have d:(op==CmpOp.In)=false:=by cases op<;>first | rfl | show absurd rfl h
 have c:(op==CmpOp.NotIn)=false:=by cases op<;>first | rfl | show absurd rfl a
 cases b<;>simp[behindInMarks,d,c]
def ztK(e:eh X (compareOp op) r)(i:PE X a ta)(g:PE X b tb)(f:behindInMarks op b=false):PE X (.Compare a [op] [b] pos) (Co r ta tb):=by
 intro j s σ H Q I h;show wpAny_Compare1 (Ka i g I h λv u s2 x y l k d c q=>e j s2 σ l x y v u Q k d c q) f
def Kz(t:TE):TT:=λσ H Q=>t σ H λx H'=>∃k,x=.bl k/\Q k H'
def ztM(p:eh X (compareOp op) r)(w:PE X a ta)(t:PE X b tb)(q:behindInMarks op b=false):PT X (.Compare a [op] [b] pos) (Kz (Co r ta tb)):=by
 intro f s σ H Q I h;show wpAny_isTrue_Compare1 (aX (w f s σ H _ I h) λv s1 d=>?_) q;symm;let⟨x,H1,C,j,o⟩:=d;show aX (t f s1 σ H1 _ C o) λu s2 d=>?_
 symm;let⟨y,E,B,i,n⟩:=d;show aX (p f s2 σ E x y v u _ B j i n) λc s3 d=>?_
 symm;let⟨z,D,A,g,k,e,m⟩:=d;subst e;cases g;show lA ⟨D,A,m⟩
def Va(r c:R2)(ta tb tc:TE):TE:=λσ H Q=>ta σ H λx H1=>tb σ H1 λy e=>r x y e λz a=>∃k,z=.bl k/\
 (if k=true then tc σ a λb d=>c y b d Q else Q (.bl false) a)
def zqV(M:eh X (compareOp op) r)(L:eh X (compareOp i) m)(R:PE X a ta)(P:PE X b tb)(O:PE X c tc)
  (N:lastMarks [op,i] [b,c]=false:=by with_unfolding_all rfl):PT X (.Compare a [op,i] [b,c] pos) (Kz (Va r m ta tb tc)):=by
 intro g s σ H Q I h;show isTrue_chain (aX (R g s σ H _ I h) λv s1 f=>?_) N;symm;let⟨x,H1,Y,C,J⟩:=f;show test_link (aX (P g s1 σ H1 _ Y J) λu s2 f=>?_);symm;let⟨y,H2,W,j,F⟩:=f;show aX (M g s2 σ H2 x y v u _ W C j F) λd s3 f=>?_
 symm;let⟨z,p,o,B,k,e,n⟩:=f;subst e;cases B;show lA ?_;cases k with
 | false=>
  symm;let⟨k',T,K⟩:=n;cases T;show ite_ff ⟨p,o,K⟩
 | true=>
  show ite_tt (test_last (aX (O g s3 σ p _ o n) λt s4 f=>?_));symm;let⟨q,H4,V,A,E⟩:=f;show aX (L g s4 σ H4 y q u t _ V j A E) λd' s5 f=>?_
  symm;let⟨z2,Z,U,w,k2,S,D⟩:=f;subst S;cases w;show lA ⟨Z,U,D⟩
def yz:(sizeLine:Nat)<2 ^ 63:=by rw[sizeLine_eq];cbv
def abe:eh X (binaryOp .Add) (λx y H Q=>∃i j,x=.str i/\y=.str j/\i.length+j.length<=sizeLine/\Q (.str (i++j)) H):=by
 intro e s σ H x y v u Q I d b h;symm;let⟨i,j,rfl,rfl,hz,q⟩:=h;let⟨t,rfl⟩:=d;let⟨t',rfl⟩:=b;show add_str (λt' tk=>⟨.str (i++j),H,I.tok _,⟨_,rfl⟩,q⟩) hz
def gI{a:List af}(r:Vals [x] a):∃u,a=[u]/\RelV x u:=by
 cases r with
 | cons c b=>cases b;show⟨_,rfl,c⟩
def A7{b:List af}(r:Vals [x,y] b):∃u a,b=[u,a]/\RelV x u/\RelV y a:=by
 cases r with
 | cons f e=>
  cases e with
  | cons d c=>cases c;show⟨_,_,rfl,f,d⟩
def zob(d:X.calm=true):fX X (.builtin "max") (λxs H Q=>∃i j,xs=[.int i,.int j]/\Q (.int (if j>i then j else i)) H):=by
 intro f s σ H xs us Q I r h;symm;let⟨i,j,rfl,q⟩:=h;obtain⟨u,e,rfl,⟨t,rfl⟩,⟨t',rfl⟩⟩:=A7 r;show max_two_ints (I.ok.hd d) λh' tk k=>⟨_,H,I.kept k,?_,q⟩
 by_cases b:j>i
 .rw[if_pos b,if_pos b];show⟨_,rfl⟩
 rw[if_neg b,if_neg b];show⟨_,rfl⟩
def zoc(d:X.calm=true):fX X (.builtin "min") (λxs H Q=>∃i j,xs=[.int i,.int j]/\Q (.int (if j<i then j else i)) H):=by
 intro f s σ H xs us Q I r h;symm;let⟨i,j,rfl,q⟩:=h;obtain⟨u,e,rfl,⟨t,rfl⟩,⟨t',rfl⟩⟩:=A7 r;show min_two_ints (I.ok.hd d) λh' tk k=>⟨_,H,I.kept k,?_,q⟩
 by_cases b:j<i
 .rw[if_pos b,if_pos b];show⟨_,rfl⟩
 rw[if_neg b,if_neg b];show⟨_,rfl⟩
def zod:fX X (.type "int") (λxs H Q=>(∃i,xs=[.int i]/\Q (.int i) H)\/∃k,xs=[.bl k]/\Q (.int (if k then 1 else 0)) H):=by
 intro b s σ H xs us Q I r h;rcases h with⟨i,rfl,q⟩ | ⟨k,rfl,q⟩
 .let⟨u,rfl,t,rfl⟩:=gI r;show call_int_int ⟨.int i,H,I,⟨_,rfl⟩,q⟩
 let⟨u,rfl,a⟩:=gI r;cases a;show call_int_bool ⟨.int (if k then 1 else 0),H,I.tok _,⟨_,rfl⟩,q⟩
end
structure zG(h:aD)(x dx C:ag)(mA:aa->Option af):Prop where
 obj:h.get? x\tU C dx
 ns:h.Ns1 dx mA
 ne:dx≠x
def zoe{h:aD}(n:h.Ns1 f d):∃b,h.get? f\b/\∀name,Jb name b\d name:=by
 symm;obtain⟨o,p,r,j,hd,m,_,hm⟩:=n;show⟨o,j,λname=>?_⟩;have e:=hm name;unfold nsFind findBy at e;rw[<-Array.find?_toList] at e;unfold Jb;rw[hd];dsimp only;split
 .rename_i y q;rw[q] at e;show gy some e
 rename_i q;rw[q] at e;have a:p.toList.any (·.refKey)=false:=by
  rw[List.any_eq_false];intro y i;let⟨z,t,g⟩:=m y (ql.mp i);simp[aav,g]
 grind
theorem zG.look(I:zG h x c C b):∃a,PySem.W.InstAt h x (tU C c) C (some a)/\∀name,Jb name a\b name:=
 let⟨a,d,e⟩:=zoe I.ns
 ⟨a,⟨I.obj,rfl,rfl,d⟩,e⟩
section
variable{s:ai}{K:ao}
def ztN(X:K.In s.heap)(I:zG s.heap x dx C mA)(e:D0 K C name=true)(d:D9 K C=true)
  (f:rh K (.ref C) name\none) (hv:mA name\v) (b:RP v=true) (h:Q v { s with toks:=s.toks+1 }) :
  ↥(getAttr (.ref x) name a) Q E s:=by
 let⟨g,J,c⟩:=I.look;show PySem.W.get_value X J (PySem.W.plainGet_of e).1 (PySem.W.findObj_own d f rfl (by rw[c,hv])) b h
def ztO(X:K.In s.heap)(I:zG s.heap x dx C mA)
  (m:rh K (.ref C) "__setattr__"=some (some (.builtin "object.__setattr__"))) (n:Jo K C=true) (j:Je K C name=some none) (o:D9 K C=true)
  (hw:IJ mA ns) (hsz:ns.length<=sizeLine)
  (h:∀h',zG h' x dx C (λy=>if y=name then some v else mA y)->j9 dx s.heap h'->Q () { s with heap:=h',toks:=s.toks+2 }) :
  ↥(setAttr (.ref x) name v) Q E s:=by
 symm;let⟨z,J,hl⟩:=I.look;show PySem.W.set_plain X J m (PySem.W.osa_open (s:={ s with toks:=s.toks+1 }) (r:=none) X J n j λb=>?_);symm;let⟨cd,p,u⟩:=PySem.W.any_some o;have hx:'f' x=some ⟨.ref C,some dx,.plain,#[]⟩:=I.obj;show aj (ay (aj (aj (wpAny_loadPart hx (aj (aaB (s:={ s with toks:=s.toks+1 }) (PySem.W.looks_clsIn X p) ?_))))));rw[u];show ay (a:=some dx) (aj (ay (aj ?_)));show wpAny_nsSet1 (s:={ s with toks:=s.toks+1 }) I.ns λh' i g=>?_
 symm;let⟨oD,q,t,d,e,f⟩:=i.count (aaz name v hw);show aj (wpAny_lookBehind d (by rw[e];show pastItsLine_dict (bK f (by rw[cZ];room))) ?_);show ay (h _ ⟨(g.2 _ (Ne.symm I.ne)).trans I.obj,i,I.ne⟩ g)
def zqW{R:Result->ai->Prop}(X:K.In s.heap)(c:Jd K C=true)
  (e:rh K (.ref C) "__init__"=some (some (.ref f))) (i:PySem.W.typeIn K (.ref f)=some (.type "function"))
  (h:codeAny (model prog w) (A.under (.builtin "type.__call__" ⟨.ref C::a,b⟩)) (.call (.ref f) ⟨.ref (*...*+1)::a,b⟩) (PySem.W.InitBack (*...*+1) R)
   { s with heap:=(s.heap.push rA).push (tU C *...*) }) :
  codeAny (model prog w) A (.call (.ref C) ⟨a,b⟩) R s:=by
 let⟨j,g,d,t,os⟩:=s;show PySem.W.make_core (PySem.W.makes_of X c) (PySem.W.looks_findIn X e) (λself=>PySem.W.bind_fn X self i) (.inl rfl) h
end
def jr(f:aa)(v:V):List (aa×V)->List (aa×V)
 | []=>[(f,v)]
 | (g,x)::r=>if g=f then(g,v)::r else(g,x)::jr f v r
theorem YA(f g v):∀fs:List (aa×V),(jr f v fs).lookup g=if g=f then some v else fs.lookup g
 | []=>by
  show DI g [(f,v)]=_;grind
 | (k,x)::r=>by
  have a:=YA f g v r;rw[show jr f v ((k,x)::r)=(if k=f then(k,v)::r else(k,x)::jr f v r) from rfl];grind
theorem Mc(f v):∀fs:List (aa×V),f∈(jr f v fs).map (·.1)/\∀g,g∈fs.map (·.1)->g∈(jr f v fs).map (·.1)
 | []=>⟨by room,λg h=>by room⟩
 | (k,x)::r=>by
  let⟨i1,b⟩:=Mc f v r;rw[show jr f v ((k,x)::r)=(if k=f then(k,v)::r else(k,x)::jr f v r) from rfl];grind
theorem Yz(f v):∀fs:List (aa×V),(jr f v fs).length<=fs.length+1
 | []=>by show gh _
 | (k,x)::r=>by
  have a:=Yz f v r;rw[show jr f v ((k,x)::r)=(if k=f then(k,v)::r else(k,x)::jr f v r) from rfl];grind
def nj.some_of(r:nj (some v) o):∃u,o\u/\RelV v u:=by
 cases o with
 | none=>show(show False from r).elim
 | some u=>show⟨u,rfl,r⟩
def zof(r:RelV v u):RP u=true:=by
 cases v with
 | non=>cases (show u=jF from r);rfl
 | bl b=>cases (show u=Am b from r);rfl
 | int i=>let⟨t,e⟩:=(show ∃t,u=vi i t from r);cases e;rfl
 | str x=>let⟨t,e⟩:=(show ∃t,u=vh x t from r);cases e;rfl
 | Dj b=>let⟨t,e⟩:=(show ∃t,u=QU b t from r);cases e;rfl
 | C5 b=>let⟨t,e⟩:=(show ∃t,u=QT b t from r);cases e;rfl
 | ref a=>cases (show u=fw a from r);rfl
 | ty n=>cases (show u=oV n from r);rfl
def We(aU:fR P w H h)(e:H a\.ins C dx fs):∃b,zG h a dx C b/\(∀f,nj (fs.lookup f) (b f))/\IJ b (fs.map (·.1))/\fs.length<=1000/\H dx\.own a:=by
 symm;let⟨d,z,ne,ob,b,n,r,q⟩:=(show gc P w H h a (.ins C dx fs) from aU a _ e)
 show⟨b,⟨ob,n,ne⟩,r,q,z,d⟩
structure vf(K:ao)(C:ag):Prop where
 pg:D0 K C QF=true
 hd:D9 K C=true
 po:Jo K C=true
 sa:rh K (.ref C) "__setattr__"=some (some (.builtin "object.__setattr__"))
theorem vf.get{K:ao}(c:vf K C)(f):D0 K C f=true:=c.pg
def gf(K:ao)(C:ag)(f:aa):Prop:=rh K (.ref C) f=some none
def gf.aa3{K:ao}(n:gf K C f):Je K C f\none:=by
 unfold Je;rw[show rh K (.ref C) f\none from n];rfl
section
variable{σ:St}
def zmQ(I:Inv X J' σ H s)(e:H a\.ins C dx fs)(c:vf X.K C)(n:gf X.K C f)(l:fs.lookup f\v)
  (h:∀u d,Inv X J' σ H d->RelV v u->Q u d):wpAny (model X.prog X.w) A (getAttr (.ref a) f b) Q E s:=by
 symm;let⟨i,O,r,z,z,z⟩:=We I.aU e;let⟨u,j,g⟩:=nj.some_of (v:=v) (o:=i f) (by rw[<-l];show r f);show ztN I.jw O (c.get f) c.hd n j (zof g) (h u _ (I.tok _) g)
def zmR(I:Inv X J' σ H s)(e:H a\.ins C dx fs)(c:vf X.K C)(n:gf X.K C f)(hl:fs.length<1000)(v:RelV y u)
  (h:∀j,Inv X J' σ (upd H a (.ins C dx (jr f y fs))) j->Q () j):wpAny (model X.prog X.w) A (setAttr (.ref a) f u) Q E s:=by
 symm;let⟨m,O,r,i,l,p⟩:=We I.aU e;have hz:(fs.map (·.1)).length<=sizeLine:=by rw[aE,sizeLine_eq];lia
 show ztO I.jw O c.sa c.po n.aa3 c.hd i hz λh' d t=>h _ ?_
 have hd:∃o,h'.get? dx\o:=let⟨o,_,_,F,_⟩:=d.ns;⟨o,F⟩
 show I.write (x:=a) (e:=dx) (by rw[e];show qY) (.inr p) (λb q D z=>(t.2 b D).trans z) hd ?_;show⟨by rw[bQ O.ne];show p,?_,O.ne,d.obj,_,d.ns,λg=>?_,λg B=>?_⟩
 .have:=Yz f y fs;room
 .show nj ((jr f y fs).lookup g) (if g=f then some u else m g);rw[YA];by_cases q:g=f
  .rw[if_pos q,if_pos q];show v
  rw[if_neg q,if_neg q];show r g
 by_cases q:g=f
 .rw[q];show(Mc f y fs).1
 show(Mc f y fs).2 g (i g λz=>B ?_);show(if g=f then some u else m g)=none;rw[if_neg q];show z
def Inv.made(I:Inv X J' σ H s):Inv X J' σ (upd (upd H *...* (.own (*...*+1))) (*...*+1) (.ins C *...* []))
  { s with heap:=(s.heap.push rA).push (tU C *...*) }:=by
 have c:(s.heap.push rA).get? *...*\rA:=cT s.heap rfl;have f:((s.heap.push rA).push (tU C *...*)).get? (*...*+1)\tU C *...*:=by
  have:=cT (s.heap.push rA) (o:=tU C *...*) rfl;rwa [oX] at this
 have e3:(s.heap.push rA).Ns *...* (λ_=>none):=⟨rA,#[],_,c,rfl,(λe he=>absurd he 'g'),λ_=>rfl⟩
 have g:=I.laid (a:=*...*) (o:=.own (*...*+1)) (h':=s.heap.push rA) (t':=s.toks) (λb u q=>cy _ q) (bB _) ⟨_,c⟩;show g.laid (a:=*...*+1) (o:=.ins C *...* []) (t':=s.toks) (λb u q=>cy _ q) (II (oX _ _)) ?_;have ne:*...*≠*...*+1:=cC (tW _);show⟨by rw[bQ ne,eV],b9 _,ne,f,λ_=>none,(Heap.Ns1.of_empty e3).at λo q=>cy _ q,λ_=>qY,λy d=>absurd rfl d⟩
theorem ztP(a:attributeBase e f env (eval e env)=eval e env)
  (h:↥(eval e env) (λo b=>↥(getAttr o f true) Q E b) E s):↥(eval (.Attribute e f pos) env) Q E s:=
 Attribute_any_ h (by rw[arm_eval_Attribute,a])
end
def zzm(K:ao)(b:TE)(f:aa):TE:=λσ H Q=>b σ H λx H1=>∃a C c fs v,x=.ref a/\H1 a\.ins C c fs/\vf K C/\gf K C f/\fs.lookup f\v/\Q v H1
def zzn(K:ao)(e d:TE)(f:aa):TS:=λD σ H=>d σ H λy H1=>e σ H1 λx c=>∃a C b fs,x=.ref a/\c a\.ins C b fs/\vf K C/\gf K C f/\fs.length<1000/\
 D.nx σ (upd c a (.ins C b (jr f y fs)))
def zvY(he:PE X e ta)(g:attributeBase e f X.env (eval e X.env)=eval e X.env):PE X (.Attribute e f pos) (zzm X.K ta f):=by
 intro m s σ H Q I h;show ztP g (aX (he m s σ H _ I h) λu s1 j=>?_);symm;let⟨x,H1,p,b,a,C,t,fs,v,ex,i,c,n,l,q⟩:=j;subst ex;obtain rfl:u=fw a:=b;show zmQ p i c n l λr s2 o d=>⟨v,H1,o,d,q⟩
def zvZ(m:PE X o ta)(hv:PE X value tv)(j:swapsWith value (some (.Attribute o f pos')) pos.line X.env=pure false):PS X (.Assign [.Attribute o f pos'] value pos) (zzn X.K ta tv f):=by
 intro d s σ H D I h;show plainObj_wpAny_Assign_Attribute (aX (hv d s σ H _ I h) λu s1 b=>?_) j;symm;let⟨y,H1,v,e,q⟩:=b;show aX (m d s1 σ H1 _ v q) λov s2 b=>?_
 symm;let⟨x,z,t,g,a,C,w,fs,ex,p,c,n,l,i⟩:=b;subst ex;obtain rfl:ov=fw a:=g;show zmR t p c n l e λs3 r=>⟨σ,_,r,i⟩
structure eX(k:Nat)(A:bh):Prop where
 hd:A.handled=none
 dp:A.depth+3*k+5<recursionLimit
 un:A.units+16*k+200<cLine
theorem eX.mono(r:eX k A)(h:j<=k):eX j A:=⟨r.hd,by have:=r.dp;lia,by have:=r.un;lia⟩
theorem eX.deeper(r:eX (k+1) A)(env):eX k (A.deeper env):=
 ⟨r.hd,by have:=r.dp;show A.depth+1+3*k+5<_;lia,by have:=r.un;show A.units+3+16*k+200<_;lia⟩
def zmS{A:bh}:(A.under (.builtin "type.__call__" ⟨.ref C::a,b⟩)).depth=A.depth+1:=by
 first | rfl | simp[IH,Code.weight,Code.isCreation,Code.isGuard,Code.isCaller,QS,IG,guardIds]
def zmT{A:bh}:(A.under (.builtin "type.__call__" ⟨.ref C::a,b⟩)).units=A.units+1:=by
 first | rfl | simp[IH,Code.cUnits,QS,IG]
theorem eX.make(r:eX (k+1) A)(C a b):eX k (A.under (.builtin "type.__call__" ⟨.ref C::a,b⟩)):=
 ⟨r.hd,by have:=r.dp;rw[zmS];lia,by have:=r.un;rw[zmT];lia⟩
def eX.depth(r:eX k A):A.depth<recursionLimit:=by have:=r.dp;lia
def eX.units(r:eX k A):A.units+64<cLine:=by have:=r.un;lia
def Tv:TA:=λ_ H Q=>Q [] H
def Ut(a:TE)(tr:TA):TA:=λσ H Q=>a σ H λx H1=>tr σ H1 λxs b=>Q (x::xs) b
section
variable{e:az}{t:TA}
theorem lQ:PA X [] Tv:=λ_ _ _ _ H Q I h=>D8 ⟨[],H,I,.nil,h⟩
def lU(o:PE X e te)(n:PA X es t)(m:starEach (e::es) X.env=(false,eval e X.env)::starEach es X.env:=by rfl):PA X (e::es) (Ut te t):=by
 intro pos d s σ H Q I h;rw[m];show wpAny _ _ (spliced ((false,eval e X.env)::backTo pos (starEach es X.env))) _ _ s;show xQ (aX (o d s σ H _ I h) λu s1 b=>?_);symm;let⟨x,H1,q,g,j⟩:=b;show aX (n pos d s1 σ H1 _ q j) λus s2 b=>by let⟨xs,r,p,f,i⟩:=b;show⟨x::xs,r,p,.cons g f,i⟩
def zzo(t:TA):TE:=λσ H Q=>t σ H λxs H1=>xs.length<=sizeLine/\∀p,H1 p=none->Q (.ref p) (upd H1 p (.tup xs))
def zzp(t:TA):TE:=λσ H Q=>t σ H λxs H1=>xs.length<=sizeLine/\∀p,H1 p=none->Q (.ref p) (upd H1 p (.lst xs))
def zv1(h:PA X es t):PE X (.Tuple es c pos) (zzo t):=by
 intro f s σ H Q I d;show wpAny_Tuple_spliced (aX (h pos f s σ H _ I d) λus s1 ⟨xs,H1,a,r,z,q⟩=>⟨by rw[<-r.length];show z,?_⟩);have hf:H1 'k'=none:=a.aU.fresh (bB _);show⟨.ref 'k',upd H1 'k' (.tup xs),a.laid (t':=s1.toks) (λb u e=>cy _ e) (bB _) ?_,rfl,q _ hf⟩;show⟨z,us,r,⟨_,cT _ rfl,rfl,_,rfl⟩⟩
def U9(h:PA X es t):PE X (.List es pos) (zzp t):=by
 intro d s σ H Q I c;show wpAny_List_spliced (aX (h pos d s σ H _ I c) λus s1 ⟨xs,H1,a,r,z,q⟩=>⟨by rw[<-r.length];show z,?_⟩);have hf:H1 'k'=none:=a.aU.fresh (bB _);show⟨.ref 'k',upd H1 'k' (.lst xs),a.laid (t':=s1.toks) (λb u e=>cy _ e) (bB _) ?_,rfl,q _ hf⟩;show⟨z,us,0,r,cT _ rfl⟩
end
abbrev Sp:=List V->Hp->VK->XK->Prop
abbrev qW:=List eO->Hp->ai->XK->af->ai->Prop
structure xn(P:aI)(w:aH)(K:ao)(mg:aa->Option af)(base:aD)(A:bh)(outer:List eO)(s:ai)(H:Hp):Prop where
 frames:A.frames\outer
 mod:Mod K mg base
 bs:∀b o,base.get? b\o->'f' b\o/\H b=none
 u6:base.objs.size<=*...*
 oE:s.heap.FunFrames base outer
 xb:∀b∈pS outer,H b=none
 aU:fR P w H s.heap
 bare:AllBare s.gens
def CE(outer:List eO)(P:aI)(w:aH)(H:Hp)(s:ai)(Q:VK)(u:af)(a:ai):Prop:=
 ∃v H',a.os=s.os/\AllBare a.gens/\Un (pS outer) [] H H' s.heap a.heap/\fR P w H' a.heap/\RelV v u/\Q v H'
def CR(b:qW)(outer:List eO)(P:aI)(w:aH)(H:Hp)(s:ai)(Q:VK)(E:XK)(r:Result)(a:ai):Prop:=
 match r with
 | .ok (.ret u)=>CE outer P w H s Q u a
 | .ok _=>False
 | .error e=>b outer H s E e a
structure kH(P:aI)(w:aH)(K:ao)(mg:aa->Option af)(base:aD)(CX:qW)(k:Nat)(f:ag)(fd:gR)(ps:List aa)(sp:Sp):Prop where
 len:∀vs H Q E,sp vs H Q E->vs.length=ps.length
 run:∀(A:bh)(outer:List eO)(s:ai)(H:Hp)(args:Args)(us:List af)(vs:List V)(Q:VK)(E:XK),eX k A->xn P w K mg base A outer s H->BindsTo s fd args (ps.zip us)->Vals vs us->sp vs H Q E->
  codeAny (model P w) A (.call (.ref f) args) (CR CX outer P w H s Q E) s
theorem xn.make{K:ao}(e:xn P w K mg base A outer s H)(C a b) :
  xn P w K mg base (A.under (.builtin "type.__call__" ⟨.ref C::a,b⟩)) outer s H:=⟨by first | show e.frames | (simpa[IH,Code.envs,IG,pushEnvs] using e.frames),e.mod,e.bs,e.u6,e.oE,e.xb,e.aU,e.bare⟩
section
variable{σ:St}
theorem Inv.aai(I:Inv X J' σ H s):xn X.prog X.w X.K X.mg X.base X.A X.stack s H:=
 ⟨I.ok.frames,I.ok.mod,I.bs,bK I.ok.u6 I.sz,I.stack,I.Y2,I.aU,I.bare⟩
def Inv.after(I:Inv X J' σ H s)(h:CE X.stack X.prog X.w H s Q u s'):EP X J' σ Q u s':=by
 let⟨v,H',os,bare,un,aU,r,q⟩:=h;let⟨a,g,d,t,c⟩:=s';obtain rfl:c=s.os:=os;show⟨v,H',I.call (h':=a) (g':=g) (d':=d) (t':=t) (ch:=[]) un aU bare (λb z=>absurd z (by nofun)),r,q⟩
end
def zxZ(b:Sp)(c:List V)(E:XK)(t:TA):TE:=λσ H Q=>t σ H λa H1=>b (a++c) H1 Q E
def zx0(C:ag)(c:Sp)(d:List V)(E:XK)(t:TA):TE:=λσ H Q=>t σ H λb H1=>∀x a,H1 x=none->H1 a=none->a≠x->
 c (.ref x::(b++d)) (upd (upd H1 a (.own x)) x (.ins C a [])) (λv e=>v=.non/\Q (.ref x) e) E
def Binds(K:ao)(a:gR)(ps:List aa)(ds:List af):Prop:=
 ∀s us,K.In s.heap->(us++ds).length=ps.length->BindsTo s a ⟨us,[]⟩ (ps.zip (us++ds))
theorem Binds.all{K:ao}(h:∀us:List af,us.length=ps.length->bindArgs b ⟨us,[]⟩=pure (ps.zip us)):Binds K b ps []:=λs us _ a=>by
 rw[eS] at a ⊢;show .of_eq (h us a)
def Bg(c:qW)(X:Cx)(E:XK):Prop:=∀b (σ:St) H s e a,Inv X b σ H s->c X.stack H s E e a->X.xe e a
section
variable{k:Nat}{f C:ag}{x m:aa}{p pos apos:aR}{e o:az}{es:List az}{t:TA}
def zv2{d:St}(F:kH X.prog X.w X.K X.mg X.base CX k f fd ps sp)(l:eX k X.A)(n:Binds X.K fd ps ds)(hd:Vals k7 ds)(hx:Bg CX X E)
  (I:Inv X g d H s) (r:Vals c a) (h:sp (c++k7) H Q E):⇑(call (.ref f) a) (EP X g d Q) X.xe s:=by
 have i:Vals (c++k7) (a++ds):=r.append hd;have m:(a++ds).length=ps.length:=by rw[<-i.length];show F.len _ _ _ _ h
 show DC (vn (F.run X.A X.stack s H ⟨a,[]⟩ (a++ds) (c++k7) Q E l I.aai (n s a I.jw m) i h) λr j b=>?_);cases r with
 | error e=>show hx g d H s e j I b
 | ok o=>
  cases o with
  | ret u=>show I.after b
  | next=>show False.elim b
  | brk=>show False.elim b
  | cont=>show False.elim b
def ztQ(F:kH X.prog X.w X.K X.mg X.base CX k f fd ps sp)(g:eX k X.A)(m:Gl X x)(i:X.mg x\.ref f)(j:oW X.K (.ref f)=true)(n:Binds X.K fd ps ds)(hd:Vals k7 ds)(hx:Bg CX X E)
  (o:PA X (e::es) t) (d:(x==("__debug__":aa))=false:=by decide) (he:starEach (e::es) X.env=(false,eval e X.env)::starEach es X.env:=by rfl) (u:(backTo pos (starEach es X.env)).any (·.1)=false:=by rfl) :
  PE X (.Call (.Name x p) (e::es) [] pos) (zxZ sp k7 E t):=by
 intro y s σ H Q I h;show vy (Wq I m i ?_ d);show R6 (h₀:=X.base) I.ok.mod.zg j (aX (o pos y s σ H _ I h) λus s1 v=>?_) he u;symm;let⟨z,H1,b,r,q⟩:=v;show⟨b.jw,?_⟩;show zv2 F g n hd hx b r q
structure Mk(K:ao)(C f:ag):Prop where
 makes:Jd K C=true
 init:rh K (.ref C) "__init__"=some (some (.ref f))
 fn:Q7 K (.ref f)=true
 kp:oW K (.ref C)=true
def zqX{m:List (ag×aV)}{i:St}(M:Mk X.K C f)(F:kH X.prog X.w X.K X.mg X.base CX k f fd ps sp)(y:eX (k+1) X.A)(z:Binds X.K fd ps ds)(hd:Vals k7 ds)
  (hx:Bg CX X E) (I:Inv X m i H s) (r:Vals j us)
  (h:∀x d,H x=none->H d=none->d≠x->sp (.ref x::(j++k7)) (upd (upd H d (.own x)) x (.ins C d [])) (λv J=>v=.non/\Q (.ref x) J) E) :
  ⇑(call (.ref C) us) (EP X m i Q) X.xe s:=by
 have o:=h (*...*+1) *...* (I.aU.fresh (iZ _)) (I.aU.fresh (bB _)) (cC (tW _));have g:=Inv.made (C:=C) I;have n:Vals (V.ref (*...*+1)::(j++k7)) (fw (*...*+1)::(us++ds)):=.cons rfl (r.append hd);have hl:(fw (*...*+1)::us++ds).length=ps.length:=by
  have e:=n.length;rw[F.len _ _ _ _ o] at e;show e.symm
 show DC (zqW (f:=f) I.jw M.makes M.init (beq_iff_eq.mp M.fn) (vn (F.run _ X.stack _ _ ⟨fw (*...*+1)::us,[]⟩ (fw (*...*+1)::(us++ds)) _ _ E (y.make C us [])
  (g.aai.make C us []) (z _ (fw (*...*+1)::us) g.jw hl) n o) λr p b=>?_))
 cases r with
 | error e=>show hx m i _ _ e p g b
 | ok B=>
  cases B with
  | ret u=>
   symm;let⟨v,H',D,q,ev,t⟩:=g.after b;subst ev;show⟨q,⟨V.ref (*...*+1),H',D,rfl,t⟩⟩
  | next=>show False.elim b
  | brk=>show False.elim b
  | cont=>show False.elim b
def ztR(M:Mk X.K C f)(F:kH X.prog X.w X.K X.mg X.base CX k f fd ps sp)(g:eX (k+1) X.A)(j:Gl X x)(i:X.mg x\.ref C)(m:Binds X.K fd ps ds)(hd:Vals k7 ds)(hx:Bg CX X E)
  (n:PA X (e::es) t) (d:(x==("__debug__":aa))=false:=by decide) (he:starEach (e::es) X.env=(false,eval e X.env)::starEach es X.env:=by rfl) (o:(backTo pos (starEach es X.env)).any (·.1)=false:=by rfl) :
  PE X (.Call (.Name x p) (e::es) [] pos) (zx0 C sp k7 E t):=by
 intro v s σ H Q I h;show vy (Wq I j i ?_ d);show R6 (h₀:=X.base) I.ok.mod.zg M.kp (aX (n pos v s σ H _ I h) λus s1 u=>?_) he o;symm;let⟨y,H1,b,r,q⟩:=u;show⟨b.jw,?_⟩;show zqX M F g m hd hx b r q
end
def PK(X:Cx)(b:List Keyword)(t:TA):Prop:=
 ∀pos a s (σ:St) H Q,Inv X a σ H s->t σ H Q->⇑(evalAll ((backToKw pos (keywordEach b X.env)).map (·.2))) (AP X a σ Q) X.xe s
theorem zv3:PK X [] Tv:=λ_ _ _ _ H Q I h=>wpAny_evalAll_nil ⟨[],H,I,.nil,h⟩
def ztS(n:PE X e te)(m:PK X mY t):PK X (⟨nm,e,abv⟩::mY) (Ut te t):=by
 intro pos d s σ H Q I h;show wpAny _ _ (evalAll ((do let v <-eval e X.env;standAt pos;pure v)::(backToKw pos (keywordEach mY X.env)).map (·.2))) _ _ s;show wpAny_evalAll_cons (aj (aX (n d s σ H _ I h) λu s1 b=>?_));symm;let⟨x,H1,p,g,j⟩:=b;show aj (xA (ay ?_));show aX (m pos d s1 σ H1 _ p j) λus s2 b=>by let⟨xs,q,o,f,i⟩:=b;show⟨x::xs,q,o,.cons g f,i⟩
structure oM(N P:List aa)(sc:iH):Prop where
 kind:sc.kind=.function
 co:sc.isCoroutine=false
 gen:sc.isGenerator=false
 nd:N.Nodup
 pre:N.take P.length=P
 par:∀x∈P,sc.names.lookup x\.local\/sc.names.lookup x\.cell
 abk:∀y∈sc.names,y.2≠.free
theorem XX:∀{binds m},(∀v,(x,v)∉binds)->bindL a binds m x=m x
 | [],_,_=>rfl
 | (n,v)::r,m,h=>by
  unfold bindL;rw[XX λw hw=>h w (cJ _ hw)];split
  all_goals grind
theorem XW:∀{binds m},(∀v,(x,v)∉binds)->bindC a binds m x=m x
 | [],_,_=>rfl
 | (n,v)::r,m,h=>by
  unfold bindC;rw[XW λw hw=>h w (cJ _ hw)];split
  all_goals grind
theorem XU:∀{P:List aa}{b}{i:Nat}{m},P.Nodup->P[i]?\x->b[i]?\v->a x\.local->
  bindL a (P.zip b) m x\v
 | [],_,_,_,_,h,_,_=>by trivial
 | _::_,[],_,_,_,_,h,_=>by trivial
 | p::P,w::b,0,m,nd,d,c,e=>by
  simp at d c;subst d;subst c;show bindL a ((p,w)::P.zip b) m p=_;unfold bindL;rw[XX λv hv=>(fY.mp nd).1 (jC hv).1,if_pos e];simp
 | p::P,w::b,i+1,m,nd,d,c,e=>by
  show bindL a ((p,w)::P.zip b) m x=_;unfold bindL;show XU (i:=i) (fY.mp nd).2 (by simpa using d) (by simpa using c) e
theorem XT:∀{P:List aa}{b}{i:Nat}{m},P.Nodup->P[i]?\x->b[i]?\v->a x≠some .local->
  bindC a (P.zip b) m x\v
 | [],_,_,_,_,h,_,_=>by trivial
 | _::_,[],_,_,_,_,h,_=>by trivial
 | p::P,w::b,0,m,nd,d,c,e=>by
  simp at d c;subst d;subst c;show bindC a ((p,w)::P.zip b) m p=_;unfold bindC;rw[XW λv hv=>(fY.mp nd).1 (jC hv).1,if_neg e];simp
 | p::P,w::b,i+1,m,nd,d,c,e=>by
  show bindC a ((p,w)::P.zip b) m x=_;unfold bindC;show XT (i:=i) (fY.mp nd).2 (by simpa using d) (by simpa using c) e
def start(N:List aa)(a:List V):St:=a.map some++xF (N.length-a.length) none
def lN(d:qW)(P:aI)(w:aH)(K:ao)(mg:aa->Option af)(base:aD)(N:List aa)(a:aa)(scope:iH)(f:ag)(b:af)(A:bh)(outer:List eO)(s:ai)(H:Hp)(E:XK):Cx where
 prog:=P
 w:=w
 K:=K
 mg:=mg
 base:=base
 A:=A.deeper (envOfC a scope *...* f b)
 N:=N
 gC:=s
 Dv:=H
 env:=envOfC a scope *...* f b
 outer:=outer
 stack:=envOfC a scope *...* f b::outer
 ex:=[]
 calm:=true
 fn:=λ_=>true
 pn:=[]
 xe:=λe g=>wpAny (model P w) (A.deeper (envOfC a scope *...* f b)) (leaving (envOfC a scope *...* f b) e) (λ_ c=>d outer H s E e c) (λh c=>d outer H s E h c) g
def W7{sc:iH}(h:sc.names.lookup x\.cell):∃c,(cellsFrom n sc.names []).lookup x\c:=by
 have q:=SG sc.names n [] (.inl h);show S0.mp q
def zoh{K:ao}{s D:ai}
  (S:oM N ps scope) (hd:A.handled=none) (d:xn P w K mg base A outer s H) (O:j.length=ps.length) (r:Vals j B)
  (x:InCallC s *...* (bindL (envOfC a scope *...* f t).kindOf (ps.zip B) λ_=>none) (cellsFrom (*...*+1) scope.names []) (bindC (envOfC a scope *...* f t).kindOf (ps.zip B) λ_=>none) D) :
  Inv (lN J P w K mg base N a scope f t A outer s H E) [] (start N j) H D:=by
 have T:ps.length<=N.length:=by have:=gy Ao S.pre;rw[cN] at this;lia
 let⟨o,tk,rfl,G⟩:=x.done;have C:∀b:ag,b∉(lN J P w K mg base N a scope f t A outer s H E).ex:=λb z=>absurd (show b∈([]:List ag) from z) (by nofun)
 show⟨⟨d.mod,S.kind,rfl,rfl,bB _,λy z c o m=>?_,λy g=>?_,λy c _ h=>?_,λ_=>hd,Around.frames_deeper d.frames,.inr ⟨rfl,rfl⟩,λb z=>absurd z (C b),d.bs,d.u6,λb _ _=>C b,λb z=>absurd z (C b),d.oE,d.xb⟩,
  rfl,d.bare,Un.kept G,⟨_,x.toInCall.ns,λi y v o m R=>?_⟩,λy c h=>⟨_,x.cell y c h⟩,d.aU.fresh (bB _),λy c h=>?_,λp l=>absurd (show p∈([]:List (ag×aV)) from l) ∅,d.aU.kept G,?_⟩
 .exact name_of_addr x.apart (t9 o) (t9 m)
 .have g:scope.names.lookup y\.cell\/scope.names.lookup y\.free:=g;rcases g with g | g
  .exact W7 g
  show absurd rfl (S.abk _ (t9 g))
 .exact fc (x.above y c (t9 h))
 .have Q:i<j.length:=by
   unfold start at m;grind
  have M:j[i]?\v:=by
   unfold start at m;grind
  let⟨u,F,L⟩:=r.get M;have l:ps[i]?\y:=by
   rw[<-S.pre,List.getElem?_take_of_lt 'g'];show o
  have I:ps.Nodup:=by rw[<-S.pre];show S.nd.sublist (AK _ _)
  show⟨u,L,?_⟩;rcases S.par y (dZ l) with k | k
  .exact .inl ⟨k,XU I l F k⟩
  let⟨c,e⟩:=W7 (n:=*...*+1) k;show .inr ⟨.inl k,c,e,?_⟩;have q:=x.cell y c e;rw[XT I l F (by show scope.names.lookup y≠_;rw[k];decide)] at q;show q
 .exact d.aU.fresh (fc (x.above y c (t9 h)))
 unfold start;show _=N.length;rw[bP,aE,List.length_replicate];cbv
def zx1{K:ao}{F kV j pm g ct M:af}
  {R:Array (Option af)}   (O:K.lookup f\⟨M,L,.func (mD name a c body scope F kV j pm G g ct),R⟩) (T:xE K g a=true) (S:oM N ps scope)
  (len:∀d H Q E,p d H Q E->d.length=ps.length)
  (OM:∀A outer s H d Q E,eX k (A.deeper (envOfC a scope *...* f g))->p d H Q E->
   ∃t,jU (lN m P w K mg base N a scope f g A outer s H E) body t/\t { nx:=λ_ H'=>Q .non H',rt:=Q } (start N d) H) :
  kH P w K mg base m (k+1) f (mD name a c body scope F kV j pm G g ct) ps p:=by
 show⟨len,λA outer s H args us d Q E C i hb r D=>?_⟩;have Z:=len _ _ _ _ D;have KX:K.In s.heap:=i.mod.zg.keeps λb o e=>(i.bs b o e).1
 have lim:s.heap.NoLimit:=i.mod.nolimit.keeps λb o e=>(i.bs b o e).1
 have Hm:∀y∈ps.zip us,scope.names.lookup y.1\.local\/(scope.names.lookup y.1\.cell/\((cellsFrom (*...*+1) scope.names []).lookup y.1).isSome=true):=λ⟨n,v⟩ U=>by
  rcases S.par n (jC U).1 with q | q
  .exact .inl q
  show .inr ⟨q,SG _ _ _ (.inl q)⟩
 show codeAny_call_function C.depth (KX _ _ O) rfl S.co S.gen rfl (PySem.W.codeRec_of KX T) (hb _ _ _ _ ?_);show wpAny_newFunctionEnv_cells S.kind Hm λenv he s1 x=>?_
 subst he;show⟨lim.keeps x.toInCall.keep,codeAny_func ?_⟩;let⟨t,X,Y⟩:=OM A outer s H d Q E (C.deeper _) D;have I:Inv (lN m P w K mg base N a scope f g A outer s H E) [] (start N d) H s1:=zoh S C.hd i Z r x;show j7 (X [] s1 (start N d) H _ I Y) (λfl z h=>?_) λe z h=>h
 have fin:∀{l:St}{H':Hp}{v:V}{u:af},Inv (lN m P w K mg base N a scope f g A outer s H E) [] l H' z->RelV v u->Q v H'->CE outer P w H s Q u z:=
  λ{l H' v u} J B q=>⟨v,H',J.os,J.bare,J.base,J.aU,B,q⟩
 cases fl with
 | ret u=>
  let⟨v,l,H',J,B,q⟩:=h;show fin J B q
 | next=>
  let⟨l,H',J,q⟩:=h;show fin (v:=V.non) (u:=jF) J rfl q
 | brk=>
  obtain⟨_,_,_,q⟩:=h;show False.elim q
 | cont=>
  obtain⟨_,_,_,q⟩:=h;show False.elim q
section
variable{p pos:aR}{e:az}{t:TA}{id T:String}{r:List V->Hp->VK->Prop}
def GD(r:List V->Hp->VK->Prop)(t:TA):TE:=λσ H Q=>t σ H λa H1=>r a H1 Q
def Bp(k:fX X (.builtin id) r)(j:Gl X x)(i:X.mg x=none)(hv:bootBuiltins x=some (.builtin id))(l:PA X (e::es) t)(g:x≠"__name__":=by decide)(f:(x==("__debug__":aa))=false:=by decide)
  (he:starEach (e::es) X.env=(false,eval e X.env)::starEach es X.env:=by rfl) (m:(backTo pos (starEach es X.env)).any (·.1)=false:=by rfl):PE X (.Call (.Name x p) (e::es) [] pos) (GD r t):=by
 intro a s σ H Q I h;show vy (qH I j i hv ?_ g f);show Tf (aX (l pos a s σ H _ I h) λus s1 n=>by let⟨b,H1,o,c,d⟩:=n;show k a s1 σ H1 b us Q o c d) he m
def Gi(k:fX X (.type T) r)(j:Gl X x)(i:X.mg x=none)(hv:bootBuiltins x=some (.type T))(l:PA X (e::es) t)(g:x≠"__name__":=by decide)(f:(x==("__debug__":aa))=false:=by decide)
  (he:starEach (e::es) X.env=(false,eval e X.env)::starEach es X.env:=by rfl) (m:(backTo pos (starEach es X.env)).any (·.1)=false:=by rfl):PE X (.Call (.Name x p) (e::es) [] pos) (GD r t):=by
 intro a s σ H Q I h;show vy (qH I j i hv ?_ g f);show xV (aX (l pos a s σ H _ I h) λus s1 n=>by let⟨b,H1,o,c,d⟩:=n;show k a s1 σ H1 b us Q o c d) he m
end
end L2
namespace HT
open PySem PyProof.Rows
section
variable{s:ai}
def bY(n d:Nat):Option Int->Nat
 | none=>d
 | some v=>if v<0 then(v+(n:Int)).toNat else min v.toNat n
def NM(n d)(hd:d<=n)(o):bY n d o<=n:=by
 cases o with
 | none=>show hd
 | some v=>
  show(if v<0 then(v+(n:Int)).toNat else min v.toNat n)<=n;grind
def Pm(v)(n d:Nat):(if v<0 then max (v+(n:Int)) 0 else min v (n:Int))=((bY n d (some v):Nat):Int):=by
 show(if v<0 then max (v+(n:Int)) 0 else min v (n:Int))=(((if v<0 then(v+(n:Int)).toNat else min v.toNat n):Nat):Int)
 grind
def zmU(lo a)(n:Nat):JR lo a 1 (n:Int)=(((bY n 0 lo:Nat):Int),((bY n n a:Nat):Int)):=by
 have b:¬((1:Int)<0):=by trivial
 unfold JR;simp![b,eC];show Ai ?_ ?_
 .cases lo with
  | none=>rfl
  | some v=>show Pm v n 0
 cases a with
 | none=>rfl
 | some v=>show Pm v n n
def zmV(i j:Nat):Et (i:Int) (j:Int) 1=j-i:=by
 unfold Et;grind
def Yu(p:IsPart v o)(h:Q o s):↥(aaU v) Q E s:=by
 cases p with
 | none=>show Ry h
 | int i t=>show slicePart_int h
def zfD{lo a:Option Int}{Q:Int×Int×Nat->ai->Prop}(f:s.heap.IsSliceOf sl c b .none)(pl:IsPart c lo)(e:IsPart b a)
  (h:Q (((bY n 0 lo:Nat):Int),1,bY n n a-bY n 0 lo) s):↥(S6 (.ref sl) (pure (n:Int))) Q E s:=by
 let⟨os,d,g,m9⟩:=id f;unfold S6 aaN;show aj (aj (DH d m9 (x:=c) rfl (aj (DH d m9 (x:=b) rfl (aj (DH d m9 (x:=.none) rfl (ay ?_)))))));show aj (Ry ?_);show wpAny _ _ (if ((1:Int)==0)=true then _ else _) _ _ s;rw[if_neg (by show jk)];show aj (Yu pl (aj (Yu e (aj (ay ?_)))));show wpAny _ _ (match JR lo a 1 (n:Int) with | (lo,a)=>pure (lo,(1:Int),Et lo a 1)) _ _ s;rw[zmU lo a n];show wpAny _ _ (pure (((bY n 0 lo:Nat):Int),(1:Int),Et ((bY n 0 lo:Nat):Int) ((bY n n a:Nat):Int) 1)) _ _ s;rw[zmV];show ay h
def zqY(xs:Array af)(i k:Nat):((bA k).filterMap λ(m:Nat)=>xs[((i:Int)+(m:Int)*1).toNat]?).toArray=((xs.toList.drop i).take k).toArray:=by
 have e:(λ(m:Nat)=>xs[((i:Int)+(m:Int)*1).toNat]?)=λm=>xs[i+m]?:=by
  grind
 rw[e];have:=pick_run xs i k;rw[List.filterMap_map] at this;have a:((λx=>xs[x]?)∘λx=>i+x)=λm=>xs[i+m]?:=rfl
 rw[a] at this;rw[this]
def ab3{lo a:Option Int}(b:IsTup s.heap t items)(g:s.heap.IsSliceOf sl f e .none)(pl:IsPart f lo)(i:IsPart e a)
  (hw:¬(bY items.size 0 lo=0/\bY items.size items.size a=items.size))
  (h:Q (.ref *...*) { s with heap:=s.heap.push { cls:=.type "tuple",data:=.seq ((items.toList.drop (bY items.size 0 lo)).take (bY items.size items.size a-bY items.size 0 lo)).toArray } })
  (hsz:items.size<=sizeLine):↥(getItem (.ref t) (.ref sl)) Q E s:=by
 have c:sizeOk (.seq ((items.toList.drop (bY items.size 0 lo)).take (bY items.size items.size a-bY items.size 0 lo)).toArray):=by
  show((items.toList.drop (bY items.size 0 lo)).take (bY items.size items.size a-bY items.size 0 lo)).toArray.size<=sizeLine;grind
 have n:bY items.size items.size a<=items.size:=NM _ _ (bB _) a;let⟨os,l,k,m9⟩:=id g;have d:s.TypeIs (.ref sl) "slice":=⟨os,l,k⟩
 unfold getItem;try with_reducible show gi ?_
 first | show aj (ay ?_) | skip
 show aj (wpAny_sequenceKey b.typeIs (by rfl) ?_);show aj (vC (name:=fS "__getitem__") b.typeIs Th
  (kJ Th b.typeIs entry_tuple_getitem ?_ (args_tuple_getitem _ _)))
 show wpAny _ _ (aaO (.ref t) >>= _) _ _ s;show aj (tupleItemsOf_ b ?_);show aj (As d ?_);rw[if_pos (by rfl)];show aj (zfD g pl i ?_);have j:¬((((bY items.size 0 lo:Nat):Int)==0&&(1:Int)==1&&(bY items.size items.size a-bY items.size 0 lo)==items.size)=true):=by
  cbv
 show wpAny _ _ (if (((bY items.size 0 lo:Nat):Int)==0&&(1:Int)==1&&(bY items.size items.size a-bY items.size 0 lo)==items.size)=true then _ else _) _ _ s;rw[if_neg j,zqY];first
  | show aj (m:=Er _) (jj (ay ⟨_,rfl,ay h⟩) c)
  | show aj (m:=Er _) (jj (aj (ay (ay ⟨_,rfl,ay h⟩))) c)
  | show aj (aj (m:=Er _) (jj (ay (ay ⟨_,rfl,ay h⟩)) c))
  | show aj (aj (m:=Er _) (jj (ay ⟨_,rfl,ay h⟩) c))
end
end HT
namespace L2
open PySem PySem.Spec PyProof.Rows
abbrev TO:=St->Hp->(Option Int->Hp->Prop)->Prop
def PO(X:Cx)(e:Option az)(t:TO):Prop:=
 ∀a s (σ:St) H Q,Inv X a σ H s->t σ H Q->
  ⇑(evalPart e X.env) (λu b=>∃o H',Inv X a σ H' b/\IsPart u o/\Q o H') X.xe s
def ztT:TO:=λ_ H Q=>Q none H
def zx2(t:TE):TO:=λσ H Q=>t σ H λx H1=>∃i,x=.int i/\Q (some i) H1
def BH:∀{us},Vals (ns.map V.int) us->IntsAre us ns:=by
 induction ns with
 | nil=>intro us r;rw[j8] at r;cases r;show .nil
 | cons n ns c=>
  intro us r;rw[bT] at r;cases r with
  | cons b a=>
   let⟨t,e⟩:=b;subst e;show .cons n t (c a)
section
variable{X:Cx}{e:az}{te:TE}{lo hi:Option az}{tl th:TO}
def ztU:PO X none ztT:=by
 intro a s σ H Q I h;rw[Ri];show ay ⟨none,H,I,.none,h⟩
def ztV(h:PE X e te):PO X (some e) (zx2 te):=by
 intro g s σ H Q I hw;rw[evalPart_some];show aX (h g s σ H _ I hw) λu s1 f=>?_
 symm;let⟨x,H1,j,b,d⟩:=f;let⟨i,rfl,q⟩:=d;let⟨t,rfl⟩:=b;show⟨some i,H1,j,.int i t,q⟩
def vc(X:Cx)(r:V->Option Int->Option Int->Hp->VK->Prop):Prop:=
 ∀c s (σ:St) H x v b a lo hi sl Q,Inv X c σ H s->RelV x v->s.heap.IsSliceOf sl b a .none->IsPart b lo->IsPart a hi->r x lo hi H Q->
  ∃T id,typeLookup (.type T) "__getitem__"=pure (some (.builtin id))/\s.TypeIs v T/\⇑(getItem v (.ref sl)) (EP X c σ Q) X.xe s
def vc.or(h:vc X r)(h':vc X d):vc X (λx lo hi H Q=>r x lo hi H Q\/d x lo hi H Q):=by
 intro f s σ H x v b a lo hi sl Q I c e pl pu q;rcases q with q | q
 .exact h f s σ H x v b a lo hi sl Q I c e pl pu q
 show h' f s σ H x v b a lo hi sl Q I c e pl pu q
def tSl(r:V->Option Int->Option Int->Hp->VK->Prop)(te:TE)(tl th:TO):TE:=λσ H Q=>te σ H λx H1=>tl σ H1 λl b=>th σ b λu a=>r x l u a Q
def zqZ(z:vc X r)(he:PE X e te)(hl:PO X lo tl)(t:PO X hi th):PE X (.Subscript e (.Slice lo hi none p2) pos) (tSl r te tl th):=by
 intro d s σ H Q I h;show Ip (aX (he d s σ H _ I h) λv s1 f=>?_);symm;let⟨x,H1,J,m,p⟩:=f;show wpAny_Slice (aX (hl d s1 σ H1 _ J p) λi s2 f=>?_);symm;let⟨l,K,F,pl,o⟩:=f;show aX (t d s2 σ K _ F o) λg s3 f=>?_
 let⟨u,j,E,pu,n⟩:=f;rw[Ri];show ay ?_;have D:Inv X d σ j { s3 with heap:=s3.heap.push { cls:=.type "slice",data:=.fields #[i,g,.none] } }:=E.kept (t':=s3.toks) λb ob q=>cy _ q
 symm;let⟨T,id,C,y,B⟩:=z d { s3 with heap:=s3.heap.push { cls:=.type "slice",data:=.fields #[i,g,.none] } } σ j x v i g l u s3.heap.objs.size Q D m (aaA ..) pl pu n;show ⇑(subscriptTail e (.Slice lo hi none p2) v (.ref s3.heap.objs.size)) (EP X d σ Q) X.xe { s3 with heap:=s3.heap.push { cls:=.type "slice",data:=.fields #[i,g,.none] } };show tail_any (ops:=[.ref s3.heap.objs.size,v]) y C B (by with_unfolding_all rfl)
def qz(xs:List V)(lo hi:Option Int):List V:=(xs.drop (HT.bY xs.length 0 lo)).take (HT.bY xs.length xs.length hi-HT.bY xs.length 0 lo)
def Yy(xs lo hi):(qz xs lo hi).length<=xs.length:=by
 unfold qz;rw[cN,o4];lia
def zzq(K:ao):V->Option Int->Option Int->Hp->VK->Prop:=λx lo hi H Q=>∃a xs,x=.ref a/\cY K H a xs/\
 ¬(HT.bY xs.length 0 lo=0/\HT.bY xs.length xs.length hi=xs.length)/\∀p,H p=none->Q (.ref p) (upd H p (.tup (qz xs lo hi)))
def zv4:vc X (zzq X.K):=by
 intro j s σ H x v i g lo hi sl Q I e f pl pu h;symm;let⟨a,xs,rfl,hx,hw,q⟩:=h;cases e;symm;let⟨its,r,d,hz⟩:=I.tuple hx;have hlen:its.toArray.size=xs.length:=by rw[eP];show r.length.symm
 show⟨"tuple",_,PyProof.Rows.slot_tuple_getitem.lookup,d.typeIs,?_⟩;show HT.ab3 d f pl pu (by rw[hlen];show hw) ?_ (by rw[hlen];show hz);rw[hlen];show⟨.ref *...*,_,I.laid (t':=s.toks) (o:=.tup (qz xs lo hi)) (λb ob q=>cy _ q) (bB _) ?_,rfl,q _ (I.aU.fresh (bB _))⟩;show⟨bK (Yy xs lo hi) hz,_,(r.drop (HT.bY xs.length 0 lo)).take (HT.bY xs.length xs.length hi-HT.bY xs.length 0 lo),QG _ _⟩
end
def kX(n:Nat)(i:Int):Option Nat:=if 0<=i then(if i<n then some i.toNat else none) else if -(n:Int)<=i then some (i+n).toNat else none
def bO{α:Type}(xs:List α)(i:Int):Option α:=(kX xs.length i).bind λj=>xs[j]?
def Wd(h:kX n i\j):seqIndex? i n\j/\j<n/\-(n:Int)<=i/\i<n:=by
 unfold kX at h;by_cases h0:0<=i
 .rw[if_pos h0] at h;by_cases a:i<n
  .rw[if_pos a] at h;have e:i.toNat=j:=iu h;show⟨by rw[Iz h0 a,e],by lia,by lia,a⟩
  rw[if_neg a] at h;cases h
 rw[if_neg h0] at h;by_cases a:-(n:Int)<=i
 .rw[if_pos a] at h;have e:(i+n).toNat=j:=iu h;show⟨by rw[IF 'g' a,e],by lia,a,by lia⟩
 rw[if_neg a] at h;cases h
def v7{v:α}(h:bO xs i\v):∃j,seqIndex? i xs.length\j/\xs[j]?\v/\j<xs.length/\-(xs.length:Int)<=i/\i<xs.length:=by
 unfold bO at h;cases e:kX xs.length i with
 | none=>rw[e] at h;cases h
 | some j=>
  rw[e] at h;let⟨d,c,b,a⟩:=Wd e;show⟨j,d,h,c,b,a⟩
def FG(b:az):Prop:=∀o i,subscripted b false o i=operate [o,i] (getItem o i)
def tM(X:Cx)(r:R2):Prop:=
 ∀value slice a s (σ:St) H x y v u Q,Inv X a σ H s->RelV x v->RelV y u->r x y H Q->
  subscripted slice false v u=operate [v,u] (getItem v u)->⇑(subscriptTail value slice v u) (EP X a σ Q) X.xe s
def Qo(X:Cx)(b:String)(r:V->List V->Hp->VK->Prop):Prop:=
 ∀a s (σ:St) H x xs v us Q,Inv X a σ H s->RelV x v->Vals xs us->r x xs H Q->
  ⇑(call (.builtin b) (v::us)) (EP X a σ Q) X.xe s
section
variable{X:Cx}{a b:az}
def tM.or(h:tM X r)(h':tM X c):tM X (λx y H Q=>r x y H Q\/c x y H Q):=by
 intro value slice e s σ H x y v u Q I b a q d;rcases q with q | q
 .exact h value slice e s σ H x y v u Q I b a q d
 show h' value slice e s σ H x y v u Q I b a q d
def Ks(f:tM X r)(i:PE X a ta)(g:PE X b tb)(e:FG b):PE X (.Subscript a b pos) (Co r ta tb):=by
 intro j s σ H Q I h;show Ip (Ka i g I h λv u s2 x y l k d c q=>f a b j s2 σ l x y v u Q k d c q (e _ _))
def Tu(K:ao):R2:=λx y H Q=>∃p xs i v,x=.ref p/\y=.int i/\bS K H p xs/\bO xs i\v/\Q v H
def Tt(K:ao):R2:=λx y H Q=>∃p xs i v,x=.ref p/\y=.int i/\cY K H p xs/\bO xs i\v/\Q v H
def Tq:R2:=λx y H Q=>∃z i c,x=.str z/\y=.int i/\z.length<=sizeLine/\bO z.cps.toList i\c/\Q (.str ⟨#[c]⟩) H
def ZH:tM X (Tu X.K):=by
 intro value slice g s σ H x y v u Q I o n h e;symm;let⟨p,xs,i,z,rfl,rfl,B,he,q⟩:=h;cases o;symm;let⟨t,rfl⟩:=n;let⟨its,r,pl,hz⟩:=I.list B;let⟨j,b,E,J,D,C⟩:=v7 he;let⟨w,f,A⟩:=r.get E;have hl:=r.length;have F:=yz;have fin:EP X g σ Q w s:=⟨z,H,I,A,q⟩
 by_cases h0:0<=i
 .have d:i.toNat=j:=by
   rw[Iz h0 C] at b;show iu b
  show item_listR pl.isList h0 'a' (by rw[d];simpa using f) fin e
 have d:(i+(its.toArray.size:Int)).toNat=j:=by
  rw[IF 'g' D] at b;rw[eP,<-hl];show iu b
 show SF (x:=w) pl.isList.typeIs slot_list_getitem.lookup
  (wpAny_getItem_list_neg (Q:=λr m=>r=w/\EP X g σ Q r m) pl.isList 'g' (by rw[eP]<;>cbv) 'a' (by rw[d];simpa using f) ⟨rfl,fin⟩) e
def abx:tM X (Tt X.K):=by
 intro value slice b s σ H x y v u Q I f e h m;symm;let⟨p,xs,i,z,rfl,rfl,n,he,q⟩:=h;cases f;symm;let⟨t,rfl⟩:=e;let⟨its,r,pl,hz⟩:=I.tuple n;let⟨j,A,o,F,E,D⟩:=v7 he;let⟨w,B,g⟩:=r.get o;have hl:=r.length;have C:=yz;have fin:EP X b σ Q w s:=⟨z,H,I,g,q⟩
 show SF (x:=w) pl.typeIs slot_tuple_getitem.lookup
  (getItem_tuple (j:=j) (Q:=λr d=>r=w/\EP X b σ Q r d) pl 'a' 'a' (by rw[eP,<-hl];show A) (by simpa using B) ⟨rfl,fin⟩) m
def zv5:tM X Tq:=by
 intro value slice r s σ H x y v u Q I e d h f;symm;let⟨z,i,c,rfl,rfl,hz,he,q⟩:=h;let⟨t,rfl⟩:=e;let⟨t',rfl⟩:=d;let⟨j,b,n,p,m,g⟩:=v7 he;have hl:z.cps.toList.length=z.length:=by simp[Io]
 rw[hl] at b m g;have o:=yz
 show tail_any (Im s z t) slot_str_getitem.lookup (getItem_str (c:=c) (by
  grind) (by rw[b];simpa using n) ⟨.str ⟨#[c]⟩,H,I.tok _,⟨_,rfl⟩,q⟩) f
def Zg(K:ao):R2:=λx y H Q=>Tu K x y H Q\/Tt K x y H Q\/Tq x y H Q
theorem U8:tM X (Zg X.K):=ZH.or (abx.or zv5)
def zmW(its:List af)(n j u):mv (·.setIfInBounds j u) { cls:=.type "list",data:=.seq its.toArray n }={ cls:=.type "list",data:=.seq (its.set j u).toArray n }:=by
 simp[mv]
def Inv.lst{b:List (ag×aV)}{a:St}(I:Inv X b a H s)(h:H p\.lst xs) :
  ∃(its:List af)(n:Nat),Vals xs its/\'f' p=some { cls:=.type "list",data:=.seq its.toArray n }/\xs.length<=sizeLine:=by
 let⟨z,its,n,r,e⟩:=I.aU p _ h;show⟨its,n,r,e,z⟩
def Inv.abo{c:St}{its its':List af}{n a:Nat}(I:Inv X g c H s)(h:H p\.lst xs)
  (i:'f' p=some { cls:=.type "list",data:=.seq its.toArray n }) (d:f { cls:=.type "list",data:=.seq its.toArray n }={ cls:=.type "list",data:=.seq its'.toArray a }) (r:Vals ys its') (hz:ys.length<=sizeLine) (t) :
  Inv X g c (upd H p (.lst ys)) { s with heap:=s.heap.update p f,toks:=t }:=by
 have e:(s.heap.update p f).get? p=some { cls:=.type "list",data:=.seq its'.toArray a }:=by
  rw[rE f i (by rw[d]<;>rfl),d]
 show I.write (x:=p) (e:=p) (by rw[h];trivial) (.inl rfl) (λb u j q=>(nC _ _ (Ne.symm j)).trans q) ⟨_,e⟩ ?_;show⟨hz,its',a,r,e⟩
def zx3:V->V->V->Hp->(Hp->Prop)->Prop:=λo i v H Q=>∃p xs k j,o=.ref p/\i=.int k/\H p\.lst xs/\kX xs.length k\j/\Q (upd H p (.lst (xs.set j v)))
def zq0:Tx X zx3:=by
 intro A s σ H o i v ov iv u Q I ro y x h;symm;let⟨p,xs,k,j,rfl,rfl,f,z,q⟩:=h;cases ro;symm;let⟨t,rfl⟩:=y;let⟨its,n,r,d,hz⟩:=I.lst f;let⟨b,C,m,g⟩:=Wd z;have hl:=r.length;have B:=yz;have w:Inv X A σ (upd H p (.lst (xs.set j v))) { s with heap:=s.heap.update p (mv (·.setIfInBounds j u)) }:=
  I.abo f d (zmW its n j u) (r.set x j) (by rw[mF];show hz) s.toks
 by_cases h0:0<=k
 .have e:k.toNat=j:=by
   rw[Iz h0 g] at b;show iu b
  show PySem.W.ki_setAt d h0 'a' (by rw[eP,<-hl];show g) (by rw[e];show⟨_,w,q⟩)
 have e:(k+(its.toArray.size:Int)).toNat=j:=by
  rw[IF 'g' m] at b;rw[eP,<-hl];show iu b
 show PySem.W.ki_setBack d 'g' (by rw[eP,<-hl];show m) 'a' (by rw[e];show⟨_,w,q⟩)
def zjL(lo b n):(sliceBounds lo b none n).1=((HT.bY n 0 lo:Nat):Int)/\(sliceBounds lo b none n).2.1=((HT.bY n n b:Nat):Int)/\(sliceBounds lo b none n).2.2=1:=by
 show⟨?_,?_,rfl⟩
 .cases lo with
  | none=>rfl
  | some i=>
   simp![sliceBounds,HT.bY,RO,show(1:Int)>0 by room,eG];grind
 cases b with
 | none=>rfl
 | some i=>
  simp![sliceBounds,HT.bY,RO,show(1:Int)>0 by room,eG];grind
def ziz(its:List af)(lo a):slicePick its.toArray lo a none=((its.drop (HT.bY its.length 0 lo)).take (HT.bY its.length its.length a-HT.bY its.length 0 lo)).toArray:=by
 let⟨d,c,b⟩:=zjL lo a its.toArray.size;unfold slicePick;rw[d,c,b];simp only[sliceRange_one,pick_run,eP]<;>rfl
def zzr(K:ao):V->Option Int->Option Int->Hp->VK->Prop:=λx lo b H Q=>∃a xs,x=.ref a/\bS K H a xs/\∀p,H p=none->Q (.ref p) (upd H p (.lst (qz xs lo b)))
def aa7:vc X (zzr X.K):=by
 intro m s σ H x v j i lo d sl Q I f g pl pu h;symm;let⟨a,xs,rfl,hx,q⟩:=h;cases f;symm;let⟨its,r,e,hz⟩:=I.list hx;have hlen:=r.length;show⟨"list",_,slot_list_getitem.lookup,e.isList.typeIs,?_⟩;show wpAny_getItem_list_slice e.isList g pl pu .none (by trivial) ?_ (by rw[eP]<;>cbv);rw[ziz,<-hlen];show⟨.ref *...*,_,I.laid (t':=s.toks) (o:=.lst (qz xs lo d)) (λb ob q=>cy _ q) (bB _) ?_,rfl,q _ (I.aU.fresh (bB _))⟩;show⟨bK (Yy xs lo d) hz,_,0,(r.drop (HT.bY xs.length 0 lo)).take (HT.bY xs.length xs.length d-HT.bY xs.length 0 lo),cT _ rfl⟩
def zjM:eh X (compareOp .NotIn) (λx y H Q=>∃i j,x=.str i/\y=.str j/\Q (.bl (!(!(xS j i 0 j.length 1).isEmpty))) H):=by
 intro e s σ H x y v u Q I d b h;symm;let⟨i,j,rfl,rfl,q⟩:=h;let⟨t,rfl⟩:=d;let⟨t',rfl⟩:=b;show notIn_str ⟨.bl _,H,I,rfl,q⟩
def aaj:fX X (.builtin "len") (λxs H Q=>∃p ys,xs=[.ref p]/\(bS X.K H p ys\/cY X.K H p ys)/\Q (.int ys.length) H):=by
 intro g s σ H xs us Q I r h;symm;let⟨p,ys,rfl,b,q⟩:=h;let⟨u,rfl,e⟩:=gI r;cases e;have f:=yz;rcases b with b | b
 .let⟨its,d,pl,hz⟩:=I.list b;have hlen:=d.length;show Calls.call_len_list pl.isList (by simp only[eP]<;>lia) ⟨.int ys.length,H,I.tok _,⟨s.toks+1,by rw[eP,hlen]⟩,q⟩
 let⟨its,d,pl,hz⟩:=I.tuple b;have hlen:=d.length;show len_tuple pl (by simp only[eP]<;>lia) ⟨.int ys.length,H,I.tok _,⟨s.toks+1,by rw[eP,hlen]⟩,q⟩
def zjN:fX X (.builtin "len") (λxs H Q=>∃z,xs=[.str z]/\z.length<=sizeLine/\Q (.int z.length) H):=by
 intro b s σ H xs us Q I r h;let⟨z,rfl,hz,q⟩:=h;let⟨u,rfl,t,rfl⟩:=gI r;have a:=yz;show len_str 'a' ⟨.int z.length,H,I.tok _,⟨_,rfl⟩,q⟩
def fX.or{r a:List V->Hp->VK->Prop}(h:fX X f r)(h':fX X f a):fX X f (λxs H Q=>r xs H Q\/a xs H Q):=by
 intro b s σ H xs us Q I rs q;rcases q with q | q
 .exact h b s σ H xs us Q I rs q
 show h' b s σ H xs us Q I rs q
def zjO:fX X (.type "list") (λxs H Q=>∃p ys,xs=[.ref p]/\(bS X.K H p ys\/cY X.K H p ys)/\∀l,H l=none->Q (.ref l) (upd H l (.lst ys))):=by
 intro t s σ H xs us Q I r h;symm;let⟨p,ys,rfl,g,q⟩:=h;let⟨u,rfl,m⟩:=gI r;cases m;have fin:∀(its:List af),Vals ys its->ys.length<=sizeLine->∀(h':aD)(f:Nat),(∀b o','f' b=some o'->h'.get? b=some o')->
   h'.get? *...*=some { cls:=.type "list",dict:=none,data:=.seq its.toArray f,slots:=#[] }->EP X t σ Q (.ref *...*) 'j':=λits d hz h' f kp e=>
  ⟨.ref *...*,_,I.laid (t':=s.toks) kp (bB _) (show gc X.prog X.w _ h' _ (.lst ys) from⟨hz,its,f,d,e⟩),rfl,q _ (I.aU.fresh (bB _))⟩
 rcases g with g | g
 .let⟨its,d,pl,hz⟩:=I.list g;have hlen:=d.length;let⟨o,i,j,n,hd⟩:=pl.isList;show Rh p (.inl rfl) i j hd (λh' f kp e=>fin its d hz h' f kp e) (by simp only[eP]<;>cbv)
 let⟨its,d,pl,hz⟩:=I.tuple g;have hlen:=d.length;let⟨o,i,j,n,hd⟩:=pl;show Rh p (.inr rfl) i j hd (λh' f kp e=>fin its d hz h' f kp e) (by simp only[eP]<;>cbv)
def Ci(K:ao)(T:String)(x:V)(H:Hp):Prop:=match x with
 | .str _=>T="str"
 | .int _=>T="int"
 | .ref p=>(T="list"/\∃xs,bS K H p xs)\/(T="tuple"/\∃o,K.lookup p=some o/\o.cls=.type "tuple"/\o.dict=none)\/
   (T="dict"/\((∃kvs a,H p=some (.dK kvs a))\/∃kvs bs,H p=some (.dT kvs bs)))\/(T="set"/\∃S n,H p=some (.set S n))
 | _=>False
def U7{f:St}(I:Inv X j f H s)(r:RelV x v)(ty:Ci X.K T x H) :
  s.TypeIs v T/\∀a,v=.ref a->∃ob,'f' a\ob/\ob.dict=none:=by
 cases x with
 | str z=>
  let⟨t,rfl⟩:=r;cases (show T="str" from ty);show⟨Im s z t,λ_ e=>nomatch e⟩
 | int i=>
  let⟨t,rfl⟩:=r;cases (show T="int" from ty);show⟨typeIs_int s i t,λ_ e=>nomatch e⟩
 | ref p=>
  cases r;rcases ty with⟨rfl,xs,g⟩ | ⟨rfl,o,b,h,hd⟩ | ⟨rfl,b⟩ | ⟨rfl,S,n,b⟩
  .let⟨its,y,pl,y⟩:=I.list g;show⟨pl.isList.typeIs,λa e=>?_⟩;cases e;let⟨o,n,e,c,hd,y⟩:=pl;show⟨o,e,hd⟩
  .refine⟨⟨o,I.jw p o b,h⟩,λa e=>?_⟩;cases e;show⟨o,I.jw _ o b,hd⟩
  .have z:∃o,'f' p\o/\o.ExactDict:=by
    rcases b with⟨kvs,k,b⟩ | ⟨kvs,bs,b⟩
    .let⟨y,y,y,y,o,y,e,ex,y⟩:=I.aU p _ b;show⟨o,e,ex⟩
    let⟨y,y,y,y,y,o,y,y,e,ex,y⟩:=I.aU p _ b;show⟨o,e,ex⟩
   let⟨o,e,ex⟩:=z;show⟨⟨o,e,ex.1⟩,λa d=>?_⟩;cases d;show⟨o,e,ex.2.1⟩
  let⟨o,y,y,y,e,ex,y⟩:=I.aU p _ b;show⟨⟨o,e,ex.1⟩,λa d=>?_⟩;cases d;show⟨o,e,ex.2.1⟩
 | _=>show False.elim ty
def Kf(K:ao)(T:String)(r:V->List V->Hp->VK->Prop)(to:TE):TE:=λσ H Q=>to σ H λx H1=>Ci K T x H1/\r x [] H1 Q
def wq(K:ao)(T:String)(r:V->List V->Hp->VK->Prop)(to:TE)(t:TA):TE:=λσ H Q=>to σ H λx H1=>Ci K T x H1/\t σ H1 λxs a=>r x xs a Q
variable{T id:String}
def U6(j:PlainAttrs T)(slot:Slot T name id)(u:typeOf (.builtin id)=pure (.type "method_descriptor"))(n:Qo X id r)(m:PE X o to)
  (f:attributeBase o name X.env (eval o X.env)=eval o X.env:=by rfl) (g:(apos.endLine==fj.line)=true:=by rfl):PE X (.Call (.Attribute o name apos) [] [] fj) (Kf X.K T r to):=by
 intro d s σ H Q I h;show SR f g (aX (m d s σ H _ I h) λv s1 t=>?_);symm;let⟨x,H1,e,b,ty,i⟩:=t;let⟨q,p⟩:=U7 e b ty;show⟨T,id,j,slot,u,q,p,AQ rfl (Se (n d s1 σ H1 x [] v [] Q e b .nil i))⟩
def vS(w:PlainAttrs T)(slot:Slot T name id)(L:typeOf (.builtin id)=pure (.type "method_descriptor"))(A:Qo X id r)(z:PE X o to)(B:PA X (e::es) t)
  (m:attributeBase o name X.env (eval o X.env)=eval o X.env:=by rfl)
  (E:((backTo fj (starEach (e::es) X.env)).all (λx=>!x.1)&&(backToKw fj (keywordEach [] X.env)).all (λx=>x.1.isSome)
   && decide ((e::es).length+([]:List Keyword).length+(if ([]:List Keyword).isEmpty then 0 else 1)<30))=true:=by rfl)
  (n:(apos.endLine==fj.line)=true:=by rfl) (y:starEach (e::es) X.env=(false,eval e X.env)::starEach es X.env:=by rfl) (M:(backTo fj (starEach es X.env)).any (·.1)=false:=by rfl) :
  PE X (.Call (.Attribute o name apos) (e::es) [] fj) (wq X.K T r to t):=by
 intro d s σ H Q I h;show wpAny_Call_method_late m E n rfl (aX (z d s σ H _ I h) λv s1 b=>?_);symm;let⟨x,H1,i,f,ty,u⟩:=b;let⟨D,C⟩:=U7 i f ty;show⟨T,id,w,slot,L,D,C,?_⟩;have g:=B fj d s1 σ H1 _ i u;rw[y] at g ⊢;show AQ (by room) (Jz ?_);show aX g λus s2 b=>by let⟨j,J,F,p,q⟩:=b;show A d s2 σ J x j v us Q F f p q
end
def zI(X:Cx)(b:String)(r:V->List V->Hp->VK->Prop):Prop:=
 ∀a s (σ:St) H x xs v us Q,Inv X a σ H s->RelV x v->Vals xs us->r x xs H Q->
  ⇑(call (.builtin b) (v::us)) (EP X a σ Q) X.xe s
def Vals.one(h:Vals [x] a):∃u,a=[u]/\RelV x u:=by
 cases h with
 | cons r t=>cases t;show⟨_,rfl,r⟩
theorem Vals.zero:∀{us},Vals [] us->us=[]
 | _,.nil=>rfl
def Vals.dropLast(h:Vals xs a):Vals xs.dropLast a.dropLast:=by
 induction h with
 | nil=>show .nil
 | cons r t b=>
  cases t with
  | nil=>show .nil
  | cons q t'=>show .cons r b
theorem Vals.eraseIdx:∀{xs us} i,Vals xs us->Vals (xs.eraseIdx i) (us.eraseIdx i)
 | _,_,_,.nil=>.nil
 | _,_,0,.cons _ t=>t
 | _,_,i+1,.cons r t=>.cons r (Vals.eraseIdx i t)
theorem XS{α:Type}:∀(l:List α) i,(l.eraseIdx i).length<=l.length
 | [],_=>bB _
 | _::_,0=>iZ _
 | _::r,i+1=>Nat.succ_le_succ (XS r i)
section
variable{σ:St}
def Inv.zd{its its':List af}(I:Inv X J' σ H s)(d:H l\.lst xs)
  (e:'f' l=some { cls:=.type "list",data:=.seq its.toArray n }) (b:f its.toArray=its'.toArray) (hv:Vals ys its') (hz:ys.length<=sizeLine) :
  Inv X J' σ (upd H l (.lst ys)) { s with heap:=s.heap.update l (mv f),toks:=t' }:=by
 have q:=aau e f;rw[b] at q;show I.write (x:=l) (e:=l) (by rw[d];show trivial) (.inl rfl) (λg u c a=>(nC s.heap (mv f) (Ne.symm c)).trans a) ⟨_,q⟩ ?_;show⟨hz,its',_,hv,q⟩
theorem Inv.ZC(I:Inv X J' σ H s)(hv:Vals ys its)(hz:ys.length<=sizeLine) :
  Inv X J' σ (upd H *...* (.lst ys)) { s with heap:=s.heap.push { cls:=.type "list",data:=.seq its.toArray },toks:=t' }:=
 I.laid (λ_ _ q=>cy _ q) (bB _) ⟨hz,its,0,hv,cT _ rfl⟩
theorem Inv.fresh(I:Inv X J' σ H s):H *...*=none:=I.aU.fresh (bB _)
def Inv.wK(I:Inv X J' σ H s)(b:H l=some (.lst xs)):xs.length<=sizeLine/\∃(its:List af)(n:Nat),Vals xs its/\xs.length=its.length/\'f' l=some { cls:=.type "list",data:=.seq its.toArray n }:=by
 symm;let⟨z,its,n,r,e⟩:=I.aU l _ b;show⟨z,its,n,r,r.length,e⟩
def W6(h:n<=sizeLine):Ep n=false:=by
 unfold Ep;show jW (by room)
end
def Bm:V->List V->Hp->VK->Prop:=λx a H Q=>∃l xs y,x=.ref l/\a=[y]/\H l\.lst xs/\xs.length<sizeLine/\Q .non (upd H l (.lst (xs++[y])))
def Gh:zI X "list.append" Bm:=by
 intro j s σ H x i v us Q I d f h;symm;let⟨l,xs,y,rfl,rfl,b,hz,q⟩:=h;cases d;symm;let⟨u,rfl,g⟩:=f.one;let⟨z,its,n,r,hl,e⟩:=I.wK b;show qd F.slot_list_append ⟨_,e,rfl⟩ F.entry_list_append (F.args_list_append_2 _ _) (PySem.list_append l its.toArray n u (by rw[eP];cbv)) ⟨e,?_⟩;show⟨.non,_,I.zd (its':=its++[u]) b e ∅ (r.append (.cons g .nil)) ?_,rfl,q⟩;rw[bP,JG];room
def Wb:V->List V->Hp->VK->Prop:=λx a H Q=>∃l b xs zs,x=.ref l/\a=[.ref b]/\H l\.lst xs/\H b\.lst zs/\xs.length+zs.length<=sizeLine/\Q .non (upd H l (.lst (xs++zs)))
def zok:zI X "list.extend" Wb:=by
 intro B s σ H x A v us Q I g i h;symm;let⟨l,b,xs,zs,rfl,rfl,f,o,hz,q⟩:=h;cases g;symm;let⟨u,rfl,j⟩:=i.one;cases j;symm;let⟨z,its,n,r,hl,e⟩:=I.wK f;let⟨w,d,n2,m,y,p⟩:=I.wK o;have hsz:its.toArray.size+d.toArray.size<=sizeLine:=by rw[eP,eP];cbv
 have t:¬(!its.toArray.isEmpty&&Ep (its.toArray.size+d.toArray.size))=true:=by
  rw[W6 hsz,Ja];show jk
 show qd DN ⟨_,e,rfl⟩ Sd (Sm _ _)
  (Tj l its.toArray n b d.toArray n2 t (by rw[eP];cbv) (by room)) ⟨e,p,?_⟩
 show⟨.non,_,I.zd (its':=its++d) f e ∅ (r.append m) ?_,rfl,q⟩;rw[bP];room
def TR:V->List V->Hp->VK->Prop:=λx a H Q=>∃l xs y,x=.ref l/\a=[]/\H l\.lst xs/\xs[xs.length-1]?\y/\Q y (upd H l (.lst xs.dropLast))
def zv6:zI X "list.pop" TR:=by
 intro t s σ H x o v us Q I f g h;symm;let⟨l,xs,y,rfl,rfl,d,j,q⟩:=h;cases f;have m:=g.zero;subst m;symm;let⟨z,its,n,r,hl,e⟩:=I.wK d;let⟨u,p,i⟩:=r.get j;have b:its.toArray[its.toArray.size-1]?=some u:=by
  cbv
 show qd F.slot_list_pop ⟨_,e,rfl⟩ F.entry_list_pop (F.args_list_pop_1 _) (MeetsSeq.list_pop_last l its.toArray n u b (by rw[eP];cbv)) ⟨e,?_⟩;show⟨y,_,I.zd (its':=its.dropLast) d e ?_ r.dropLast ?_,i,q⟩;all_goals grind
def U5:V->List V->Hp->VK->Prop:=λx a H Q=>∃l xs,x=.ref l/\a=[]/\H l\.lst xs/\Q .non (upd H l (.lst []))
def zq1:zI X "list.clear" U5:=by
 intro j s σ H x i v us Q I d f h;symm;let⟨l,xs,rfl,rfl,b,q⟩:=h;cases d;have g:=f.zero;subst g;symm;let⟨z,its,n,r,hl,e⟩:=I.wK b;show qd F.slot_list_clear ⟨_,e,rfl⟩ F.entry_list_clear (F.args_list_clear_1 _) (AutoSeq1.list_clear_list_0 l its.toArray n (by rw[eP];cbv)) ⟨e,?_⟩;show⟨.non,_,I.zd (its':=[]) (ys:=[]) b e rfl .nil (b9 _),rfl,q⟩
end L2
namespace Att
open PySem PySem.W PySem.Calls PyProof.Rows
def zgi:∀ns c,WellAll P h c (ns.map QE)->IntsAre c ns:=by
 intro ns;induction ns with
 | nil=>
  intro c w;rw[j8] at w;cases w;show .nil
 | cons n ns d=>
  intro c w;rw[bT] at w;cases w with
  | cons a b=>
   cases a;show .cons _ _ (d _ b)
def zol{l:OpenLaw}(q:l.most\n)
  (j:l.row.toRowW.claim.pre args=true) (m:WellAll P h b args) :
  ∃a g ns,b=[fw a]/\args=[WData.list (ns.map QE)]/\h.get? a=some { cls:=.type "list",data:=.seq g.toArray }/\IntsAre g ns/\ns.length<=n:=by
 have o:WShape.hasAll [] args [.list .int]=true:=(pre_splitW j).1;have i:l.pre.holds [] { args:=args }=true:=(pre_splitW j).2;symm;let⟨d,r,rfl,u,t⟩:=hasAllW_cons o;obtain rfl:=hasAllW_nil t;let⟨xs,rfl,s⟩:=hasW_list u;let⟨ns,rfl⟩:=items_int s;have hlen:ns.length<=n:=by
  unfold OpenLaw.pre at i;have e:(WTm.not (.lt (.lit (.int (n:Int))) (.len (.arg 0)))).holds [] { args:=[.list (ns.map .int)] }=true:=by
   have e:=(holds_andW i).1;rw[q] at e;show e
  have v:=condW_of e (w_not (w_lt w_lit (w_len_list (w_arg rfl))));cbv
 cases m with
 | cons w1 w2=>
  cases w2;cases w1 with
  | list p f=>show⟨_,_,ns,rfl,rfl,p,zgi ns _ f,hlen⟩
theorem zom(l:OpenLaw)(args):l.row.toRowW.claim.post args (.bool true) args=true:=
 postW_of (r:=l.row.toRowW) (X:=(true==true))
  (show QM [] (.bool true) .bool=true by first | rfl | decide | simp[QM,WShape.arms,WShape.armsAll])
  (show(WTm.eq .res (.lit (.bool true))).value [] { args:=args,res:=some (.bool true),after:=args }\.bool (true==true) from w_eq_bool (w_res rfl) w_lit) rfl
def ab9{l:OpenLaw}
  (v:l.most\n) (D:d.params.defaults=[])
  (call:∀w gC c mg h fa o pm cd doc a e ns,
   Ground q b [] k w gC mg h c.heap->j w c.heap->
   c.heap.get? fa\o->o.data=.func (docDef d.name d.params d.body d.scope pm cd doc)->c.heap.CodeRec cd d.name->mg d.name\.ref fa->
   c.heap.get? a=some { cls:=.type "list",data:=.seq e.toArray }->IntsAre e ns->ns.length<=n->c.gens=#[]->
   codeAny (model l.prog w) callerA (.call (.ref fa) ⟨[.ref a],[]⟩) (λr g=>r=.ok (.ret (.bool true))/\OldK c.heap g.heap/\g.os=c.os/\AllBare g.gens) c) :
  WalkO q b k j l.row.toRowW d [] (λf e=>QL f e):=by
 intro w gC c mg h G Y fa o pm cd doc B kV u hd p i sS x args vals as F C s m H;obtain rfl:B=.none:=Dflts.none i D;obtain rfl:kV=.none:=Dflts.noKw i;let⟨a,e,ns,rfl,rfl,E,hints,hlen⟩:=zol v F m;show enter_call (vn (call w gC c mg h fa o pm cd doc a e ns G Y u (fd_plain hd) p sS E hints hlen x) λr g t=>?_);let⟨rfl,A,z,y⟩:=t;show⟨.inl ⟨.bool true,.bool true,[],rfl,λ_=>rfl,.bool true,zom l _,λ_=>⟨RY,λ_ hm=>(nomatch hm)⟩⟩,A,z,y⟩
end Att
namespace L2
open PySem PySem.Spec PyProof.Rows
theorem Mb:∀{a ns},IntsAre a ns->Vals (ns.map V.int) a
 | _,_,.nil=>.nil
 | _,_,.cons n t h=>.cons ⟨t,rfl⟩ (Mb h)
def TM(H:Hp):Prop:=∀b,H b=none\/∃o xs,H b=some (.gE o (.lst xs))
def zq2{K:ao}{mg D:aa->Option af}
  (KX:K.In f.heap) (S:f.heap.Ns mainGlobals mg) (i:f.heap.Ns builtinsNs D) (Ht:∀x:aa,x≠"__name__"->D x=bootBuiltins x) (N:f.heap.NoLimit) (hg:f.gens=#[])
  (I:f.heap.get? a=some { cls:=.type "list",data:=.seq j.toArray }) (U:IntsAre j ns) (hl:ns.length<=sizeLine) (hr:eX k callerA)
  (F:∀base:aD,K.In base->base.Ns mainGlobals mg->kH P w K mg base Z k fa X [x] Q) (M:∀s u,BindsTo s X ⟨[u],[]⟩ [(x,u)])
  (zj:∀H:Hp,TM H->bS K H a (ns.map V.int)->Q [.ref a] H (λv _=>v=.bl true) λ_ _ _=>False)
  (J:∀H e g,Z [] H f (λ_ _ _=>False) e g->False) :
  codeAny (model P w) callerA (.call (.ref fa) ⟨[.ref a],[]⟩) (λr g=>r=.ok (.ret (.bool true))/\OldK f.heap g.heap/\g.os=f.os/\AllBare g.gens) f:=by
 have R:=Mb U;have L:=U.length
 -- from an abstract heap in ac0 nothing but T Za may be tracked
 have core:∀H:Hp,TM H->bS K H a (ns.map V.int)->fR P w H f.heap->(∀b,H b≠none->b=a)->(H a≠none->K.lookup a=none)->
   codeAny (model P w) callerA (.call (.ref fa) ⟨[.ref a],[]⟩) (λr g=>r=.ok (.ret (.bool true))/\OldK f.heap g.heap/\g.os=f.os/\AllBare g.gens) f:=by
  intro H W hS aU hA hK;have y:∀{b:ag}{o:aV},f.heap.get? b\o->H b=none->(rT f.heap H).get? b\o:=λe n=>zqP e n
  have Cz:∀{b:ag}{o:aV}{A:Array DictEntry}{B:Nat},f.heap.get? b\o->o.data=.dict A B->H b=none:=λ{b o A B} e d=>by
   grind
  have C:∀{b:ag}{m:aa->Option af},f.heap.Ns b m->(rT f.heap H).Ns b m:=λ{b m} ⟨o,A,B,e,d,r⟩=>⟨o,A,B,y e (Cz e d),d,r⟩
  have t:K.In (rT f.heap H):=λb o e=>y (KX b o e) (by
   grind)
  have hM:Mod K mg (rT f.heap H):=⟨t,C S,⟨D,C i,Ht⟩,let⟨mc,h1,h2⟩:=N;⟨mc,C h1,h2⟩⟩
  have e0:xn P w K mg (rT f.heap H) callerA [] f H:=⟨rfl,hM,λb o e=>ztA e,II (zn1 _ _),trivial,λb i=>absurd (show b∈([]:List ag) from i) (by nofun),aU,.of_eq hg⟩
  show vn ((F _ t (C S)).run callerA [] f H ⟨[.ref a],[]⟩ [.ref a] [.ref a] _ _ hr e0 (M f (.ref a)) (.cons rfl .nil) (zj H W hS)) λr g h=>?_
  cases r with
  | error e=>show(J H e g h).elim
  | ok fl=>
   cases fl with
   | next=>show False.elim h
   | brk=>show False.elim h
   | cont=>show False.elim h
   | ret u=>
    symm;let⟨v,H',os,bare,un,O,r',q⟩:=h;have q':v=.bl true:=q;subst q';obtain rfl:u=Am true:=r';show⟨rfl,OldK.of_keep λb o e=>?_,os,bare⟩;cases q:H b with
    | none=>show un.keep b o e q (by intro z;show absurd (show b∈([]:List ag) from z) (by nofun)) (by nofun)
    | some u=>
     symm;rcases W b with z | ⟨ob,xs,z⟩
     .rw[q] at z;cases z
     have z2:=un.tm b ob _ z;symm;let⟨Y,l⟩:=aU b _ z;let⟨e2,l⟩:=O b _ z2;rw[e] at Y;cases Y;show e2
 cases E:K.lookup a with
 | some o=>
  -- T Za is one of T ac9 own objects
  have e:=KX a o E;rw[I] at e;cases e;show core (λ_=>none) (λ_=>.inl rfl) (.inr ⟨_,j.toArray,_,E,rfl,rfl,rfl,by rw[eP,L];show hl,by simpa using R⟩) (λb u z=>by have p:(none:Option HO)\u:=z;cases p) (λb z=>absurd rfl z) λz=>absurd rfl z
 | none=>
  show core (λb=>if b=a then some (.gE { cls:=.type "list",data:=.seq j.toArray } (.lst (ns.map V.int))) else none) (λb=>?_) (.inl (.inr ⟨{ cls:=.type "list",data:=.seq j.toArray },if_pos rfl⟩)) (λb u z=>?_) (λb z=>?_) λ_=>E
  .grind
  .by_cases i:b=a
   .have p:=(if_pos i).symm.trans z;cases p;subst i;show⟨I,by rw[aE];show hl,j,_,R,I⟩
   have p:=(if_neg i).symm.trans z;cases p
  by_cases i:b=a
  .exact i
  show absurd (if_neg i) z
abbrev tL{K:ao}{h:aD}(_:K.In h):ao:=K
def Wa(s:cq)(j:Nat):cq:=match s with
 | .ClassDef _ _ _ body _ _ _ _ _ _ _=>body.getD j (.Pass ⟨0,0,0,0⟩)
 | _=>.Pass ⟨0,0,0,0⟩
def pV(s:cq):Arguments:=match s with
 | .FunctionDef _ a _ _ _ _ _ _ _ _=>a
 | _=>{ posonlyargs:=[],args:=[],vararg:=none,kwonlyargs:=[],kw_defaults:=[],kwarg:=none,defaults:=[] }
def iO(s:cq):List cq:=match s with
 | .FunctionDef _ _ b _ _ _ _ _ _ _=>b
 | _=>[]
def dQ(s:cq):iH:=match s with
 | .FunctionDef _ _ _ _ _ _ sc _ _ _=>sc
 | _=>{ kind:=.function,names:=[],isGenerator:=false,isCoroutine:=false }
abbrev iR:qW:=λ_ _ _ _ _ _=>False
abbrev E0:XK:=λ_ _ _=>False
theorem Us:Bg iR X E0:=λ_ _ _ _ _ _ _ h=>h.elim
structure tO(dV:af)(K:ao)(x qual:aa)(st:cq)(f:ag)(fd:gR):Prop where
 ex:∃(oc:af)(od:Option ag)(kV doc pm:af)(an:Option ag)(aQ ct:af)(kE:Array (Option af)),
  fd=mD x qual (pV st) (iO st) (dQ st) dV kV doc pm an aQ ct/\K.lookup f\⟨oc,od,.func fd,kE⟩/\xE K aQ qual=true
 kp:oW K (.ref f)=true
abbrev HJ:=tO .none
section
variable{K:ao}
def tO.ok{st:cq}(F:tO o K x b st f i)(S:oM N ps (dQ st))(len:∀d H Q E,g d H Q E->d.length=ps.length)
  (p:∀e A outer s H d Q E,eX k (A.deeper (envOfC b (dQ st) *...* f e))->g d H Q E->
   ∃t,jU (lN iR P w K mg base N b (dQ st) f e A outer s H E).oj (iO st) t/\t { nx:=λ_ H'=>Q .non H',rt:=Q } (start N d) H):kH P w K mg base iR (k+1) f i ps g:=by
 symm;let⟨u,r,kV,doc,pm,an,e,ct,v,rfl,lk,m⟩:=F.ex;show zx1 lk m S len λA outer s H d Q E n j=>?_
 symm;let⟨t,h,q⟩:=p e A outer s H d Q E n j;show⟨t,h.oj,q⟩
def tO.binds{st:cq}(F:HJ K x a st f c)
  (h:∀kV doc pm an b ct us,us.length=ps.length->bindArgs (mD x a (pV st) (iO st) (dQ st) .none kV doc pm an b ct) ⟨us,[]⟩=pure (ps.zip us)):Binds K c ps []:=by
 let⟨e,d,kV,doc,pm,an,b,ct,g,rfl,lk,i⟩:=F.ex;show .all (h kV doc pm an b ct)
theorem K7{st:cq}{e kV b pm d ct:af}(l:K.lookup f\⟨i,h,.func (mD x a (pV st) (iO st) (dQ st) e kV b pm g d ct),j⟩)
  (c:xE K d a=true) (k:oW K (.ref f)=true):tO e K x a st f (mD x a (pV st) (iO st) (dQ st) e kV b pm g d ct):=⟨⟨i,h,kV,b,pm,g,d,ct,j,rfl,l,c⟩,k⟩
end
theorem pv(i)(hN:X.N[i]?=some x:=by rfl)(hv:u7 X.env.scope x:=by first | show Or.inl rfl | show Or.inr (Or.inl rfl) | show Or.inr (Or.inr rfl))(hd:(x==("__debug__":aa))=false:=by decide)
  (a:(x==("__classdict__":aa))=false:=by decide):PE X (.Name x pos) (Kd i):=Bi hN hv hd a
def aW(H H':Hp):Prop:=∀b o,H b\o->H' b=some o
theorem aW.refl(H):aW H H:=λ_ _ h=>h
theorem aW.trans(a:aW H e)(b:aW e d):aW H d:=λc o h=>b c o (a c o h)
def aW.free(e:aW H H')(h:H' l=QR):H l=QR:=by
 cases q:H l with
 | none=>rfl
 | some o=>
  rw[e l o q] at h;cases h
end L2
set_option maxHeartbeats 0
namespace L2
open PySem PySem.Spec PyProof.Rows
def fq(K:ao)(H:Hp)(a:ag)(xs:List V):Prop:=
 Rd H a (.lst xs)\/∃its n,K.lookup a=some { cls:=.type "list",data:=.seq its n }/\its.size<=sizeLine/\Vals xs its.toList
theorem fq.of{K:ao}{H:Hp}{a:ag}{xs:List V}(h:H a\.lst xs):fq K H a xs:=.inl (.inl h)
def fq.sq{K:ao}(h:fq K H a xs):bS K H a xs:=by
 rcases h with h | ⟨its,n,d,c,b⟩
 .exact .inl h
 show .inr ⟨_,its,n,d,rfl,rfl,rfl,c,b⟩
def aW.cB{K:ao}(e:aW H H')(h:fq K H a xs):fq K H' a xs:=by
 rcases h with(h | ⟨o,h⟩) | h
 .exact .inl (.inl (e _ _ h))
 .exact .inl (.inr ⟨o,e _ _ h⟩)
 show .inr h
def Inv.cB{c:St}(I:Inv X g c H s)(h:fq X.K H a xs):xs.length<=sizeLine/\∃(its:List af)(n:Nat),Vals xs its/\'f' a=some { cls:=.type "list",data:=.seq its.toArray n }:=by
 rcases h with h | ⟨its,n,f,d,b⟩
 .let⟨z,its,n,r,e⟩:=h.ok I.aU;show⟨z,its,n,r,e⟩
 show⟨by rw[b.length];simpa using d,its.toList,n,b,?_⟩;show I.jw a _ f
def iI(cells:List (aa×ag)):List (aa×NameKind)->List (aa×ag)->List (aa×ag)
 | [],acc=>acc
 | (n,k)::r,acc=>iI cells r (if k==.free then(n,(cells.lookup n).getD 0)::acc else acc)
theorem Yt:∀names acc,(∀x∈names,x.2=.free->∃c,env.cells.lookup x.1\c)->
  (forIn names acc λ(x:aa×NameKind)(r:List (aa×ag))=>
   (if (x.2==nG)=true then do let a <-cellOf env x.1;pure (tT ((x.1,a)::r)) else pure (tT r):Sem (ForInStep (List (aa×ag)))))=pure (iI env.cells names acc)
 | [],acc,_=>by rfl
 | (n,k)::r,acc,h=>by
  have d:=λf=>Yt (env:=env) r f λx hx=>h x (cJ _ hx)
  rw[List.forIn_cons];by_cases g:k=.free
  .subst g;let⟨c,e⟩:=h (n,.free) 'c' rfl;have i:cellOf env n=pure c:=by unfold cellOf;rw[e]
   simp![o5,eG,i,pure_bind];rw[d];simp[iI,e]
  have b:(k==nG)=false:=by show if_neg ‹_›
  simp![b,fZ,eC,pure_bind];rw[d];simp[iI,b]
def Yr(h:∀x∈scope.names,x.2=.free->∃c,env.cells.lookup x.1\c):closureFor scope env=pure (iI env.cells scope.names []):=by
 have e:closureFor scope env=(forIn scope.names ([]:List (aa×ag)) λ(x:aa×NameKind)(r:List (aa×ag))=>
   (if (x.2==nG)=true then do let a <-cellOf env x.1;pure (tT ((x.1,a)::r)) else pure (tT r):Sem (ForInStep (List (aa×ag))))) >>= λr=>pure r:=rfl
 rw[e,Yt _ _ h];rfl
theorem W5:∀{names acc x c},(x,c)∈iI cells names acc->(x,c)∈acc\/((x,.free)∈names/\c=(cells.lookup x).getD 0)
 | [],acc,x,c,h=>.inl h
 | (n,k)::r,acc,x,c,h=>by
  rcases W5 (names:=r) h with h | ⟨h,e⟩
  all_goals grind
theorem W4:∀{names acc p},p∈acc->p∈iI cells names acc
 | [],acc,p,h=>h
 | (n,k)::r,acc,p,h=>W4 (names:=r) (by split<;>simp[h])
theorem L1:∀{names acc x},(x,.free)∈names->∃c,(x,c)∈iI cells names acc
 | (n,k)::r,acc,x,h=>by
  rcases bE.mp h with h | h
  .have b:x=n:=gy QC h;have a:nG=k:=gy QB h;subst b a;show⟨(cells.lookup x).getD 0,?_⟩;show(x,(cells.lookup x).getD 0)∈iI cells r (if (nG==nG)=true then(x,(cells.lookup x).getD 0)::acc else acc);show W4 'c'
  show L1 (names:=r) h
theorem Gx{α:Type}:∀{l:List (aa×α)}{x c},(x,c)∈l->∃b,l.lookup x=some b
 | (n,k)::r,x,c,h=>by
  by_cases e:x=n
  .subst e;show⟨k,by simp[DZ]⟩
  have d:(x==n)=false:=by show if_neg ‹_›
  symm;rcases bE.mp h with h | h
  .cases h;show absurd rfl e
  let⟨b,q⟩:=Gx h;show⟨b,by simp[DZ,d,q]⟩
theorem Nu{env:eO}:∀{names:List (aa×NameKind)}{x:aa},
  (names.map λ(n,k)=>if (k==nG&&env.scope.kind==.function&&env.kindOf n==some .cell) then(n,xy) else(n,k)).lookup x
   = (names.lookup x).map λk=>if (k==nG&&env.scope.kind==.function&&env.kindOf x==some .cell) then xy else k
 | [],x=>rfl
 | (n,k)::r,x=>by
  have a:=@Nu env r x;grind
theorem Ny:∀names n acc a,cellsFrom n names (acc++a)=cellsFrom n names acc++a
 | [],_,_,_=>rfl
 | (x,k)::r,n,acc,a=>by
  unfold cellsFrom;split
  .exact Ny r (n+1) ((x,n)::acc) a
  show Ny r n acc a
theorem Nx:∀{names n acc p},p∈cellsFrom n names acc->p∈acc\/(p.1,.cell)∈names
 | [],_,_,_,h=>.inl h
 | (x,k)::r,n,acc,p,h=>by
  unfold cellsFrom at h;split at h
  .rename_i a;rcases Nx h with h | h
   all_goals grind
  show(Nx h).imp id (cJ _)
theorem B7:∀{names n acc p},p∈acc->p∈cellsFrom n names acc
 | [],_,_,_,h=>h
 | (x,k)::r,n,acc,p,h=>by
  unfold cellsFrom;split
  .exact B7 (cJ _ h)
  show B7 h
theorem Nw:∀{names n acc x},(x,.cell)∈names->∃c,(x,c)∈cellsFrom n names acc
 | (y,k)::r,n,acc,x,h=>by
  unfold cellsFrom;rcases bE.mp h with h | h
  .cases h;show⟨n,B7 'c'⟩
  split
  .exact Nw h
  show Nw h
def zq3
  (g:∀h',h'=pushCells (s.heap.push { cls:=.type "dict",data:=.dict #[] }) scope.names->Q (newEnv scope *...* a (cellsFrom (*...*+1) scope.names b) c d e (some out) builtinsNs) 'j') :
  wpAny M A (newFunctionEnv scope a b [] c d e (some out)) Q E s:=by
 simp only[newFunctionEnv,Ec,eG];show aj (wpAny_alloc ?_);show aj (wpAny_layCells _ (λname kind cells=>by cases f:kind==xy<;>simp[f]) _ _ _ _ ?_);rw[show({ s with heap:=s.heap.push { cls:=.type "dict",data:=.dict #[] } }:ai).heap.objs.size=*...*+1 from oX ..];show aj (ay (ay (g _ rfl)))
abbrev jT(X:Cx)(N':List aa)(scope:iH)(a:ai)(b:Hp)(ex:List ag)(XE:af->ai->Prop):Cx:=
 { X with N:=N',gC:=a,Dv:=b,env:=compEnvC scope (cellsFrom (a.heap.objs.size+1) scope.names (iI X.env.cells scope.names [])) a.heap.objs.size X.env,outer:=X.stack,stack:=X.stack,ex:=ex,fn:=λx=>scope.names.lookup x==some .cell,pn:=[],xe:=XE }
abbrev iF(X:Cx)(N':List aa)(scope:iH)(a:ai)(b:Hp)(ex:List ag):Cx:=jT X N' scope a b ex λ_ _=>False
def Qw(X:Cx)(C:ag)(x:af)(a:ai):Prop:=
 ∃m,a.heap.Ns C m/\∀h',j9 C a.heap h'->∀b:eO,b.locals=C->⇑(passOn "comprehension.variables-let-go" x b:Sem af) (λ_ _=>False) X.xe { a with heap:=h' }
def wM(m:List (Option Nat))(a:St):St:=m.map λo=>match o with
 | none=>none
 | some j=>(a[j]?).join
structure kI(X:Cx)(N':List aa)(m:List (Option Nat))(scope:iH):Prop where
 kind:scope.kind=.function
 len:m.length=N'.length
 uniq:∀y∈scope.names,scope.names.lookup y.1\y.2
 free:∀y∈scope.names,y.2=.free->X.env.kindOf y.1\.cell\/X.env.kindOf y.1\.free
 cap:∀(i j:Nat)(x:aa),m[i]?\some j->N'[i]?\x->X.N[j]?\x/\scope.names.lookup x=some .free
def ve(X:Cx)(a:List az)(t:TT):Prop:=
 ∀b s (σ:St) H Q,Inv X b σ H s->t σ H Q->
  ⇑(forIn a true λc r=>if r=true then do let ok <-isTrue c X.env (eval c X.env);pure (tT ok) else pure (tT r)) (TP X b σ Q) X.xe s
def zzs:TT:=λ_ H Q=>Q true H
theorem ztX:ve X [] zzs:=λ_ _ σ H _ I h=>wpAny_tests_nil ⟨H,I,h⟩
theorem ztY(h:PT X c t):ve X [c] t:=λa s σ H Q I q=>wpAny_tests_one (h a s σ H Q I q)
section
variable{prog:aI}{w:aH}{A:bh}{R:Result->ai->Prop}{s:ai}
def zkU{g a e:az}{f:List az}{scope:iH}{pos:aR}{j acc:af}{env:eO}{b:af->ai->Prop}(d:∀x s,b x s->notedBy (model prog w) A env (λx C=>R (.error x) C) x s)(I:Nat->ai->Prop)
  (turn:∀n s,I n s->↥(pyNext j) (λr k=>match r with
   | none=>R (.ok .next) k
   | some v=>↥(letOwnedTupleGo a j v) (λ_ u=>↥(assign a env v) (λ_ q=>
     ↥(forIn f true λc r=>if r=true then do let ok <-isTrue c env (eval c env);pure (tT ok) else pure (tT r)) (λok i=>
      if ok=true then ↥(eval g env) (λx B=>
       ↥(call (.builtin "list.append") [acc,x]) (λ_ y=>∃m,m<n/\I m y) b B) b i
      else ∃m,m<n/\I m i) b q) b u) b k) b s)
  (n:Nat) (h:I n s) :
  codeAny (model prog w) A (.compLoop (.ListComp g [⟨a,e,f,0⟩] scope pos) 0 j acc env) R s:=by
 show codeAny_loop rfl I (λn s D=>?_) n h;show wpAny_noted ?_;show aj (xA (aj (j7 (turn n s D) (λr k t=>?_) d)));cases r with
 | none=>show ay t
 | some v=>
  show aj (j7 t (λ_ u o=>?_) d);show aj (j7 o (λ_ q E=>aj (j7 E (λok i z=>?_) d)) d);cases ok with
  | false=>show ay ⟨rfl,z⟩
  | true=>
   show aj (aj (j7 z (λx B p=>aj (j7 p (λ_ y l=>ay (ay ⟨rfl,l⟩)) d)) d))
end
abbrev jA(α:Type):=ai->Hp->List ag->α
def se(j:TI)(m:List (Option Nat))(g:jA TG)(tc:jA TT)(te:jA TE):TE:=λσ H Q=>j σ H λJ H1=>∀D,H1 D=none->∀s3 ex,
 ∃W:Nat->Nat->St->Hp->Prop,(∃k,W 0 k (wM m σ) (upd H1 D (.lst [])))/\∀i k a H',W i k a H'->
  (J.stop i H'/\Q (.ref D) H')\/(J.go i H'/\∃N:St->Hp->Prop,(∀a H',N a H'->∃d,d<k/\W (i+1) d a H')/\
   ∀x h,J.Gy i H' x h->g s3 (upd H1 D (.lst [])) ex x a h λc l=>tc s3 (upd H1 D (.lst [])) ex c l λb f=>
    if b=true then te s3 (upd H1 D (.lst [])) ex c f λv e=>∃xs,e D\.lst xs/\xs.length<sizeLine/\N c (upd e D (.lst (xs++[v]))) else N c f)
section
variable{X:Cx}{g:jA TG}
def zq4{V:List (ag×aV)}{A:St}{fp:List ag}{D:aD}(w:kI X N' m scope)(I:Inv X V A H s)(f:∀b∈fp,nt X V H b)(T:∀b∈fp,b< *...*)
  (J:D=pushCells (s.heap.push { cls:=.type "dict",data:=.dict #[] }) scope.names) :
  Inv (jT X N' scope s H fp XE) [] (wM m A) H { s with heap:=D,toks:=tk }:=by
 have E:∀b o,'f' b\o->D.get? b\o:=λb o e=>by rw[J];show Jc _ _ b o (cy _ e)
 have oq:D.Ns *...* (λ_=>none):=by rw[J];show(Heap.Ns.new s.heap (.type "dict")).keeps (Jc _ _)
 have ok:=cellsFrom_ok scope.names (s.heap.push { cls:=.type "dict",data:=.dict #[] }) (*...*+1) [] ⟨λ_ _ hm=>(nomatch hm),RY⟩ (by rw[oX];show bB _);rw[oX,<-J] at ok;have kF:∀y∈scope.names,y.2=.free->∃c,X.env.cells.lookup y.1=some c:=λy hy hf=>I.ok.has y.1 (w.free y hy hf)
 have app:cellsFrom (*...*+1) scope.names (iI X.env.cells scope.names [])=cellsFrom (*...*+1) scope.names []++iI X.env.cells scope.names []:=Ny _ _ [] _
 /- a cell: of its own,or one from around -/
 have t:∀x c,(cellsFrom (*...*+1) scope.names (iI X.env.cells scope.names [])).lookup x\c->((x,c)∈cellsFrom (*...*+1) scope.names []/\scope.names.lookup x\.cell)\/(X.env.cells.lookup x\c/\scope.names.lookup x\.free):=λx c e=>by
  have hm:=t9 e;rw[app] at hm;symm;rcases bx.mp hm with hm | hm
  .refine .inl ⟨hm,?_⟩;rcases Nx hm with z | z
   .cases z
   show w.uniq _ z
  rcases W5 hm with z | ⟨z,U⟩
  .cases z
  let⟨M,q⟩:=kF _ z rfl;rw[q] at U;show .inr ⟨by rw[q,U];rfl,w.uniq _ z⟩
 have old:∀x c,X.env.cells.lookup x\c->c< *...*:=λx c e=>by let⟨v,z⟩:=I.cell x c e;show z.lt
 show⟨⟨I.ok.mod,w.kind,I.ok.glob,I.ok.blt,bB _,λx y c e1 e2=>?inj,λx hx=>?_,λx c hx e=>?cab,I.ok.hd,I.ok.frames,.inl rfl,λb r=>⟨cC (T b r),λx c e=>?exf⟩,
  λb o e=>I.bs b o e,bK I.ok.u6 I.sz,λb o e r=>?_,λb r z=>?_,I.stack,I.Y2⟩,
  rfl,I.bare,Un.kept E,⟨_,oq,λi x v h1 d h3=>?_⟩,λx c e=>?_,I.aU.fresh (bB _),λx c e=>?frc,λp hp=>(by cases hp),I.aU.kept E,?_⟩
 case inj=>
  rcases t x c e1 with⟨g,_⟩ | ⟨o1,_⟩<;>rcases t y c e2 with⟨R,_⟩ | ⟨Q,_⟩
  .exact PySem.name_of_addr ok.apart g R
  .exact absurd (old y c Q) (Il.mpr (bK (iZ _) (ok.empty x c g).2))
  .exact absurd (old x c o1) (Il.mpr (bK (iZ _) (ok.empty y c R).2))
  show I.ok.inj x y c o1 Q
 case cab=>
  rcases t x c e with⟨g,_⟩ | ⟨_,z⟩
  .exact bK (iZ _) (ok.empty x c g).2
  have h:(scope.names.lookup x==some .cell)=true:=hx;rw[z] at h;cases h
 case exf=>
  rcases t x c e with⟨g,_⟩ | ⟨o1,_⟩
  .exact rf (jm (nK (T b r)) (ok.empty x c g).2)
  show(f b r).2.2.2.2.1 x c o1
 case frc=>
  rcases t x c e with⟨g,_⟩ | ⟨o1,_⟩
  .exact I.aU.fresh (bK (iZ _) (ok.empty x c g).2)
  show I.pT x c o1
 .have h:(relabel scope X.env).names.lookup x\.cell\/(relabel scope X.env).names.lookup x\.free:=hx;have e:(relabel scope X.env).names.lookup x=(scope.names.lookup x).map λk=>if (k==nG&&X.env.scope.kind==.function&&X.env.kindOf x==some .cell) then xy else k:=Nu
  rw[e] at h;have hf:(x,nG)∈scope.names\/(x,xy)∈scope.names:=by
   cases q:scope.names.lookup x with
   | none=>rw[q] at h;simp at h
   | some k=>
    rw[q] at h;have hm:=t9 q;by_cases P:k=.free
    .subst P;show .inl hm
    have Y:(k==nG)=false:=by show if_neg ‹_›
    simp![Y,lG,RA,fZ,eC,gw] at h;rcases h with z | z
    .subst z;show .inr hm
    show absurd z P
  show ∃c,(cellsFrom (*...*+1) scope.names (iI X.env.cells scope.names [])).lookup x=some c
  rcases hf with hf | hf
  .let⟨c,K⟩:=L1 (cells:=X.env.cells) (acc:=[]) hf;show Gx (B7 K)
  let⟨c,K⟩:=Nw (n:=*...*+1) (acc:=iI X.env.cells scope.names []) hf;show Gx K
 .rcases(f b r).2.2.2.1 with z | z
  .exact I.ok.Cy b o e z
  show absurd (jm (cf (I.ok.bs b o e).1) z) (qf _)
 .rcases bE.mp (I.NG b z) with q | q
  .exact(f b r).2.1 q
  show(f b r).2.2.1 q
 .unfold wM at d;rw[b8] at d;cases q:m[i]? with
  | none=>rw[q] at d;cases d
  | some o=>
   rw[q] at d;cases o with
   | none=>cases d
   | some j=>
    simp![lG,gw] at d;have L:A[j]?\some v:=by
     cases z:A[j]? with
     | none=>rw[z] at d;cases d
     | some a=>rw[z] at d;simp at d;rw[d]
    let⟨hN,F⟩:=w.cap i j x q h1;have C:=t9 F;let⟨m0,hn0,hl⟩:=I.loc;have W:=w.free _ C rfl;have N:u7 X.env.scope x:=W.elim (λz=>.inr (.inl z)) (λz=>.inr (.inr z));let⟨u,Z,lu⟩:=hl j x v hN L N;show⟨u,Z,.inr ⟨?_,?_⟩⟩
    .show(relabel scope X.env).names.lookup x\.cell\/(relabel scope X.env).names.lookup x\.free;have e:(relabel scope X.env).names.lookup x=(scope.names.lookup x).map λk=>if (k==nG&&X.env.scope.kind==.function&&X.env.kindOf x==some .cell) then xy else k:=Nu
     rw[e,F];simp![lG];split
     .exact .inl rfl
     show .inr rfl
    rcases lu with⟨k,_⟩ | ⟨_,c,e,z⟩
    .rcases W with z | z<;>· rw[k] at z;cases z
    let⟨M,S⟩:=Gx (B7 (names:=scope.names) (n:=*...*+1) (L1 (cells:=X.env.cells) (acc:=[]) C).choose_spec);have:X.env.cells.lookup x\M:=by
     rcases t x M S with⟨_,z⟩ | ⟨z,_⟩
     .rw[F] at z;cases z
     show z
    rw[e] at this;cases this;let⟨B,O,hd⟩:=z;show⟨c,S,B,E c B O,hd⟩
 .rcases t x c e with⟨g,_⟩ | ⟨o1,_⟩
  .exact⟨none,(ok.empty x c g).1⟩
  let⟨v,B,O,hd⟩:=I.cell x c o1;show⟨v,B,E c B O,hd⟩
 show(wM m A).length=N'.length;unfold wM;rw[aE,w.len]
def Qv(X:Cx)(a:ai)(d:Hp)(ex:List ag):Prop:=∃c σ,Inv X c σ d a/\∀b∈ex,nt X c d b/\b<a.heap.objs.size
def XR{E:St}
  {XE:ai->af->ai->Prop} (C3:∀s3 x t,XE s3 x t->notedBy (model X.prog X.w) X.A (compEnvC scope (cellsFrom (s3.heap.objs.size+1) scope.names (iI X.env.cells scope.names [])) s3.heap.objs.size X.env) (Qw X s3.heap.objs.size) x t)
  (hc:X.calm=true) (cs:kI X N' m scope) (hi:PI X tg iter wi) (hg:∀s3 B ex,PG (jT X N' scope s3 B ex (XE s3)) tg (g s3 B ex)) (ht:∀s3 B ex,ve (jT X N' scope s3 B ex (XE s3)) ifs (tc s3 B ex))
  (he:∀s3 B ex,Qv X s3 B ex->PE (jT X N' scope s3 B ex (XE s3)) elt (te s3 B ex)) (I:Inv X z E H s) (h:se wi m g tc te E H Q)
  (fin:∀D C t H',Inv X z E H' t->nt X z H' C->(∃m,t.heap.Ns C m)->Q (.ref D) H'->compPost (model X.prog X.w) X.A X.xe use Q' (.ref D) C (.ok .next) t) :
  ⇑(eval iter X.env) (λx cz=>⇑(pyIter x) (λit pF=>⇑(newList []) (λacc uC=>
   ⇑(newFunctionEnv scope X.env.globals (iI X.env.cells scope.names []) [] X.env.qual none .none (some X.env)) (λDi GG=>
    codeAny (model X.prog X.w) X.A (.compStart 'd' 0 it acc { Di with scope:=relabel scope X.env }) (compPost (model X.prog X.w) X.A X.xe use Q' acc Di.locals) GG) X.xe uC) X.xe pF) X.xe cz) X.xe s:=by
 show aX (hi z s E H _ I h) λv s1 h1=>aX h1 λOa s2 h2=>?_
 symm;let⟨it,fp,tn,J,q,e,I2,T,br,f2,h⟩:=h2;subst e;show jj (zq3 λm6 O=>?_);have hf:q s2.heap.objs.size=none:=I2.aU.fresh (bB _);obtain⟨W,⟨k0,w0⟩,turn⟩:=h s2.heap.objs.size hf { s2 with heap:=s2.heap.push { cls:=.type "list",data:=.seq ([]:List af).toArray } } fp;have Z:Inv X z E (upd q s2.heap.objs.size (.lst [])) { s2 with heap:=s2.heap.push { cls:=.type "list",data:=.seq ([]:List af).toArray } }:=I2.ZC (its:=[]) (t':=s2.toks) .nil ∅;have M:∀b∈fp,b<s2.heap.objs.size:=λb f=>by
  let⟨o,e,l⟩:=T.obj _ _ br b f;show cf e
 have f3:∀b∈fp,nt X z (upd q s2.heap.objs.size (.lst [])) b:=λb f=>⟨by rw[bQ (cC (M b f))];show(f2 b f).1,(f2 b f).2⟩
 generalize ZV:({ s2 with heap:=s2.heap.push { cls:=.type "list",data:=.seq ([]:List af).toArray } }:ai)=s3 at *;have hC:s3.heap.objs.size=s2.heap.objs.size+1:=by rw[<-ZV];show oX ..
 have O5:∀b∈fp,b<s3.heap.objs.size:=λb f=>by rw[hC];show nK (M b f)
 have k3:∀b o,s2.heap.get? b\o->s3.heap.get? b\o:=λb o e=>by rw[<-ZV];show cy _ e
 have k1:∀b o,s3.heap.get? b\o->m6.get? b\o:=λb o e=>by rw[O];show Jc _ _ b o (cy _ e)
 have J0:=zq4 (XE:=XE s3) (tk:=s3.toks) cs Z f3 O5 O;have sD:tn 0 m6:=T.keep _ _ _ br λb _ o e=>k1 b o (k3 b o e)
 have O4:∀{H':Hp},(∀b∈fp,H' b=none)->∀b∈fp,nt (jT X N' scope s3 (upd q s2.heap.objs.size (.lst [])) fp (XE s3)) [] H' b:=λhn b f=>
  ⟨hn b f,cC (O5 b f),J0.ok.C8 b f,.inl f,(J0.ok.exf b f).2,λp hp=>by cases hp⟩
 have uW:∀b∈fp,(upd q s2.heap.objs.size (.lst [])) b=none:=λb f=>(f3 b f).1
 have loop:codeAny (model X.prog X.w) X.A (.compLoop 'd' 0 (.ref it) (.ref s2.heap.objs.size) (compEnvC scope (cellsFrom (s3.heap.objs.size+1) scope.names (iI X.env.cells scope.names [])) s3.heap.objs.size X.env))
   (compPost (model X.prog X.w) X.A X.xe use Q' (.ref s2.heap.objs.size) s3.heap.objs.size) { s3 with heap:=m6 }:=by
  show zkU (C3 s3) (λn t=>∃i P H',Inv (jT X N' scope s3 (upd q s2.heap.objs.size (.lst [])) fp (XE s3)) [] P H' t/\tn i t.heap/\(∀b∈fp,H' b=none)/\W i n P H') ?_ k0 ⟨0,_,_,J0,sD,uW,w0⟩;rintro n s4 gv;symm;let⟨i,V,S,I4,Y3,tq,w4⟩:=gv;rcases turn i n V S w4 with⟨stop,qn⟩ | ⟨go,N,hN,step⟩
  .refine aX (T.done (jT X N' scope s3 (upd q s2.heap.objs.size (.lst [])) fp (XE s3)) rfl rfl rfl hc i [] s4 V S _ I4 (O4 tq) Y3 stop) λr s5 j=>?_
   let⟨hr,L⟩:=j;subst hr;have pQ:∀b∈fp,(b∈X.ex\/X.gC.heap.objs.size<=b)/\b≠X.env.locals/\(∀x c,X.env.cells.lookup x\c->c≠b)/\∀p∈X.pn++z,p.1≠b:=λb f=>⟨(f2 b f).2.2.2.1,(f2 b f).2.1,(f2 b f).2.2.2.2.1,(f2 b f).2.2.2.2.2⟩
   have I6:Inv X z E S s5:=Z.ab8 (ch:=fp) L.os L.base L.aU L.bare pQ;let⟨m5,hn5,l⟩:=id L.loc;show fin _ _ s5 S I6 (Z.qR (bB _) L.free) ⟨m5,hn5⟩ qn
  show aX (T.item (jT X N' scope s3 (upd q s2.heap.objs.size (.lst [])) fp (XE s3)) rfl rfl rfl hc i [] s4 V S _ I4 (O4 tq) Y3 go) λr s5 j=>?_
  let⟨u,hr,h5⟩:=j;subst hr;show aX h5 λ_ s6 j=>?_
  let⟨x,H6,I6,r6,y6,NI,Hy⟩:=j;have I6':=I6.pinned (O4 Hy) (T.obj _ _ NI);show aX (hg _ _ _ _ s6 V H6 x u _ I6' r6 (step x H6 y6)) λ_ s7 j=>?_
  let⟨Y,H7,I7,q7⟩:=j;show aX (ht _ _ _ _ s7 Y H7 _ I7 q7) λb s8 j=>?_
  let⟨H8,I8,q8⟩:=j;have again:∀{K:ai}{U:St}{F:Hp},Inv (jT X N' scope s3 (upd q s2.heap.objs.size (.lst [])) fp (XE s3)) ([]++Bh fp s6.heap) U F K->N U F->∃m,m<n/\∃i P H',Inv (jT X N' scope s3 (upd q s2.heap.objs.size (.lst [])) fp (XE s3)) [] P H' K/\tn i K.heap/\(∀b∈fp,H' b=none)/\W i m P H':=λ{K U F} R n9=>by
   let⟨m',hm,w9⟩:=hN U F n9;show⟨m',hm,i+1,U,F,R.Gz,T.keep _ _ _ NI λb f o e=>(R.pin (b,o) (fT _ (fT _ (Gv f e)))).1,λb f=>?_,w9⟩;let⟨o,e,d⟩:=T.obj _ _ NI b f;show(R.pin (b,o) (fT _ (fT _ (Gv f e)))).2.1
  cases b with
  | false=>show again I8 q8
  | true=>
   show aX (he _ _ _ ⟨z,E,Z,λb f=>⟨f3 b f,O5 b f⟩⟩ _ s8 Y H8 _ I8 q8) λy K j=>?_
   let⟨v9,F,R,r9,xs,hD,hz,q9⟩:=j;show aX (Gh _ K Y F (.ref s2.heap.objs.size) [v9] (.ref s2.heap.objs.size) [y] (λ_ H'=>N Y H') R rfl (.cons r9 .nil) ⟨_,xs,v9,rfl,rfl,hD,hz,q9⟩) λ_ sI j=>?_
   let⟨l,H10,I10,l,q10⟩:=j;show again I10 q10
 show codeAny_compStart_list loop (T.self _ 0 _ _ _ sD loop)
def zq5{XE:ai->af->ai->Prop}(G:∀s3 x f,XE s3 x f->notedBy (model X.prog X.w) X.A (compEnvC scope (cellsFrom (s3.heap.objs.size+1) scope.names (iI X.env.cells scope.names [])) s3.heap.objs.size X.env) (Qw X s3.heap.objs.size) x f)(B:X.calm=true)(i:kI X N' m scope)(v:PI X tg iter wi)(z:∀s3 a ex,PG (jT X N' scope s3 a ex (XE s3)) tg (g s3 a ex))(p:∀s3 a ex,ve (jT X N' scope s3 a ex (XE s3)) ifs (tc s3 a ex))
  (he:∀s3 a ex,Qv X s3 a ex->PE (jT X N' scope s3 a ex (XE s3)) elt (te s3 a ex)) (r:∀x,foldedSetIterable iter X.env x=pure x:=by intro _;rfl):PE X 'd' (se wi m g tc te):=by
 intro J s σ H Q I h;have n:∀y∈scope.names,y.2=.free->∃c,X.env.cells.lookup y.1\c:=λy j hf=>I.ok.has y.1 (i.free y j hf)
 show SY (use:=none) rfl r (Yr n) i.kind (λy j u=>by rw[i.uniq y j,u]) (XR G B i v z p he I h λD C f H' F d ⟨l,t⟩ q=>?_);show⟨l,t,λh' k=>⟨.ref D,H',F.turned (t':=f.toks) (λb o E e=>(k.2 b E).trans e) d.1 d.2.1 d.2.2.2.1 d.2.2.2.2.1 d.2.2.2.2.2,rfl,q⟩⟩
theorem V9(f:X.calm=true)(h:kI X N' m scope)(d:PI X tg iter wi)(e:∀s3 a ex,PG (iF X N' scope s3 a ex) tg (g s3 a ex))(b:∀s3 a ex,ve (iF X N' scope s3 a ex) ifs (tc s3 a ex))
  (he:∀s3 a ex,PE (iF X N' scope s3 a ex) elt (te s3 a ex)) (c:∀x,foldedSetIterable iter X.env x=pure x:=by intro _;rfl):PE X 'd' (se wi m g tc te):=zq5 (XE:=λ_ _ _=>False) (λ_ _ _ z=>z.elim) f h d e b (λs3 a ex _=>he s3 a ex) c
def zq6{XE:ai->af->ai->Prop}(C3:∀s3 x k,XE s3 x k->notedBy (model X.prog X.w) X.A (compEnvC scope (cellsFrom (s3.heap.objs.size+1) scope.names (iI X.env.cells scope.names [])) s3.heap.objs.size X.env) (Qw X s3.heap.objs.size) x k)(hN:X.N.Nodup)(G:X.N[i]?\x)(hx:Loc X.env.scope x)
  (U:X.calm=true) (l:kI X N' m scope) (S:PI X tg iter wi) (T:∀s3 f ex,PG (jT X N' scope s3 f ex (XE s3)) tg (g s3 f ex)) (L:∀s3 f ex,ve (jT X N' scope s3 f ex (XE s3)) ifs (tc s3 f ex))
  (he:∀s3 f ex,Qv X s3 f ex->PE (jT X N' scope s3 f ex (XE s3)) elt (te s3 f ex)) (M:∀x,foldedSetIterable iter X.env x=pure x:=by intro _;rfl)
  (F:swapsWith 'd' (some (.Name x d)) B.line X.env=pure true:=by rfl)
  (t:X.fn x=true\/X.env.scope.names.lookup x\.local:=by first | show .inl rfl | show .inr rfl | assumption) :
  PS X (.Assign [.Name x d] 'd' B) (ED (se wi m g tc te) (Fd i)):=by
 intro W s σ H D I h;have K:∀y∈scope.names,y.2=.free->∃c,X.env.cells.lookup y.1\c:=λy p t=>I.ok.has y.1 (l.free y p t)
 rw[exec_Assign_Name_used _ _ _ _ F];show aj (xA (aj ?_));show aj (j7 (SY (use:=some (assign (.Name x d) X.env)) (Q:=λ_ k=>SP X W D .next k) rfl M (Yr K) l.kind (λy p R=>by rw[l.uniq y p,R]) (XR C3 U l S T L he I h λA C k H' Z j ⟨J,P⟩ q=>?_)) (λ_ k O=>ay (ay O)) λ_ _ e=>e);show R0 (XZ Z hN G hx (show RelV (.ref A) (.ref A) from rfl) (λs2 Y r=>?_) t);let⟨a,n,u⟩:=r;have v:C≠a:=by
  rcases u with rfl | u
  .exact j.2.1
  show λz=>j.2.2.2.2.1 x a u z.symm
 show⟨J,P.sameBut n v,λh' E=>⟨_,H',Y.turned (t':=s2.toks) (λb o V e=>(E.2 b V).trans e) j.1 j.2.1 j.2.2.2.1 j.2.2.2.2.1 j.2.2.2.2.2,q⟩⟩
theorem Lx(hN:X.N.Nodup)(e:X.N[i]?\x)(hx:Loc X.env.scope x)
  (n:X.calm=true) (o:kI X N' m scope) (j:PI X tg iter wi) (k:∀s3 a ex,PG (iF X N' scope s3 a ex) tg (g s3 a ex)) (f:∀s3 a ex,ve (iF X N' scope s3 a ex) ifs (tc s3 a ex))
  (he:∀s3 a ex,PE (iF X N' scope s3 a ex) elt (te s3 a ex)) (h:∀x,foldedSetIterable iter X.env x=pure x:=by intro _;rfl)
  (d:swapsWith 'd' (some (.Name x b)) c.line X.env=pure true:=by rfl)
  (l:X.fn x=true\/X.env.scope.names.lookup x\.local:=by first | show .inl rfl | show .inr rfl | assumption) :
  PS X (.Assign [.Name x b] 'd' c) (ED (se wi m g tc te) (Fd i)):=zq6 (XE:=λ_ _ _=>False) (λ_ _ _ z=>z.elim) hN e hx n o j k f (λs3 a ex _=>he s3 a ex) h d l
end
def U4:2<=sizeLine:=by decide
def Inv.uA{h:St}{fp:List ag}(I:Inv X g h H s)(k:∀b o,b∉fp->'f' b\o->h'.get? b\o)(f:∀b∈fp,nt X g H b) :
  Inv X g h H { s with heap:=h',toks:=t' }:=by
 have i:∀b u,H b\u->b∉fp:=λb u e z=>by rw[(f b z).1] at e;cases e
 show I.step (g':=s.gens) (d':=s.drawn) (ch:=fp) (λb d=>⟨(f b d).2.2.2.1,(f b d).2.1,(f b d).2.2.2.2.1,(f b d).2.2.2.2.2⟩) (λb o _ _ a e _=>k b o a e) (λb o _ _ a e _=>⟨o.slots,k b o a e⟩) (λ_ _ _ _ n=>n)
  (λb o a e=>⟨o,k b o a e⟩) (λ_ _ e=>e) (λ_ _ _ e=>e) (λb ps e=>⟨#[],by rw[e];rfl⟩) (λm hm=>?_) (λb u e=>?_) I.bare
 .let⟨o,l,p,j,r⟩:=hm;show⟨o,l,p,k _ o (λz=>(f _ z).2.1 rfl) j,r⟩
 show(I.aU b u e).wu (λc v a q=>k c v ?_ q) (λ_ q=>q) λ_ _ q=>q
 rcases a with z | z
 .rw[z];show i b u e
 show i c _ z
def Inv.YY{j:St}{fp:List ag}{a:ag}(I:Inv X i j H s)(k:∀b o,b∉fp->'f' b\o->h'.get? b\o)(f:∀b∈fp,nt X i H b)
  (p:*...*<=a) (new:gc X.prog X.w (upd H a o) h' a o):Inv X i j (upd H a o) { s with heap:=h',toks:=t' }:=by
 have h:H a=none:=I.aU.fresh p;have l:∀b u,H b\u->b∉fp:=λb u e z=>by rw[(f b z).1] at e;cases e
 show I.step (g':=s.gens) (d':=s.drawn) (ch:=fp) (λb g=>⟨(f b g).2.2.2.1,(f b g).2.1,(f b g).2.2.2.2.1,(f b g).2.2.2.2.2⟩) (λb o _ _ d e _=>k b o d e) (λb o _ _ d e _=>⟨o.slots,k b o d e⟩)
  (λb o _ q n=>by rw[bQ (cC (jm (cf q) p))];show n)
  (λb o d e=>⟨o,k b o d e⟩) (λb zs q=>by rw[bQ (iL q h)];show q) (λb ob zs q=>by rw[bQ (iL q h)];show q) (λb ps q=>⟨#[],by rw[bQ (iL q h),q];rfl⟩) (λm hm=>?_) (λb u q=>?_) I.bare
 .let⟨o,x,y,t,r⟩:=hm;show⟨o,x,y,k _ o (λz=>(f _ z).2.1 rfl) t,r⟩
 by_cases g:b=a
 .subst g;rw[eV] at q;cases q;show new
 rw[bQ g] at q;show(I.aU b u q).wu (λc v d z=>k c v ?_ z) (λc z=>by rw[bQ (iL z h)];show z) λc zs z=>by rw[bQ (iL z h)];show z
 rcases d with rfl | d
 .exact l _ _ q
 show l _ _ d
def HG(x:aa):It:=⟨λi _=>i<x.cps.size,λi H v H'=>H'=H/\∃c,x.cps[i]?\c/\v=.str ⟨#[c]⟩,λi _=>i=x.cps.size⟩
def zq7{K:ao}{D:az}(J:["enumerate","zip","dict_itemiterator","dict_reverseitemiterator","odict_iterator","itertools.zip_longest","itertools.pairwise"].contains n=false)
  (W:∀C:bh,C.handled=none->Walks P w C f [f] [f] x.cps.size (SignAt x) (λi h=>h.IsStrIter f n x t i))
  (F:∀A i s Q E,s.heap.IsStrIter f n x t i->Q (.ref f) s->wpAny (model P w) A (pyIter (.ref f)) Q E s):Turn P w K D (HG x) [f] f (λi h=>h.IsStrIter f n x t i) where
 mem:=by show .head _
 obj:=λi h st b m=>by
  have e:b=f:=by simpa using m
  subst e;symm;let⟨o,e,c,d⟩:=st;show⟨o,e,λv z=>by rw[d] at z;cases z⟩
 keep:=λi h h' st k=>by
  symm;let⟨o,e,r⟩:=st;show⟨o,k f 'c' o e,r⟩
 item:=by
  intro X p hw q j i B s σ H E I hf st g;subst p hw q;show(W X.A (I.ok.hd j)).item i s _ _ g st λv h' tk hv y kk=>?_
  symm;let⟨c,u,hx,rfl⟩:=hv;have M:Inv X B σ H { s with heap:=h',toks:=tk }:=I.uA kk hf;symm;let⟨o,e,L,d⟩:=id y;show⟨_,rfl,yo (s:={ s with heap:=h',toks:=tk }) e L d J ⟨.str ⟨#[c]⟩,H,M,⟨u,rfl⟩,⟨rfl,c,hx,rfl⟩,y,λb m=>(hf b m).1⟩⟩
 done:=by
  intro X p hw q j i B s σ H E I hf st g;subst p hw q;have e:i=x.cps.size:=g;subst e;show(W X.A (I.ok.hd j)).done s _ _ st λh' tk kk=>⟨rfl,I.uA kk hf⟩
 self:=F
def zv8{c:St}{R:It->Hp->Prop}(I:Inv X g c H s)(q:R (HG x) H) :
  ⇑(pyIter (.str x t)) (HF X g c tg R) E s:=by
 have fin:∀(o:aV)(n:String),(k:["enumerate","zip","dict_itemiterator","dict_reverseitemiterator","odict_iterator","itertools.zip_longest","itertools.pairwise"].contains n=false)->
   (W:∀a:bh,a.handled=none->Walks X.prog X.w a *...* [*...*] [*...*] x.cps.size (SignAt x) (λi h=>h.IsStrIter *...* n x t i))->
   (j:∀(A:bh)(i:Nat)(d:ai)(Q:af->ai->Prop)(E:af->ai->Prop),d.heap.IsStrIter *...* n x t i->Q (.ref *...*) d->wpAny (model X.prog X.w) A (pyIter (.ref *...*)) Q E d)->
   (s.heap.push o).IsStrIter *...* n x t 0->HF X g c tg R (.ref *...*) { s with heap:=s.heap.push o }:=λo n k W j st=>by
  show⟨*...*,[*...*],_,_,H,rfl,I.kept (t':=s.toks) λb o e=>cy _ e,zq7 k W j,st,λb m=>?_,q⟩;have e:b=*...*:=by simpa using m
  subst e;show I.qR (bB _) (I.aU.fresh (bB _))
 cases l:x.cps.all (·<128)
 .exact wpAny_pyIter_wide l (fin _ _ (by rfl) (λa f=>Walks.strWide f _ x t) (λ_ _ _ _ _ st q=>wpAny_pyIter_striter_wide st q) ⟨_,cT _ rfl,rfl,rfl⟩)
 show wpAny_pyIter_ascii l (fin _ _ (by rfl) (λa f=>Walks.strAscii f _ x t) (λ_ _ _ _ _ st q=>wpAny_pyIter_striter_ascii st q) ⟨_,cT _ rfl,rfl,rfl⟩)
def zzt(K:ao)(tl:TE):TI:=λσ H R=>tl σ H λx H1=>(∃a,x=.ref a/\(∃xs,bS K H1 a xs)/\R (HH K a) H1)\/(∃a,x=.ref a/\(∃xs,cY K H1 a xs)/\R (Qs K a) H1)\/(∃z,x=.str z/\R (HG z) H1)
def zv9(hl:PE X l tl):PI X tg l (zzt X.K tl):=by
 intro r s σ H R I h;show aX (hl r s σ H _ I h) λv s1 n=>?_
 let⟨x,H1,d,f,m⟩:=n;symm;rcases m with⟨a,e,⟨xs,g⟩,q⟩ | ⟨a,e,⟨xs,g⟩,q⟩ | ⟨z,e,q⟩
 .subst e;cases f;symm;let⟨its,j,p,hz⟩:=d.list g;show tZ p.isList ?_;show⟨'k',['k'],_,_,H1,rfl,d.kept (t':=s1.toks) λb o e=>cy _ e,XY a _,⟨_,cT _ rfl,rfl,rfl⟩,λb i=>?_,q⟩;have e:b='k':=by simpa using i
  subst e;show d.qR (bB _) (d.aU.fresh (bB _))
 .subst e;cases f;symm;let⟨its,j,p,hz⟩:=d.tuple g;show wpAny_pyIter_tuple (show s1.heap.IsTuple a its.toArray from p) ?_;show⟨'k',['k'],_,_,H1,rfl,d.kept (t':=s1.toks) λb o e=>cy _ e,zmO a _,⟨_,cT _ rfl,rfl,rfl⟩,λb i=>?_,q⟩;have e:b='k':=by simpa using i
  subst e;show d.qR (bB _) (d.aU.fresh (bB _))
 subst e;symm;let⟨t,rfl⟩:=f;show zv8 d q
def Qt(K:ao)(a:ag):It:=
 ⟨λi H=>∃xs x,bS K H a xs/\xs[i]?\x,λi H v H'=>∃t,v=.ref t/\H t=none/\∀xs,bS K H a xs->∃x,xs[i]?\x/\H'=upd H t (.tup [.int i,x]),λi H=>∃xs,bS K H a xs/\xs.length<=i⟩
def Qq(K:ao)(a b:ag):It:=
 ⟨λi H=>∃xs ys x y,bS K H a xs/\bS K H b ys/\xs[i]?\x/\ys[i]?\y,λi H v H'=>∃t,v=.ref t/\H t=none/\∀xs ys,bS K H a xs->bS K H b ys->∃x y,xs[i]?\x/\ys[i]?\y/\H'=upd H t (.tup [x,y]),
  λi H=>∃xs ys,bS K H a xs/\bS K H b ys/\(xs.length<=i\/ys.length<=i)⟩
theorem U3{fp:List ag}(h:∀b∈fp,H b=none)(c:∀b∈fp,b≠t):∀b∈fp,upd H t o b=none:=λb a=>by rw[bQ (c b a)];show h b a
def zmX(he:IsEnumOut s.heap e b i old T)
  (f:∀h',IsEnum h' e b i old->j9 e s.heap h'->Q () 'j') :
  ↥(letOwnedTupleGo (.Tuple a c pos) (.ref e) (.ref T)) Q E s:=by
 show aj (DD he ?_);show wpAny _ _ (if (["enumerate","zip","dict_itemiterator","dict_reverseitemiterator","odict_iterator","itertools.zip_longest","itertools.pairwise"].contains "enumerate" &&
   (#[rawInt T,.bool false,.ref b,rawInt i,.none,old]:Array af)[0]?==some (rawInt T))=true then _ else _) Q E s
 rw[if_pos (by show o5 _)];show aj (mB ?_);show wpAny_setField_rec he (by show gh _) λh' g d=>f h' g d
def zoq{K:ao}(a e j)(J:e≠j):Turn P w K (.Tuple n L pos) (Qt K a) [e,j] e (λi h=>(∃old,IsEnum h e j i old)/\h.IsListIter j a i) where
 mem:=by show .head _
 obj:=λi h st b f=>by
  symm;obtain⟨⟨old,g⟩,o,m,c,d⟩:=st;grind
 keep:=λi h h' st k=>by
  symm;obtain⟨⟨old,g⟩,m⟩:=st;show⟨⟨old,k e 'c' _ g⟩,m.at λo q=>k j (by show .tail _ (.head _)) o q⟩
 item:=by
  intro X B hw C F i Y s σ H E I hf st A;subst B hw C;symm;let⟨xs,x,r,hx⟩:=A;let⟨its,v,p,hz⟩:=I.list r;let⟨u,Q,M⟩:=v.get hx;obtain⟨⟨old,g⟩,m⟩:=st;show wpAny_pyNext_enum_item g m p.isList (x:=u) (by simpa using Q) J λh' W V e3 Z kk=>?_
  show⟨_,rfl,zmX W λD U t=>?_⟩;have y:*...*≠e:=rf (cf g);have R:*...*≠j:=by let⟨o,q,l⟩:=m;show rf (cf q)
  have S:D.get? *...*=some { cls:=.type "tuple",data:=.seq #[.int i s.toks,u] }:=t.extBut _ _ y e3;have N:H *...*=none:=I.aU.fresh (bB _);have new:gc X.prog X.w (upd H *...* (.tup [.int i,x])) D *...* (.tup [.int i,x]):=⟨U4,[.int i s.toks,u],.cons ⟨_,rfl⟩ (.cons M .nil),⟨_,S,rfl,_,rfl⟩⟩
  show⟨.ref *...*,upd H *...* (.tup [.int i,x]),I.YY (fp:=[e,j]) (λb o f q=>t.extBut b o (λz=>f (by show z▸.head _)) (kk b o (λz=>f (by show z▸.head _)) (λz=>f (by show z▸.tail _ (.head _))) q)) hf (bB _) new,rfl,
   ⟨_,rfl,N,λys O=>⟨x,by rw[I.CC O r];show hx,rfl⟩⟩,⟨⟨u,U⟩,V.extBut t.extBut (Ne.symm J)⟩,U3 (λb f=>(hf b f).1) λb f=>?_⟩
  grind
 done:=by
  intro X B hw C F i Y s σ H E I hf st A;subst B hw C;symm;let⟨xs,r,hx⟩:=A;let⟨its,v,p,hz⟩:=I.list r;obtain⟨⟨old,g⟩,m⟩:=st;have hl:=v.length;show wpAny_pyNext_enum_end (I.ok.hd F) g m p.isList (by simp;cbv) λh' T=>⟨rfl,I.uA (fp:=[e,j]) (t':=s.toks) (λb o f q=>T b o (λz=>f (by show z▸.tail _ (.head _))) q) hf⟩
 self:=λ_ _ _ _ _ st h=>by
  symm;obtain⟨⟨old,g⟩,_⟩:=st;show RX g h
def zx5(K:ao)(c:TA):TI:=λσ H R=>c σ H λb H1=>∃a xs,b=[.ref a]/\fq K H1 a xs/\R (Qt K a) H1
def ztZ(x:Gl X "enumerate")(w:X.mg "enumerate"=none)(y:PA X [a] g)(v:starEach [a] X.env=[(false,eval a X.env)]:=by rfl):PI X (.Tuple elts x1 GB) (.Call (.Name "enumerate" p) [a] [] pos) (zx5 X.K g):=by
 intro D s σ H R I h;show Call_ (qH I x w boot_enumerate (xV (aX (y pos D s σ H _ I h) λus s1 C=>?_) v rfl));let⟨E,H1,d,o,t⟩:=C;symm;let⟨l,xs,e,hl,q⟩:=t;subst e;let⟨u,rfl,m⟩:=gI o;cases m;let⟨z,its,n,r,e⟩:=d.cB hl;show call_enumerate_1 e λh' j A e3 kk=>?_
 show RX j ?_;have B:'k'+1≠'k':=by room
 show⟨'k'+1,['k'+1,'k'],_,_,H1,rfl,d.kept (t':=s1.toks) kk,zoq l _ _ B,⟨⟨_,j⟩,A⟩,λb f=>?_,q⟩;have i:'k'<=b:=by
  rcases bE.mp f with rfl | f
  .exact iZ _
  have e:b='k':=by simpa using f
  show II e.symm
 show d.qR i (d.aU.fresh i)
def zq8{K:ao}(a b z TI TO i1 j)(D1:TI≠z/\TO≠z/\i1≠z/\j≠z/\TI≠TO/\TI≠i1/\TI≠j/\TO≠i1/\TO≠j/\i1≠j):Turn P w K (.Tuple elts x1 GB) (Qq K a b) [z,TI,TO,i1,j] z
  (λi h=>IsZip h z TI TO .none/\IsPair h TI (.ref i1) (.ref j)/\(∃a b,IsPair h TO a b)/\h.IsListIter i1 a i/\h.IsListIter j b i) where
 mem:=by room
 obj:=λi h st c f=>by
  symm;obtain⟨m,t,⟨u,v,r⟩,⟨o1,g1,_,C⟩,⟨o2,g2,_,J⟩⟩:=st;simp![bE,jX,or_false] at f;symm;rcases f with rfl | rfl | rfl | rfl | rfl
  .exact⟨_,m,λv z=>by have L:QQ _=Ii v:=z;cases L⟩
  .exact⟨_,t,λv z=>by have L:Dz _ _=Ii v:=z;cases L⟩
  .exact⟨_,r,λv z=>by have L:Dz _ _=Ii v:=z;cases L⟩
  .exact⟨_,g1,λv z=>by rw[C] at z;cases z⟩
  show⟨_,g2,λv z=>by rw[J] at z;cases z⟩
 keep:=λi h h' st k=>by
  symm;obtain⟨m,t,⟨u,v,r⟩,B,A⟩:=st;show⟨k z (by room) _ m,k TI (by room) _ t,⟨u,v,k TO (by room) _ r⟩,B.at λo q=>k i1 (by show .tail _ (.tail _ (.tail _ (.head _)))) o q,A.at λo q=>k j ∅ o q⟩
 item:=by
  intro X hP hw hK f i J' s σ H E I hf st hg;subst hP hw hK;symm;let⟨xs,ys,x,y,Q,O,hx,hy⟩:=hg;let⟨its,Y,p,hz⟩:=I.list Q;let⟨ie,Z,M,Od⟩:=I.list O;let⟨u,hu,ru⟩:=Y.get hx;let⟨v,hv,W⟩:=Z.get hy;obtain⟨m,t,⟨c,d,r⟩,B,A⟩:=st;let⟨C,J,V,U,T,S,R,d8,d9,Ph⟩:=D1;have N:∀{l:ag}{its:List af},PlainL s.heap l its.toArray->l≠z/\l≠TO/\l≠i1/\l≠j:=λ{l its} pl=>by
   symm;let⟨o,n,e,c1,G,dd⟩:=pl;let⟨o1,g1,c4,G⟩:=B;let⟨o2,g2,c5,G⟩:=A;show⟨?_,?_,?_,?_⟩
   .rintro rfl;rw[m] at e;cases e;trivial
   .rintro rfl;rw[r] at e;cases e;lia
   .rintro rfl;rw[g1] at e;cases e;rw[c4] at c1;trivial
   rintro rfl;rw[g2] at e;cases e;rw[c5] at c1;trivial
  symm;let⟨e1,e2,e3,e4⟩:=N p;let⟨f1,f2,f3,f4⟩:=N M;have D:ZipApart z TI TO i1 j a b:=⟨C,J,V,U,T,S,R,d8,d9,Ph,e1,e2,e3,e4,f1,f2,f3,f4⟩
  show wpAny_pyNext_zip_item D m t r B A p.isList M.isList (x:=u) (y:=v) (by simpa using hu) (by simpa using hv) λh' a1 a2 a3 a4 a5 a6 kk=>?_
  show⟨_,rfl,wpAny_letOwnedTupleGo_zip a1 λw8 b1 F=>?_⟩;have hTz:*...*≠z:=rf (cf m);have kF:H *...*=none:=I.aU.fresh (bB _);have hT:w8.get? *...*=some { cls:=.type "tuple",data:=.seq #[u,v] }:=F.extBut _ _ hTz a5;have new:gc X.prog X.w (upd H *...* (.tup [x,y])) w8 *...* (.tup [x,y]):=⟨U4,[u,v],.cons ru (.cons W .nil),⟨_,hT,rfl,_,rfl⟩⟩
  have lt:∀{c o},'f' c\o->c≠*...*:=λe=>cC (cf e)
  show⟨.ref *...*,upd H *...* (.tup [x,y]),I.YY (fp:=[z,TI,TO,i1,j]) (t':=s.toks) (λc o f q=>F.extBut c o (λe=>f (by show e▸.head _)) (kk c o (λe=>f (by show e▸.head _)) (λe=>f (by show e▸.tail _ (.tail _ (.head _)))) (λe=>f (by show e▸.tail _ (.tail _ (.tail _ (.head _))))) (λe=>f (by show e▸.tail _ (.tail _ (.tail _ (.tail _ (.head _)))))) q)) hf (bB _) new,rfl,
   ⟨_,rfl,kF,λzs ws h6 h7=>⟨x,y,by rw[I.CC h6 Q];show hx,by rw[I.CC h7 O];show hy,rfl⟩⟩,
   ⟨b1,F.extBut _ _ C (kk _ _ C T S R t),⟨_,_,F.extBut _ _ J a2⟩,a3.extBut F.extBut V,a4.extBut F.extBut U⟩,U3 (λb hb=>(hf b hb).1) λc f=>?_⟩
  simp![bE,jX,or_false] at f;symm;rcases f with rfl | rfl | rfl | rfl | rfl
  .exact lt m
  .exact lt t
  .exact lt r
  .symm;let⟨G,g,G⟩:=B;show lt g
  symm;let⟨G,g,G⟩:=A;show lt g
 done:=by
  intro X hP hw hK f i J' s σ H E I hf st hg;subst hP hw hK;symm;let⟨xs,ys,Q,O,hx⟩:=hg;let⟨its,Y,p,hz⟩:=I.list Q;let⟨ie,Z,M,Od⟩:=I.list O;obtain⟨m,t,⟨c,d,r⟩,B,A⟩:=st;let⟨C,J,V,U,T,S,R,d8,d9,Ph⟩:=D1;have N:∀{l:ag}{its:List af},PlainL s.heap l its.toArray->l≠z/\l≠TO/\l≠i1/\l≠j:=λ{l its} pl=>by
   symm;let⟨o,n,e,c1,G,dd⟩:=pl;let⟨o1,g1,c4,G⟩:=B;let⟨o2,g2,c5,G⟩:=A;show⟨?_,?_,?_,?_⟩
   .rintro rfl;rw[m] at e;cases e;trivial
   .rintro rfl;rw[r] at e;cases e;lia
   .rintro rfl;rw[g1] at e;cases e;rw[c4] at c1;trivial
   rintro rfl;rw[g2] at e;cases e;rw[c5] at c1;trivial
  symm;let⟨e1,e2,e3,e4⟩:=N p;let⟨f1,f2,f3,f4⟩:=N M;have D:ZipApart z TI TO i1 j a b:=⟨C,J,V,U,T,S,R,d8,d9,Ph,e1,e2,e3,e4,f1,f2,f3,f4⟩
  have l1:=Y.length;have l2:=Z.length;have abV:its.toArray[i]?=none\/ie.toArray[i]?=none:=by
   symm;rcases hx with hx | hx
   .exact .inl (by simp;cbv)
   show .inr (by simp;cbv)
  show wpAny_pyNext_zip_end (I.ok.hd f) D m t r B A p.isList M.isList abV λh' kk=>⟨rfl,I.uA (fp:=[z,TI,TO,i1,j]) (t':=s.toks) (λc o f q=>kk c o (λe=>f (by show e▸.head _)) (λe=>f (by show e▸.tail _ (.tail _ (.head _)))) (λe=>f (by show e▸.tail _ (.tail _ (.tail _ (.head _))))) (λe=>f (by show e▸.tail _ (.tail _ (.tail _ (.tail _ (.head _)))))) q) hf⟩
 self:=λ_ _ _ _ _ st h=>RN st.1 h
def zor(n):(n+2:Nat)≠n+4/\(n+3:Nat)≠n+4/\n≠n+4/\(n+1:Nat)≠n+4/\(n+2:Nat)≠n+3/\(n+2:Nat)≠n/\(n+2:Nat)≠n+1/\(n+3:Nat)≠n/\(n+3:Nat)≠n+1/\n≠n+1:=by cbv
def zzu(K:ao)(d:TA):TI:=λσ H R=>d σ H λc H1=>∃a b,c=[.ref a,.ref b]/\(∃xs,bS K H1 a xs)/\(∃ys,bS K H1 b ys)/\R (Qq K a b) H1
def zwa(B:Gl X "zip")(A:X.mg "zip"=none)(C:PA X [a,b] f)(z:starEach [a,b] X.env=[(false,eval a X.env),(false,eval b X.env)]:=by rfl)(i:starEach [b] X.env=[(false,eval b X.env)]:=by rfl) :
  PI X (.Tuple elts x1 GB) (.Call (.Name "zip" p) [a,b] [] pos) (zzu X.K f):=by
 intro L s σ H R I h;show Call_ (qH I B A boot_zip (xV (aX (C pos L s σ H _ I h) λus s1 ⟨M,H1,d,r,t⟩=>?_) (by rw[z,i]) (by rw[i];rfl)));symm;obtain⟨l,y,e,⟨xs,hl⟩,⟨ys,J⟩,q⟩:=t;subst e;let⟨u,v,rfl,o,n⟩:=A7 r;cases o;cases n;let⟨its,k,x,k⟩:=d.list hl;let⟨its',k,w,k⟩:=d.list J;show call_zip_2 x.isList w.isList λh' m F e3 E D N kk=>?_
 show RN m ?_;show⟨'k'+4,['k'+4,'k'+2,'k'+3,'k','k'+1],_,_,H1,rfl,d.kept (t':=s1.toks) kk,zq8 l y _ _ _ _ _ (zor _),
  ⟨m,F,⟨_,_,e3⟩,E,D⟩,λb j=>?_,q⟩
 have g:'k'<=b:=by
  simp only[bE,jX,or_false] at j;rcases j with rfl | rfl | rfl | rfl | rfl<;>first | show AH _ _ | show bB _
 show d.qR g (d.aU.fresh g)
inductive D where
 | non | bl (b:Bool) | int (i:Int) | str (x:aa) | tup (ds:List D) | lst (ds:List D) | obj (cn:aa) (fs:List (aa×D)) | dic (kvs:List (Key×D)) | dit (kvs:List (List Key×D)) | exc (cn:aa) (fs:List (aa×D)) | idn (a:ag) (d:D)
structure ClsAt(K:ao)(cn:aa)(C:ag):Prop where
 at_:Aq K mainGlobals cn\some (.ref C)
 cls:vf K C
def fu(H:Hp):List (List Key×V)->List ag->Prop
 | [],[]=>True
 | p::ps,b::bs=>H b\.tup (p.1.map kV)/\fu H ps bs
 | _,_=>False
theorem fu.mono(e:aW H H'):∀{ps bs},fu H ps bs->fu H' ps bs
 | [],[],h=>h
 | p::ps,b::bs,h=>⟨e _ _ h.1,fu.mono e h.2⟩
 | [],_::_,h=>h.elim
 | _::_,[],h=>h.elim
def HK(H:Hp):Option ag->List (aa×V)->Prop
 | none,a=>a=[]
 | some d,a=>∃b,H d\.ext b/\∀h:aD,b h->∃c,h.Ns1 d c/\∀f v,a.lookup f\v->∃u,c f\u/\RelV v u
def HK.mono(e:aW H H')(h:HK H c d):HK H' c d:=by
 cases c with
 | none=>show h
 | some g=>show let⟨f,a,b⟩:=h;⟨f,e _ _ a,b⟩
mutual
def Rep(K:ao)(H:Hp):V->D->Prop
 | v,.non=>v=.non
 | v,.bl b=>v=.bl b
 | v,.int i=>v=.int i
 | v,.str x=>v=.str x
 | v,.tup ds=>∃a xs,v=.ref a/\H a\.tup xs/\au K H xs ds
 | v,.lst ds=>∃a xs,v=.ref a/\fq K H a xs/\au K H xs ds
 | v,.obj f fs=>∃a C m e,v=.ref a/\H a\.ins C m e/\ClsAt K f C/\(∀p∈fs,gf K C p.1)/\dA K H e fs
 | v,.dic kvs=>∃a c l,v=.ref a/\H a\.dK c l/\fQ K H c kvs
 | v,.dit kvs=>∃a c bs,v=.ref a/\H a\.dT c bs/\fu H c bs.1/\bL K H c kvs
 | v,.exc f fs=>∃a g C j e,v=.ref a/\H a\.ext g/\Aq K mainGlobals f\some (.ref C)/\(∀h:aD,g h->∃o,h.get? a\o/\o.cls=.ref C/\(fs=[]\/o.dict=j/\∃k,o.data=.fields k))/\(fs=[]\/HK H j e)/\dA K H e fs
 | v,.idn a d=>v=.ref a/\Rep K H v d
def au(K:ao)(H:Hp):List V->List D->Prop
 | [],[]=>True
 | v::a,d::ds=>Rep K H v d/\au K H a ds
 | _,_=>False
def dA(K:ao)(H:Hp):List (aa×V)->List (aa×D)->Prop
 | [],[]=>True
 | v::a,d::ds=>(v.1=d.1/\Rep K H v.2 d.2)/\dA K H a ds
 | _,_=>False
def fQ(K:ao)(H:Hp):List (Key×V)->List (Key×D)->Prop
 | [],[]=>True
 | v::a,d::ds=>(v.1=d.1/\Rep K H v.2 d.2)/\fQ K H a ds
 | _,_=>False
def bL(K:ao)(H:Hp):List (List Key×V)->List (List Key×D)->Prop
 | [],[]=>True
 | v::a,d::ds=>(v.1=d.1/\Rep K H v.2 d.2)/\bL K H a ds
 | _,_=>False
end
theorem aW.uE{K:ao}(e:aW H H')(h:H a\.tup xs):cY K H' a xs:=cY.of (e _ _ h)
def aW.uF{K:ao}(e:aW H H')(h:cY K H a xs):cY K H' a xs:=by
 rcases h with(h | ⟨o,h⟩) | h
 .exact .inl (.inl (e _ _ h))
 .exact .inl (.inr ⟨o,e _ _ h⟩)
 show .inr h
mutual
theorem Rep.mono{K:ao}{H H':Hp}(e:aW H H'):∀(v:V)(d:D),Rep K H v d->Rep K H' v d
 | v,.non,h=>by simpa only[Rep] using h
 | v,.bl b,h=>by simpa only[Rep] using h
 | v,.int i,h=>by simpa only[Rep] using h
 | v,.str x,h=>by simpa only[Rep] using h
 | v,.tup ds,h=>by
  let⟨a,xs,g,f,c⟩:=h;show⟨a,xs,g,e _ _ f,au.mono e xs ds c⟩
 | v,.lst ds,h=>by
  let⟨a,xs,g,f,c⟩:=h;show⟨a,xs,g,e.cB f,au.mono e xs ds c⟩
 | v,.obj s fs,h=>by
  let⟨a,C,q,l,g,f,c,k,m⟩:=h;show⟨a,C,q,l,g,e _ _ f,c,k,dA.mono e l fs m⟩
 | v,.dic kvs,h=>by
  let⟨a,j,p,g,f,c⟩:=h;show⟨a,j,p,g,e _ _ f,fQ.mono e j kvs c⟩
 | v,.dit kvs,h=>by
  let⟨a,j,bs,g,f,c,k⟩:=h;show⟨a,j,bs,g,e _ _ f,c.mono e,bL.mono e j kvs k⟩
 | v,.exc s fs,h=>by
  let⟨a,n,C,r,l,g,f,c,k,m,o⟩:=h;show⟨a,n,C,r,l,g,e _ _ f,c,k,m.imp id λz=>z.mono e,dA.mono e l fs o⟩
 | v,.idn a d,h=>by
  show⟨h.1,Rep.mono e v d h.2⟩
theorem au.mono{K:ao}{H H':Hp}(e:aW H H'):∀(a:List V)(ds:List D),au K H a ds->au K H' a ds
 | [],[],h=>by simp![au]
 | v::a,d::ds,h=>by
  show⟨Rep.mono e v d h.1,au.mono e a ds h.2⟩
 | [],_::_,h=>by simp![au] at h
 | _::_,[],h=>by simp![au] at h
theorem dA.mono{K:ao}{H H':Hp}(e:aW H H'):∀(a:List (aa×V))(ds:List (aa×D)),dA K H a ds->dA K H' a ds
 | [],[],h=>by simp![dA]
 | (x,v)::a,(y,d)::ds,h=>by
  show⟨⟨h.1.1,Rep.mono e v d h.1.2⟩,dA.mono e a ds h.2⟩
 | [],_::_,h=>by simp![dA] at h
 | _::_,[],h=>by simp![dA] at h
theorem fQ.mono{K:ao}{H H':Hp}(e:aW H H'):∀(a:List (Key×V))(ds:List (Key×D)),fQ K H a ds->fQ K H' a ds
 | [],[],h=>by simp![fQ]
 | (x,v)::a,(y,d)::ds,h=>by
  show⟨⟨h.1.1,Rep.mono e v d h.1.2⟩,fQ.mono e a ds h.2⟩
 | [],_::_,h=>by simp![fQ] at h
 | _::_,[],h=>by simp![fQ] at h
theorem bL.mono{K:ao}{H H':Hp}(e:aW H H'):∀(a:List (List Key×V))(ds:List (List Key×D)),bL K H a ds->bL K H' a ds
 | [],[],h=>by simp![bL]
 | (x,v)::a,(y,d)::ds,h=>by
  show⟨⟨h.1.1,Rep.mono e v d h.1.2⟩,bL.mono e a ds h.2⟩
 | [],_::_,h=>by simp![bL] at h
 | _::_,[],h=>by simp![bL] at h
end
section
variable{K:ao}
theorem au.length:∀{a ds},au K H a ds->a.length=ds.length
 | [],[],_=>rfl
 | v::a,d::ds,h=>by
  simp![cZ,au.length h.2]
 | [],_::_,h=>by simp![au] at h
 | _::_,[],h=>by simp![au] at h
theorem au.get:∀{a ds}{i:Nat}{d},au K H a ds->ds[i]?\d->∃v,a[i]?\v/\Rep K H v d
 | [],[],i,d,_,e=>by trivial
 | v::a,d'::ds,0,d,h,e=>by
  simp![au] at h;cbv
 | v::a,d'::ds,i+1,d,h,e=>by
  simp![AR] at e ⊢;show au.get h.2 e
 | [],_::_,_,_,h,_=>by simp![au] at h
 | _::_,[],_,_,h,_=>by simp![au] at h
theorem au.aah:∀{a ds}{i:Nat}{v},au K H a ds->a[i]?\v->∃d,ds[i]?\d/\Rep K H v d
 | [],[],i,d,_,e=>by trivial
 | b::a,d::ds,0,v,h,e=>by
  simp![au] at h;cbv
 | b::a,d::ds,i+1,v,h,e=>by
  simp![AR] at e ⊢;show au.aah h.2 e
 | [],_::_,_,_,h,_=>by simp![au] at h
 | _::_,[],_,_,h,_=>by simp![au] at h
def au.nil:au K H [] []:=by simp![au]
def au.cons{d:D}{ds:List D}(h:Rep K H v d)(b:au K H a ds):au K H (v::a) (d::ds):=by show⟨h,b⟩
theorem au.append:∀{a ds us b},au K H a ds->au K H us b->au K H (a++us) (ds++b)
 | [],[],_,_,_,h=>h
 | v::a,d::ds,_,_,h,h'=>by
  show au.cons h.1 (au.append h.2 h')
 | [],_::_,_,_,h,_=>by simp![au] at h
 | _::_,[],_,_,h,_=>by simp![au] at h
theorem au.take:∀{a ds} n,au K H a ds->au K H (a.take n) (ds.take n)
 | _,_,0,_=>au.nil
 | [],[],_+1,_=>au.nil
 | v::a,d::ds,n+1,h=>by
  show au.cons h.1 (au.take n h.2)
 | [],_::_,_+1,h=>by assumption
 | _::_,[],_+1,h=>by assumption
theorem au.drop:∀{a ds} n,au K H a ds->au K H (a.drop n) (ds.drop n)
 | _,_,0,h=>h
 | [],[],_+1,_=>au.nil
 | v::a,d::ds,n+1,h=>by
  show au.drop n h.2
 | [],_::_,_+1,h=>by simp![au] at h
 | _::_,[],_+1,h=>by simp![au] at h
theorem au.set:∀{a ds v d} n,au K H a ds->Rep K H v d->au K H (a.set n v) (ds.set n d)
 | [],[],_,_,_,_,_=>au.nil
 | b::a,d'::ds,v,d,0,h,q=>by
  show au.cons q h.2
 | b::a,d'::ds,v,d,n+1,h,q=>by
  show au.cons h.1 (au.set n h.2 q)
 | [],_::_,_,_,_,h,_=>by simp![au] at h
 | _::_,[],_,_,_,h,_=>by simp![au] at h
end
structure Ext(G H G' H':Hp):Prop where
 g:aW G G'
 h:aW H H'
 s:aW G' H'
 n:∀p,G p=none->H p≠none->G' p=none
theorem Ext.refl(s:aW G H):Ext G H G H:=⟨aW.refl _,aW.refl _,s,λ_ h _=>h⟩
theorem Ext.trans(a:Ext G H i e)(b:Ext i e f d):Ext G H f d:=
 ⟨a.g.trans b.g,a.h.trans b.h,b.s,λp j c=>b.n p (a.n p j c) λz=>c (a.h.free z)⟩
theorem FZ(h:H p=none):aW H (upd H p o):=λb u e=>by rw[bQ (iL e h)];show e
theorem zos(s:aW G H):aW (upd G p o) (upd H p o):=λb u e=>by
 by_cases a:b=p
 .subst a;rw[eV] at e ⊢;show e
 rw[bQ a] at e ⊢;show s b u e
theorem Ext.new(s:aW G H)(h:H p=none):Ext G H (upd G p o) (upd H p o):=
 ⟨FZ (s.free h),FZ h,zos s,λq b a=>by rw[bQ (λz=>a (by rw[z];show h))];show b⟩
theorem Ext.own(s:aW G H)(h:H p=none):Ext G H G (upd H p o):=
 ⟨aW.refl _,FZ h,s.trans (FZ h),λq a _=>a⟩
inductive OV where
 | ll (aP:List (List D))
 | dc (kvs:List (Key×D))
 | dl (kvs:List (Key×List D))
 | tl (d:D) (ds:List D)
 | ld (xf:List (List (Key×D)))
 | dt (kvs:List (List Key×List D))
 | tp (ds:List D)
 | ob (cn:aa) (fs:List (aa×List D))
 | dq (kvs:List (List Key×D))
 | li (a:ag) (aP:List (List D))
def OV.val:OV->D
 | .ll a=>.lst (a.map .lst)
 | .dc kvs=>.dic kvs
 | .dl kvs=>.dic (kvs.map λp=>(p.1,.lst p.2))
 | .tl d ds=>.tup [d,.lst ds]
 | .ld b=>.lst (b.map .dic)
 | .dt kvs=>.dit (kvs.map λp=>(p.1,.lst p.2))
 | .tp ds=>.tup ds
 | .ob c fs=>.obj c (fs.map λp=>(p.1,.lst p.2))
 | .dq kvs=>.dit kvs
 | .li _ a=>.lst (a.map .lst)
inductive R where
 | fz (d:D)
 | ow (ds:List D)
 | ov (o:OV)
def R.val:R->D
 | .fz d=>d
 | .ow ds=>.lst ds
 | .ov o=>o.val
inductive Sl where
 | un
 | fz (d:D)
 | ow (ds:List D)
 | ov (o:OV)
def R.sl:R->Sl
 | .fz d=>.fz d
 | .ow ds=>.ow ds
 | .ov o=>.ov o
def bV(K:ao)(G H:Hp):List ag->List (List D)->Prop
 | [],[]=>True
 | q::a,ds::b=>(∃xs,H q\.lst xs/\au K G xs ds)/\bV K G H a b
 | _,_=>False
theorem bV.mono{K:ao}(g:aW G d):∀{a b},(∀q∈a,∀xs,H q\.lst xs->H' q\.lst xs)->bV K G H a b->bV K d H' a b
 | [],[],_,_=>by simp![bV]
 | q::a,ds::b,c,h=>by
  obtain⟨⟨xs,i,f⟩,e⟩:=h;show⟨⟨xs,c q 'c' xs i,f.mono g⟩,bV.mono g (λr j=>c r 'i') e⟩
 | [],_::_,_,h=>by simp![bV] at h
 | _::_,[],_,h=>by simp![bV] at h
theorem bV.here{K:ao}:∀{a c},bV K G H a c->∀q∈a,H q≠none
 | [],[],_,q,d=>by cases d
 | q::a,ds::c,h,r,b=>by
  obtain⟨⟨xs,f,g⟩,e⟩:=h;rcases bE.mp b with rfl | b
  .rw[f];show nofun
  show bV.here e r b
 | [],_::_,h,_,_=>by simp![bV] at h
 | _::_,[],h,_,_=>by simp![bV] at h
theorem bV.sM{K:ao}(g:aW G c):∀{a b},(∀q∈a,∀xs,H q\.lst xs->c q\.lst xs)->bV K G H a b->au K c (a.map V.ref) (b.map D.lst)
 | [],[],_,_=>au.nil
 | q::a,ds::b,d,h=>by
  obtain⟨⟨xs,i,f⟩,e⟩:=h;show au.cons ?_ (bV.sM g (λr j=>d r 'i') e);show⟨q,xs,rfl,fq.of (d q 'c' xs i),f.mono g⟩
 | [],_::_,_,h=>by assumption
 | _::_,[],_,h=>by assumption
def je(K:ao)(G H:Hp):List ag->List (List (Key×D))->Prop
 | [],[]=>True
 | q::b,ds::d=>(∃a c,H q\.dK a c/\fQ K G a ds)/\je K G H b d
 | _,_=>False
theorem je.mono{K:ao}(g:aW G d):∀{a b},(∀q∈a,∀u,H q\u->H' q\u)->je K G H a b->je K d H' a b
 | [],[],_,_=>by simp![je]
 | q::a,ds::b,c,h=>by
  obtain⟨⟨e,k,j,i⟩,f⟩:=h;show⟨⟨e,k,c q 'c' _ j,fQ.mono g _ _ i⟩,je.mono g (λr l=>c r 'i') f⟩
 | [],_::_,_,h=>by simp![je] at h
 | _::_,[],_,h=>by simp![je] at h
theorem je.kind{K:ao}:∀{b g},je K G H b g->∀q∈b,∃d f,H q=some (.dK d f)
 | [],[],_,q,i=>by cases i
 | q::b,ds::g,h,r,e=>by
  symm;obtain⟨⟨d,f,m,n⟩,j⟩:=h;rcases bE.mp e with rfl | e
  .exact⟨d,f,m⟩
  show je.kind j r e
 | [],_::_,h,_,_=>by simp![je] at h
 | _::_,[],h,_,_=>by simp![je] at h
theorem je.here{K:ao}(h:je K G H a c):∀q∈a,H q≠none:=λq b=>by
 let⟨d,f,e⟩:=h.kind q b;rw[e];show nofun
theorem je.sM{K:ao}(g:aW G c):∀{a b},(∀q∈a,∀u,H q\u->c q\u)->je K G H a b->au K c (a.map V.ref) (b.map D.dic)
 | [],[],_,_=>au.nil
 | q::a,ds::b,d,h=>by
  obtain⟨⟨e,k,j,i⟩,f⟩:=h;show au.cons ?_ (je.sM g (λr l=>d r 'i') f);show⟨q,e,k,rfl,d q 'c' _ j,fQ.mono g _ _ i⟩
 | [],_::_,_,h=>by assumption
 | _::_,[],_,h=>by assumption
def nk(K:ao)(G H:Hp)(p:ag)(fp:List ag):OV->Prop
 | .ll f=>H p\.lst (fp.map V.ref)/\bV K G H fp f
 | .dc kvs=>fp=[]/\∃b e,H p\.dK b e/\fQ K G b kvs
 | .dl kvs=>∃b e,H p\.dK b e/\b.map (·.1)=kvs.map (·.1)/\b.map (·.2)=fp.map V.ref/\bV K G H fp (kvs.map (·.2))
 | .tl d ds=>∃q v xs,fp=[q]/\H p\.tup [v,.ref q]/\Rep K G v d/\H q\.lst xs/\au K G xs ds
 | .ld g=>H p\.lst (fp.map V.ref)/\je K G H fp g
 | .dt kvs=>∃b bs,H p\.dT b bs/\fu G b bs.1/\b.map (·.1)=kvs.map (·.1)/\b.map (·.2)=fp.map V.ref/\bV K G H fp (kvs.map (·.2))
 | .tp ds=>fp=[]/\∃xs,H p\.tup xs/\au K G xs ds
 | .ob i fs=>∃C h c,H p\.ins C h c/\ClsAt K i C/\(∀p∈fs,gf K C p.1)/\c.map (·.1)=fs.map (·.1)/\c.map (·.2)=fp.map V.ref/\bV K G H fp (fs.map (·.2))
 | .dq kvs=>fp=[]/\∃b bs,H p\.dT b bs/\fu G b bs.1/\bL K G b kvs
 | .li a f=>p=a/\H p\.lst (fp.map V.ref)/\bV K G H fp f
def nk.here{K:ao}(h:nk K G H p fp o):∀q∈p::fp,H q≠none:=by
 intro q b;cases o with
 | ll i=>
  rcases bE.mp b with rfl | b
  .rw[h.1];show nofun
  show h.2.here q b
 | dc kvs=>
  let⟨rfl,f,g,c,z⟩:=h;simp![cG] at b;subst b;rw[c];show nofun
 | dl kvs=>
  let⟨f,g,c,z,z,e⟩:=h;rcases bE.mp b with rfl | b
  .rw[c];show nofun
  show e.here q b
 | tl d ds=>
  let⟨r,v,xs,rfl,c,z,k,z⟩:=h;grind
 | ld j=>
  rcases bE.mp b with rfl | b
  .rw[h.1];show nofun
  show h.2.here q b
 | dt kvs=>
  let⟨f,bs,c,z,z,z,e⟩:=h;rcases bE.mp b with rfl | b
  .rw[c];show nofun
  show e.here q b
 | tp ds=>
  let⟨rfl,xs,c,z⟩:=h;simp![cG] at b;subst b;rw[c];show nofun
 | ob n fs=>
  let⟨C,m,l,c,z,z,z,z,e⟩:=h;rcases bE.mp b with rfl | b
  .rw[c];show nofun
  show e.here q b
 | dq kvs=>
  let⟨rfl,f,bs,c,z⟩:=h;simp![cG] at b;subst b;rw[c];show nofun
 | li a i=>
  rcases bE.mp b with rfl | b
  .rw[h.2.1];show nofun
  show h.2.2.here q b
theorem bV.kind{K:ao}:∀{a c},bV K G H a c->∀q∈a,∃xs,H q\.lst xs
 | [],[],_,q,d=>by cases d
 | q::a,ds::c,h,r,b=>by
  obtain⟨⟨xs,f,g⟩,e⟩:=h;rcases bE.mp b with rfl | b
  .exact⟨xs,f⟩
  show bV.kind e r b
 | [],_::_,h,_,_=>by simp![bV] at h
 | _::_,[],h,_,_=>by simp![bV] at h
def nk.mono{K:ao}(g:aW G n)(b:∀q∈p::fp,∀u,H q\u->H' q\u)(h:nk K G H p fp o):nk K n H' p fp o:=by
 cases o with
 | ll y=>show⟨b p 'c' _ h.1,h.2.mono g λq k xs=>b q 'i' _⟩
 | dc kvs=>
  let⟨rfl,f,m,e,c⟩:=h;show⟨rfl,f,m,b p 'c' _ e,fQ.mono g _ _ c⟩
 | dl kvs=>
  let⟨f,m,e,c,j,i⟩:=h;show⟨f,m,b p 'c' _ e,c,j,i.mono g λq k xs=>b q 'i' _⟩
 | tl d ds=>
  let⟨r,v,xs,rfl,e,c,j,i⟩:=h;show⟨r,v,xs,rfl,b p 'c' _ e,c.mono g,b r (by show .tail _ (.head _)) _ j,i.mono g⟩
 | li a y=>show⟨h.1,b p 'c' _ h.2.1,h.2.2.mono g λq k xs=>b q 'i' _⟩
 | ld z=>show⟨b p 'c' _ h.1,h.2.mono g λq k=>b q 'i'⟩
 | dt kvs=>
  let⟨f,bs,e,l,c,j,i⟩:=h;show⟨f,bs,b p 'c' _ e,l.mono g,c,j,i.mono g λq k xs=>b q 'i' _⟩
 | tp ds=>
  let⟨rfl,xs,e,c⟩:=h;show⟨rfl,xs,b p 'c' _ e,c.mono g⟩
 | ob A fs=>
  let⟨C,x,w,e,t,s,c,j,i⟩:=h;show⟨C,x,w,b p 'c' _ e,t,s,c,j,i.mono g λq k xs=>b q 'i' _⟩
 | dq kvs=>
  let⟨rfl,f,bs,e,l,c⟩:=h;show⟨rfl,f,bs,b p 'c' _ e,l.mono g,bL.mono g _ _ c⟩
theorem fQ.uJ{K:ao}:∀{c}{kvs:List (Key×List D)}{fp:List ag},c.map (·.1)=kvs.map (·.1)->c.map (·.2)=fp.map V.ref->au K G (fp.map V.ref) ((kvs.map (·.2)).map D.lst)->fQ K G c (kvs.map λp=>(p.1,.lst p.2))
 | [],[],_,_,_,_=>by trivial
 | a::c,b::kvs,fp,e,d,f=>by
  simp![bT,tQ.injEq] at e;cases fp with
  | nil=>contradiction
  | cons q fp=>
   simp![bT,tQ.injEq] at d;show⟨⟨e.1,by rw[d.1];show f.1⟩,fQ.uJ e.2 d.2 f.2⟩
 | [],_::_,_,h,_,_=>by trivial
 | _::_,[],_,h,_,_=>by trivial
theorem bL.uJ{K:ao}:∀{c}{kvs:List (List Key×List D)}{fp:List ag},c.map (·.1)=kvs.map (·.1)->c.map (·.2)=fp.map V.ref->au K G (fp.map V.ref) ((kvs.map (·.2)).map D.lst)->bL K G c (kvs.map λp=>(p.1,.lst p.2))
 | [],[],_,_,_,_=>by trivial
 | a::c,b::kvs,fp,e,d,f=>by
  simp![bT,tQ.injEq] at e;cases fp with
  | nil=>contradiction
  | cons q fp=>
   simp![bT,tQ.injEq] at d;show⟨⟨e.1,by rw[d.1];show f.1⟩,bL.uJ e.2 d.2 f.2⟩
 | [],_::_,_,h,_,_=>by trivial
 | _::_,[],_,h,_,_=>by trivial
theorem dA.uJ{K:ao}:∀{c}{kvs:List (aa×List D)}{fp:List ag},c.map (·.1)=kvs.map (·.1)->c.map (·.2)=fp.map V.ref->au K G (fp.map V.ref) ((kvs.map (·.2)).map D.lst)->dA K G c (kvs.map λp=>(p.1,.lst p.2))
 | [],[],_,_,_,_=>by trivial
 | a::c,b::kvs,fp,e,d,f=>by
  simp![bT,tQ.injEq] at e;cases fp with
  | nil=>contradiction
  | cons q fp=>
   simp![bT,tQ.injEq] at d;show⟨⟨e.1,by rw[d.1];show f.1⟩,dA.uJ e.2 d.2 f.2⟩
 | [],_::_,_,h,_,_=>by trivial
 | _::_,[],_,h,_,_=>by trivial
def plus(G H:Hp)(l:List ag):Hp:=λa=>if a∈l then H a else G a
theorem mR(h:a∈l):plus G H l a=H a:=if_pos h
theorem qJ(h:a∉l):plus G H l a=G a:=if_neg h
theorem wb(h:∀q∈l,G q=none):aW G (plus G H l):=λb u e=>by
 rw[qJ (λz=>by rw[h b z] at e;cases e)];show e
def nk.freeze{K:ao}(h:nk K G H p fp o)(m:∀q∈p::fp,G q=none):Rep K (plus G H (p::fp)) (.ref p) o.val:=by
 have b:=wb (H:=H) m;have g:plus G H (p::fp) p=H p:=mR 'c';cases o with
 | ll z=>
  show⟨p,_,rfl,fq.of (by rw[g];show h.1),h.2.sM b λq l xs e=>by rw[mR 'i'];show e⟩
 | dc kvs=>
  let⟨rfl,i,s,f,c⟩:=h;show⟨p,i,s,rfl,by rw[g];show f,fQ.mono b _ _ c⟩
 | dl kvs=>
  let⟨i,s,f,c,k,j⟩:=h;show⟨p,i,s,rfl,by rw[g];show f,fQ.uJ c k (j.sM b λq l xs e=>by rw[mR 'i'];show e)⟩
 | tl d ds=>
  let⟨r,v,xs,rfl,f,c,k,j⟩:=h;show⟨p,_,rfl,(by rw[g];show f),au.cons (c.mono b) (au.cons ?_ au.nil)⟩;show⟨r,xs,rfl,fq.of (by rw[mR (by show .tail _ (.head _))];show k),j.mono b⟩
 | dt kvs=>
  let⟨i,bs,f,n,c,k,j⟩:=h;show⟨p,i,bs,rfl,by rw[g];show f,n.mono b,bL.uJ c k (j.sM b λq l xs e=>by rw[mR 'i'];show e)⟩
 | tp ds=>
  let⟨rfl,xs,f,c⟩:=h;show⟨p,xs,rfl,(by rw[g];show f),c.mono b⟩
 | ob B fs=>
  let⟨C,y,x,f,w,m,c,k,j⟩:=h;show⟨p,C,y,x,rfl,by rw[g];show f,w,λu t=>?_,dA.uJ c k (j.sM b λq l xs e=>by rw[mR 'i'];show e)⟩;let⟨v,hv,rfl⟩:=aK.mp t;show m v hv
 | li a z=>
  show⟨p,_,rfl,fq.of (by rw[g];show h.2.1),h.2.2.sM b λq l xs e=>by rw[mR 'i'];show e⟩
 | ld A=>
  show⟨p,_,rfl,fq.of (by rw[g];show h.1),h.2.sM b λq l u e=>by rw[mR 'i'];show e⟩
 | dq kvs=>
  let⟨rfl,i,bs,f,n,c⟩:=h;show⟨p,i,bs,rfl,by rw[g];show f,n.mono b,bL.mono b _ _ c⟩
abbrev Ev:=List Sl
def gt:Ev->Nat->Sl
 | [],_=>.un
 | a::_,0=>a
 | _::r,n+1=>gt r n
def sg:gt (ρ.set i s) j=if i=j/\j<ρ.length then s else gt ρ j:=by
 induction ρ generalizing i j with
 | nil=>cbv
 | cons a r b=>
  cases i with
  | zero=>
   cases j with
   | zero=>rfl
   | succ j=>rfl
  | succ i=>
   cases j with
   | zero=>rfl
   | succ j=>simp[gt,b]
def dh(K:ao)(a H' H:Hp)(v:V):R->Prop
 | .fz d=>Rep K a v d
 | .ow ds=>∃p xs,v=.ref p/\H p=none/\a p=none/\H' p\.lst xs/\au K a xs ds
 | .ov o=>∃p fp,v=.ref p/\(p::fp).Nodup/\nk K a H' p fp o/\∀q∈p::fp,H q=none/\a q=none
def mj(K:ao)(G H:Hp)(v:V)(fp:List ag):Sl->Prop
 | .un=>False
 | .fz d=>fp=[]/\Rep K G v d
 | .ow ds=>∃p xs,v=.ref p/\fp=[p]/\H p\.lst xs/\au K G xs ds
 | .ov o=>∃p l,v=.ref p/\fp=p::l/\nk K G H p l o
structure aS(K:ao)(G0 H0:Hp)(ρ:Ev)(σ:St)(G H:Hp):Prop where
 e:Ext G0 H0 G H
 len:σ.length=ρ.length
 sl:∃own:ag->Option Nat,(∀q i,own q\i->G q=none/\H0 q=none/\H q≠none)/\∀i,gt ρ i≠.un->∃v fp,σ[i]?\some v/\fp.Nodup/\mj K G H v fp (gt ρ i)/\∀q∈fp,own q=some i
section
variable{K:ao}{G0 H0 G H G' H' G2 H2:Hp}{ρ:Ev}{σ:St}{v:V}{fp:List ag}
theorem mj.here(h:mj K G H v fp s):∀q∈fp,H q≠none:=λq a=>by
 cases s with
 | un=>show h.elim
 | fz d=>rw[h.1] at a;cases a
 | ow ds=>
  let⟨p,xs,z,rfl,e,z⟩:=h;rw[cG.mp a,e];show nofun
 | ov o=>
  let⟨p,l,z,rfl,h⟩:=h;show h.here q a
def mj.mono(g:aW G G')(k:∀q∈fp,∀u,H q\u->H' q\u)(h:mj K G H v fp s):mj K G' H' v fp s:=by
 cases s with
 | un=>show h
 | fz d=>show⟨h.1,h.2.mono g⟩
 | ow ds=>
  let⟨p,xs,a,rfl,e,r⟩:=h;show⟨p,xs,a,rfl,k p (.head _) _ e,r.mono g⟩
 | ov o=>
  let⟨p,l,a,rfl,h⟩:=h;show⟨p,l,a,rfl,h.mono g k⟩
def dh.iff:dh K G H f v r↔∃fp,fp.Nodup/\mj K G H v fp r.sl/\∀q∈fp,f q=none/\G q=none:=by
 cases r with
 | fz d=>show⟨λh=>⟨[],.nil,⟨rfl,h⟩,nofun⟩,λ⟨_,_,h,_⟩=>h.2⟩
 | ow ds=>show⟨λ⟨p,xs,a,b,c,d,e⟩=>⟨[p],jo _ _,⟨p,xs,a,rfl,d,e⟩,λq g=>by rw[cG.mp g];show⟨b,c⟩⟩,λ⟨_,_,⟨p,xs,a,b,d,e⟩,h⟩=>let h:=h p (b▸.head _);⟨p,xs,a,h.1,h.2,d,e⟩⟩
 | ov o=>show⟨λi=>by let⟨p,l,a,b,c,d⟩:=i;show⟨p::l,b,⟨p,l,a,rfl,c⟩,d⟩,λ⟨_,n,⟨p,l,a,b,c⟩,h⟩=>by subst b;show⟨p,l,a,n,c,h⟩⟩
def aS.ext(E:aS K G0 H0 ρ σ G H)(x:Ext G H G' H'):aS K G0 H0 ρ σ G' H':=by
 let⟨own,a,b⟩:=E.sl;have k:∀q,H q≠none->∀u,H q\u->H' q\u:=λq _ u e=>x.h q u e
 show⟨E.e.trans x,E.len,own,λq i h=>let⟨c,d,e⟩:=a q i h;⟨x.n q c e,d,λz=>e (x.h.free z)⟩,λi h=>?_⟩;let⟨v,fp,c,d,e,f⟩:=b i h;show⟨v,fp,c,d,e.mono x.g λq _ u z=>x.h q u z,f⟩
def aS.fz(E:aS K G0 H0 ρ σ G H)(i d)(h:gt ρ i=.fz d):∃v,σ[i]?\some v/\Rep K G v d:=by
 let⟨own,z,b⟩:=E.sl;let⟨v,fp,c,z,e,z⟩:=b i (by rw[h];show nofun);rw[h] at e;show⟨v,c,e.2⟩
def aS.ow(E:aS K G0 H0 ρ σ G H)(i ds)(h:gt ρ i=.ow ds):∃p xs,σ[i]?\some (.ref p)/\H p\.lst xs/\G p=none/\H0 p=none/\au K G xs ds:=by
 let⟨own,a,b⟩:=E.sl;let⟨v,fp,c,z,e,f⟩:=b i (by rw[h];show nofun);rw[h] at e;let⟨p,xs,rfl,rfl,d,r⟩:=e;have f:=a p i (f p (.head _));show⟨p,xs,c,d,f.1,f.2.1,r⟩
def aS.ov(E:aS K G0 H0 ρ σ G H)(i o)(h:gt ρ i=.ov o):∃p fp,σ[i]?\some (.ref p)/\(p::fp).Nodup/\nk K G H p fp o/\∀q∈p::fp,G q=none/\H0 q=none:=by
 let⟨own,a,b⟩:=E.sl;let⟨v,fp,c,n,e,f⟩:=b i (by rw[h];show nofun);rw[h] at e;let⟨p,l,rfl,rfl,d⟩:=e;show⟨p,l,c,n,d,λq g=>let z:=a q i (f q g);⟨z.1,z.2.1⟩⟩
def mj.freeze{r:R}(h:mj K G H v fp r.sl)(b:∀q∈fp,G q=none):Rep K (plus G H fp) v r.val:=by
 have s:=wb (H:=H) b;cases r with
 | fz d=>show h.2.mono s
 | ow ds=>
  let⟨p,xs,a,rfl,e,r⟩:=h;show⟨p,xs,a,fq.of (by rw[mR (.head _)];show e),r.mono s⟩
 | ov o=>
  let⟨p,l,rfl,rfl,h⟩:=h;show h.freeze b
def Ext.plus{L:List ag}(x:Ext G H G' H')(h:∀q∈L,H q=none/\G' q=none):Ext G H (plus G' H' L) H':=by
 show⟨x.g.trans (wb λq d=>(h q d).2),x.h,λb u e=>?_,λq a b=>?_⟩
 .by_cases c:b∈L
  .rw[mR c] at e;show e
  rw[qJ c] at e;show x.s b u e
 rw[qJ (λz=>b (h q z).1)];show x.n q a b
def dh.freeze(x:Ext G H G' H')(h:dh K G' H' H v r):∃G2,Ext G H G2 H'/\Rep K G2 v r.val/\aW G' G2:=by
 let⟨fp,z,a,b⟩:=dh.iff.mp h;have n:∀q∈fp,G' q=none:=λq c=>(b q c).2
 show⟨_,x.plus b,a.freeze n,wb n⟩
def dh.pG(s:aW d e)(h:dh K G' H' e v r):dh K G' H' d v r:=by
 let⟨fp,n,a,b⟩:=dh.iff.mp h;show dh.iff.mpr ⟨fp,n,a,λq c=>⟨s.free (b q c).1,(b q c).2⟩⟩
end
abbrev TD:=Ev->(R->Prop)->Prop
abbrev eN:=Ev->(Bool->Prop)->Prop
abbrev fm:=Ev->(List D->Prop)->Prop
structure DE where
 nx:Ev->Prop
 rt:R->Prop
 bk:Ev->Prop:=λ_=>False
 ct:Ev->Prop:=λ_=>False
abbrev TX:=DE->Ev->Prop
def PD(X:Cx)(e:az)(t:TD):Prop:=∃tt,PE X e tt/\∀ρ σ c b G H Q P,aS X.K c b ρ σ G H->t ρ Q->
 (∀v H' r a,Ext G H a H'->dh X.K a H' H v r->Q r->P v H')->tt σ H P
def PB(X:Cx)(e:az)(t:eN):Prop:=∃tt,PT X e tt/\∀ρ σ c a G H Q P,aS X.K c a ρ σ G H->t ρ Q->
 (∀b H' d,Ext G H d H'->Q b->P b H')->tt σ H P
def jg(X:Cx)(c:List az)(t:fm):Prop:=∃tt,PA X c tt/\∀ρ σ e d G H Q P,aS X.K e d ρ σ G H->t ρ Q->
 (∀a H' ds b,Ext G H b H'->au X.K b a ds->Q ds->P a H')->tt σ H P
structure Goes(K:ao)(G0 H0 G:Hp)(D:DE)(E:Ends):Prop where
 nx:∀ρ σ G' H',aW G G'->aS K G0 H0 ρ σ G' H'->D.nx ρ->E.nx σ H'
 rt:∀v H' r G',Ext G0 H0 G' H'->dh K G' H' H0 v r->D.rt r->E.rt v H'
 bk:∀ρ σ G' H',aW G G'->aS K G0 H0 ρ σ G' H'->D.bk ρ->E.bk σ H'
 ct:∀ρ σ G' H',aW G G'->aS K G0 H0 ρ σ G' H'->D.ct ρ->E.ct σ H'
theorem Goes.shift{K:ao}{D:DE}(g:Goes K d c G D E)(s:aW G e):Goes K d c e D E:=
 ⟨λρ σ b a s2=>g.nx ρ σ b a (s.trans s2),g.rt,λρ σ b a s2=>g.bk ρ σ b a (s.trans s2),λρ σ b a s2=>g.ct ρ σ b a (s.trans s2)⟩
def PX(X:Cx)(st:cq)(t:TX):Prop:=∃tt,PS X st tt/\∀ρ σ b a G H D E,aS X.K b a ρ σ G H->t D ρ->Goes X.K b a G D E->tt E σ H
def jf(X:Cx)(st:List cq)(t:TX):Prop:=∃tt,jU X st tt/\∀ρ σ b a G H D E,aS X.K b a ρ σ G H->t D ρ->Goes X.K b a G D E->tt E σ H
section
variable{K:ao}{G H G' H' G0 H0:Hp}{ρ:Ev}{σ:St}{i:Nat}{v:V}{vs:List V}{d:D}{ds:List D}{r:R}
def gu(d:D)(P:Int->Prop):Prop:=D.casesOn d False 'e' P 'e' 'e' 'e' (λ_ _=>False) 'e' 'e' (λ_ _=>False) λ_ _=>False
def uO(d:D)(P:Bool->Prop):Prop:=D.casesOn d False P 'e' 'e' 'e' 'e' (λ_ _=>False) 'e' 'e' (λ_ _=>False) λ_ _=>False
def ZI(d:D)(P:aa->Prop):Prop:=D.casesOn d False 'e' 'e' P 'e' 'e' (λ_ _=>False) 'e' 'e' (λ_ _=>False) λ_ _=>False
def qN(d:D)(P:List D->Prop):Prop:=D.casesOn d False 'e' 'e' 'e' P 'e' (λ_ _=>False) 'e' 'e' (λ_ _=>False) λ_ _=>False
def eI(d:D)(P:List D->Prop):Prop:=D.casesOn d False 'e' 'e' 'e' 'e' P (λ_ _=>False) 'e' 'e' (λ_ _=>False) λ_ _=>False
def vN(d:D)(P:List (List Key×D)->Prop):Prop:=D.casesOn d False 'e' 'e' 'e' 'e' 'e' (λ_ _=>False) 'e' P (λ_ _=>False) λ_ _=>False
def Ob(d:D)(P:List (aa×D)->Prop):Prop:=D.casesOn d False 'e' 'e' 'e' 'e' 'e' (λ_=>P) 'e' 'e' (λ_ _=>False) λ_ _=>False
def fK(ds:List D)(P:D->Prop):Prop:=vm ds False λd t=>vm t (P d) λ_ _=>False
def CI(ds:List D)(P:D->D->Prop):Prop:=vm ds False λd t=>fK t (P d)
def g7{α:Type}(o:Option α)(P:α->Prop):Prop:=Rx o False P
def rF(r:R)(P:D->Prop):Prop:=R.casesOn r P 'e' λ_=>False
def rW(r:R)(P:List D->Prop):Prop:=R.casesOn r 'e' P λ_=>False
def rV(r:R)(P:OV->Prop):Prop:=R.casesOn r 'e' 'e' P
def gF(ρ:Ev)(i:Nat)(P:D->Prop):Prop:=Sl.casesOn (gt ρ i) False P 'e' λ_=>False
def gW(ρ:Ev)(i:Nat)(P:List D->Prop):Prop:=Sl.casesOn (gt ρ i) False 'e' P λ_=>False
def gV(ρ:Ev)(i:Nat)(P:OV->Prop):Prop:=Sl.casesOn (gt ρ i) False 'e' 'e' P
def Rep.I(r:Rep K G v d)(h:gu d P):∃i,v=.int i/\P i:=by
 cases d with
 | int=>show⟨_,r,h⟩
 | _=>show h.elim
def Rep.B(r:Rep K G v d)(h:uO d P):∃i,v=.bl i/\P i:=by
 cases d with
 | bl=>show⟨_,r,h⟩
 | _=>show h.elim
def Rep.S(r:Rep K G v d)(h:ZI d P):∃i,v=.str i/\P i:=by
 cases d with
 | str=>show⟨_,r,h⟩
 | _=>show h.elim
def Rep.T(r:Rep K G v d)(h:qN d P):∃a xs b,v=.ref a/\G a\.tup xs/\au K G xs b/\P b:=by
 cases d with
 | tup=>
  let⟨a,xs,e,f,g⟩:=r;show⟨a,xs,_,e,f,g,h⟩
 | _=>show h.elim
def Rep.L(r:Rep K G v d)(h:eI d P):∃a xs b,v=.ref a/\fq K G a xs/\au K G xs b/\P b:=by
 cases d with
 | lst=>
  let⟨a,xs,e,f,g⟩:=r;show⟨a,xs,_,e,f,g,h⟩
 | _=>show h.elim
def Rep.Dq(r:Rep K G v d)(h:vN d P):∃a b bs kvs,v=.ref a/\G a\.dT b bs/\fu G b bs.1/\bL K G b kvs/\P kvs:=by
 cases d with
 | dit=>
  let⟨a,xs,c,e,f,g⟩:=r;show⟨a,xs,c,_,e,f,g.1,g.2,h⟩
 | _=>show h.elim
def Rep.O(r:Rep K G v d)(h:Ob d P):∃a j C c b fs,v=.ref a/\G a\.ins C c b/\ClsAt K j C/\(∀p∈fs,gf K C p.1)/\dA K G b fs/\P fs:=by
 cases d with
 | obj=>
  let⟨a,C,c,b,e,f,g,i⟩:=r;show⟨a,_,C,c,b,_,e,f,g,i.1,i.2,h⟩
 | _=>show h.elim
def au.one(r:au K G vs ds)(h:fK ds P):∃v d,vs=[v]/\Rep K G v d/\P d:=by
 cases ds with
 | nil=>show h.elim
 | cons d t=>
  cases t with
  | cons=>show h.elim
  | nil=>
   cases vs with
   | nil=>show r.elim
   | cons v u=>
    cases u with
    | nil=>show⟨v,d,rfl,r.1,h⟩
    | cons=>show r.2.elim
def au.two(r:au K G vs ds)(h:CI ds P):∃v u d e,vs=[v,u]/\Rep K G v d/\Rep K G u e/\P d e:=by
 cases ds with
 | nil=>show h.elim
 | cons d t=>
  cases vs with
  | nil=>show r.elim
  | cons v us=>
   let⟨u,e,rfl,a,h⟩:=au.one r.2 h;show⟨v,u,d,e,rfl,r.1,a,h⟩
def vR(d:D)(P a:List D->Prop)(S:aa->Prop):Prop:=D.casesOn d False 'e' 'e' S a P (λ_ _=>False) 'e' 'e' (λ_ _=>False) λ_ _=>False
def Rep.Ds{S:aa->Prop}(r:Rep K G v d)(h:vR d P c S):(∃a xs b,v=.ref a/\fq K G a xs/\au K G xs b/\P b)\/(∃a xs b,v=.ref a/\G a\.tup xs/\au K G xs b/\c b)\/∃i,v=.str i/\S i:=by
 cases d with
 | lst=>show .inl (r.L h)
 | tup=>show .inr (.inl (r.T h))
 | str=>show .inr (.inr (r.S h))
 | _=>show h.elim
def vM(ds:List D)(P:D->Prop)(S:D->D->Prop):Prop:=vm ds False λd t=>vm t (P d) λe t=>vm t (S d e) λ_ _=>False
def au.ot(r:au K G vs ds)(h:vM ds P S):(∃v d,vs=[v]/\Rep K G v d/\P d)\/∃v u d e,vs=[v,u]/\Rep K G v d/\Rep K G u e/\S d e:=by
 cases ds with
 | nil=>show h.elim
 | cons d t=>
  cases t with
  | nil=>show .inl (r.one h)
  | cons e t=>
   cases t with
   | nil=>show .inr (r.two h)
   | cons=>show h.elim
def AZ{α:Type}(o:Option α)(P:Prop)(S:α->Prop):Prop:=Rx o P S
def zt2{S:α->Prop}(h:AZ o P S):(∃x,o\x/\S x)\/P:=by
 cases o with
 | some=>show .inl ⟨_,rfl,h⟩
 | none=>show .inr h
def GY(ds:List D)(P:Prop)(S:D->List D->Prop):Prop:=vm ds P S
def au.C(r:au K G vs ds)(h:GY ds P S):(vs=[]/\P)\/∃v us d a,vs=v::us/\Rep K G v d/\au K G us a/\S d a:=by
 cases ds with
 | nil=>
  cases vs with
  | nil=>show .inl ⟨rfl,h⟩
  | cons=>show r.elim
 | cons d a=>
  cases vs with
  | nil=>show r.elim
  | cons v us=>show .inr ⟨v,us,d,a,rfl,r.1,r.2,h⟩
def au.Zl(r:au K G vs ds)(h:fK ds λd=>gu d P):∃i,vs=[.int i]/\P i:=by
 let⟨z,z,rfl,r,h⟩:=r.one h;let⟨i,rfl,h⟩:=r.I h;show⟨i,rfl,h⟩
def au.twoI{P:Int->Int->Prop}(r:au K G vs ds)(h:CI ds λd e=>gu d λi=>gu e λj=>P i j):∃i j,vs=[.int i,.int j]/\P i j:=by
 let⟨z,z,z,z,rfl,r,a,h⟩:=r.two h;let⟨i,rfl,h⟩:=r.I h;let⟨j,rfl,h⟩:=a.I h;show⟨i,j,rfl,h⟩
def au.Zk(r:au K G vs ds)(h:fK ds λd=>eI d P):∃a xs b,vs=[.ref a]/\fq K G a xs/\au K G xs b/\P b:=by
 let⟨z,z,rfl,r,h⟩:=r.one h;let⟨a,xs,b,rfl,h⟩:=r.L h;show⟨a,xs,b,rfl,h⟩
def V8{P:α->Prop}(h:g7 o P):∃x,o\x/\P x:=by
 cases o with
 | some=>show⟨_,rfl,h⟩
 | none=>show h.elim
def dh.F(q:dh K G' H' H v r)(h:rF r P):∃d,Rep K G' v d/\r=.fz d/\P d:=by
 cases r with
 | fz d=>show⟨d,q,rfl,h⟩
 | _=>show h.elim
def dh.FB(q:dh K G' H' H v r)(h:rF r λd=>uO d P):∃i,v=.bl i/\P i:=by
 let⟨z,a,z,h⟩:=q.F h;show a.B h
def dh.W(q:dh K G' H' H v r)(h:rW r P):∃p xs ds,v=.ref p/\H p=none/\G' p=none/\H' p\.lst xs/\au K G' xs ds/\r=.ow ds/\P ds:=by
 cases r with
 | ow d=>
  let⟨p,xs,e,f,g,i,j⟩:=q;show⟨p,xs,d,e,f,g,i,j,rfl,h⟩
 | _=>show h.elim
def Ud(h:rV r P):∃o,r=.ov o/\P o:=by
 cases r with
 | ov d=>show⟨d,rfl,h⟩
 | _=>show h.elim
def zx6(h:gF ρ i P):∃d,gt ρ i=.fz d/\P d:=by
 unfold gF at h;cases e:gt ρ i with
 | fz d=>rw[e] at h;show⟨d,rfl,h⟩
 | _=>rw[e] at h;show h.elim
def zx7(h:gW ρ i P):∃d,gt ρ i=.ow d/\P d:=by
 unfold gW at h;cases e:gt ρ i with
 | ow d=>rw[e] at h;show⟨d,rfl,h⟩
 | _=>rw[e] at h;show h.elim
def Uc(h:gV ρ i P):∃d,gt ρ i=.ov d/\P d:=by
 unfold gV at h;cases e:gt ρ i with
 | ov d=>rw[e] at h;show⟨d,rfl,h⟩
 | _=>rw[e] at h;show h.elim
def y4(o:OV)(P:List (List D)->Prop):Prop:=OV.casesOn o P 'e' 'e' (λ_ _=>False) 'e' 'e' 'e' (λ_ _=>False) 'e' λ_ _=>False
def Fx(h:y4 o P):∃a,o=.ll a/\P a:=by
 cases o with
 | ll=>show⟨_,rfl,h⟩
 | _=>show h.elim
def Nz(o:OV)(P:List (List Key×List D)->Prop):Prop:=OV.casesOn o 'e' 'e' 'e' (λ_ _=>False) 'e' P 'e' (λ_ _=>False) 'e' λ_ _=>False
def zwe(h:Nz o P):∃a,o=.dt a/\P a:=by
 cases o with
 | dt=>show⟨_,rfl,h⟩
 | _=>show h.elim
def NB(o:OV)(P:List (List Key×D)->Prop):Prop:=OV.casesOn o 'e' 'e' 'e' (λ_ _=>False) 'e' 'e' 'e' (λ_ _=>False) P λ_ _=>False
def zwf(h:NB o P):∃a,o=.dq a/\P a:=by
 cases o with
 | dq=>show⟨_,rfl,h⟩
 | _=>show h.elim
def aS.gV{P:OV->Prop}(E:aS K G0 H0 ρ σ G H)(h:gV ρ i P):∃p fp o,gt ρ i=.ov o/\σ[i]?\some (.ref p)/\(p::fp).Nodup/\nk K G H p fp o/\(∀q∈p::fp,G q=none/\H0 q=none)/\P o:=by
 let⟨o,a,h⟩:=Uc h;let⟨p,fp,e,d,c,b⟩:=E.ov i o a;show⟨p,fp,o,a,e,d,c,b,h⟩
def aS.gW{P:List D->Prop}(E:aS K G0 H0 ρ σ G H)(h:gW ρ i P):∃p xs ds,σ[i]?\some (.ref p)/\H p\.lst xs/\G p=none/\H0 p=none/\au K G xs ds/\gt ρ i=.ow ds/\P ds:=by
 let⟨ds,a,h⟩:=zx7 h;let⟨p,xs,e,f,g,i,j⟩:=E.ow i ds a;show⟨p,xs,ds,e,f,g,i,j,a,h⟩
end
section
variable{X:Cx}{a b c:az}{ta tb tc:TD}
theorem dH{K:ao}{a H' H:Hp}(h:Rep K a v d):dh K a H' H v (.fz d):=h
structure Nm(X:Cx)(i:Nat)(x:aa):Prop where
 N:X.N[i]?=some x
 v:u7 X.env.scope x
 d:(x==("__debug__":aa))=false
 c:(x==("__classdict__":aa))=false
theorem lT(h:Nm X i x):PE X (.Name x pos) (Kd i):=Bi h.N h.v h.d h.c
def aF(i:Nat):TD:=λρ Q=>gF ρ i λd=>Q (.fz d)
def ae(i)(hN:Nm X i x:=by walk_at"nm"):PD X (.Name x pos) (aF i):=by
 show⟨_,lT hN,λρ σ j g G H Q P E h k=>?_⟩;let⟨d,e,h⟩:=zx6 h;let⟨v,f,b⟩:=E.fz i d e;show⟨v,f,k v H (.fz d) G (.refl E.e.s) b h⟩
def dC(d:D):TD:=λ_ Q=>Q (.fz d)
theorem Gb(h:PE X e (tC v))(r:∀K G,Rep K G v d):PD X e (dC d):=
 ⟨_,h,λρ σ b a G H Q P E h k=>k v H (.fz d) G (.refl E.e.s) (r _ _) h⟩
def gK(K G i):Rep K G (.int i) (.int i):=by simp![Rep]
def iJ(K G i):Rep K G (.bl i) (.bl i):=by simp![Rep]
def yF(K G i):Rep K G (.str i) (.str i):=by simp![Rep]
def V7(K G):Rep K G .non .non:=by simp![Rep]
theorem av:PD X (.Constant (.int i) j pos) (dC (.int i)):=Gb zvA λK G=>gK K G i
theorem Ff:PD X (.Constant (.bool i) j pos) (dC (.bl i)):=Gb Ur λK G=>iJ K G i
theorem gA:PD X (.Constant (.str i) j pos) (dC (.str i)):=Gb zvD λK G=>yF K G i
theorem fU:PD X (.Constant .none j pos) (dC .non):=Gb zvC λK G=>V7 K G
abbrev O2:=D->D->(R->Prop)->Prop
def gG(X:Cx)(f:af->af->Sem af)(o:O2):Prop:=∃r:R2,eh X f r/\∀G H x y d e Q P,aW G H->Rep X.K G x d->Rep X.K G y e->o d e Q->
 (∀v H' a b,Ext G H b H'->dh X.K b H' H v a->Q a->P v H')->r x y H P
def bg(o:O2)(ta tb:TD):TD:=λρ Q=>ta ρ λb=>tb ρ λa=>o b.val a.val Q
def Fw
  (J:∀G H x y d e Q P,aW G H->Rep X.K G x d->Rep X.K G y e->o d e Q->(∀v H' j a,Ext G H a H'->dh X.K a H' H v j->Q j->P v H')->r x y H P)
  (M:∀ρ b f c G H Q P,aS X.K f c ρ b G H->ta ρ Q->(∀v H' r a,Ext G H a H'->dh X.K a H' H v r->Q r->P v H')->m b H P)
  (L:∀ρ b f c G H Q P,aS X.K f c ρ b G H->tb ρ Q->(∀v H' r a,Ext G H a H'->dh X.K a H' H v r->Q r->P v H')->n b H P)
  (ρ b f c G H Q P) (E:aS X.K f c ρ b G H) (h:bg o ta tb ρ Q) (k:∀v H' r a,Ext G H a H'->dh X.K a H' H v r->Q r->P v H'):Co r m n b H P:=by
 show M ρ b f c G H _ _ E h λv H1 Z G1 w C S=>?_
 let⟨T,l,I,V⟩:=C.freeze w;show L ρ b f c T H1 _ _ (E.ext l) S λu W Y G2 t B O=>?_
 let⟨U,i,F,V⟩:=B.freeze t;show J U W v u _ _ Q P i.s (I.mono i.g) F O λz H' j a q A N=>?_
 have p:=(l.trans i).trans q;show k z H' j a p (A.pG (l.trans i).h) N
def aG(i:gG X (binaryOp op) o)(m:PD X a ta)(j:PD X b tb):PD X (.BinOp a op b pos) (bg o ta tb):=by
 symm;let⟨r,h,g⟩:=i;let⟨n,f,e⟩:=m;let⟨p,pb,d⟩:=j;show⟨_,zxU h f pb,Fw g e d⟩
def qG(i:gG X (compareOp op) o)(n:PD X a ta)(m:PD X b tb)(j:behindInMarks op b=false:=by first | show Vb _ | rfl):PD X (.Compare a [op] [b] pos) (bg o ta tb):=by
 symm;let⟨r,h,g⟩:=i;let⟨p,f,e⟩:=n;let⟨q,pb,d⟩:=m;show⟨_,ztK h f pb j,Fw g e d⟩
def fB(t:TD):eN:=λρ Q=>t ρ λr=>rF r λd=>uO d λk=>Q k
def bj(q:gG X (compareOp op) o)(u:PD X a ta)(t:PD X b tb)(s:behindInMarks op b=false:=by first | show Vb _ | rfl):PB X (.Compare a [op] [b] pos) (fB (bg o ta tb)):=by
 symm;let⟨r,p,n⟩:=q;let⟨z,m,j⟩:=u;let⟨A,pb,i⟩:=t;show⟨_,ztM p m pb s,λρ σ x w G H Q P E h k=>?_⟩;show Fw n j i ρ σ x w G H _ _ E h λv H' r y f g d=>?_
 let⟨kk,e,d⟩:=g.FB d;show⟨kk,e,k kk H' y f d⟩
def vX(h:PD X e t)(he:∀whole,isTrue e X.env whole=(do let v <-whole;standAt e.pos;holding [v] (truthy v)):=by intro _;rfl):PB X e (fB t):=by
 let⟨tt,p,q⟩:=h;show⟨_,zvE p he,λρ σ f d G H Q P E h k=>?_⟩;show q ρ σ f d G H _ _ E h λv H' r g b c a=>?_
 let⟨kk,e,a⟩:=c.FB a;show⟨kk,e,k kk H' g b a⟩
def qw:O2:=λd e Q=>match d,e with
 | .int i,.int j=>Q (.fz (.int (i+j)))
 | .str x,.str y=>x.length+y.length<=sizeLine/\Q (.fz (.str (x++y)))
 | .lst xs,.lst ys=>xs.length+ys.length<=sizeLine/\Q (.ow (xs++ys))
 | _,_=>False
def zx8(K:ao):R2:=λx y H Q=>∃l b xs zs,x=.ref l/\y=.ref b/\fq K H l xs/\fq K H b zs/\xs.length+zs.length<=sizeLine/\∀p,H p=none->Q (.ref p) (upd H p (.lst (xs++zs)))
def zt3:eh X (binaryOp .Add) (zx8 X.K):=by
 intro A s σ H x y v u Q I i g h;symm;let⟨l,b,xs,zs,rfl,rfl,j,m,hz,q⟩:=h;cases i;cases g;symm;let⟨z,its,n,r,e⟩:=I.cB j;let⟨t,f,n2,d,p⟩:=I.cB m;have hl:=r.length;have w:=d.length;show PySem.P.add_list e p ?_ 'g';have o:its.toArray++f.toArray=(its++f).toArray:=by simp
 rw[o];show⟨.ref _,_,I.ZC (t':=s.toks) (r.append d) (by rw[bP];room),rfl,q _ I.fresh⟩
theorem sk{Q:R->Prop}{P:VK}(s:aW G H)(r:au X.K G xs ds)(q:Q (.ow ds))
  (k:∀v H' b c,Ext G H c H'->dh X.K c H' H v b->Q b->P v H'):∀p,H p=none->P (.ref p) (upd H p (.lst xs)):=λp a=>
 k _ _ (.ow ds) G (.own s a) ⟨p,xs,rfl,a,s.free a,eV,r⟩ q
def cj:gG X (binaryOp .Add) qw:=by
 show⟨_,abf.or (abe.or zt3),λG H x y d e Q P s g f h k=>?_⟩;unfold qw at h;split at h
 .exact .inl ⟨_,_,g,f,k _ _ _ G (.refl s) (dH (gK _ _ _)) h⟩
 .exact .inr (.inl ⟨_,_,g,f,h.1,k _ _ _ G (.refl s) (dH (yF _ _ _)) h.2⟩)
 .symm;let⟨a,xs,rfl,hx,j⟩:=g;let⟨b,ys,rfl,m,i⟩:=f;show .inr (.inr ⟨_,_,_,_,rfl,rfl,s.cB hx,s.cB m,by rw[j.length,i.length];show h.1,sk s (j.append i) h.2 k⟩)
 show h.elim
def oI(C:Int->Int->Prop)(g:Int->Int->D):O2:=λd e Q=>gu d λi=>gu e λj=>C i j/\Q (.fz (g i j))
def jL(g:Int->Int->D):O2:=λd e Q=>gu d λi=>gu e λj=>Q (.fz (g i j))
def Fb(h:eh X f (rI C g))(c:∀K G i j,Rep K G (g i j) (g' i j)):gG X f (oI C g'):=by
 show⟨_,h,λG H x y d e Q P s b a h k=>?_⟩;let⟨i,e,h⟩:=b.I h;let⟨j,l,h⟩:=a.I h;show⟨_,_,e,l,h.1,k _ _ _ G (.refl s) (dH (c _ _ _ _)) h.2⟩
def Bf(h:eh X f (mW g))(c:∀K G i j,Rep K G (g i j) (g' i j)):gG X f (jL g'):=by
 show⟨_,h,λG H x y d e Q P s b a h k=>?_⟩;let⟨i,e,h⟩:=b.I h;let⟨j,l,h⟩:=a.I h;show⟨_,_,e,l,k _ _ _ G (.refl s) (dH (c _ _ _ _)) h⟩
theorem KH:gG X (binaryOp .Sub) (jL λi j=>.int (i-j)):=Bf zvS λK G i j=>gK K G _
theorem qB:gG X (binaryOp .Mult) (oI xp λi j=>.int (i*j)):=Fb zvT λK G i j=>gK K G _
theorem gJ:gG X (binaryOp .FloorDiv) (oI A1 λi j=>.int (i/j)):=Fb ztH λK G i j=>gK K G _
theorem cK:gG X (binaryOp .Mod) (oI (λ_ j=>0<j) λi j=>.int (i%j)):=Fb zvU λK G i j=>gK K G _
theorem A6:gG X (binaryOp .Pow) (oI vJ λi j=>.int (i ^ j.toNat)):=Fb zvV λK G i j=>gK K G _
theorem vL:gG X (compareOp .Lt) (jL λi j=>.bl (decide (i<j))):=Bf zxW λK G i j=>iJ K G _
theorem zzv:gG X (compareOp .LtE) (jL λi j=>.bl (decide (i<=j))):=Bf KA λK G i j=>iJ K G _
theorem uf:gG X (compareOp .Gt) (jL λi j=>.bl (decide (j<i))):=Bf zxX λK G i j=>iJ K G _
theorem zzw:gG X (compareOp .GtE) (jL λi j=>.bl (decide (j<=i))):=Bf zxY λK G i j=>iJ K G _
end
open PySem.SeqAt
mutual
noncomputable def cV:D->D->Bool
 | .non,.non=>true
 | .bl a,.bl b=>a==b
 | .bl a,.int b=>(if a then 1 else 0)==b
 | .int a,.bl b=>a==(if b then 1 else 0)
 | .int a,.int b=>a==b
 | .str a,.str b=>a==b
 | .tup xs,.tup ys=>kj xs ys
 | .lst xs,.lst ys=>kj xs ys
 | _,_=>false
noncomputable def kj:List D->List D->Bool
 | [],[]=>true
 | x::xs,y::ys=>cV x y&&kj xs ys
 | _,_=>false
end
def bN:Nat->D->Prop
 | _,.non=>True
 | _,.bl _=>True
 | _,.int _=>True
 | _,.str _=>True
 | n+1,.tup ds=>∀d∈ds,bN n d
 | n+1,.lst ds=>∀d∈ds,bN n d
 | _,_=>False
theorem bN.mono:∀{n m d},n<=m->bN n d->bN m d
 | n,m,.non,_,_=>by cases m<;>show trivial
 | n,m,.bl _,_,_=>by cases m<;>show trivial
 | n,m,.int _,_,_=>by cases m<;>show trivial
 | n,m,.str _,_,_=>by cases m<;>show trivial
 | 0,m,.tup ds,_,h=>by cases h
 | 0,m,.lst ds,_,h=>by cases h
 | n+1,0,.tup ds,l,h=>by room
 | n+1,0,.lst ds,l,h=>by room
 | n+1,m+1,.tup ds,l,h=>λd hd=>bN.mono (by room) (h d hd)
 | n+1,m+1,.lst ds,l,h=>λd hd=>bN.mono (by room) (h d hd)
 | 0,m,.obj _ _,_,h=>by cases h
 | n+1,m,.obj _ _,_,h=>by cases h
 | 0,m,.dic _,_,h=>by cases h
 | 0,m,.dit _,_,h=>by cases h
 | 0,m,.exc _ _,_,h=>by cases h
 | 0,m,.idn _ _,_,h=>by cases h
 | n+1,m,.dic _,_,h=>by cases h
 | n+1,m,.dit _,_,h=>by cases h
 | n+1,m,.exc _ _,_,h=>by cases h
 | n+1,m,.idn _ _,_,h=>by cases h
mutual
theorem Ga:∀(n:Nat)(d:D),bN n d->cV d d=true
 | n,.non,_=>by simp![cV]
 | n,.bl _,_=>by show o5 _
 | n,.int _,_=>by show o5 _
 | n,.str _,_=>by show o5 _
 | 0,.tup ds,h=>by cases h
 | 0,.lst ds,h=>by cases h
 | n+1,.tup ds,h=>by show L9 n ds h
 | n+1,.lst ds,h=>by show L9 n ds h
 | 0,.obj _ _,h=>by cases h
 | n+1,.obj _ _,h=>by cases h
 | 0,.dic _,h=>by cases h
 | 0,.dit _,h=>by cases h
 | 0,.exc _ _,h=>by cases h
 | 0,.idn _ _,h=>by cases h
 | n+1,.dic _,h=>by cases h
 | n+1,.dit _,h=>by cases h
 | n+1,.exc _ _,h=>by cases h
 | n+1,.idn _ _,h=>by cases h
theorem L9:∀(n:Nat)(ds:List D),(∀d∈ds,bN n d)->kj ds ds=true
 | n,[],_=>by simp![kj]
 | n,d::ds,h=>by simp![kj,Ga n d (h d (by room)),L9 n ds (λe he=>h e (by room)),Bool.and_self]
end
theorem L0:∀{xs ys},xs.length≠ys.length->kj xs ys=false
 | [],[],h=>absurd rfl h
 | x::xs,y::ys,h=>by
  rw[kj,L0 (xs:=xs) (ys:=ys) (by simpa using h),Ja]
 | [],_::_,_=>by simp![kj]
 | _::_,[],_=>by simp![kj]
theorem LZ:∀xs ys,xs.length=ys.length->kj xs ys=(bA xs.length).all λj=>cV (xs.getD j .non) (ys.getD j .non)
 | [],[],_=>by rfl
 | x::xs,y::ys,h=>by
  rw[kj,LZ xs ys (by simpa using h),cZ,List.range_succ_eq_map,IU,List.all_map];congr 1
 | [],_::_,h=>by trivial
 | _::_,[],h=>by trivial
def zrb(xs ys):((bA (min xs.length ys.length)).all (λj=>cV (xs.getD j .non) (ys.getD j .non))&&xs.length==ys.length)=kj xs ys:=by
 by_cases h:xs.length=ys.length
 .rw[LZ xs ys h,h];simp
 rw[L0 h];lia
section
variable{X:Cx}{J':List (ag×aV)}{σ:St}{H:Hp}{s:ai}
mutual
theorem Lw(I:Inv X J' σ H s):∀(n:Nat)(d e:D)(v:V),bN n d->bN n e->Rep X.K H v d->Rep X.K H v e->d=e
 | n,.non,e,v,h,h',r,c=>by
  cases e<;>simp only[Rep] at r c<;>subst r<;>grind
 | n,.bl b,e,v,h,h',r,c=>by
  cases e<;>simp only[Rep] at r c<;>subst r<;>grind
 | n,.int b,e,v,h,h',r,c=>by
  cases e<;>simp only[Rep] at r c<;>subst r<;>grind
 | n,.str b,e,v,h,h',r,c=>by
  cases e<;>simp only[Rep] at r c<;>subst r<;>grind
 | 0,.tup ds,e,v,h,h',r,c=>by cases h
 | 0,.lst ds,e,v,h,h',r,c=>by cases h
 | n+1,.tup ds,e,v,h,h',r,c=>by
  let⟨a,xs,rfl,q,rs⟩:=r;cases e<;>simp only[Rep] at c
  case tup j=>
   let⟨b,ys,i,f,g⟩:=c;cases i;rw[I.YZ (cY.of f) (cY.of q)] at g;rw[LY I n ds j xs h h' rs g]
  case lst j=>
   let⟨b,ys,i,f,g⟩:=c;cases i;let⟨its,z,k,z⟩:=I.tuple (cY.of q);let⟨its',z,l,z⟩:=I.list f.sq;show absurd rfl (ne_of_list_tuple l.isList (show s.heap.IsTuple a its.toArray from k))
  case obj=>cases h'
  case dic=>cases h'
  case dit=>cases h'
  case exc=>cases h'
  case idn=>cases h'
  all_goals cases c
 | n+1,.lst ds,e,v,h,h',r,c=>by
  let⟨a,xs,rfl,q,rs⟩:=r;cases e<;>simp only[Rep] at c
  case lst j=>
   let⟨b,ys,i,f,g⟩:=c;cases i;rw[I.CC f.sq q.sq] at g;rw[LY I n ds j xs h h' rs g]
  case tup j=>
   let⟨b,ys,i,f,g⟩:=c;cases i;let⟨its,z,k,z⟩:=I.tuple (cY.of f);let⟨its',z,l,z⟩:=I.list q.sq;show absurd rfl (ne_of_list_tuple l.isList (show s.heap.IsTuple a its.toArray from k))
  case obj=>cases h'
  case dic=>cases h'
  case dit=>cases h'
  case exc=>cases h'
  case idn=>cases h'
  all_goals cases c
 | 0,.obj _ _,_,_,h,_,_,_=>by cases h
 | n+1,.obj _ _,_,_,h,_,_,_=>by cases h
 | 0,.dic _,_,_,h,_,_,_=>by cases h
 | 0,.dit _,_,_,h,_,_,_=>by cases h
 | 0,.exc _ _,_,_,h,_,_,_=>by cases h
 | 0,.idn _ _,_,_,h,_,_,_=>by cases h
 | n+1,.dic _,_,_,h,_,_,_=>by cases h
 | n+1,.dit _,_,_,h,_,_,_=>by cases h
 | n+1,.exc _ _,_,_,h,_,_,_=>by cases h
 | n+1,.idn _ _,_,_,h,_,_,_=>by cases h
theorem LY(I:Inv X J' σ H s):∀(n:Nat)(ds b:List D)(f:List V),(∀d∈ds,bN n d)->(∀d∈b,bN n d)->au X.K H f ds->au X.K H f b->ds=b
 | n,[],[],_,_,_,_,_=>rfl
 | n,d::ds,e::b,v::f,h,h',r,g=>by
  rw[Lw I n d e v (h d (by room)) (h' e (by room)) r.1 g.1,LY I n ds b f (λx hx=>h x (by room)) (λx hx=>h' x (by room)) r.2 g.2]
 | n,[],_::_,[],_,_,_,r=>by simp![au] at r
 | n,[],_::_,_::_,_,_,r,_=>by simp![au] at r
 | n,_::_,[],[],_,_,r,_=>by simp![au] at r
 | n,_::_,[],_::_,_,_,_,r=>by simp![au] at r
 | n,_::_,_::_,[],_,_,r,_=>by simp![au] at r
end
def Bl(e:Vals b us)(h:au X.K H b ds)(o):∃v,RelV v us.toArray[j]/\Rep X.K H v (ds.getD j .non)/\ds.getD j .non∈ds:=by
 have i:j<us.length:=by trivial
 have f:j<b.length:=by rw[e.length];show i
 symm;let⟨u,n,m⟩:=e.get (cA f);let⟨d,hd,g⟩:=h.aah (cA f);grind
def unV:af->V
 | .none=>.non
 | .bool b=>.bl b
 | .int i _=>.int i
 | .str x _=>.str x
 | .bytes b _=>.Dj b
 | .float b _=>.C5 b
 | .ref a=>.ref a
 | .type n=>.ty n
 | _=>.non
def K6(h:RelV x v):unV v=x:=by
 cases x<;>first | (cases h;rfl) | (let⟨t,rfl⟩:=h;rfl)
theorem KG(I:Inv X j σ H s)(hd:bN n d)(he:bN n e)(a:Rep X.K H x d)(g:Rep X.K H y e)(f:RelV x v)(i:RelV y u)(h:RcAt A s v u (cV d e)):EqAt A s v u (cV d e):=λprog w E Q c=>by
 unfold eqBool;show gi (xK (λz=>?_) λ_=>?_)
 .cases eq_of_beq z;cases (K6 f).symm.trans (K6 i);cases Lw I n d e x hd he a g;rw[Ga n d hd] at c;show aj (mB (ay c))
 cases v with
 | float b t=>
  cases K6 f;exfalso
  cases d<;>first | (cases a;done) | (let⟨r,r,z,r⟩:=a;cases z;done) | (cases n<;>cases hd)
 | _=>show aj (h prog w E _ (lA c))
end
section
variable{X:Cx}{σ:St}
def zu(r:Rep X.K H y .non)(q:RelV y u):u=.none:=by simp![Rep] at r;subst r;cases q;rfl
def zA(r:Rep X.K H y (.bl c))(q:RelV y u):u=.bool c:=by simp![Rep] at r;subst r;cases q;rfl
def zz(r:Rep X.K H y (.int i))(q:RelV y u):∃t,u=.int i t:=by simp![Rep] at r;subst r;show q
def zt(r:Rep X.K H y (.str x))(q:RelV y u):∃t,u=.str x t:=by simp![Rep] at r;subst r;show q
def C6(I:Inv X J' σ H s)(r:Rep X.K H y (.tup e))(q:RelV y u):∃b it,u=.ref b/\s.heap.IsTuple b (Q6 it):=by
 simp![Rep] at r;symm;let⟨b,ys,rfl,h,z⟩:=r;cases q;let⟨it,z,d,z⟩:=I.tuple (cY.of h);show⟨b,it,rfl,d⟩
def C7(I:Inv X J' σ H s)(r:Rep X.K H y (.lst e))(q:RelV y u):∃b it,u=.ref b/\s.heap.IsList b (Q6 it):=by
 simp![Rep] at r;symm;let⟨b,ys,rfl,h,z⟩:=r;cases q;let⟨it,z,d,z⟩:=I.list h.sq;show⟨b,it,rfl,d.isList⟩
def KD(I:Inv X J' σ H s):∀n A d e x y v u,bN n d->bN n e->A.units+n<cLine->Rep X.K H x d->Rep X.K H y e->RelV x v->RelV y u->RcAt A s v u (cV d e)/\RcNeAt A s v u (!cV d e):=by
 intro n;induction n using Nat.strongRecOn with | ind n P=>?_
 intro A d e x y v u hd he Q m f p g;have c:A.units<cLine:=by lia
 cases d
 case non=>
  simp![Rep] at m;subst m;cases p;cases e
  case non=>cases zu f g;show⟨RcAt.none_none,RcNeAt.none_none⟩
  case bl=>cases zA f g;show⟨RcAt.none_bool _,RcNeAt.none_bool _⟩
  case int=>let⟨t,rfl⟩:=zz f g;show⟨RcAt.none_int _ t,RcNeAt.none_int _ t⟩
  case str=>let⟨t,rfl⟩:=zt f g;show⟨RcAt.none_str _ t,RcNeAt.none_str _ t⟩
  case tup=>let⟨b,it,rfl,i⟩:=C6 I f g;show⟨RcAt.none_tuple i c,RcNeAt.none_tuple i c⟩
  case lst=>let⟨b,it,rfl,i⟩:=C7 I f g;show⟨RcAt.none_list i c,RcNeAt.none_list i c⟩
  all_goals (cases n<;>cases he)
 case bl a=>
  simp![Rep] at m;subst m;cases p;cases e
  case non=>cases zu f g;show⟨RcAt.bool_none _,RcNeAt.bool_none _⟩
  case bl=>cases zA f g;show⟨RcAt.bool_bool _ _,RcNeAt.bool_bool _ _⟩
  case int=>let⟨t,rfl⟩:=zz f g;show⟨RcAt.bool_int _ _ t,RcNeAt.bool_int _ _ t⟩
  case str=>let⟨t,rfl⟩:=zt f g;show⟨RcAt.bool_str _ _ t,RcNeAt.bool_str _ _ t⟩
  case tup=>let⟨b,it,rfl,i⟩:=C6 I f g;show⟨RcAt.bool_tuple _ i c,RcNeAt.bool_tuple _ i c⟩
  case lst=>let⟨b,it,rfl,i⟩:=C7 I f g;show⟨RcAt.bool_list _ i c,RcNeAt.bool_list _ i c⟩
  all_goals (cases n<;>cases he)
 case int a=>
  simp![Rep] at m;subst m;let⟨t0,rfl⟩:=p;cases e
  case non=>cases zu f g;show⟨RcAt.int_none _ t0,RcNeAt.int_none _ t0⟩
  case bl=>cases zA f g;show⟨RcAt.int_bool _ t0 _,RcNeAt.int_bool _ t0 _⟩
  case int=>let⟨t,rfl⟩:=zz f g;show⟨RcAt.int_int _ t0 _ t,RcNeAt.int_int _ t0 _ t⟩
  case str=>let⟨t,rfl⟩:=zt f g;show⟨RcAt.int_str _ t0 _ t,RcNeAt.int_str _ t0 _ t⟩
  case tup=>let⟨b,it,rfl,i⟩:=C6 I f g;show⟨RcAt.int_tuple _ t0 i c,RcNeAt.int_tuple _ t0 i c⟩
  case lst=>let⟨b,it,rfl,i⟩:=C7 I f g;show⟨RcAt.int_list _ t0 i c,RcNeAt.int_list _ t0 i c⟩
  all_goals (cases n<;>cases he)
 case str a=>
  simp![Rep] at m;subst m;let⟨t0,rfl⟩:=p;cases e
  case non=>cases zu f g;show⟨RcAt.str_none _ t0,RcNeAt.str_none _ t0⟩
  case bl=>cases zA f g;show⟨RcAt.str_bool _ t0 _,RcNeAt.str_bool _ t0 _⟩
  case int=>let⟨t,rfl⟩:=zz f g;show⟨RcAt.str_int _ t0 _ t,RcNeAt.str_int _ t0 _ t⟩
  case str=>let⟨t,rfl⟩:=zt f g;show⟨RcAt.str_str _ t0 _ t,RcNeAt.str_str _ t0 _ t⟩
  case tup=>let⟨b,it,rfl,i⟩:=C6 I f g;show⟨RcAt.str_tuple _ t0 i c,RcNeAt.str_tuple _ t0 i c⟩
  case lst=>let⟨b,it,rfl,i⟩:=C7 I f g;show⟨RcAt.str_list _ t0 i c,RcNeAt.str_list _ t0 i c⟩
  all_goals (cases n<;>cases he)
 case tup ds=>
  cases n with
  | zero=>cases hd
  | succ n=>
  have O:A.in1.units+n<cLine:=by show A.units+1+n<cLine;lia
  simp![Rep] at m;let⟨a,xs,rfl,q,rs⟩:=m;cases p;let⟨its,B,N,Z⟩:=I.tuple (cY.of q);have k:s.heap.IsTuple a its.toArray:=N;cases e
  case non=>cases zu f g;show⟨RcAt.tuple_none k c,RcNeAt.tuple_none k c⟩
  case bl=>cases zA f g;show⟨RcAt.tuple_bool _ k c,RcNeAt.tuple_bool _ k c⟩
  case int=>let⟨t,rfl⟩:=zz f g;show⟨RcAt.tuple_int _ t k c,RcNeAt.tuple_int _ t k c⟩
  case str=>let⟨t,rfl⟩:=zt f g;show⟨RcAt.tuple_str _ t k c,RcNeAt.tuple_str _ t k c⟩
  case lst l=>let⟨b,it,rfl,i⟩:=C7 I f g;show⟨RcAt.tuple_list k i c,RcNeAt.tuple_list k i c⟩
  case tup l=>
   simp![Rep] at f;let⟨b,ys,rfl,M,C⟩:=f;cases g;let⟨its',z,o,Z⟩:=I.tuple (cY.of M);have E:∀j (F:j<its.toArray.size) (i:j<its'.toArray.size),EqAt A.in1 s its.toArray[j] its'.toArray[j] (cV (ds.getD j .non) (l.getD j .non)):=λj F i=>by
    let⟨v1,a1,L,c1⟩:=Bl B rs F;let⟨v2,a2,J,G⟩:=Bl z C i;show KG I (hd _ c1) (he _ G) L J a1 a2 (P n (tW n) A.in1 _ _ v1 v2 _ _ (hd _ c1) (he _ G) O L J a1 a2).1
   have h:=Ih (RcAt.tuples (e:=λj=>cV (ds.getD j .non) (l.getD j .non)) k (show s.heap.IsTuple b its'.toArray from o) c E) (RcNeAt.tuples (e:=λj=>cV (ds.getD j .non) (l.getD j .non)) k (show s.heap.IsTuple b its'.toArray from o) c E);have l1:its.toArray.size=ds.length:=by rw[eP,<-B.length,rs.length]
   have r:its'.toArray.size=l.length:=by rw[eP,<-z.length,C.length]
   rw[l1,r,zrb] at h;simpa only[cV] using h
  all_goals cases he
 case lst ds=>
  cases n with
  | zero=>cases hd
  | succ n=>
  have O:A.in1.units+n<cLine:=by show A.units+1+n<cLine;lia
  simp![Rep] at m;let⟨a,xs,rfl,q,rs⟩:=m;cases p;let⟨its,B,N,Z⟩:=I.list q.sq;have k:=N.isList;cases e
  case non=>cases zu f g;show⟨RcAt.list_none k c,RcNeAt.list_none k c⟩
  case bl=>cases zA f g;show⟨RcAt.list_bool _ k c,RcNeAt.list_bool _ k c⟩
  case int=>let⟨t,rfl⟩:=zz f g;show⟨RcAt.list_int _ t k c,RcNeAt.list_int _ t k c⟩
  case str=>let⟨t,rfl⟩:=zt f g;show⟨RcAt.list_str _ t k c,RcNeAt.list_str _ t k c⟩
  case tup l=>let⟨b,it,rfl,i⟩:=C6 I f g;show⟨RcAt.list_tuple k i c,RcNeAt.list_tuple k i c⟩
  case lst l=>
   simp![Rep] at f;let⟨b,ys,rfl,M,C⟩:=f;cases g;let⟨its',z,o,Z⟩:=I.list M.sq;have l1:its.toArray.size=ds.length:=by rw[eP,<-B.length,rs.length]
   have r:its'.toArray.size=l.length:=by rw[eP,<-z.length,C.length]
   by_cases w:ds.length=l.length
   .have E:∀j (F:j<its.toArray.size) (i:j<its'.toArray.size),EqAt A.in1 s its.toArray[j] its'.toArray[j] (cV (ds.getD j .non) (l.getD j .non)):=λj F i=>by
     let⟨v1,a1,L,c1⟩:=Bl B rs F;let⟨v2,a2,J,G⟩:=Bl z C i;show KG I (hd _ c1) (he _ G) L J a1 a2 (P n (tW n) A.in1 _ _ v1 v2 _ _ (hd _ c1) (he _ G) O L J a1 a2).1
    have h:=Ih (RcAt.lists (e:=λj=>cV (ds.getD j .non) (l.getD j .non)) k o.isList (by rw[l1,r,w]) c E) (RcNeAt.lists (e:=λj=>cV (ds.getD j .non) (l.getD j .non)) k o.isList (by rw[l1,r,w]) c E);rw[l1,<-LZ ds l w] at h;simpa only[cV] using h
   have h:=Ih (RcAt.lists_lengths (A:=A) k o.isList (by rw[l1,r];simpa using w) c) (RcNeAt.lists_lengths (A:=A) k o.isList (by rw[l1,r];simpa using w) c);simp![cV,L0 w];show h
  all_goals cases he
 all_goals (cases n<;>cases hd)
theorem zwg(I:Inv X J' σ H s)(n A d e x y v u)(hd:bN n d)(he:bN n e)(g:A.units+n<cLine)(b:Rep X.K H x d)(a:Rep X.K H y e)(f:RelV x v)(c:RelV y u):EqAt A s v u (cV d e):=KG I hd he b a f c (KD I n A d e x y v u hd he g b a f c).1
end
section
variable{X:Cx}
def oEq:O2:=λd e Q=>bN 9 d/\bN 9 e/\Q (.fz (.bl (cV d e)))
def sN:O2:=λd e Q=>bN 9 d/\bN 9 e/\Q (.fz (.bl (!cV d e)))
def ef(i:X.A.units+64<cLine):gG X (compareOp .Eq) oEq:=by
 show⟨λx y H Q=>∃d e,bN 9 d/\bN 9 e/\Rep X.K H x d/\Rep X.K H y e/\Q (.bl (cV d e)) H,λj s σ H x y v u Q I f b h=>?_,λG H x y d e Q P s f b h k=>?_⟩
 .symm;let⟨d,e,hd,he,g,re,q⟩:=h;show(KD I 9 X.A d e x y v u hd he 'a' g re f b).1 _ _ _ _ ⟨.bl _,H,I,rfl,q⟩
 show⟨d,e,h.1,h.2.1,f.mono s,b.mono s,k _ _ _ G (.refl s) (dH (iJ _ _ _)) h.2.2⟩
def EN(i:X.A.units+64<cLine):gG X (compareOp .NotEq) sN:=by
 show⟨λx y H Q=>∃d e,bN 9 d/\bN 9 e/\Rep X.K H x d/\Rep X.K H y e/\Q (.bl (!cV d e)) H,λj s σ H x y v u Q I f b h=>?_,λG H x y d e Q P s f b h k=>?_⟩
 .symm;let⟨d,e,hd,he,g,re,q⟩:=h;show(KD I 9 X.A d e x y v u hd he 'a' g re f b).2 _ _ _ _ ⟨.bl _,H,I,rfl,q⟩
 show⟨d,e,h.1,h.2.1,f.mono s,b.mono s,k _ _ _ G (.refl s) (dH (iJ _ _ _)) h.2.2⟩
def inD(d:D)(ds:List D):Bool:=ds.any λe=>cV e d
def qv(a:Bool):O2:=λd e Q=>match d,e with
 | .str x,.str y=>Q (.fz (.bl (if a then !(!(xS y x 0 y.length 1).isEmpty) else !(xS y x 0 y.length 1).isEmpty)))
 | d,.lst b=>bN 8 d/\(∀e∈b,bN 8 e)/\Q (.fz (.bl (if a then !inD d b else inD d b)))
 | d,.tup b=>bN 8 d/\(∀e∈b,bN 8 e)/\Q (.fz (.bl (if a then !inD d b else inD d b)))
 | _,_=>False
def qS(X:Cx)(H:Hp)(d:D)(u:af):Bool:=open Classical in if h:∃(v:V)(e:D),bN 8 e/\RelV v u/\Rep X.K H v e then cV h.choose_spec.choose d else false
def K5{g:St}(I:Inv X n g H s)(he:bN 8 e)(c:RelV v u)(f:Rep X.K H v e):qS X H d u=cV e d:=by
 have h:∃(v:V)(e:D),bN 8 e/\RelV v u/\Rep X.K H v e:=⟨v,e,he,c,f⟩
 unfold qS;rw[dif_pos h];let⟨l,k,j⟩:=h.choose_spec.choose_spec;have m:h.choose=v:=RelV.inj k c;have i:∀b,b=v->∀a,bN 8 a->Rep X.K H b a->a=e:=λb hv a o r=>by subst hv;show Lw I 8 _ e _ o he r f
 rw[i _ m _ l j]
theorem K4{f:St}(I:Inv X g f H s):∀{a c us},(∀e∈a,bN 8 e)->Vals c us->au X.K H c a->us.any (qS X H d)=inD d a
 | [],_,_,_,b,re=>by
  cases b
  .rfl
  simp![au] at re
 | e::a,_,_,h,b,re=>by
  cases b with
  | nil=>simp![au] at re
  | cons r t=>
   simp![au] at re;rw[rg,K5 I (h e 'c') r re.1,K4 I (λx hx=>h x 'i') t re.2];rfl
theorem LX{g:St}(I:Inv X o g H s)(hd:bN 8 d)(m:A.units+8<cLine)(h:Rep X.K H x d)(l:RelV x v)
  (he:∀e∈c,bN 8 e) (i:Vals a b) (k:au X.K H a c):∀u∈b.toArray,EqAt A s u v (qS X H d u):=λu p=>by
 let⟨j,n,e⟩:=Array.mem_iff_getElem.mp p;let⟨w,a1,f,c1⟩:=Bl i k n;rw[e] at a1;rw[K5 I (he _ c1) a1 f];show zwg I 8 A _ _ w x _ _ (he _ c1) hd m f h a1 l
def zwh(b:Bool)(w:X.A.units+64<cLine):eh X (compareOp (if b then .NotIn else .In)) (λx y H Q=>∃p d i j,y=.ref p/\(bS X.K H p j\/cY X.K H p j)/\bN 8 d/\(∀e∈i,bN 8 e)/\Rep X.K H x d/\au X.K H j i/\Q (.bl (if b then !inD d i else inD d i)) H):=by
 intro z s σ H x y v u Q I m t h;symm;let⟨p,d,i,j,rfl,f,hd,he,n,re,q⟩:=h;cases t;have o:X.A.in1.units+8<cLine:=by show X.A.units+1+8<cLine;lia
 symm;rcases f with f | f
 .symm;let⟨its,r,pl,hz⟩:=I.list f;have g:=LX I hd o n m he r re;rw[<-K4 I he r re,<-show its.toArray.any (qS X H d)=its.any (qS X H d) by simp] at q;cases b
  .exact SeqAt.in_listAt _ pl.isList g ⟨.bl _,H,I,rfl,q⟩
  show SeqAt.notIn_listAt _ pl.isList g ⟨.bl _,H,I,rfl,q⟩
 symm;let⟨its,r,pl,hz⟩:=I.tuple f;have g:=LX I hd o n m he r re;rw[<-K4 I he r re,<-show its.toArray.any (qS X H d)=its.any (qS X H d) by simp] at q;cases b
 .exact SeqAt.in_tupleAt _ pl g ⟨.bl _,H,I,rfl,q⟩
 show SeqAt.notIn_tupleAt _ pl g ⟨.bl _,H,I,rfl,q⟩
def Ub(c)(l:X.A.units+64<cLine):gG X (compareOp (if c then .NotIn else .In)) (qv c):=by
 have m:eh X (compareOp (if c then .NotIn else .In)) λx y H Q=>∃a b,x=.str a/\y=.str b/\Q (.bl (if c then !(!(xS b a 0 b.length 1).isEmpty) else !(xS b a 0 b.length 1).isEmpty)) H:=by
  cases c
  .exact zn9
  show zjM
 show⟨_,m.or (zwh c l),λG H x y d e Q P s g f h k=>?_⟩;unfold qv at h;split at h
 .simp![Rep] at g f;show .inl ⟨_,_,g,f,k _ _ _ G (.refl s) (dH (iJ _ _ _)) h⟩
 .simp![Rep] at f;let⟨a,ys,rfl,j,i⟩:=f;show .inr ⟨a,_,_,ys,rfl,.inl ((s.cB j).sq),h.1,h.2.1,g.mono s,i.mono s,k _ _ _ G (.refl s) (dH (iJ _ _ _)) h.2.2⟩
 .simp![Rep] at f;let⟨a,ys,rfl,j,i⟩:=f;show .inr ⟨a,_,_,ys,rfl,.inr (s.uE j),h.1,h.2.1,g.mono s,i.mono s,k _ _ _ G (.refl s) (dH (iJ _ _ _)) h.2.2⟩
 show h.elim
theorem ki(a:X.A.units+64<cLine):gG X (compareOp .In) (qv false):=Ub false a
theorem yE(a:X.A.units+64<cLine):gG X (compareOp .NotIn) (qv true):=Ub true a
def qA:D->Bool
 | .non=>true
 | _=>false
def rP(a:Bool):O2:=λd e Q=>match e with
 | .non=>Q (.fz (.bl (if a then !qA d else qA d)))
 | _=>False
def W3{K:ao}(r:Rep K G x d):decide (x=.non)=qA d:=by
 cases d<;>simp only[Rep] at r
 case non=>subst r;rfl
 case bl=>subst r;rfl
 case int=>subst r;rfl
 case str=>subst r;rfl
 case tup=>let⟨z,z,rfl,z⟩:=r;rfl
 case lst=>let⟨z,z,rfl,z⟩:=r;rfl
 case obj=>let⟨z,z,z,z,rfl,z⟩:=r;rfl
 case dic=>let⟨z,z,z,rfl,z⟩:=r;rfl
 case dit=>let⟨z,z,z,rfl,z⟩:=r;rfl
 case exc=>let⟨z,z,z,z,z,rfl,z⟩:=r;rfl
 case idn=>let⟨rfl,z⟩:=r;rfl
def Ke:gG X (compareOp .Is) (rP false):=by
 show⟨_,zvX,λG H x y d e Q P s b a h k=>?_⟩;unfold rP at h;split at h
 .simp![Rep] at a;show⟨a,?_⟩;rw[W3 b];show k _ _ _ G (.refl s) (dH (iJ _ _ _)) h
 show h.elim
def mQ:gG X (compareOp .IsNot) (rP true):=by
 show⟨_,ztJ,λG H x y d e Q P s b a h k=>?_⟩;unfold rP at h;split at h
 .simp![Rep] at a;show⟨a,?_⟩;rw[W3 b];show k _ _ _ G (.refl s) (dH (iJ _ _ _)) h
 show h.elim
end
section
variable{X:Cx}{pos:aR}{a b c:az}{ta tb tc:TD}{fg:List az}
def AY(t:eN):eN:=λρ Q=>t ρ λk=>Q (!k)
def rO(t u:eN):eN:=λρ Q=>t ρ λk=>if k=true then u ρ Q else Q false
def Dn(t u:eN):eN:=λρ Q=>t ρ λk=>if k=true then Q true else u ρ Q
def Be(h:PB X a pa):PB X (.UnaryOp .Not a pos) (AY pa):=by
 let⟨t,p,q⟩:=h;show⟨_,zvH p,λρ σ e d G H Q P E h k=>q ρ σ e d G H _ _ E h λb H' f x c=>k _ H' f x c⟩
def vd(X:Cx)(e:az)(t:eN):Prop:=∃tt,PW X e tt/\∀ρ σ c a G H Q P,aS X.K c a ρ σ G H->t ρ Q->
 (∀b H' d,Ext G H d H'->Q b->P b H')->tt σ H P
def vd.pb(h:vd X e t):PB X e t:=by
 let⟨tt,p,q⟩:=h;show⟨tt,p.pt,q⟩
def nX(h:PB X a pa):vd X (.BoolOp .And [a] pos) pa:=by
 let⟨tt,p,q⟩:=h;show⟨tt,ztD p,q⟩
def FQ(h:PB X a pa):vd X (.BoolOp .Or [a] pos) pa:=by
 let⟨tt,p,q⟩:=h;show⟨tt,zvF p,q⟩
def jI(h:PB X a pa)(h':vd X (.BoolOp .And (b::fg) pos) uI):vd X (.BoolOp .And (a::b::fg) pos) (rO pa uI):=by
 let⟨t,p,q⟩:=h;let⟨t',j,i⟩:=h';show⟨_,zvG p j,λρ σ e d G H Q P E h k=>q ρ σ e d G H _ _ E h λb H' f x c=>?_⟩;cases b with
 | true=>show i ρ σ e d f H' Q P (E.ext x) c λm n o g l=>k m n o (x.trans g) l
 | false=>show k false H' f x c
def Bd(h:PB X a pa)(h':vd X (.BoolOp .Or (b::fg) pos) uI):vd X (.BoolOp .Or (a::b::fg) pos) (Dn pa uI):=by
 let⟨t,p,q⟩:=h;let⟨t',j,i⟩:=h';show⟨_,zxJ p j,λρ σ e d G H Q P E h k=>q ρ σ e d G H _ _ E h λb H' f x c=>?_⟩;cases b with
 | true=>show k true H' f x c
 | false=>show i ρ σ e d f H' Q P (E.ext x) c λm n o g l=>k m n o (x.trans g) l
def J9(t:TD):TD:=λρ Q=>t ρ λr=>rF r λd=>uO d λk=>Q (.fz (.bl (!k)))
def J8(t u:TD):TD:=λρ Q=>t ρ λr=>rF r λd=>uO d λk=>if k=true then u ρ Q else Q (.fz (.bl false))
def zwk(h:PD X a ta):PD X (.UnaryOp .Not a pos) (J9 ta):=by
 let⟨t,p,q⟩:=h;show⟨_,zvK p,λρ σ f d G H Q P E h k=>q ρ σ f d G H _ _ E h λv H' r g x c b=>?_⟩;let⟨kk,e,b⟩:=c.FB b;show⟨kk,e,k _ H' _ g x (dH (iJ _ _ _)) b⟩
def U2(h:PD X a ta):PD X (.BoolOp op [a] pos) ta:=by
 let⟨t,p,q⟩:=h;show⟨t,zvI p,q⟩
def U1(h:PD X a ta)(h':PD X (.BoolOp .And (b::fg) pos) tb):PD X (.BoolOp .And (a::b::fg) pos) (J8 ta tb):=by
 let⟨t,p,q⟩:=h;let⟨t',o,n⟩:=h';show⟨_,zvJ p o,λρ σ f d G H Q P E h k=>q ρ σ f d G H _ _ E h λv H' r g x l c=>?_⟩;let⟨kk,e,c⟩:=l.FB c;show⟨kk,e,?_⟩;cases kk with
 | true=>show n ρ σ f d g H' Q P (E.ext x) c λu w m y i j s=>k u w m y (x.trans i) (j.pG x.h) s
 | false=>show k _ H' _ g x (dH (iJ _ _ _)) c
def Pg(t:eN)(ta tb:TD):TD:=λρ Q=>t ρ λk=>if k=true then ta ρ Q else tb ρ Q
def yM(h:PB X c pa)(z:PD X a ta)(d:PD X b tb):PD X (.IfExp c a b pos) (Pg pa ta tb):=by
 symm;let⟨t,p,q⟩:=h;let⟨t1,y,v⟩:=z;let⟨A,w,u⟩:=d;show⟨_,zqQ p y w,λρ σ o m G H Q P E h k=>q ρ σ o m G H _ _ E h λb H' s x r=>?_⟩;cases b with
 | true=>show v ρ σ o m s H' Q P (E.ext x) r λi j g n e f d=>k i j g n (x.trans e) (f.pG x.h) d
 | false=>show u ρ σ o m s H' Q P (E.ext x) r λi j g n e f d=>k i j g n (x.trans e) (f.pG x.h) d
def K3(o o':O2)(ta tb tc:TD):TD:=λρ Q=>ta ρ λb=>tb ρ λa=>o b.val a.val λr=>rF r λd=>uO d λk=>if k=true then tc ρ λrc=>o' a.val rc.val Q else Q (.fz (.bl false))
abbrev mf(K:ao)(t:TD)(b:TE):Prop:=∀ρ σ d c G H Q P,aS K d c ρ σ G H->t ρ Q->(∀v H' r a,Ext G H a H'->dh K a H' H v r->Q r->P v H')->b σ H P
def zre{K:ao}{g g':Int->Int->Bool}(F:mf K ta t)(D:mf K tb s)(C:mf K tc r) :
  mf K (K3 (jL λi j=>.bl (g i j)) (jL λi j=>.bl (g' i j)) ta tb tc) (Va (mW λi j=>.bl (g i j)) (mW λi j=>.bl (g' i j)) t s r):=by
 show λρ σ q o G H Q P E h k=>F ρ σ q o G H _ _ E h λv1 H1 Z G1 z T B=>?_
 symm;let⟨S,e,n,l⟩:=T.freeze z;show D ρ σ q o S H1 _ _ (E.ext e) B λv2 V Y G2 y A b=>?_
 symm;let⟨w,m,u,l⟩:=A.freeze y;let⟨i,R,b⟩:=n.I b;let⟨j,O,b⟩:=u.I b;show⟨i,j,R,O,_,rfl,?_⟩;dsimp only[rF,uO] at b;cases v:g i j with
 | false=>
  rw[v,if_neg jk] at b;show k _ _ _ w (e.trans m) (dH (iJ _ _ _)) b
 | true=>
  rw[v,if_pos rfl] at b;show C ρ σ q o w V _ _ (E.ext (e.trans m)) b λW H3 X G3 x J d=>?_
  symm;let⟨p,f,U,l⟩:=J.freeze x;let⟨L,e3,d⟩:=u.I d;let⟨M,N,d⟩:=U.I d;show⟨L,M,e3,N,k _ _ _ p ((e.trans m).trans f) (dH (iJ _ _ _)) d⟩
def zwl{K:ao}(q:mf K t f)(ρ a i g G H Q P)(E:aS K i g ρ a G H)(h:fB t ρ Q)(k:∀b H' d,Ext G H d H'->Q b->P b H'):Kz f a H P:=by
 show q ρ a i g G H _ _ E h λv H' r d j l c=>?_
 let⟨kk,e,c⟩:=l.FB c;show⟨kk,e,k kk H' d j c⟩
def zrf{g g':Int->Int->Bool}(q:eh X (compareOp op) (mW λi j=>.bl (g i j)))(p:eh X (compareOp d) (mW λi j=>.bl (g' i j)))(u:PD X a ta)(t:PD X b tb)(s:PD X c tc)(r:lastMarks [op,d] [b,c]=false:=by with_unfolding_all rfl) :
  PB X (.Compare a [op,d] [b,c] pos) (fB (K3 (jL λi j=>.bl (g i j)) (jL λi j=>.bl (g' i j)) ta tb tc)):=by
 symm;let⟨t1,o,h⟩:=u;let⟨v,n,f⟩:=t;let⟨t3,m,e⟩:=s;show⟨_,zqV q p o n m r,zwl (zre h f e)⟩
def fF:O2:=λd e Q=>gu e λi=>vR d (λds=>∃d,bO ds i\d/\Q (.fz d)) (λds=>∃d,bO ds i\d/\Q (.fz d)) λz=>z.length<=sizeLine/\∃c,bO z.cps.toList i\c/\Q (.fz (.str ⟨#[c]⟩))
def Lv{K:ao}(r:au K G xs ds)(h:bO ds i\d):∃v,bO xs i\v/\Rep K G v d:=by
 unfold bO at h ⊢;rw[r.length];cases e:kX ds.length i with
 | none=>rw[e] at h;cases h
 | some j=>
  rw[e] at h;show r.get h
def aY(B:PD X a ta)(A:PD X b tb)(u:FG b:=by intro _ _;rfl):PD X (.Subscript a b pos) (bg fF ta tb):=by
 let⟨t1,t,n⟩:=B;let⟨D,o,m⟩:=A;show⟨_,Ks U8 t o u,Fw (r:=Zg X.K) (λG H x y d e Q P s g f h k=>?_) n m⟩;let⟨i,f,h⟩:=f.I h;rcases g.Ds h with⟨p,xs,C,rfl,l,rs,d,hd,q⟩ | ⟨p,xs,C,rfl,l,rs,d,hd,q⟩ | ⟨z,g,hz,c,w,q⟩
 .let⟨v,hv,j⟩:=Lv rs hd;show .inl ⟨p,xs,_,v,rfl,f,(s.cB l).sq,hv,k _ _ _ G (.refl s) (dH j) q⟩
 .let⟨v,hv,j⟩:=Lv rs hd;show .inr (.inl ⟨p,xs,_,v,rfl,f,s.uE l,hv,k _ _ _ G (.refl s) (dH j) q⟩)
 show .inr (.inr ⟨_,_,c,g,f,hz,w,k _ _ _ G (.refl s) (dH (yF _ _ _)) q⟩)
def pj(i:Nat)(tb:TD):TD:=λρ Q=>gW ρ i λds=>tb ρ λa=>gu a.val λj=>∃d,bO ds j\d/\Q (.fz d)
def qF(i)(e:PD X b tb)(hN:X.N[i]?=some x:=by rfl)(hv:u7 X.env.scope x:=by first | show Or.inl rfl | show Or.inr (Or.inl rfl) | show Or.inr (Or.inr rfl))(w:FG b:=by intro _ _;rfl)(hd:(x==("__debug__":aa))=false:=by decide)
  (t:(x==("__classdict__":aa))=false:=by decide):PD X (.Subscript (.Name x s) b pos) (pj i tb):=by
 let⟨J,o,n⟩:=e;show⟨_,Ks U8 (Bi hN hv hd t) o w,λρ σ D B G H Q P E h k=>?_⟩;let⟨p,xs,ds,A,e,M,L,z,K,h⟩:=E.gW h;show⟨_,A,n ρ σ D B G H _ _ E h λv H' r O f m y=>?_⟩;let⟨C,a,c,Z⟩:=m.freeze f;let⟨j,c,d,F,q⟩:=c.I y;let⟨l,hw,u⟩:=Lv (z.mono a.g) F;show .inl ⟨p,xs,_,l,rfl,c,bS.of (a.h _ _ e),hw,k _ _ _ C a (dH u) q⟩
variable{e:az}{es:List az}{te:TD}{ts:fm}
def bJ:fm:=λ_ Q=>Q []
def aM(te:TD)(ts:fm):fm:=λρ Q=>te ρ λr=>ts ρ λds=>Q (r.val::ds)
theorem aq:jg X [] bJ:=⟨_,lQ,λρ σ b a G H Q P E h k=>k [] H [] G (.refl E.e.s) au.nil h⟩
def ah(h:PD X e te)(q:jg X es ts)(p:starEach (e::es) X.env=(false,eval e X.env)::starEach es X.env:=by rfl):jg X (e::es) (aM te ts):=by
 let⟨t1,o,m⟩:=h;let⟨z,n,l⟩:=q;show⟨_,lU o n p,λρ σ d c G H Q P E h k=>m ρ σ d c G H _ _ E h λv H' r A f j s=>?_⟩;let⟨x,b,i,Z⟩:=j.freeze f;show l ρ σ d c x H' _ _ (E.ext b) s λy u ds w a rs t=>?_
 show k _ u _ w (b.trans a) (au.cons (i.mono a.g) rs) t
def kh(ts:fm):TD:=λρ Q=>ts ρ λds=>ds.length<=sizeLine/\Q (.fz (.tup ds))
def mK(ts:fm):TD:=λρ Q=>ts ρ λds=>ds.length<=sizeLine/\Q (.ow ds)
def eW{e}(h:jg X es ts):PD X (.Tuple es e pos) (kh ts):=by
 let⟨t,p,q⟩:=h;show⟨_,zv1 p,λρ σ j i G H Q P E h k=>q ρ σ j i G H _ _ E h λa H' ds d x rs c=>⟨by rw[rs.length];show c.1,λp f=>?_⟩⟩;have b:Ext d H' (upd d p (.tup a)) (upd H' p (.tup a)):=.new x.s f;show k _ _ (.fz (.tup ds)) _ (x.trans b) ?_ c.2;show⟨p,a,rfl,eV,rs.mono b.g⟩
def cQ(h:jg X es ts):PD X (.List es pos) (mK ts):=by
 let⟨t,p,q⟩:=h;show⟨_,U9 p,λρ σ e d G H Q P E h k=>q ρ σ e d G H _ _ E h λc H' ds f x rs b=>⟨by rw[rs.length];show b.1,λp a=>?_⟩⟩;show k _ _ (.ow ds) f (x.trans (.own x.s a)) ⟨p,c,rfl,x.h.free a,x.s.free a,eV,rs⟩ b.2
def jh(X:Cx)(f:af)(o:List D->(R->Prop)->Prop):Prop:=∃r,fX X f r/\∀G H a ds Q P,aW G H->au X.K G a ds->o ds Q->
 (∀v H' b c,Ext G H c H'->dh X.K c H' H v b->Q b->P v H')->r a H P
def fN(o:List D->(R->Prop)->Prop)(ts:fm):TD:=λρ Q=>ts ρ λds=>o ds Q
theorem Ua
  (j:∀G H a ds Q P,aW G H->au X.K G a ds->o ds Q->(∀v H' c b,Ext G H b H'->dh X.K b H' H v c->Q c->P v H')->r a H P)
  (q:∀ρ σ e d G H Q P,aS X.K e d ρ σ G H->ts ρ Q->(∀a H' ds b,Ext G H b H'->au X.K b a ds->Q ds->P a H')->t σ H P):mf X.K (fN o ts) (GD r t):=
 λρ σ e d G H Q P E h k=>q ρ σ e d G H _ _ E h λa H' ds b x rs l=>j b H' a ds Q P x.s rs l λv m c n f g i=>k v m c n (x.trans f) (g.pG x.h) i
def de{b:String}{x:aa}{p:aR}{o:List D->(R->Prop)->Prop}(m:jh X (.builtin b) o)(i:X.mg x=none)(hv:bootBuiltins x=some (.builtin b))(n:jg X (e::es) ts)(j:Gl X x:=by rfl)(h:x≠"__name__":=by decide)(f:(x==("__debug__":aa))=false:=by decide)
  (he:starEach (e::es) X.env=(false,eval e X.env)::starEach es X.env:=by rfl) (s:(backTo pos (starEach es X.env)).any (·.1)=false:=by rfl):PD X (.Call (.Name x p) (e::es) [] pos) (fN o ts):=by
 symm;let⟨r,g,d⟩:=m;let⟨t,pp,q⟩:=n;show⟨_,Bp g j i hv pp h f he s,Ua d q⟩
def lV(j:jh X (.type T) o)(h:X.mg x=none)(hv:bootBuiltins x=some (.type T))(m:jg X (e::es) ts)(i:Gl X x:=by rfl)(g:x≠"__name__":=by decide)(d:(x==("__debug__":aa))=false:=by decide)
  (he:starEach (e::es) X.env=(false,eval e X.env)::starEach es X.env:=by rfl) (n:(backTo pos (starEach es X.env)).any (·.1)=false:=by rfl):PD X (.Call (.Name x p) (e::es) [] pos) (fN o ts):=by
 symm;let⟨r,f,b⟩:=j;let⟨t,pp,q⟩:=m;show⟨_,Gi f i h hv pp g d he n,Ua b q⟩
end
section
variable{K:ao}{ρ:Ev}
def KC(h:gt ρ i=s)(b:s≠.un):i<ρ.length:=by
 induction ρ generalizing i with
 | nil=>simp[gt] at h;show absurd h.symm b
 | cons a r d=>
  cases i with
  | zero=>simp
  | succ i=>simp;room
def aS.step(i)(E:aS K G0 H0 ρ σ G H):∃L:List ag,(∀q∈L,G q=none/\H0 q=none/\H q≠none)/\(∀s,gt ρ i=s->s≠.un->∃v,σ[i]?\some v/\L.Nodup/\mj K G H v L s)/\
  ∀{G' H' o s},o.length=σ.length->(∀j,j≠i->o[j]?=σ[j]?)->aW G G'->aW G' H'->(∀b,b∉L->H b≠none->H' b=H b/\(G b=none->G' b=none))->
   (i<σ.length->s≠.un->∃v fp,o[i]?\some v/\fp.Nodup/\mj K G' H' v fp s/\∀q∈fp,G' q=none/\H0 q=none/\(q∈L\/H q=none))->aS K G0 H0 (ρ.set i s) o G' H':=by
 let⟨own,a,b⟩:=E.sl;obtain⟨L,x,D⟩:∃L:List ag,(∀q∈L,own q\i)/\∀s,gt ρ i=s->s≠.un->∃v,σ[i]?\some v/\L.Nodup/\mj K G H v L s:=by
  by_cases h:gt ρ i=.un
  .exact⟨[],nofun,λs e n=>(n (e.symm.trans h)).elim⟩
  let⟨v,fp,c,d,e,f⟩:=b i h;show⟨fp,f,λs z _=>⟨v,c,d,z▸e⟩⟩
 show⟨L,λq m=>a q i (x q m),D,λ{G' H' o s} l1 C A sh k n=>?_⟩;obtain⟨fp,n1,n2⟩:∃fp:List ag,(∀q∈fp,G' q=none/\H0 q=none/\H' q≠none/\(q∈L\/H q=none))/\(gt (ρ.set i s) i≠.un->∃v,o[i]?\some v/\fp.Nodup/\mj K G' H' v fp (gt (ρ.set i s) i)):=by
  by_cases h:gt (ρ.set i s) i=.un
  .exact⟨[],nofun,λz=>(z h).elim⟩
  have w:=KC rfl h;rw[mF] at w;rw[sg,if_pos ⟨rfl,w⟩] at h ⊢;let⟨v,fp,c,d,e,f⟩:=n (E.len▸w) h;show⟨fp,λq m=>⟨(f q m).1,(f q m).2.1,e.here q m,(f q m).2.2⟩,λ_=>⟨v,c,d,e⟩⟩
 have kk:∀b u,b∉L->H b\u->H' b\u/\(G b=none->G' b=none):=λb u y e=>⟨((k b y (by rw[e];show nofun)).1).trans e,(k b y (by rw[e];show nofun)).2⟩
 have h0:∀b,H0 b≠none->b∉L:=λb h z=>h (a b i (x b z)).2.1
 show⟨⟨E.e.g.trans A,λb u e=>(kk b u (h0 b (by rw[e];show nofun)) (E.e.h b u e)).1,sh,λq B r=>(k q (h0 q r) λz=>r (E.e.h.free z)).2 (E.e.n q B r)⟩,by rw[l1,mF];show E.len,λq=>if q∈fp then some i else if q∈L then none else own q,λq j h=>?_,λj h=>?_⟩
 .dsimp only at h;split at h
  .rename_i m;show⟨(n1 q m).1,(n1 q m).2.1,(n1 q m).2.2.1⟩
  split at h
  .cases h
  rename_i m;let⟨c,d,e⟩:=a q j h;show⟨(k q m e).2 c,d,by rw[(k q m e).1];show e⟩
 by_cases p:j=i
 .subst p;let⟨v,c,d,e⟩:=n2 h;show⟨v,fp,c,d,e,λq m=>if_pos m⟩
 have F:gt (ρ.set i s) j=gt ρ j:=by rw[sg,if_neg λz=>p z.1.symm]
 rw[F] at h ⊢;let⟨v,l,c,d,e,f⟩:=b j h;have t:∀q∈l,q∉L:=λq m z=>p (iu ((f q m).symm.trans (x q z)))
 show⟨v,l,by rw[C j p];show c,d,e.mono A λq m u z=>(kk q u (t q m) z).1,λq m=>?_⟩;dsimp only;rw[if_neg λz=>(n1 q z).2.2.2.elim (t q m) (a q j (f q m)).2.2,if_neg (t q m)];show f q m
def aS.put(E:aS K G0 H0 ρ σ G H)(x:Ext G H G' H')(f:dh K G' H' H v r):aS K G0 H0 (ρ.set i r.sl) (σ.set i (some v)) G' H':=by
 let⟨L,z,z,k⟩:=E.step i;let⟨fp,n,b,c⟩:=dh.iff.mp f;show k (mF ..) (λj h=>vz h.symm) x.g x.s (λb _ d=>⟨?_,λg=>x.n b g d⟩) λl _=>⟨v,fp,Em l,n,b,λq a=>⟨(c q a).2,E.e.h.free (c q a).1,.inr (c q a).1⟩⟩
 let⟨u,e⟩:=Option.ne_none_iff_exists'.mp d;show(x.h b u e).trans e.symm
def gE(i:Nat)(ρ:Ev):Ev:=match gt ρ i with
 | .ow ds=>ρ.set i (.fz (.lst ds))
 | .ov o=>ρ.set i (.fz o.val)
 | _=>ρ
theorem bV.eI:∀{b c},bV K G H b c->∀q∈b,∃zs,H q\.lst zs
 | [],[],_,q,a=>by cases a
 | p::b,ds::c,h,q,a=>by
  rcases bE.mp a with rfl | a
  .exact⟨_,h.1.choose_spec.1⟩
  show bV.eI h.2 q a
 | [],_::_,h,_,_=>by simp![bV] at h
 | _::_,[],h,_,_=>by simp![bV] at h
def aS.ab4(i)(E:aS K G0 H0 ρ σ G H):∃L:List ag,(∀q∈L,G q=none)/\aS K G0 H0 (gE i ρ) σ (plus G H L) H/\(((∀o,gt ρ i=.ov o->(∃kvs,o=.dc kvs)\/(∃j,o=.ll j)\/∃a j,o=.li a j)->∀q∈L,H q≠none/\∀xs,¬Rd H q (.tup xs)))/\∀o p,gt ρ i=.ov o->σ[i]?\some (.ref p)->p∈L:=by
 have C:plus G H []=G:=by funext a;show qJ ∅
 let⟨L,a,b,k⟩:=E.step i;have main:∀r:R,gt ρ i=r.sl->(∃v,σ[i]?\some v/\mj K G H v L r.sl)/\aS K G0 H0 (ρ.set i (.fz r.val)) σ (plus G H L) H:=λr g=>by
  have n:∀q∈L,G q=none:=λq f=>(a q f).1
  let⟨v,c,d,e⟩:=b _ g (by cases r<;>show nofun);show⟨⟨v,c,e⟩,k rfl (λ_ _=>rfl) (wb n) (λq u z=>?_) (λq f _=>⟨rfl,λz=>by rw[qJ f];show z⟩) λ_ _=>⟨v,[],c,.nil,⟨rfl,e.freeze n⟩,nofun⟩⟩;by_cases f:q∈L
  .rw[mR f] at z;show z
  rw[qJ f] at z;show E.e.s q u z
 have lst:∀q zs,H q\.lst zs->H q≠none/\∀xs,¬Rd H q (.tup xs):=λq zs h=>⟨(by rw[h];show nofun),λxs e=>by rcases e with e | ⟨_,e⟩<;>(rw[h] at e;cases e)⟩
 unfold gE;split
 .rename_i ds g;obtain⟨⟨v,c,p,xs,_,rfl,e,_⟩,h⟩:=main (.ow ds) g;show⟨[p],λq f=>(a q f).1,h,λ_ q f=>by rw[cG.mp f];show lst p _ e,λo p z=>by rw[g] at z;cases z⟩
 .rename_i o g;obtain⟨⟨v,c,p,l,hv,rfl,e⟩,h⟩:=main (.ov o) g;show⟨p::l,λq f=>(a q f).1,h,λhd q f=>?_,λo' x _ e=>by rw[c,hv] at e;cases e;show .head _⟩;rcases hd o g with⟨kvs,rfl⟩ | ⟨j,rfl⟩ | ⟨a,j,rfl⟩
  .obtain⟨rfl,y,B,m,_⟩:=e;rw[cG.mp f];show⟨(by rw[m];show nofun),λA e=>by rcases e with e | ⟨_,e⟩<;>(rw[m] at e;cases e)⟩
  .rcases bE.mp f with rfl | f
   .exact lst _ _ e.1
   show(bV.eI e.2 q f).elim λ_=>lst q _
  rcases bE.mp f with rfl | f
  .exact lst _ _ e.2.1
  show(bV.eI e.2.2 q f).elim λ_=>lst q _
 rename_i w t;grind
theorem aS.O1(i)(E:aS K G0 H0 ρ σ G H):∃L:List ag,(∀q∈L,G q=none)/\aS K G0 H0 (gE i ρ) σ (plus G H L) H/\((∀o,gt ρ i=.ov o->(∃kvs,o=.dc kvs)\/(∃d,o=.ll d)\/∃a d,o=.li a d)->∀q∈L,H q≠none/\∀xs,¬Rd H q (.tup xs)):=
 let⟨L,a,b,c,_⟩:=E.ab4 i
 ⟨L,a,b,c⟩
theorem aS.freeze(i)(E:aS K G0 H0 ρ σ G H):∃G',aS K G0 H0 (gE i ρ) σ G' H/\aW G G':=
 let⟨L,a,b,_⟩:=E.O1 i
 ⟨_,b,wb a⟩
def aS.change(E:aS K G0 H0 ρ σ G H)(m:gt ρ i=.ow ds)(h:σ[i]?\some (.ref p))(j:au K G f d) :
  aS K G0 H0 (ρ.set i (.ow d)) σ G (upd H p (.lst f)):=by
 let⟨L,a,b,k⟩:=E.step i;let⟨v,c,n,t,xs,rfl,rfl,e,y⟩:=b _ m nofun;rw[h] at c;cases c;have l:=a p (.head _);show k rfl (λ_ _=>rfl) (aW.refl _) (λb o e=>by rw[bQ (iL e l.1)];show E.e.s b o e) (λb r _=>⟨bQ λz=>r (z▸.head _),id⟩) λ_ _=>⟨_,[p],h,n,⟨p,f,rfl,rfl,eV,j⟩,λq g=>⟨(a q g).1,(a q g).2.1,.inl g⟩⟩
def aS.zD(E:aS K G0 H0 ρ σ G H)(r:gt ρ i=.ov o)(g:σ[i]?\some (.ref p))
  (t:∀fp,(p::fp).Nodup->nk K G H p fp o->∃d,(p::d).Nodup/\nk K G H' p d o'/\(∀q∈p::d,q∈p::fp\/H q=none)/\∀b,b∉p::fp->H b≠none->H' b=H b) :
  aS K G0 H0 (ρ.set i (.ov o')) σ G H':=by
 let⟨L,a,b,k⟩:=E.step i;let⟨v,c,n,y,l,rfl,rfl,e⟩:=b _ r nofun;rw[g] at c;cases c;let⟨d,c1,x,w,j⟩:=t l n e;show k rfl (λ_ _=>rfl) (aW.refl _) (λb u e=>?_) (λb f z=>⟨j b f z,id⟩) λ_ _=>⟨_,p::d,g,c1,⟨p,d,rfl,rfl,x⟩,λq m=>(w q m).elim (λz=>⟨(a q z).1,(a q z).2.1,.inl z⟩) λz=>⟨E.e.s.free z,E.e.h.free z,.inr z⟩⟩
 have f:b∉p::l:=λz=>by rw[(a b z).1] at e;cases e
 rw[j b f (by rw[E.e.s b u e];show nofun)];show E.e.s b u e
def aS.weak(E:aS K G0 H0 ρ σ G H)(c:ρ'.length=ρ.length)(w:∀i,gt ρ' i=.un\/gt ρ' i=gt ρ i):aS K G0 H0 ρ' σ G H:=by
 let⟨own,a,b⟩:=E.sl;show⟨E.e,c▸E.len,own,a,λi h=>?_⟩;have e:=(w i).resolve_left h;rw[e] at h ⊢;show b i h
end
section
variable{X:Cx}{e:az}{te:TD}
def eT(t u:TX):TX:=λD ρ=>t { D with nx:=u D } ρ
def mJ:TX:=λD ρ=>D.nx ρ
theorem c8:jf X [] mJ:=⟨_,Lz,λρ σ b a G H D E k h g=>g.nx ρ σ G H (aW.refl _) k h⟩
def aB{st:cq}(n:PX X st t)(m:jf X a u):jf X (st::a) (eT t u):=by
 let⟨t1,j,f⟩:=n;let⟨q,i,e⟩:=m;show⟨_,LP j i,λρ σ c b G H D E k h g=>f ρ σ c b G H _ _ k h ⟨λρ' o p H' d l h'=>e ρ' o c b p H' D E l h' (g.shift d),g.rt,g.bk,g.ct⟩⟩
def aO{st:cq}(c:PX X st t):jf X [st] t:=by
 let⟨t1,b,a⟩:=c;show⟨_,Ly b,a⟩
def Lu(i)(h:jf X a t):jf X a (λD ρ=>t D (gE i ρ)):=by
 let⟨t1,d,c⟩:=h;show⟨_,d,λρ σ j f G H D E k h g=>?_⟩;let⟨l,e,b⟩:=k.freeze i;show c _ σ j f l H D E e h (g.shift b)
def vK(te:TD):TX:=λD ρ=>te ρ D.rt
def cE(h:PD X e te):PX X (.Return (some e) pos) (vK te):=by
 let⟨t,p,q⟩:=h;show⟨_,Fy p,λρ σ d c G H D E k h g=>q ρ σ d c G H _ _ k h λv H' r f x a b=>g.rt v H' r f (k.e.trans x) (a.pG k.e.h) b⟩
def r8(i:Nat):TX:=λD ρ=>gW ρ i λds=>D.rt (.ow ds)
def um(i)(hN:Nm X i x:=by walk_at"nm"):PX X (.Return (some (.Name x b)) pos) (r8 i):=by
 show⟨_,Fy (lT hN),λρ σ r q G H D E k h g=>?_⟩;let⟨p,xs,ds,n,m,j,f,d,o,h⟩:=k.gW h;show⟨_,n,g.rt _ H (.ow ds) G k.e ⟨p,xs,rfl,f,j,m,d⟩ h⟩
def T9(te:TD):TX:=λD ρ=>te ρ λ_=>D.nx ρ
def zua(h:PD X e te)(a:swapsWith e none pos.line X.env=pure false:=by rfl):PX X (.Expr e pos) (T9 te):=by
 let⟨t,p,q⟩:=h;show⟨_,uo p a,λρ σ d c G H D E k h g=>q ρ σ d c G H _ _ k h λv H' r f x i b=>g.nx ρ σ f H' x.g (k.ext x) b⟩
def kP(c:eN)(t u:TX):TX:=λD ρ=>c ρ λb=>if b=true then t D ρ else u D ρ
def df(r:PB X c tc)(v:jf X a t)(s:jf X b u):PX X (.If c a b pos) (kP tc t u):=by
 symm;let⟨t0,q,n⟩:=r;let⟨t1,p,m⟩:=v;let⟨w,o,j⟩:=s;show⟨_,Uq q p o,λρ σ e d G H D E k h g=>n ρ σ e d G H _ _ k h λb H' i x f=>?_⟩;cases b with
 | true=>show m ρ σ e d i H' D E (k.ext x) f (g.shift x.g)
 | false=>show j ρ σ e d i H' D E (k.ext x) f (g.shift x.g)
def ue(i:Nat)(te:TD):TX:=λD ρ=>te ρ λr=>D.nx (ρ.set i r.sl)
def hJ(i)(he:PD X e te)(hN:X.N.Nodup:=by assumption)(f:X.N[i]?\x:=by rfl)(hx:Loc X.env.scope x:=by first | show Or.inl rfl | show Or.inr rfl)(c:swapsWith e (some (.Name x a)) pos.line X.env=pure false:=by rfl)(j:X.fn x=true\/X.env.scope.names.lookup x\.local:=by first | show .inl rfl | show .inr rfl | assumption) :
  PX X (.Assign [.Name x a] e pos) (ue i te):=by
 let⟨t,p,q⟩:=he;show⟨_,Ld hN f hx p c j,λρ σ m l G H D E k h g=>q ρ σ m l G H _ _ k h λv H' r n x b d=>g.nx _ _ n H' x.g (k.put x b) d⟩
def ku(i:Nat)(te:TD):TX:=λD ρ=>te ρ λr=>D.nx (ρ.set i (.fz r.val))
def bM(i)(he:PD X e te)(hN:X.N.Nodup:=by assumption)(l:X.N[i]?\x:=by rfl)(hx:Loc X.env.scope x:=by first | show Or.inl rfl | show Or.inr rfl)(f:swapsWith e (some (.Name x a)) pos.line X.env=pure false:=by rfl)(m:X.fn x=true\/X.env.scope.names.lookup x\.local:=by first | show .inl rfl | show .inr rfl | assumption) :
  PX X (.Assign [.Name x a] e pos) (ku i te):=by
 let⟨t,p,q⟩:=he;show⟨_,Ld hN l hx p f m,λρ σ s n G H D E k h g=>q ρ σ s n G H _ _ k h λv H' r u x d j=>?_⟩;let⟨o,b,c,z⟩:=d.freeze x;show g.nx _ _ o H' b.g (k.put b (r:=.fz r.val) c) j
def rN(i:Nat)(te:TD):TX:=λD ρ=>gW ρ i λds=>te ρ λr=>ds.length<sizeLine/\D.nx (ρ.set i (.ow (ds++[r.val])))
def iA(i)(he:PD X e te)(hN:Nm X i x:=by walk_at"nm")(C:starEach [e] X.env=(false,eval e X.env)::starEach [] X.env:=by rfl)
  (B:∀{m t},PE X (.Name x n) m->PA X [e] t->PE X (.Call (.Attribute (.Name x n) "append" o) [e] [] b) (wq X.K "list" Bm m t):=by intro m t j f;show vS rG JO JN Gh j f) :
  PX X (.Expr (.Call (.Attribute (.Name x n) "append" o) [e] [] b) pos) (rN i te):=by
 let⟨t,p,q⟩:=he;show⟨_,uo (B (lT hN) (lU p lQ C)),λρ σ J F G H D E k h g=>?_⟩;let⟨a,xs,ds,j,f,M,L,u,A,h⟩:=k.gW h;show⟨_,j,.inl ⟨rfl,xs,bS.of f⟩,q ρ σ J F G H _ _ k h λv H' r N w z s=>?_⟩;let⟨I,d,y,l⟩:=z.freeze w;show⟨a,xs,v,rfl,rfl,d.h _ _ f,by rw[u.length];show s.1,g.nx _ _ I _ d.g ((k.ext d).change A j ((u.mono d.g).append (au.cons y au.nil))) s.2⟩
end
section
variable{X:Cx}{tg:az}
abbrev eR:=D->Ev->(Ev->Prop)->Prop
abbrev mL:=List D->Ev->(Ev->Prop)->Prop
def pW(X:Cx)(tg:az)(g:eR):Prop:=∃a,PG X tg a/\∀ρ σ e c G H d v Q P,aS X.K e c ρ σ G H->Rep X.K G v d->g d ρ Q->
 (∀ρ' b f H',aS X.K e c ρ' b f H'->Ext G H f H'->Q ρ'->P b H')->a v σ H P
def AX(X:Cx)(a:List az)(g:mL):Prop:=∃c,zF X a c/\∀ρ σ f e G H ds b Q P,aS X.K f e ρ σ G H->au X.K G b ds->g ds ρ Q->
 (∀ρ' d h H',aS X.K f e ρ' d h H'->Ext G H h H'->Q ρ'->P d H')->c b σ H P
def eH(i:Nat):eR:=λd ρ Q=>Q (ρ.set i (.fz d))
theorem aJ(i)(hN:X.N.Nodup:=by assumption)(a:X.N[i]?\x:=by rfl)(hx:Loc X.env.scope x:=by first | show Or.inl rfl | show Or.inr rfl)(b:X.fn x=true\/X.env.scope.names.lookup x\.local:=by first | show .inl rfl | show .inr rfl | assumption):pW X (.Name x pos) (eH i):=
 ⟨_,Wo hN a hx b,λρ σ f c G H d v Q P E r h k=>k _ _ G H (E.put (.refl E.e.s) (r:=.fz d) r) (.refl E.e.s) h⟩
def lM:mL:=λds ρ Q=>GY ds (Q ρ) λ_ _=>False
def gq(t:eR)(u:mL):mL:=λds ρ Q=>GY ds False λd r=>t d ρ λρ'=>u r ρ' Q
def eU:AX X [] lM:=by
 show⟨_,ztE,λρ σ c b G H ds a Q P E r h k=>?_⟩;rcases r.C h with⟨e,h⟩ | ⟨_,_,_,_,_,_,_,h⟩
 .exact⟨e,k _ _ G H E (.refl E.e.s) h⟩
 show h.elim
def bI(z:pW X e t)(y:AX X a u)(s:(assignEach (e::a) X.env).map (·.2)=assign e X.env::(assignEach a X.env).map (·.2):=by rfl):AX X (e::a) (gq t u):=by
 let⟨t1,o,m⟩:=z;let⟨L,n,l⟩:=y;show⟨_,zqT o n s,λρ σ d c G H ds b Q P E r h k=>?_⟩;rcases r.C h with⟨_,h⟩ | ⟨v,b,_,_,e,j,i,h⟩
 .exact h.elim
 show⟨v,b,e,m ρ σ d c G H _ v _ _ E j h λρ' B I H' K x w=>?_⟩;show l ρ' B d c I H' _ b Q P K (i.mono x.g) w λA q F D J f p=>k A q F D J (x.trans f) p
def ph(n:Nat)(t:mL):eR:=λd ρ Q=>qN d λds=>ds.length=n/\t ds ρ Q
def fh(j:X.calm=true)(h:AX X b t)(i:(assignEach b X.env).length=n:=by rfl)(l:(assignEach b X.env).findIdx? (·.1)=none:=by rfl):pW X (.Tuple b k pos) (ph n t):=by
 let⟨t1,f,c⟩:=h;show⟨_,zvN j f i l,λρ σ o m G H d v Q P E r h k=>?_⟩;let⟨a,xs,b,e,g,rs,h⟩:=r.T h;show⟨a,xs,e,E.e.s.uE g,by rw[rs.length];show h.1,c ρ σ o m G H _ xs Q P E rs h.2 k⟩
def AW(te:TD)(g:eR):TX:=λD ρ=>te ρ λr=>g r.val ρ D.nx
def Fv(he:PD X e te)(u:pW X tg g)(o:swapsWithSole [tg] e pos.line X.env=pure false:=by rfl)(hw:swappedStores [tg] e X.env=pure none:=by rfl)(w:(assignEach [tg] X.env).map (·.2)=[assign tg X.env]:=by rfl):PX X (.Assign [tg] e pos) (AW te g):=by
 let⟨t,p,q⟩:=he;let⟨B,m,l⟩:=u;show⟨_,Vd p m o hw w,λρ σ c b G H D E k h g=>q ρ σ c b G H _ _ k h λv H' r d x j s=>?_⟩;let⟨z,a,i,Z⟩:=j.freeze x;show l ρ σ c b z H' _ v _ _ (k.ext a) i s λρ' y d H' A f n=>g.nx ρ' y d H' (a.g.trans f.g) A n
def Walk(K:ao)(J:It)(G:Hp)(ds:List D):Prop:=
 (∀i d a H',ds[i]?\d->aW G a->aW a H'->J.go i H'/\∀v b,J.Gy i H' v b->∃c,Ext a H' c b/\Rep K c v d)/\∀a H',aW G a->aW a H'->J.stop ds.length H'
abbrev fW:=Ev->(List D->Prop)->Prop
def PId(X:Cx)(tg a:az)(c:fW):Prop:=∃ww,PI X tg a ww/\∀ρ σ e d G H Q P,aS X.K e d ρ σ G H->c ρ Q->
 (∀J H' ds b,Ext G H b H'->Walk X.K J b ds->Q ds->P J H')->ww σ H P
def Lb(d:D)(Q:List D->Prop):Prop:=vR d Q Q λz=>Q (z.cps.toList.map λc=>.str ⟨#[c]⟩)
def lL(te:TD):fW:=λρ Q=>te ρ λr=>Lb r.val Q
def zoD{K:ao}(h:fq K G a xs)(r:au K G xs ds):Walk K (HH K a) G ds:=by
 show⟨λi d c H' hd s1 s2=>?_,λc H' s1 s2=>⟨xs,(s2.cB (s1.cB h)).sq,by rw[r.length];show bB _⟩⟩;let⟨v,hv,f⟩:=r.get hd;have b:bS K H' a xs:=(s2.cB (s1.cB h)).sq;show⟨⟨xs,v,b,hv⟩,λu j g=>?_⟩;let⟨e,y⟩:=g;subst e;have:=y xs b;rw[hv] at this;cases this;show⟨c,.refl s2,f.mono s1⟩
def zrh{K:ao}(h:cY K G a xs)(r:au K G xs ds):Walk K (Qs K a) G ds:=by
 show⟨λi d c H' hd s1 s2=>?_,λc H' s1 s2=>⟨xs,s2.uF (s1.uF h),by rw[r.length];show bB _⟩⟩;let⟨v,hv,f⟩:=r.get hd;have b:cY K H' a xs:=s2.uF (s1.uF h);show⟨⟨xs,v,b,hv⟩,λu j g=>?_⟩;let⟨e,y⟩:=g;subst e;have:=y xs b;rw[hv] at this;cases this;show⟨c,.refl s2,f.mono s1⟩
def zri{K:ao}(z):Walk K (HG z) G (z.cps.toList.map λc=>.str ⟨#[c]⟩):=by
 show⟨λi d f H' hd s1 s2=>?_,λf H' s1 s2=>?_⟩
 .rw[b8] at hd;cases e:z.cps.toList[i]? with
  | none=>rw[e] at hd;cases hd
  | some c=>
   rw[e] at hd;cases hd;have b:z.cps[i]?\c:=by simpa using e
   show⟨(Array.getElem?_eq_some_iff.mp b).1,λv k g=>?_⟩;let⟨h,j,a,rfl⟩:=g;subst h;rw[b] at a;cases a;show⟨f,.refl s2,yF _ _ _⟩
 show _=_;show aE ..
def Yq{K:ao}(lo n):Walk K (Du lo n) G ((bA n).map λ(i:Nat)=>.int (lo+i)):=by
 show⟨λi d a H' hd s1 s2=>?_,λa H' s1 s2=>?_⟩
 .rw[b8] at hd;cases e:(bA n)[i]? with
  | none=>rw[e] at hd;cases hd
  | some c=>
   rw[e] at hd;cases hd;let⟨j,h⟩:=c7.mp e;have g:i<n:=by simpa using j
   have f:c=i:=by rw[<-h];simp
   subst f;show⟨g,λv l b=>?_⟩;let⟨k,rfl⟩:=b;subst k;show⟨a,.refl s2,gK _ _ _⟩
 show n<=_;simp
def kO(ds:List D):List D:=ds.mapIdx λi d=>.tup [.int (i:Nat),d]
def W2{K:ao}(a:G t\.tup [x,y])(c:Rep K G x d)(b:Rep K G y e):Rep K G (.ref t) (.tup [d,e]):=by
 show⟨t,[x,y],rfl,a,au.cons c (au.cons b au.nil)⟩
def zoE{K:ao}(h:fq K G a xs)(r:au K G xs ds):Walk K (Qt K a) G (kO ds):=by
 show⟨λi d b H' hd s1 s2=>?_,λb H' s1 s2=>⟨xs,(s2.cB (s1.cB h)).sq,by rw[r.length];simp[kO]⟩⟩;unfold kO at hd;rw[Jy] at hd;cases e:ds[i]? with
 | none=>rw[e] at hd;cases hd
 | some d'=>
  rw[e] at hd;cases hd;symm;let⟨v,hv,m⟩:=r.get e;have j:bS K H' a xs:=(s2.cB (s1.cB h)).sq;show⟨⟨xs,v,j,hv⟩,λu p n=>?_⟩;let⟨t,rfl,o,y⟩:=n;let⟨x,hx,rfl⟩:=y xs j;rw[hv] at hx;cases hx;have f:Ext b H' (upd b t (.tup [.int i,v])) (upd H' t (.tup [.int i,v])):=.new s2 o;show⟨_,f,W2 eV (gK _ _ _) ((m.mono s1).mono f.g)⟩
def vG(ds a:List D):List D:=List.zipWith (λd e=>.tup [d,e]) ds a
def zrj{K:ao}(h:fq K G a xs)(r:au K G xs ds)(h':fq K G b ys)(q:au K G ys m):Walk K (Qq K a b) G (vG ds m):=by
 show⟨λi d o H' hd s1 s2=>?_,λo H' s1 s2=>⟨xs,ys,(s2.cB (s1.cB h)).sq,(s2.cB (s1.cB h')).sq,?_⟩⟩
 .unfold vG at hd;rw[List.getElem?_zipWith] at hd;cases e:ds[i]? with
  | none=>rw[e] at hd;cases hd
  | some d'=>
   cases n:m[i]? with
   | none=>rw[e,n] at hd;cases hd
   | some H=>
    rw[e,n] at hd;cases hd;symm;let⟨v,hv,B⟩:=r.get e;let⟨j,s,A⟩:=q.get n;have z:bS K H' a xs:=(s2.cB (s1.cB h)).sq;have p:bS K H' b ys:=(s2.cB (s1.cB h')).sq;show⟨⟨xs,ys,v,j,z,p,hv,s⟩,λu I C=>?_⟩;symm;let⟨t,rfl,E,y⟩:=C;let⟨x,F,hx,w,rfl⟩:=y xs ys z p;rw[hv] at hx;rw[s] at w;cases hx;cases w;have f:Ext o H' (upd o t (.tup [v,j])) (upd H' t (.tup [v,j])):=.new s2 E;show⟨_,f,W2 eV ((B.mono s1).mono f.g) ((A.mono s1).mono f.g)⟩
 rw[r.length,q.length];unfold vG;rw[List.length_zipWith];lia
def cI(h:PD X l te):PId X tg l (lL te):=by
 symm;let⟨t,p,q⟩:=h;show⟨_,zv9 p,λρ σ o n G H Q P E h k=>q ρ σ o n G H _ _ E h λv H' r u x m b=>?_⟩;symm;let⟨j,d,g,y⟩:=m.freeze x;rcases g.Ds b with⟨a,xs,ds,e,f,i,b⟩ | ⟨a,xs,ds,e,f,i,b⟩ | ⟨z,g,b⟩
 .exact .inl ⟨a,e,⟨xs,(d.s.cB f).sq⟩,k _ H' _ j d (zoD f i) b⟩
 .exact .inr (.inl ⟨a,e,⟨xs,d.s.uE f⟩,k _ H' _ j d (zrh (cY.of f) i) b⟩)
 show .inr (.inr ⟨z,g,k _ H' _ j d (zri z) b⟩)
def Ba(ts:fm):fW:=λρ Q=>ts ρ λds=>fK ds λd=>gu d λj=>-(2 ^ 62)<=j/\j<2 ^ 62/\Q ((bA j.toNat).map λ(i:Nat)=>.int (0+i))
def Ko{K:ao}(h:au K G a [d]):∃v,a=[v]/\Rep K G v d:=by
 let⟨v,z,e,r,h⟩:=h.one (P:=λx=>x=d) rfl;show⟨v,e,h▸r⟩
def T8{K:ao}(h:au K G a [d,e]):∃v w,a=[v,w]/\Rep K G v d/\Rep K G w e:=by
 let⟨v,u,z,z,f,r,b,h,c⟩:=h.two (P:=λx y=>x=d/\y=e) ⟨rfl,rfl⟩;show⟨v,u,f,h▸r,c▸b⟩
def kz(d:X.mg "range"=none)(g:jg X [a] ts)(f:Gl X "range":=by rfl)(c:starEach [a] X.env=[(false,eval a X.env)]:=by rfl):PId X tg (.Call (.Name "range" p) [a] [] pos) (Ba ts):=by
 let⟨t,pp,q⟩:=g;show⟨_,zn5 f d pp c,λρ σ l i G H Q P E h k=>q ρ σ l i G H _ _ E h λn H' ds m x rs b=>?_⟩;let⟨j,e,b⟩:=rs.Zl b;show⟨j,e,b.1,b.2.1,k _ H' _ m x (Yq 0 _) b.2.2⟩
def Km(ts:fm):fW:=λρ Q=>ts ρ λds=>CI ds λd e=>gu d λi=>gu e λj=>(-(2 ^ 62)<=i/\i<2 ^ 62/\-(2 ^ 62)<=j/\j<2 ^ 62)/\Q ((bA (j-i).toNat).map λ(n:Nat)=>.int (i+n))
def zm1(g:X.mg "range"=none)(m:jg X [a,b] ts)(l:Gl X "range":=by rfl)(f:starEach [a,b] X.env=[(false,eval a X.env),(false,eval b X.env)]:=by rfl)(d:starEach [b] X.env=[(false,eval b X.env)]:=by rfl):PId X tg (.Call (.Name "range" p) [a,b] [] pos) (Km ts):=by
 let⟨t,pp,q⟩:=m;show⟨_,zn6 l g pp f d,λρ σ o n G H Q P E h k=>q ρ σ o n G H _ _ E h λs H' ds r x rs c=>?_⟩;let⟨i,j,e,c⟩:=rs.twoI c;show⟨_,_,e,c.1,k _ H' _ r x (Yq _ _) c.2⟩
def Kl(ts:fm):fW:=λρ Q=>ts ρ λds=>fK ds λd=>eI d λa=>Q (kO a)
def pD(i:X.mg "enumerate"=none)(l:jg X [a] ts)(j:Gl X "enumerate":=by rfl)(g:starEach [a] X.env=[(false,eval a X.env)]:=by rfl):PId X (.Tuple b f tp) (.Call (.Name "enumerate" p) [a] [] pos) (Kl ts):=by
 let⟨t,pp,q⟩:=l;show⟨_,ztZ j i pp g,λρ σ o n G H Q P E h k=>q ρ σ o n G H _ _ E h λu H' ds r x rs c=>?_⟩;let⟨a,xs,v,e,d,m,c⟩:=rs.Zk c;show⟨a,xs,e,x.s.cB d,k _ H' _ r x (zoE d m) c⟩
def qu(ts:fm):fW:=λρ Q=>ts ρ λds=>CI ds λd e=>eI d λa=>eI e λfs=>Q (vG a fs)
def yD(w:X.mg "zip"=none)(z:jg X [a,b] ts)(y:Gl X "zip":=by rfl)(u:starEach [a,b] X.env=[(false,eval a X.env),(false,eval b X.env)]:=by rfl)(o:starEach [b] X.env=[(false,eval b X.env)]:=by rfl) :
  PId X (.Tuple g m tp) (.Call (.Name "zip" p) [a,b] [] pos) (qu ts):=by
 symm;let⟨t,pp,q⟩:=z;show⟨_,zwa y w pp u o,λρ σ D C G H Q P E h k=>q ρ σ D C G H _ _ E h λJ H' ds F x rs f=>?_⟩;let⟨v,I,d,e,rfl,n,r,f⟩:=rs.two f;let⟨a,xs,K,rfl,j,B,f⟩:=n.L f;let⟨b,ys,fs,rfl,i,A,f⟩:=r.L f;show⟨a,b,rfl,⟨xs,(x.s.cB j).sq⟩,⟨ys,(x.s.cB i).sq⟩,k _ H' _ F x (zrj j B i A) f⟩
def kM(b:fW)(g:eR)(c:TX):TX:=λD ρ=>b ρ λds=>∃a:Nat->Ev->Prop,a 0 ρ/\
 (∀i d ρ',ds[i]?\d->a i ρ'->g d ρ' λe=>c { D with nx:=a (i+1),ct:=a (i+1),bk:=D.nx } e)/\∀ρ',a ds.length ρ'->D.nx ρ'
def fe{R:fW}(hp:PassesOwn (model X.prog X.w) X.A X.env X.xe)(hc:X.calm=true)(U:PId X tg b R)(hg:pW X tg g)(hb:jf X body S)
  (hs:∀x,foldedSetIterable b X.env x=pure x:=by intro _;rfl):PX X (.For tg b body [] pos) (kM R g S):=by
 symm;let⟨t1,p1,q1⟩:=U;let⟨t2,p2,q2⟩:=hg;let⟨t3,p3,q3⟩:=hb;show⟨_,Vc hp hc p1 p2 p3 hs,λρ σ t q G H D E k h M=>q1 ρ σ t q G H _ _ k h λJ H1 ds C F Q hq=>?_⟩;symm;let⟨V,i0,turn,fin⟩:=hq;show⟨λi m B H'=>m=ds.length-i/\i<=ds.length/\∃ρ' f,aS X.K t q ρ' B f H'/\aW C f/\V i ρ',⟨ds.length,∅,b9 _,ρ,C,k.ext F,aW.refl _,i0⟩,?_⟩;rintro i m B H' gv;symm;let⟨rfl,U,ρ',f,y,u,iv⟩:=gv;by_cases N:i<ds.length
 .symm;let⟨w1,w2⟩:=Q;let⟨go,Y⟩:=w1 i ds[i] f H' (cA N) u y.e.s;show .inr ⟨go,λT p=>∃z d,aS X.K t q z T d p/\aW C d/\V (i+1) z,λT p ⟨z,d,k2,s2,L⟩=>⟨ds.length-(i+1),by grind,rfl,N,z,d,k2,s2,L⟩,λv p hy=>?_⟩;symm;let⟨d,P,rv⟩:=Y v p hy;show q2 ρ' B t q d p ds[i] v _ _ (y.ext P) rv (turn i ds[i] ρ' (cA N) iv) λAf nz W H3 k3 Z cM=>?_
  have s3:aW C W:=(u.trans P.g).trans Z.g;show q3 Af nz t q W H3 _ _ k3 cM ⟨λj I r O s4 n o=>⟨j,r,n,s3.trans s4,o⟩,M.rt,λj I r O s4 n o=>M.nx j I r O ((F.g.trans s3).trans s4) n o,λj I r O s4 n o=>⟨j,r,n,s3.trans s4,o⟩⟩
 have e:i=ds.length:=by lia
 subst e;show .inl ⟨Q.2 f H' u y.e.s,M.nx ρ' B f H' (F.g.trans u) y (fin ρ' iv)⟩
def zwr(c:eN)(e:TX):TX:=λD ρ=>∃W:Nat->Ev->Prop,(∃m,W m ρ)/\∀m ρ',W m ρ'->c ρ' λb=>if b=true then e { D with nx:=λd=>∃a,a<m/\W a d,ct:=λd=>∃a,a<m/\W a d,bk:=D.nx } ρ' else D.nx ρ'
def LW(R:PassesOwn (model X.prog X.w) X.A X.env X.xe)(S:PB X c tc)(T:jf X body B):PX X (.While c body [] pos) (zwr tc B):=by
 let⟨t1,Q,O⟩:=S;let⟨t3,P,N⟩:=T;show⟨_,zqU R Q P,λρ σ s r G H D E k h x=>?_⟩;obtain⟨W,⟨m0,M⟩,turn⟩:=h;show⟨λm n H'=>∃ρ' t,aS X.K s r ρ' n t H'/\aW G t/\W m ρ',⟨m0,ρ,G,k,aW.refl _,M⟩,?_⟩;rintro m n H' V;symm;let⟨ρ',t,v,C,L⟩:=V;show O ρ' n s r t H' _ _ v (turn m ρ' L) λb o e q I=>?_
 cases b with
 | true=>
  show⟨λF o=>∃d,d<m/\∃J e,aS X.K s r J F e o/\aW G e/\W d J,λF o U=>U,?_⟩;have s2:aW G e:=C.trans q.g;show N ρ' n s r e o _ _ (v.ext q) I ⟨λf u p z s4 i y=>by let⟨d,hm,j⟩:=y;show⟨d,hm,f,p,i,s2.trans s4,j⟩,x.rt,λf u p z s4 i j=>x.nx f u p z (s2.trans s4) i j,λf u p z s4 i y=>by let⟨d,hm,j⟩:=y;show⟨d,hm,f,p,i,s2.trans s4,j⟩⟩
 | false=>
  show x.nx ρ' n e o (C.trans q.g) (v.ext q) I
end
def vF(ρ:Ev):Option Nat->Sl
 | none=>.un
 | some j=>match gt ρ j with
  | .fz d=>.fz d
  | _=>.un
def gZ(m:List (Option Nat))(ρ:Ev):Ev:=m.map (vF ρ)
theorem zws{m:List (Option Nat)}{ρ:Ev}{i:Nat}:gt (m.map (vF ρ)) i=match m[i]? with
  | some o=>vF ρ o
  | none=>.un:=by
 induction m generalizing i with
 | nil=>rfl
 | cons a r b=>
  cases i with
  | zero=>rfl
  | succ i=>show b
def lP(m:List (Option Nat))(g:eR):Prop:=∀d ρ Q,g d ρ Q->g d ρ λa=>Q a/\a.length=ρ.length/\∀j c,m[j]?\some c->gt a j=gt ρ j
def FP(m:List (Option Nat))(g:mL):Prop:=∀ds ρ Q,g ds ρ Q->g ds ρ λa=>Q a/\a.length=ρ.length/\∀j c,m[j]?\some c->gt a j=gt ρ j
theorem cO(h:m[i]?\none:=by rfl):lP m (eH i):=λd ρ Q q=>by
 show⟨q,by show mF ..,λj c a=>?_⟩;rw[sg,if_neg];rintro⟨e,_⟩;subst e;rw[h] at a;cases a
theorem W0:FP m lM:=λds ρ Q q=>by
 cases ds with
 | nil=>show⟨q,rfl,λ_ _ _=>rfl⟩
 | cons=>show q.elim
theorem Bt(mono:∀d ρ Q a,(∀ρ',Q ρ'->a ρ')->t d ρ Q->t d ρ a)(i:∀d ρ Q a,(∀ρ',Q ρ'->a ρ')->u d ρ Q->u d ρ a)(h:lP m t)(g:FP m u):FP m (gq t u):=λds ρ Q q=>by
 cases ds with
 | nil=>show q.elim
 | cons=>show mono _ _ _ _ (λρ' e=>i _ _ _ _ (λk b=>⟨b.1,b.2.1.trans e.2.1,λj c f=>(b.2.2 j c f).trans (e.2.2 j c f)⟩) (g _ _ _ e.1)) (h _ _ _ q)
theorem WZ(a:FP m u):lP m (ph n u):=λd ρ Q q=>by
 cases d with
 | tup=>show⟨q.1,a _ _ _ q.2⟩
 | _=>show q.elim
theorem sr:∀d ρ Q a,(∀ρ',Q ρ'->a ρ')->eH i d ρ Q->eH i d ρ a:=λ_ _ _ _ h q=>h _ q
theorem Bo:∀d ρ Q a,(∀ρ',Q ρ'->a ρ')->lM d ρ Q->lM d ρ a:=λd _ _ _ h q=>by
 cases d with
 | nil=>show h _ q
 | cons=>show q.elim
theorem Gg(mono:∀d ρ Q a,(∀ρ',Q ρ'->a ρ')->t d ρ Q->t d ρ a)(c:∀d ρ Q a,(∀ρ',Q ρ'->a ρ')->u d ρ Q->u d ρ a):∀d ρ Q a,(∀ρ',Q ρ'->a ρ')->gq t u d ρ Q->gq t u d ρ a:=λd _ _ _ h q=>by
 cases d with
 | nil=>show q.elim
 | cons=>show mono _ _ _ _ (λρ' b=>c _ _ _ _ h b) q
theorem nZ(h:m[i]?\none:=by rfl)(h':m[j]?\none:=by rfl):lP m (ph n (gq (eH i) (gq (eH j) lM))):=
 WZ (Bt sr (Gg sr Bo) (cO h) (Bt sr Bo (cO h') W0))
theorem zk1(h:m[i]?\none:=by rfl)(h':m[j]?\none:=by rfl)(a:m[k]?\none:=by rfl):lP m (ph n (gq (eH i) (gq (eH j) (gq (eH k) lM)))):=
 WZ (Bt sr (Gg sr (Gg sr Bo)) (cO h) (Bt sr (Gg sr Bo) (cO h') (Bt sr Bo (cO a) W0)))
def xi(X:Cx)(a:List az)(t:eN):Prop:=∃tt,ve X a tt/\∀ρ σ d c G H Q P,aS X.K d c ρ σ G H->t ρ Q->
 (∀b H' e,Ext G H e H'->Q b->P b H')->tt σ H P
def nQ:eN:=λ_ Q=>Q true
theorem eY:xi X [] nQ:=⟨_,ztX,λρ σ b a G H Q P E h k=>k true H G (.refl E.e.s) h⟩
def iC(h:PB X c t):xi X [c] t:=by
 let⟨tt,p,q⟩:=h;show⟨tt,ztY p,q⟩
def jH(e:fW)(m:List (Option Nat))(g:eR)(tc:eN)(te:TD):TD:=λρ Q=>e ρ λds=>∃a:Nat->List D->Prop,a 0 []/\
 (∀i d acc,ds[i]?\d->a i acc->g d (gZ m ρ) λc=>tc c λb=>if b=true then te c λr=>acc.length<sizeLine/\a (i+1) (acc++[r.val]) else a (i+1) acc)/\∀acc,a ds.length acc->Q (.ow acc)
def Oc:gt (gZ m ρ) i=.un\/∃j d,m[i]?\some j/\gt ρ j=.fz d/\gt (gZ m ρ) i=.fz d:=by
 unfold gZ;rw[zws];match m[i]? with
 | none=>show .inl rfl
 | some none=>show .inl rfl
 | some (some j)=>
  unfold vF;dsimp only;split
  .rename_i d h;show .inr ⟨j,d,rfl,h,rfl⟩
  show .inl rfl
def Ia(ρ:Ev):Prop:=∀i,gt ρ i=.un\/∃d,gt ρ i=.fz d
theorem ZK:Ia (gZ m ρ):=λ_=>Oc.imp id λ⟨_,d,_,_,h⟩=>⟨d,h⟩
def Ia.O6{K:ao}(b:Ia ρ)(e:Ext j g G H)(l:c.length=ρ.length)(f:∀i d,gt ρ i=.fz d->∃v,c[i]?\some v/\Rep K G v d):aS K j g ρ c G H:=by
 show⟨e,l,λ_=>none,nofun,λi h=>?_⟩;rcases b i with h' | ⟨d,h'⟩
 .exact(h h').elim
 let⟨v,a,r⟩:=f i d h';show⟨v,[],a,.nil,by rw[h'];show⟨rfl,r⟩,nofun⟩
theorem Ext.aa1(x:Ext G H a H')(h:H p=none)(g:a p=none):Ext G H a (upd H' p o):=
 ⟨x.g,λb u e=>by rw[bQ (iL e h)];show x.h b u e,λb u e=>by rw[bQ (iL e g)];show x.s b u e,x.n⟩
structure zJ(K:ao)(α:Type) where
 B:Hp->Hp->List V->List ag->List α->Prop
 sel:R->(α->Prop)->Prop
 res:List α->R
 nil:∀G H,B G H [] [] []
 len:∀{G H xs fp acc},B G H xs fp acc->xs.length=acc.length
 here:∀{G H xs fp acc},B G H xs fp acc->∀q∈fp,H q≠none
 mono:∀{G H G' H' xs fp acc},aW G G'->(∀q∈fp,∀u,H q\u->H' q\u)->B G H xs fp acc->B G' H' xs fp acc
 snoc:∀{G H G' H' v r k xs fp acc},Ext G H G' H'->dh K G' H' H v r->sel r k->B G' H' xs fp acc->∃a G2 eJ,k a/\Ext G H G2 H'/\B G2 H' (xs++[v]) (fp++eJ) (acc++[a])/\eJ.Nodup/\∀q∈eJ,H q=none/\G2 q=none
 fin:∀{G H H1 D xs fp acc},H D\.lst xs->B G H xs fp acc->(D::fp).Nodup->(∀q∈D::fp,H1 q=none/\G q=none)->dh K G H H1 (.ref D) (res acc)
def zwt{K:ao}(C:zJ K α)(f:fW)(m:List (Option Nat))(g:eR)(tc:eN)(te:TD):TD:=λρ Q=>f ρ λds=>∃c:Nat->List α->Prop,c 0 []/\
 (∀i d acc,ds[i]?\d->c i acc->g d (gZ m ρ) λe=>tc e λb=>if b=true then te e λr=>C.sel r λa=>acc.length<sizeLine/\c (i+1) (acc++[a]) else c (i+1) acc)/\∀acc,c ds.length acc->Q (C.res acc)
structure zJ.At{K:ao}{α:Type}(C:zJ K α)(G1 H1:Hp)(ρ:Ev)(D:ag)(Iv:List α->Prop)(σ:St)(H:Hp)(acc:List α)(xs:List V)(fp:List ag)(G:Hp):Prop where
 e:aS K G1 H1 ρ σ G H
 d:H D\.lst xs
 b:C.B G H xs fp acc
 nd:(D::fp).Nodup
 fr:∀q∈D::fp,H1 q=none/\G q=none
 iv:Iv acc
section
variable{X:Cx}{m:List (Option Nat)}{g:eR}
def WY(C:zJ X.K α)(hk:lP m g)
  (q1:∀ρ p L I G H Q P,aS X.K L I ρ p G H->wi ρ Q->(∀J H' ds o,Ext G H o H'->Walk X.K J o ds->Q ds->P J H')->ww p H P)
  (q2:∀s3 M ex ρ p L I G H d v Q P,aS X.K L I ρ p G H->Rep X.K G v d->g d ρ Q->(∀ρ' w o H',aS X.K L I ρ' w o H'->Ext G H o H'->Q ρ'->P w H')->gg s3 M ex v p H P)
  (q3:∀s3 M ex ρ p L I G H Q P,aS X.K L I ρ p G H->tc ρ Q->(∀b H' o,Ext G H o H'->Q b->P b H')->pE s3 M ex p H P)
  (q4:∀s3 M ex ρ' w t H1 o H' Q' P',Ext G H t H1->aS X.K t H1 ρ' w o H'->te ρ' Q'->(∀v F r G2,Ext o H' G2 F->dh X.K G2 F H' v r->Q' r->P' v F)->T s3 M ex w H' P')
  (E:aS X.K L I ρ p G H) (h:zwt C wi m g tc te ρ Q) (k:∀v H' r o,Ext G H o H'->dh X.K o H' H v r->Q r->P v H'):se ww m gg pE T p H P:=by
 show q1 ρ p L I G H _ _ E h λJ H1 ds t N wk f D Y s3 ex=>?_
 have hGD:t D=none:=N.s.free Y;show⟨λi n w H'=>n=ds.length-i/\i<=ds.length/\∃acc xs fp o,C.At t H1 (gZ m ρ) D (f.choose i) w H' acc xs fp o,
  ⟨ds.length,rfl,b9 _,[],[],[],t,?_,eV,C.nil _ _,jo _ _,λq f=>?_,f.choose_spec.1⟩,?_⟩
 .refine ZK.O6 (.own N.s Y) (by simp[wM,gZ]) λi d h=>?_
  symm;rcases Oc (m:=m) (ρ:=ρ) (i:=i) with e | ⟨j,d',e1,e2,e3⟩
  .rw[e] at h;cases h
  let⟨v,hv,rv⟩:=(E.ext N).fz j d' e2;rw[e3] at h;cases h;show⟨v,by unfold wM;rw[b8,e1];simp[hv],rv⟩
 .rw[cG.mp f];show⟨Y,hGD⟩
 rintro i n w H' gv;symm;let⟨rfl,hi,acc,xs,fp,o,A⟩:=gv;by_cases aZ:i<ds.length
 .have ht:=cA aZ;let⟨go,yl⟩:=wk.1 i ds[i] o H' ht A.e.e.g A.e.e.s;show .inr ⟨go,λji F=>∃acc xs fp o,C.At t H1 (gZ m ρ) D (f.choose (i+1)) ji F acc xs fp o,λji F U=>⟨ds.length-(i+1),⋯,rfl,aZ,U⟩,λv F hy=>?_⟩;let⟨G2,x2,rv⟩:=yl v F hy;show q2 _ _ _ (gZ m ρ) w t H1 G2 F ds[i] v _ _ (A.e.ext x2) rv (hk _ _ _ (f.choose_spec.2.1 i ds[i] acc ht A.iv)) λAf nz G3 M E3 x3 cM=>?_
  show q3 _ _ _ Af nz t H1 G3 M _ _ E3 cM.1 λb H4 G4 x4 ZZ=>?_
  have S:=(x2.trans x3).trans x4;have weak:∀j,gt (gZ m ρ) j=.un\/gt (gZ m ρ) j=gt Af j:=λj=>by
   rcases Oc (m:=m) (ρ:=ρ) (i:=j) with e | ⟨c,d',e1,e2,e3⟩
   .exact .inl e
   show .inr (cM.2.2 j c e1).symm
  have A4:C.B G4 H4 xs fp acc:=C.mono S.g (λq _ u e=>S.h _ _ e) A.b;have O:∀q∈D::fp,H1 q=none/\G4 q=none/\H4 q≠none:=λq f=>by
   have W:H' q≠none:=by
    rcases bE.mp f with rfl | f
    .rw[A.d];show nofun
    show C.here A.b q f
   show⟨(A.fr q f).1,S.n q (A.fr q f).2 W,λz=>W (S.h.free z)⟩
  have E4:=(E3.ext x4).weak (ρ':=gZ m ρ) cM.2.1.symm weak;cases b with
  | false=>show⟨acc,xs,fp,G4,E4,S.h _ _ A.d,A4,A.nd,λq f=>⟨(O q f).1,(O q f).2.1⟩,ZZ⟩
  | true=>
   show q4 _ _ _ Af nz t H1 G4 H4 _ _ N (E3.ext x4) ZZ λv5 H5 r5 G5 x5 NP uR=>?_
   let⟨a,G6,Z,ka,x6,B6,kU,O3⟩:=C.snoc x5 NP uR (C.mono x5.g (λq _ u e=>x5.h _ _ e) A4);have W:∀q∈D::fp,q∉Z:=λq h1 U=>(O q h1).2.2 (O3 q U).1
   have Hy:∀q∈D::(fp++Z),H1 q=none/\G6 q=none:=λq f=>by
    rw[<-mG] at f;rcases bx.mp f with f | f
    .exact⟨(O q f).1,x6.n q (O q f).2.1 (O q f).2.2⟩
    show⟨E4.e.h.free (O3 q f).1,(O3 q f).2⟩
   have Zr:(D::(fp++Z)).Nodup:=by
    rw[<-mG,lq];show⟨A.nd,kU,λx h1 y U e=>W x h1 (e▸U)⟩
   show⟨xs,x6.h _ _ (S.h _ _ A.d),by rw[C.len A4];show ka.1,acc++[a],xs++[v5],fp++Z,G6,?_,eV,C.mono (aW.refl _) (λq f u e=>?_) B6,Zr,Hy,ka.2⟩
   .have E6:=E4.ext x6;show ZK.O6 (E6.e.aa1 Y (Hy D 'c').2) E6.len E6.fz
   rw[bQ (λz:q=D=>(fY.mp Zr).1 (z▸f))];show e
 have e:i=ds.length:=by lia
 subst e;show .inl ⟨wk.2 o H' A.e.e.g A.e.e.s,k _ H' (C.res acc) o (N.trans A.e.e) (C.fin A.d A.b A.nd λq f=>⟨N.h.free (A.fr q f).1,(A.fr q f).2⟩) (f.choose_spec.2.2 acc A.iv)⟩
def zyc(K):zJ K D where
 B:=λG _ xs fp acc=>fp=[]/\au K G xs acc
 sel:=λr k=>k r.val
 res:=.ow
 nil:=λ_ _=>⟨rfl,au.nil⟩
 len:=λh=>h.2.length
 here:=λh q e=>by rw[h.1] at e;cases e
 mono:=λg _ h=>⟨h.1,h.2.mono g⟩
 snoc:=λx m n h=>by
  symm;let⟨o,i,j,s2⟩:=m.freeze x;show⟨_,o,[],n,i,⟨by rw[h.1];rfl,(h.2.mono s2).append (au.cons j au.nil)⟩,.nil,λq e=>by cases e⟩
 fin:=λd b _ f=>⟨_,_,rfl,(f _ (et)).1,(f _ (et)).2,d,b.2⟩
theorem zrk(B:kI X N' m scope)(A:lP m g)
  (z:∀ρ c f e G H Q P,aS X.K f e ρ c G H->wi ρ Q->(∀J H' ds a,Ext G H a H'->Walk X.K J a ds->Q ds->P J H')->ww c H P)
  (y:∀s3 l ex ρ c f e G H d v Q P,aS X.K f e ρ c G H->Rep X.K G v d->g d ρ Q->(∀ρ' j a H',aS X.K f e ρ' j a H'->Ext G H a H'->Q ρ'->P j H')->p s3 l ex v c H P)
  (x:∀s3 l ex ρ c f e G H Q P,aS X.K f e ρ c G H->tc ρ Q->(∀b H' a,Ext G H a H'->Q b->P b H')->o s3 l ex c H P)
  (w:∀s3 l ex ρ' j u H1 a H' q s,Ext G H u H1->aS X.K u H1 ρ' j a H'->te ρ' q->(∀v n r t,Ext a H' t n->dh X.K t n H' v r->q r->s v n)->i s3 l ex j H' s)
  (E:aS X.K f e ρ c G H) (h:jH wi m g tc te ρ Q) (k:∀v H' r a,Ext G H a H'->dh X.K a H' H v r->Q r->P v H'):se ww m p o i c H P:=WY (zyc X.K) A z y x w E h k
theorem FO(t:kI X N' m scope)(s:lP m g)
  (r:∀ρ σ f e G H Q P,aS X.K f e ρ σ G H->wi ρ Q->(∀J H' ds a,Ext G H a H'->Walk X.K J a ds->Q ds->P J H')->ww σ H P)
  (q:∀s3 c ex ρ σ f e G H d v Q P,aS X.K f e ρ σ G H->Rep X.K G v d->g d ρ Q->(∀ρ' j a H',aS X.K f e ρ' j a H'->Ext G H a H'->Q ρ'->P j H')->n s3 c ex v σ H P)
  (p:∀s3 c ex ρ σ f e G H Q P,aS X.K f e ρ σ G H->tc ρ Q->(∀b H' a,Ext G H a H'->Q b->P b H')->l s3 c ex σ H P)
  (o:∀s3 c ex,mf X.K te (i s3 c ex)):mf X.K (jH wi m g tc te) (se ww m n l i):=λρ σ f e G H Q P E h k=>zrk t s r q p (λs3 c ex ρ' j x H1 a H' u w _=>o s3 c ex ρ' j x H1 a H' u w) E h k
def eu(k:X.calm=true)(d:kI X N' m scope)(i:lP m g)(j:PId X tg iter wi)(c:∀s3 a ex,pW (iF X N' scope s3 a ex) tg g)(b:∀s3 a ex,xi (iF X N' scope s3 a ex) ifs tc)
  (he:∀s3 a ex,PD (iF X N' scope s3 a ex) elt te) (h:∀x,foldedSetIterable iter X.env x=pure x:=by intro _;rfl):PD X 'd' (jH wi m g tc te):=by
 let⟨ww,f,e⟩:=j;show⟨_,V9 (g:=λs3 a ex=>(c s3 a ex).choose) (tc:=λs3 a ex=>(b s3 a ex).choose) (te:=λs3 a ex=>(he s3 a ex).choose) k d f (λs3 a ex=>(c s3 a ex).choose_spec.1) (λs3 a ex=>(b s3 a ex).choose_spec.1) (λs3 a ex=>(he s3 a ex).choose_spec.1) h,
  FO d i e (λs3 a ex=>(c s3 a ex).choose_spec.2) (λs3 a ex=>(b s3 a ex).choose_spec.2) (λs3 a ex=>(he s3 a ex).choose_spec.2)⟩
def FN(i)(y:X.calm=true)(f:kI X N' m scope)(t:lP m g)(u:PId X tg iter wi)(d:∀s3 a ex,pW (iF X N' scope s3 a ex) tg g)(c:∀s3 a ex,xi (iF X N' scope s3 a ex) ifs tc)
  (he:∀s3 a ex,PD (iF X N' scope s3 a ex) elt te) (hN:X.N.Nodup:=by assumption) (p:X.N[i]?\x:=by rfl) (hx:Loc X.env.scope x:=by first | show Or.inl rfl | show Or.inr rfl) (q:∀x,foldedSetIterable iter X.env x=pure x:=by intro _;rfl)
  (j:swapsWith 'd' (some (.Name x b)) e.line X.env=pure true:=by rfl)
  (w:X.fn x=true\/X.env.scope.names.lookup x\.local:=by first | show .inl rfl | show .inr rfl | assumption) :
  PX X (.Assign [.Name x b] 'd' e) (ue i (jH wi m g tc te)):=by
 let⟨ww,o,n⟩:=u;show⟨_,Lx (g:=λs3 a ex=>(d s3 a ex).choose) (tc:=λs3 a ex=>(c s3 a ex).choose) (te:=λs3 a ex=>(he s3 a ex).choose) hN p hx y f o (λs3 a ex=>(d s3 a ex).choose_spec.1) (λs3 a ex=>(c s3 a ex).choose_spec.1) (λs3 a ex=>(he s3 a ex).choose_spec.1) q j w,λρ σ B A G H D E k h z=>?_⟩;show FO f t n (λs3 a ex=>(d s3 a ex).choose_spec.2) (λs3 a ex=>(c s3 a ex).choose_spec.2) (λs3 a ex=>(he s3 a ex).choose_spec.2) ρ σ B A G H _ _ k h λv H' r C x l s=>z.nx _ _ C H' x.g (k.put x l) s
def ur(i)(A:X.calm=true)(j:kI X N' m scope)(w:lP m g)(y:PId X tg iter wi)(d:∀s3 a ex,pW (iF X N' scope s3 a ex) tg g)(c:∀s3 a ex,xi (iF X N' scope s3 a ex) ifs tc)
  (he:∀s3 a ex,PD (iF X N' scope s3 a ex) elt te) (hN:X.N.Nodup:=by assumption) (s:X.N[i]?\x:=by rfl) (hx:Loc X.env.scope x:=by first | show Or.inl rfl | show Or.inr rfl) (t:∀x,foldedSetIterable iter X.env x=pure x:=by intro _;rfl)
  (l:swapsWith 'd' (some (.Name x b)) f.line X.env=pure true:=by rfl)
  (z:X.fn x=true\/X.env.scope.names.lookup x\.local:=by first | show .inl rfl | show .inr rfl | assumption) :
  PX X (.Assign [.Name x b] 'd' f) (ku i (jH wi m g tc te)):=by
 let⟨ww,q,p⟩:=y;show⟨_,Lx (g:=λs3 a ex=>(d s3 a ex).choose) (tc:=λs3 a ex=>(c s3 a ex).choose) (te:=λs3 a ex=>(he s3 a ex).choose) hN s hx A j q (λs3 a ex=>(d s3 a ex).choose_spec.1) (λs3 a ex=>(c s3 a ex).choose_spec.1) (λs3 a ex=>(he s3 a ex).choose_spec.1) t l z,λρ σ I C G H D E k h B=>?_⟩;show FO j w p (λs3 a ex=>(d s3 a ex).choose_spec.2) (λs3 a ex=>(c s3 a ex).choose_spec.2) (λs3 a ex=>(he s3 a ex).choose_spec.2) ρ σ I C G H _ _ k h λv H' r J x o u=>?_
 let⟨F,e,n,Z⟩:=o.freeze x;show B.nx _ _ F H' e.g (k.put e (r:=.fz r.val) n) u
end
abbrev bF:=List D->(R->Prop)->Prop
def xj(K:ao)(n:Nat)(t:bF):Sp:=λc H Q _=>∃G ds a,aW G H/\au K G c ds/\ds.length=n/\t ds a/\∀v H' r b,Ext G H b H'->dh K b H' H v r->a r->Q v H'
def pB(N:List aa)(ds:List D):Ev:=ds.map Sl.fz++xF (N.length-ds.length) .un
def zjU{ds:List D}{l:List Sl}(h:gt (ds.map Sl.fz++l) i=s):(∃d,ds[i]?\d/\s=.fz d)\/(ds.length<=i/\gt l (i-ds.length)=s):=by
 induction ds generalizing i with
 | nil=>show .inr ⟨b9 _,by trivial⟩
 | cons d ds a=>
  cases i with
  | zero=>show .inl ⟨d,rfl,h.symm⟩
  | succ i=>
   simp![bT,mG,gt] at h;cbv
def zoG:gt (xF n Sl.un) i=.un:=by
 induction n generalizing i with
 | zero=>rfl
 | succ n a=>
  cases i with
  | zero=>rfl
  | succ i=>show a
def WX{K:ao}(s:aW G H)(r:au K G a ds):aS K G H (pB N ds) (start N a) G H:=by
 have c:∀i,gt (pB N ds) i=.un\/∃d,ds[i]?\d/\gt (pB N ds) i=.fz d:=λi=>by
  rcases zjU (s:=gt (pB N ds) i) rfl with h | ⟨_,h⟩
  .exact .inr h
  rw[zoG] at h;show .inl h.symm
 show Ia.O6 (λi=>(c i).imp id λ⟨d,_,h⟩=>⟨d,h⟩) (.refl s) (by simp[start,pB,r.length]) λi d h=>?_
 rcases c i with h' | ⟨d',f,h'⟩
 .rw[h] at h';cases h'
 rw[h] at h';cases h';let⟨v,hv,b⟩:=r.get f;have e:i<a.length:=(c7.mp hv).1;show⟨v,?_,b⟩;unfold start;rw[S5 (by simpa using e),b8,hv];rfl
section
variable{K:ao}
def LF{st:cq}(F:tO u K x b st f j)(S:oM N ps (dQ st))
  (body:∀g A outer s H E,eX k (A.deeper (envOfC b (dQ st) *...* f g))->jf (lN iR P w K mg base N b (dQ st) f g A outer s H E).oj (iO st) T)
  (spec:∀ds d,ds.length=ps.length->t ds d->T { nx:=λ_=>d (.fz .non),rt:=d } (pB N ds)):kH P w K mg base iR (k+1) f j ps (xj K ps.length t):=by
 show F.ok S (λm H Q E h=>?_) (λg A outer s H m Q E o h=>?_)
 .let⟨G,ds,d,z,r,hl,z⟩:=h;rw[r.length,hl]
 symm;let⟨G,ds,d,s0,r,hl,n,i⟩:=h;let⟨tt,p,q⟩:=body g A outer s H E o;show⟨tt,p,q _ _ G H G H _ _ (WX s0 r) (spec ds d hl n) ⟨λρ σ v H' _ e h=>i _ H' _ v e.e (dH (V7 _ _)) h,i,λ_ _ _ _ _ _ h=>h.elim,λ_ _ _ _ _ _ h=>h.elim⟩⟩
end
section
variable{k n:Nat}{f:ag}{t:bF}{e:az}{ts:fm}
def f7(n:Nat)(t:bF)(ts:fm):TD:=λρ Q=>ts ρ λds=>ds.length=n/\t ds Q
def zug(F:kH X.prog X.w X.K X.mg X.base iR k f fd ps (xj X.K n t))(i:eX k X.A)(j:X.mg x=some (.ref f))(l:oW X.K (.ref f)=true)(o:Binds X.K fd ps [])(u:jg X (e::es) ts)(m:Gl X x:=by rfl)(g:(x==("__debug__":aa))=false:=by decide)
  (he:starEach (e::es) X.env=(false,eval e X.env)::starEach es X.env:=by rfl) (y:(backTo pos (starEach es X.env)).any (·.1)=false:=by rfl):PD X (.Call (.Name x p) (e::es) [] pos) (f7 n t ts):=by
 let⟨tt,pp,q⟩:=u;show⟨_,ztQ F i m j l o .nil Us pp g he y,λρ σ D B G H Q P E h k=>q ρ σ D B G H _ _ E h λJ H' ds I x rs a=>?_⟩;rw[eS];show⟨I,ds,Q,x.s,rs,a.1,a.2,λv z r C b c d=>k v z r C (x.trans b) (c.pG x.h) d⟩
end
open PySem.StrLaws
def gU{α:Type}(xs:List α)(lo a:Option Int):List α:=(xs.drop (HT.bY xs.length 0 lo)).take (HT.bY xs.length xs.length a-HT.bY xs.length 0 lo)
def pf(z:aa)(lo a:Option Int):aa:=⟨(gU z.cps.toList lo a).toArray⟩
def ui(v)(n d:Nat):max 0 (min (if v<0 then v+(n:Int) else v) (n:Int))=((HT.bY n d (some v):Nat):Int):=by
 rw[<-HT.Pm];by_cases h:v<0
 .lia
 lia
def zm2(z:aa)(lo c):(xU lo c 1 z.length).filterMap (z.cps[·]?)=gU z.cps.toList lo c:=by
 have g:z.cps.toList.length=z.length:=by simp[Io]
 have e:xU lo c 1 z.length=sliceRange ((HT.bY z.length 0 lo:Nat):Int) ((HT.bY z.length z.length c:Nat):Int) 1:=by
  unfold xU;cases lo with
  | none=>
   cases c with
   | none=>rfl
   | some v=>simp![show((1:Int)>0) from by show fA _,eG,ui v z.length z.length];rfl
  | some u=>
   cases c with
   | none=>simp![show((1:Int)>0) from by show fA _,eG,ui u z.length 0];rfl
   | some v=>simp![show((1:Int)>0) from by show fA _,eG,ui v z.length z.length,ui u z.length 0]
 rw[e];unfold gU;rw[g];generalize j:HT.bY z.length 0 lo=a;generalize i:HT.bY z.length z.length c=b;have d:b<=z.length:=by rw[<-i];show HT.NM _ _ (bB _) _
 by_cases f:a<=b
 .have:=sliced_plain z f d;rw[strSliceIndices_plain f d] at this;rw[<-this];unfold sliceRange;simp![show((1:Int)>0) from by show fA _,eG];congr 1
  by_cases h:a<b
  .rw[if_pos 'g'];rw[show(((b:Int)-(a:Int)+1-1)/1).toNat=b-a by cbv];apply t8;intro k _;lia
  rw[if_neg 'g',show b-a=0 by cbv];rfl
 rw[show b-a=0 by ext,I0];unfold sliceRange;simp![show((1:Int)>0) from by show fA _,eG];rw[if_neg ⋯];rfl
def zoI(z lo a):Ig z lo a=pf z lo a:=by
 unfold Ig pf;split
 .rename_i h;have h':(xU lo a 1 z.length).length=z.length:=by show eq_of_beq ‹_›
  have c:z.cps.toList.length=z.length:=by simp[Io]
  have e:(gU z.cps.toList lo a).length=z.length:=by
   unfold gU;rw[cN,o4,c];have f:xU lo a 1 z.length=sliceRange ((HT.bY z.length 0 lo:Nat):Int) ((HT.bY z.length z.length a:Nat):Int) 1:=by
    unfold xU;cases lo with
    | none=>
     cases a with
     | none=>rfl
     | some v=>simp![show((1:Int)>0) from by show fA _,eG,ui v z.length z.length];rfl
    | some u=>
     cases a with
     | none=>simp![show((1:Int)>0) from by show fA _,eG,ui u z.length 0];rfl
     | some v=>simp![show((1:Int)>0) from by show fA _,eG,ui v z.length z.length,ui u z.length 0]
   rw[f] at h';unfold sliceRange at h';simp![show((1:Int)>0) from by show fA _,eG,aE,qg] at h';have g:=HT.NM z.length z.length (bB _) a;by_cases d:((HT.bY z.length 0 lo:Nat):Int)<((HT.bY z.length z.length a:Nat):Int)
   .lia
   simp at h';lia
  apply Str.ext';have d:gU z.cps.toList lo a=z.cps.toList:=by
   unfold gU at e ⊢;rw[cN,o4,c] at e;rw[c];have b:HT.bY z.length 0 lo=0\/z.length=0:=by lia
   rcases b with b | b
   .rw[b,IZ,Nat.sub_zero];show p9 'a'
   have:z.cps.toList=[]:=oS (by trivial);rw[this];simp
  rw[d]
 rw[zm2]
section
variable{X:Cx}{e:az}{te:TD}
def aa6:vc X (λx lo b H Q=>∃z,x=.str z/\z.length<=sizeLine/\Q (.str (pf z lo b)) H):=by
 intro w s σ H x v A y lo b sl Q I d g pl pu h;symm;let⟨z,rfl,hz,q⟩:=h;let⟨t,rfl⟩:=d;show⟨"str",_,F.slot_str_getitem.lookup,Im _ _ _,?_⟩;have part:∀{u:af}{o:Option Int},IsPart u o->∃p:Option (Int×Tok),u=partValue p/\p.map (·.1)=o:=λh=>by
  cases h with
  | none=>show⟨none,rfl,rfl⟩
  | int i t=>show⟨some (i,t),rfl,rfl⟩
 symm;let⟨f,rfl,r⟩:=part pl;let⟨e,rfl,n⟩:=part pu;let⟨o,j,m,hd⟩:=g;show wpAny_getItem_str_slice (l:=f) (u:=e) (st:=none) ⟨o,j,m,hd⟩ rfl ?_;have fin:∀t' k,EP X w σ Q (.str (Ig z lo b) t') { s with toks:=k }:=λt' k=>⟨.str (pf z lo b),H,I.tok k,⟨t',by rw[zoI]⟩,q⟩
 have hle:=bK (Txt.slice_le z lo b) hz;subst r n;show post_val_or_str ⟨hle,fin⟩
abbrev Dp:=Ev->(Option Int->Prop)->Prop
def HD(X:Cx)(e:Option az)(t:Dp):Prop:=∃tt,PO X e tt/\∀ρ σ b a G H Q P,aS X.K b a ρ σ G H->t ρ Q->(∀o H' c,Ext G H c H'->Q o->P o H')->tt σ H P
def zb:Dp:=λ_ Q=>Q none
def yp(te:TD):Dp:=λρ Q=>te ρ λr=>gu r.val λi=>Q (some i)
theorem kC:HD X none zb:=⟨_,ztU,λρ σ b a G H Q P E h k=>k none H G (.refl E.e.s) h⟩
def iK(h:PD X e te):HD X (some e) (yp te):=by
 let⟨t,p,q⟩:=h;show⟨_,ztV p,λρ σ j f G H Q P E h k=>q ρ σ j f G H _ _ E h λv H' r l x d b=>?_⟩;let⟨g,c,a,z⟩:=d.freeze x;let⟨i,a,b⟩:=a.I b;show⟨i,a,k _ H' g c b⟩
def zC(te:TD)(tl b:Dp):TD:=λρ Q=>te ρ λr=>tl ρ λlo=>b ρ λa=>vR r.val (λds=>Q (.ow (gU ds lo a))) (λds=>¬(HT.bY ds.length 0 lo=0/\HT.bY ds.length ds.length a=ds.length)/\Q (.fz (.tup (gU ds lo a)))) λz=>z.length<=sizeLine/\Q (.fz (.str (pf z lo a)))
def Wj{K:ao}(r:au K G xs ds)(lo a):au K G (qz xs lo a) (gU ds lo a):=by
 unfold qz gU;rw[r.length];show(r.drop _).take _
def ju{lo f:Option az}(he:PD X e te)(hl:HD X lo tl)(R:HD X f B):PD X (.Subscript e (.Slice lo f none q) pos) (zC te tl B):=by
 symm;let⟨t1,M,K⟩:=he;let⟨W,q,J⟩:=hl;let⟨t3,L,I⟩:=R;show⟨_,zqZ (aa7.or (aa6.or zv4)) M q L,λρ σ w u G H Q P E h k=>K ρ σ w u G H _ _ E h λv H' r Y x F O=>?_⟩;let⟨V,o,D,l⟩:=F.freeze x;show J ρ σ w u V H' _ _ (E.ext o) O λlo T U n N=>?_
 show I ρ σ w u U T _ _ ((E.ext o).ext n) N λf C m A d=>?_
 have b:=(o.trans n).trans A;have S:=(D.mono n.g).mono A.g;rcases S.Ds d with⟨a,xs,ds,e,t,j,d⟩ | ⟨a,xs,ds,e,t,j,d⟩ | ⟨z,e,d⟩
 .refine .inl ⟨a,xs,e,(b.s.cB t).sq,λp i=>?_⟩;show k _ _ (.ow _) m (b.trans (.own b.s i)) ⟨p,_,rfl,b.h.free i,b.s.free i,eV,Wj j lo f⟩ d
 .refine .inr (.inr ⟨a,xs,e,b.s.uE t,by rw[j.length];show d.1,λp i=>?_⟩);have y:Ext m C (upd m p (.tup (qz xs lo f))) (upd C p (.tup (qz xs lo f))):=.new b.s i;show k _ _ (.fz (.tup _)) _ (b.trans y) ⟨p,_,rfl,eV,(Wj j lo f).mono y.g⟩ d.2
 show .inr (.inl ⟨z,e,d.1,k _ _ _ m b (dH (yF _ _ _)) d.2⟩)
def yb:bF:=λds Q=>fK ds λd=>vR d (λa=>Q (.fz (.int a.length))) (λa=>Q (.fz (.int a.length))) λz=>z.length<=sizeLine/\Q (.fz (.int z.length))
def jG:jh X (.builtin "len") yb:=by
 show⟨_,aaj.or zjN,λG H g ds Q P s rs h k=>?_⟩;let⟨v,d,rfl,e,h⟩:=rs.one h;rcases e.Ds h with⟨a,xs,f,rfl,c,b,h⟩ | ⟨a,xs,f,rfl,c,b,h⟩ | ⟨z,rfl,h⟩
 .exact .inl ⟨a,xs,rfl,.inl ((s.cB c).sq),by rw[b.length];show k _ _ _ G (.refl s) (dH (gK _ _ _)) h⟩
 .exact .inl ⟨a,xs,rfl,.inr (s.uE c),by rw[b.length];show k _ _ _ G (.refl s) (dH (gK _ _ _)) h⟩
 show .inr ⟨_,rfl,h.1,k _ _ _ G (.refl s) (dH (gK _ _ _)) h.2⟩
def E8(i:Nat):TD:=λρ Q=>gW ρ i λds=>Q (.fz (.int ds.length))
def Bk(i)(f:X.mg "len"=none)(hN:X.N[i]?=some x:=by rfl)(hv:u7 X.env.scope x:=by first | show Or.inl rfl | show Or.inr (Or.inl rfl) | show Or.inr (Or.inr rfl))(c:Gl X "len":=by rfl)(hd:(x==("__debug__":aa))=false:=by decide)
  (d:(x==("__classdict__":aa))=false:=by decide) (m:starEach [Aj x b] X.env=(false,eval (.Name x b) X.env)::starEach [] X.env:=by rfl):PD X (.Call (.Name "len" p) [.Name x b] [] pos) (E8 i):=by
 show⟨_,Bp aaj c f iY (lU (Bi hN hv hd d) lQ m),λρ σ r q G H Q P E h k=>?_⟩;let⟨a,xs,ds,l,j,o,n,g,c,h⟩:=E.gW h;show⟨_,l,a,xs,rfl,.inl (bS.of j),by rw[g.length];show k _ _ _ G (.refl E.e.s) (dH (gK _ _ _)) h⟩
def rM{α:Type}(f:D->Option α):List D->Option (List α)
 | []=>some []
 | d::r=>(f d).bind λb=>(rM f r).map (b::·)
theorem F9{g:α->D}(c:∀{d a},f d\a->d=g a):∀{ds bs},rM f ds\bs->ds=bs.map g
 | [],bs,h=>by cases h;rfl
 | d::r,bs,h=>by
  let⟨b,e,h⟩:=Option.bind_eq_some_iff.mp h;let⟨j,i,rfl⟩:=jZ.mp h;rw[c e,F9 c i];rfl
def LV{g:α->D}(d:∀a,f (g a)\a)(bs):rM f (bs.map g)\bs:=by
 induction bs with
 | nil=>rfl
 | cons b r c=>rw[bT,rM,d,c];rfl
def LD{α:Type}{K:ao}{g:α->D}{g':α->V}(e:∀{a v},Rep K G v (g a)->v=g' a){bs:List α}:∀{c},au K G c (bs.map g)->c=bs.map g':=by
 induction bs with
 | nil=>show λ{c} h=>by cases c with | nil=>rfl | cons=>show h.elim
 | cons b r d=>show λ{c} h=>by cases c with | nil=>show h.elim | cons v us=>rw[e h.1,d h.2];rfl
def Wi{α:Type}{K:ao}{g:α->D}{g':α->V}(d:∀a,Rep K G (g' a) (g a))(bs:List α):au K G (bs.map g') (bs.map g):=by
 induction bs with
 | nil=>show au.nil
 | cons b r c=>show au.cons (d b) c
def Rep.Ls{K:ao}{g:α->D}(j:∀{d a},f d\a->d=g a)(i:∀{a v},Rep K G v (g a)->v=g' a)(r:Rep K G v d)(h:eI d λc=>g7 (rM f c) P):∃a bs,v=.ref a/\fq K G a (bs.map g')/\P bs:=by
 let⟨a,xs,c,e,k,b,h⟩:=r.L h;let⟨bs,l,h⟩:=V8 h;rw[F9 j l] at b;show⟨a,bs,e,LD i b▸k,h⟩
def au.Cv{K:ao}{g:α->D}(i:∀{d a},f d\a->d=g a)(c:∀{a v},Rep K G v (g a)->v=g' a)(r:au K G b ds)(h:fK ds λd=>eI d λj=>g7 (rM f j) P):∃a bs,b=[.ref a]/\fq K G a (bs.map g')/\P bs:=by
 let⟨z,z,e,r,h⟩:=r.one h;let⟨a,bs,k,h⟩:=r.Ls i c h;show⟨a,bs,by rw[e,k],h⟩
def Pq:D->Option Bool | .bl b=>some b | _=>none
def T7(h:Pq d\b):d=.bl b:=by cases d<;>cases h;rfl
abbrev EZ:=rM Pq
theorem XO(bs):EZ (bs.map D.bl)\bs:=LV (f:=Pq) (g:=D.bl) (λ_=>rfl) bs
def WW{bs:List Bool}(h:Vals (bs.map V.bl) us){i:Nat}(hv:us[i]?\v):∃b,bs[i]?\b/\v=.bool b:=by
 have hl:=h.length;have g:i<us.length:=(c7.mp hv).1;have e:i<bs.length:=by cbv
 symm;let⟨u,d,f⟩:=h.get (i:=i) (x:=V.bl bs[i]) (by simp[e]);rw[hv] at d;cases d;show⟨bs[i],by show cA ‹_›,f⟩
theorem Wh{s:ai}{h':aD}(a:∀b x,b∉[*...*]->(s.heap.push o).get? b\x->h'.get? b\x):∀b x,'f' b\x->h'.get? b\x:=
 λb x e=>a b x (λhm=>by rw[cG.mp hm] at e;show qf _ (cf e)) (cy _ e)
def zuh(bs:List Bool):((bA bs.length).all λi=>(bs[i]?).getD true)=bs.all id:=by
 rw[xJ];simp![Jl,iT,id];constructor
 .intro h b c;let⟨i,a,rfl⟩:=Sk.mp c;simpa[a] using h i a
 intro h i a;simpa[a] using h _ (gP a)
def zui(bs:List Bool):((bA bs.length).any λi=>(bs[i]?).getD false)=bs.any id:=by
 rw[xJ];simp![xO,iT,id];constructor
 .rintro⟨i,a,h⟩;show⟨bs[i],gP a,by simpa[a] using h⟩
 rintro⟨b,c,h⟩;let⟨i,a,rfl⟩:=Sk.mp c;show⟨i,a,by simpa[a] using h⟩
def zoM(n:X.calm=true):fX X (.builtin "all") (λxs H Q=>∃(p:ag)(bs:List Bool),xs=[.ref p]/\bS X.K H p (bs.map V.bl)/\Q (.bl (bs.all id)) H):=by
 intro y s σ H xs us Q I r h;symm;let⟨p,bs,rfl,j,q⟩:=h;let⟨u,rfl,g⟩:=gI r;cases g;let⟨its,d,pl,hz⟩:=I.list j;have t:p< *...*:=by let⟨l,l,e,l⟩:=pl;show cf e
 have hl:its.length=bs.length:=by rw[<-d.length,aE]
 show call_all_walk (tZ pl.isList ?_);show⟨*...*,[*...*,p],[*...*],its.toArray.size,_,_,λi=>(bs[i]?).getD true,rfl,Al (A:=X.A.in1) (I.ok.hd n) _ p (cC t) its.toArray,
  ⟨⟨_,cT _ rfl,rfl,rfl⟩,pl.isList.push _⟩,λi v w x z o f=>?_,λh' tk m=>?_⟩
 .let⟨b,e,rfl⟩:=WW d (i:=i) (v:=v) (by simpa using o);simp![e,Jk] at f;show lA f
 rw[eP,hl,zuh];show⟨.bl _,H,I.kept (Wh m),rfl,q⟩
def zoN(n:X.calm=true):fX X (.builtin "any") (λxs H Q=>∃(p:ag)(bs:List Bool),xs=[.ref p]/\bS X.K H p (bs.map V.bl)/\Q (.bl (bs.any id)) H):=by
 intro y s σ H xs us Q I r h;symm;let⟨p,bs,rfl,j,q⟩:=h;let⟨u,rfl,g⟩:=gI r;cases g;let⟨its,d,pl,hz⟩:=I.list j;have t:p< *...*:=by let⟨l,l,e,l⟩:=pl;show cf e
 have hl:its.length=bs.length:=by rw[<-d.length,aE]
 show call_any_walk (tZ pl.isList ?_);show⟨*...*,[*...*,p],[*...*],its.toArray.size,_,_,λi=>(bs[i]?).getD false,rfl,Al (A:=X.A.in1) (I.ok.hd n) _ p (cC t) its.toArray,
  ⟨⟨_,cT _ rfl,rfl,rfl⟩,pl.isList.push _⟩,λi v w x z o f=>?_,λh' tk m=>?_⟩
 .let⟨b,e,rfl⟩:=WW d (i:=i) (v:=v) (by simpa using o);simp![e,Jk] at f;show lA f
 rw[eP,hl,zui];show⟨.bl _,H,I.kept (Wh m),rfl,q⟩
def AV:bF:=λds Q=>fK ds λd=>eI d λa=>g7 (EZ a) λbs=>Q (.fz (.bl (bs.all id)))
def TL:bF:=λds Q=>fK ds λd=>eI d λa=>g7 (EZ a) λbs=>Q (.fz (.bl (bs.any id)))
def T6(b:X.calm=true):jh X (.builtin "all") AV:=by
 show⟨_,zoM b,λG H d ds Q P s rs h k=>?_⟩;let⟨a,bs,e,c,h⟩:=rs.Cv T7 id h;show⟨a,bs,e,(s.cB c).sq,k _ _ _ G (.refl s) (dH (iJ _ _ _)) h⟩
def zyd(b:X.calm=true):jh X (.builtin "any") TL:=by
 show⟨_,zoN b,λG H d ds Q P s rs h k=>?_⟩;let⟨a,bs,e,c,h⟩:=rs.Cv T7 id h;show⟨a,bs,e,(s.cB c).sq,k _ _ _ G (.refl s) (dH (iJ _ _ _)) h⟩
end
section
variable{e:az}{te:TD}
def jJ:D->String
 | .non=>"NoneType"
 | .bl _=>"bool"
 | .int _=>"int"
 | .str _=>"str"
 | .tup _=>"tuple"
 | .lst _=>"list"
 | .obj _ _=>"object"
 | .dic _=>"dict"
 | .dit _=>"dict"
 | .exc _ _=>"object"
 | .idn _ _=>"object"
def rL(t T:String):Bool:=(t==T)||(t=="bool"&&T=="int")
def yB{K:ao}(a:t∈["NoneType","bool","int","str","tuple","list"])(b:T∈["bool","int","str","tuple","list"]):PySem.W.kitOne K (.type t) (.type T)=some (rL t T):=by
 simp only[bE,jX,or_false] at a b;rcases a with rfl | rfl | rfl | rfl | rfl | rfl<;>rcases b with rfl | rfl | rfl | rfl | rfl<;>(first | rfl | decide | (decide +kernel))
def T5:D->Bool
 | .obj _ _=>false
 | .dic _=>false
 | .dit _=>false
 | .exc _ _=>false
 | .idn _ _=>false
 | _=>true
def zrp(f:T∈["bool","int","str","tuple","list"]):fX X (.builtin "isinstance") (λxs H Q=>∃x d,xs=[x,.ty T]/\Rep X.K H x d/\T5 d=true/\Q (.bl (rL (jJ d) T)) H):=by
 intro A s σ H xs us Q I r h;symm;let⟨x,d,rfl,e,g,q⟩:=h;let⟨u,c,rfl,b,rc⟩:=A7 r;cases (show c=oV T from rc);have fin:∀tk,EP X A σ Q (.bool (rL (jJ d) T)) { s with toks:=tk }:=λtk=>⟨.bl _,H,I.tok tk,rfl,q⟩
 cases d with
 | non=>subst e;cases (show u=jF from b);show xI PySem.W.kitx_none I.jw qY (yB 'c' f) (λz=>nomatch z) fin
 | bl y=>subst e;cases (show u=Am y from b);show xI PySem.W.kitx_bool I.jw qY (yB (by trivial) f) (λz=>nomatch z) fin
 | int i=>subst e;let⟨t,j⟩:=(show ∃t,u=vi i t from b);cases j;show xI PySem.W.kitx_int I.jw qY (yB (by trivial) f) (λz=>nomatch z) fin
 | str y=>subst e;let⟨t,j⟩:=(show ∃t,u=vh y t from b);cases j;show xI PySem.W.kitx_str I.jw qY (yB (by trivial) f) (λz=>nomatch z) fin
 | tup ds=>
  symm;let⟨a,xs,rfl,p,l⟩:=e;cases (show u=fw a from b);symm;let⟨its,l,m,l⟩:=I.tuple (cY.of p);let⟨o,w,v,l⟩:=m;show xI PySem.W.kitx_tuple I.jw ⟨o,w,v⟩ (yB (by trivial) f) (λz=>nomatch z) fin
 | lst ds=>
  symm;let⟨a,xs,rfl,p,l⟩:=e;cases (show u=fw a from b);symm;let⟨its,l,m,l⟩:=I.list p.sq;let⟨o,n,w,v,l⟩:=m;show xI PySem.W.kitx_list I.jw ⟨o,w,v⟩ (yB (by trivial) f) (λz=>nomatch z) fin
 | obj=>cases g
 | dic=>cases g
 | dit=>cases g
 | exc=>cases g
 | idn=>cases g
def x9(T:String)(te:TD):TD:=λρ Q=>te ρ λr=>T5 r.val=true/\Q (.fz (.bl (rL (jJ r.val) T)))
def Fu(he:PD X e te)(w:X.mg "isinstance"=none)(A:X.mg b=none)(hv:bootBuiltins b=some (.type T))(z:T∈["bool","int","str","tuple","list"]:=by decide)(y:Gl X "isinstance":=by rfl)(o:Gl X b:=by rfl)(u:b≠"__name__":=by decide)
  (hd:(b==("__debug__":aa))=false:=by decide) (j:starEach [e,Aj b d] X.env=(false,eval e X.env)::starEach [Aj b d] X.env:=by rfl) (f:starEach [Aj b d] X.env=(false,eval (.Name b d) X.env)::starEach [] X.env:=by rfl)
  (B:(backTo pos (starEach [Aj b d] X.env)).any (·.1)=false:=by rfl):PD X (.Call (.Name "isinstance" p) [e,.Name b d] [] pos) (x9 T te):=by
 symm;let⟨t,pp,q⟩:=he;show⟨_,Bp (zrp z) y w boot_isinstance (lU pp (lU (ztC (v:=.ty T) o A hv rfl u hd) lQ f) j) (by decide) (by assumption) j B,λρ σ F C G H Q P E h k=>q ρ σ F C G H _ _ E h λv H' r I x n i=>?_⟩;symm;let⟨D,g,m,l⟩:=n.freeze x;show⟨v,r.val,rfl,m.mono g.s,i.1,k _ _ _ D g (dH (iJ _ _ _)) i.2⟩
end
section
variable{P:aI}{w:aH}{K:ao}{mg:aa->Option af}{base:aD}
structure Known(P:aI)(w:aH)(K:ao)(mg:aa->Option af)(base:aD)(k:Nat)(x:aa)(n:Nat)(t:bF):Prop where
 ex:∃(f:ag)(fd:gR)(ps:List aa),kH P w K mg base iR k f fd ps (xj K n t)/\mg x\.ref f/\oW K (.ref f)=true/\Binds K fd ps []
structure At(K:ao)(mg:aa->Option af)(x:aa)(st:cq):Prop where
 ex:∃(f:ag)(fd:gR),HJ K x x st f fd/\mg x=some (.ref f)
theorem acb{st:cq}{kV b pm d ct:af}(X:K.In h)(G:h.Ns mainGlobals mg)(a:Aq K mainGlobals x\some (.ref f))
  (l:K.lookup f\⟨g,e,.func (mD x x (pV st) (iO st) (dQ st) .none kV b pm j d ct),i⟩) (c:xE K d x=true) (k:oW K (.ref f)=true):At K mg x st:=
 ⟨f,_,K7 l c k,IT X G a⟩
end
def bU(C:Known X.prog X.w X.K X.mg X.base k x n t)(d:eX k' X.A)(j:jg X (e::es) ts)(g:k<=k':=by decide)(h:Gl X x:=by rfl)(b:(x==("__debug__":aa))=false:=by decide)
  (he:starEach (e::es) X.env=(false,eval e X.env)::starEach es X.env:=by rfl) (m:(backTo pos (starEach es X.env)).any (·.1)=false:=by rfl):PD X (.Call (.Name x p) (e::es) [] pos) (f7 n t ts):=by
 symm;let⟨f,fd,ps,F,hm,kp,i⟩:=C.ex;show zug F (d.mono g) hm kp i j h b he m
def Wg(a:aa->Option NameKind)(N N':List aa)(m:List (Option Nat))(scope:iH):Bool:=
 (scope.kind==.function)&&(m.length==N'.length)&&(scope.names.all λy=>scope.names.lookup y.1==some y.2) &&
 (scope.names.all λy=>y.2 != .free||a y.1==some .cell||a y.1==some .free) &&
 ((m.zip N').all λp=>match p.1 with
   | none=>true
   | some j=>N[j]?==some p.2&&scope.names.lookup p.2==some .free)
def kI.of{N':List aa}{m:List (Option Nat)}{scope:iH}(h:Wg X.env.kindOf X.N N' m scope=true):kI X N' m scope:=by
 unfold Wg at h;simp![oZ,beq_iff_eq,Jl,AD,bne_iff_ne,ne_eq] at h;obtain⟨⟨⟨⟨g,f⟩,d⟩,c⟩,b⟩:=h;show⟨g,f,λy a=>d y a,λy a e=>?_,λi j x hm hN=>?_⟩
 .rcases c y a with(z | z) | z
  .exact absurd e z
  .exact .inl z
  show .inr z
 have hz:(some j,x)∈m.zip N':=by
  apply dZ (i:=i);rw[oR];show⟨hm,hN⟩
 have:=b _ hz;simpa using this
def zm4{K:ao}{ns:List Int}(h:fq K G a (ns.map V.int)):Rep K G (.ref a) (.lst (ns.map D.int)):=by
 show⟨a,_,rfl,h,?_⟩;clear h;induction ns with
 | nil=>show au.nil
 | cons n r b=>show au.cons (gK _ _ _) b
def Kk(n:Nat):bF:=λds Q=>∃ns:List Int,ds=[.lst (ns.map .int)]/\ns.length<=n/\Q (.fz (.bl true))
def aa0{l:RJ}{K:Params->ao}
  (E:l.most\n) (X:n<=sizeLine) (U:d.params.defaults=[]) (D:eX k callerA) (L:∀w h,A w h->(K w.params).In h)
  (F:∀w mg fa h,(K w.params).In h->h.Ns mainGlobals mg->mg d.name\.ref fa->
   ∃fd:gR,(∀s u,BindsTo s fd ⟨[u],[]⟩ [(x,u)])/\∀base:aD,kH l.prog w (K w.params) mg base iR k fa fd [x] (xj (K w.params) 1 (Kk n))) :
  PySem.W.WalkO q i S A l.row.toRowW d [] (λf j=>QL f j):=by
 show Att.ab9 E U λw gC cz mg mb fa o pm cd doc a j ns G Y ho hd jd sS B hints hlen I=>?_
 have KX:=L w _ Y;symm;let⟨fd,J,N⟩:=F w mg fa _ KX G.T.g sS;show zq2 KX G.T.g G.T.b G.T.builtins G.T.nolimit I B hints (bK hlen X) D (λbase _ _=>N base) J (λH hO p=>?_) λH e Z z=>z
 have M:fq (K w.params) H a (ns.map V.int):=by
  symm;rcases p with p | ⟨o,its,m,y,h2,h3,Q,P,O⟩
  .exact .inl p
  have e:=KX a o y;rw[B] at e;cases e;have t:Dz j.toArray _=Dz its m:=Q;injection t with R e2
  subst R;show .inr ⟨_,_,y,P,O⟩
 show⟨H,[.lst (ns.map .int)],λr=>r=.fz (.bl true),aW.refl _,au.cons (zm4 M) au.nil,rfl,⟨ns,rfl,hlen,rfl⟩,λv H' r G' _ C e=>?_⟩;subst e;simpa only[dh,Rep] using C
def zwy{K:ao}{st:cq}{T:aD->TX}(g:At K mg "law" st)(sS:mg "law"=some (.ref fa))(S:oM N [x] (dQ st))
  (e:∀kV doc pm an b ct us,us.length=1->bindArgs (mD "law" "law" (pV st) (iO st) (dQ st) .none kV doc pm an b ct) ⟨us,[]⟩=pure ([x].zip us))
  (body:∀base f b A outer s H E,eX k (A.deeper (envOfC "law" (dQ st) *...* f b))->jf (lN iR P w K mg base N "law" (dQ st) f b A outer s H E).oj (iO st) (T base))
  (spec:∀base ds d,ds.length=1->t ds d->T base { nx:=λ_=>d (.fz .non),rt:=d } (pB N ds)) :
  ∃fd:gR,(∀s u,BindsTo s fd ⟨[u],[]⟩ [(x,u)])/\∀base:aD,kH P w K mg base iR (k+1) fa fd [x] (xj K 1 t):=by
 symm;let⟨f,fd,F,hm⟩:=g.ex;rw[sS] at hm;cases hm;show⟨fd,λs u=>?_,λbase=>LF F S (body base fa) (spec base)⟩;symm;let⟨i,h,kV,doc,pm,an,b,ct,j,rfl,lk,m⟩:=F.ex;show .of_eq (e kV doc pm an b ct [u] rfl)
def vE(i:Nat)(t:TX):TX:=λD ρ=>t D (gE i ρ)
theorem zwz(d):(R.fz d).val=d:=rfl
theorem yA(ds):(R.ow ds).val=.lst ds:=rfl
theorem zye(d):(R.fz d).sl=.fz d:=rfl
theorem zyf(ds):(R.ow ds).sl=.ow ds:=rfl
def FL{α:Type}(L:List α)(c f)(hw:∀l:List D->Prop,l (L.map c)->j ρ l)(p:L.length<=sizeLine)
  (h:∀x∈L,∀(n:D->Prop) o,(∀e,f x\e->n e)->(f x=none->o)->g (c x) (gZ m ρ) λk=>tc k λb=>if b=true then te k λr=>n r.val else o)
  (q:Q (.ow (L.filterMap f))):jH j m g tc te ρ Q:=by
 show hw _ ⟨λi acc=>acc=(L.take i).filterMap f,rfl,λi d acc hd a=>?_,λacc a=>?_⟩
 .rw[b8] at hd;cases hx:L[i]? with
  | none=>rw[hx] at hd;cases hd
  | some x=>
   rw[hx] at hd;cases hd;have e:L.take (i+1)=L.take i++[x]:=by rw[fG,hx];rfl
   have hlen:acc.length<sizeLine:=by
    rw[a];show qh (xT _ _) ?_;grind
   show h x (dZ hx) (λe=>acc.length<sizeLine/\acc++[e]=(L.take (i+1)).filterMap f) (acc=(L.take (i+1)).filterMap f)
    (λz hz=>⟨hlen,by rw[e,Sw,a];simp[hz]⟩) (λhz=>by rw[e,Sw,a];simp[hz])
 rw[aE,gk] at a;rw[a];show q
def gr{α:Type}(L:List α)(c f)(hw:∀i:List D->Prop,i (L.map c)->d ρ i)(j:L.length<=sizeLine)
  (h:∀x∈L,∀(b:D->Prop),b (f x)->g (c x) (gZ m ρ) λl=>te l λr=>b r.val) (q:Q (.ow (L.map f))):jH d m g nQ te ρ Q:=by
 show FL L c (λx=>some (f x)) hw j (λx hx b o k _=>?_) ?_
 .have:=h x hx b (k _ rfl);trivial
 have e:L.filterMap (λx=>some (f x))=L.map f:=by
  induction L with
  | nil=>rfl
  | cons a r n=>simp
 rw[e];show q
def kA{α:Type}(L:List α)(i f p)(hw:∀n:List D->Prop,n (L.map i)->j ρ n)(k:L.length<=sizeLine)
  (h:∀x∈L,∀(c:D->Prop) d,(p x=true->c (f x))->(p x=false->d)->g (i x) (gZ m ρ) λl=>tc l λb=>if b=true then te l λr=>c r.val else d)
  (q:Q (.ow ((L.filter p).map f))):jH j m g tc te ρ Q:=by
 show FL L i (λx=>if p x=true then some (f x) else none) hw k (λx hx c d s h0=>h x hx c d (λz=>s _ 'l') (λz=>h0 (by simp[z]))) ?_;have e:L.filterMap (λx=>if p x=true then some (f x) else none)=(L.filter p).map f:=by
  clear h k hw q;induction L with
  | nil=>rfl
  | cons a r o=>by_cases z:p a=true<;>simp[z,o]
 rw[e];show q
theorem WV{D:DE}(ds)(hw:∀e:List L2.D->Prop,e ds->b ρ e)(a:Nat->Ev->Prop)(f:a 0 ρ)
  (turn:∀i d ρ',ds[i]?\d->a i ρ'->g d ρ' λh=>c { D with nx:=a (i+1),ct:=a (i+1),bk:=D.nx } h) (fin:∀ρ',a ds.length ρ'->D.nx ρ'):kM b g c D ρ:=hw _ ⟨a,f,turn,fin⟩
def nY{α:Type}{D:DE}(L:List α)(b)(hw:∀f:List L2.D->Prop,f (L.map b)->c ρ f)(a:Nat->Ev->Prop)(h:a 0 ρ)
  (turn:∀i x ρ',L[i]?\x->a i ρ'->g (b x) ρ' λj=>e { D with nx:=a (i+1),ct:=a (i+1),bk:=D.nx } j) (fin:∀ρ',a L.length ρ'->D.nx ρ'):kM c g e D ρ:=by
 show WV (L.map b) hw a h (λi d ρ' hd iv=>?_) (λρ' iv=>fin ρ' (by simpa using iv));rw[b8] at hd;cases hx:L[i]? with
 | none=>rw[hx] at hd;cases hd
 | some x=>rw[hx] at hd;cases hd;show turn i x ρ' hx iv
def qK{D:DE}(n)(hw:∀d:List L2.D->Prop,d ((bA n).map λ(i:Nat)=>.int (0+i))->b ρ d)(a:Nat->Ev->Prop)(k:a 0 ρ)
  (turn:∀i ρ',i<n->a i ρ'->g (.int i) ρ' λl=>c { D with nx:=a (i+1),ct:=a (i+1),bk:=D.nx } l) (fin:∀ρ',a n ρ'->D.nx ρ'):kM b g c D ρ:=by
 show nY (bA n) (λ(i:Nat)=>.int (0+i)) hw a k (λi x ρ' hx iv=>?_) (λρ' iv=>fin ρ' (by simpa using iv));let⟨j,h⟩:=c7.mp hx;have f:i<n:=by simpa using j
 have e:x=i:=by rw[<-h];simp
 subst e;rw[xx];show turn x ρ' f iv
def p24:(10:Int) ^ QD 24=1000000000000000000000000:=by cbv
def p30:(10:Int) ^ QD 30=1000000000000000000000000000000:=by cbv
def zwA:vJ 10 24=True:=by simp![vJ,eq_iff_iff,iff_true];decide
def zwB:vJ 10 30=True:=by simp![vJ,eq_iff_iff,iff_true];decide
def zrq:100000<=sizeLine:=by decide
section
variable{X:Cx}{pos:aR}{e:az}{te:TD}{es:List az}{ts:fm}
def rK(t:TD):TD:=λρ Q=>t ρ λr=>gu r.val λi=>Q (.fz (.int (-i)))
def vW(h:PD X e te):PD X (.UnaryOp .USub e pos) (rK te):=by
 let⟨t,p,q⟩:=h;show⟨_,zxV zvW p,λρ σ j f G H Q P E h k=>q ρ σ j f G H _ _ E h λv H' r l x d b=>?_⟩;let⟨g,c,a,z⟩:=d.freeze x;let⟨i,a,b⟩:=a.I b;show⟨i,a,k _ _ _ g c (dH (gK _ _ _)) b⟩
def nR:bF:=λds Q=>fK ds λd=>vR d (λes=>Q (.ow es)) (λes=>Q (.ow es)) λ_=>False
def qE:jh X (.type "list") nR:=by
 show⟨_,zjO,λG H f ds Q P s rs h k=>?_⟩;let⟨v,d,rfl,e,h⟩:=rs.one h;rcases e.Ds h with⟨a,xs,es,rfl,c,b,h⟩ | ⟨a,xs,es,rfl,c,b,h⟩ | ⟨_,_,h⟩
 .exact⟨a,xs,rfl,.inl (s.cB c).sq,sk s b h k⟩
 .exact⟨a,xs,rfl,.inr (s.uE c),sk s b h k⟩
 show h.elim
def EM:bF:=λds Q=>fK ds λd=>match d with
 | .int i=>Q (.fz (.int i))
 | .bl b=>Q (.fz (.int (if b then 1 else 0)))
 | _=>False
def Kj:jh X (.type "int") EM:=by
 show⟨_,zod,λG H b ds Q P s rs h k=>?_⟩;let⟨v,d,rfl,a,h⟩:=rs.one h;cases d with
 | int=>show .inl ⟨_,by rw[a],k _ _ _ G (.refl s) (dH (gK _ _ _)) h⟩
 | bl=>show .inr ⟨_,by rw[a],k _ _ _ G (.refl s) (dH (gK _ _ _)) h⟩
 | _=>show h.elim
def Pp:D->Option Int | .int b=>some b | _=>none
def EY(h:Pp d\b):d=.int b:=by cases d<;>cases h;rfl
abbrev vV:=rM Pp
theorem yQ(bs):vV (bs.map D.int)\bs:=LV (f:=Pp) (g:=D.int) (λ_=>rfl) bs
theorem zrt{K:ao}{bs:List Int}(h:au K G a (bs.map D.int)):a=bs.map V.int:=LD id h
def MQ(b:IntsAre a ns):∃xs:Array (Int×Tok),a.toArray=intItems xs/\ns=xs.toList.map (·.1):=by
 let⟨xs,e⟩:=b.allInts.items;show⟨xs,e,by rw[<-b.numsOf,<-nums_intItems,<-e]⟩
def zoP(j:X.calm=true):fX X (.builtin "sum") (λxs H Q=>∃(p:ag)(ns:List Int),xs=[.ref p]/\bS X.K H p (ns.map V.int)/\Q (.int ns.sum) H):=by
 intro n s σ H xs us Q I r h;symm;let⟨p,ns,rfl,g,q⟩:=h;let⟨u,rfl,d⟩:=gI r;cases d;symm;let⟨its,b,pl,hz⟩:=I.list g;let⟨ys,e,f⟩:=MQ (BH b);have hl:=pl.isList;rw[e] at hl;show sum_intListG (I.ok.hd j) hl λh' tk t' i=>?_
 have m:preSum (numAt ys) ys.size=ns.sum:=by
  rw[preSum_eq,p9 ∅,f]
 rw[m];show⟨.int _,H,I.kept i,⟨_,rfl⟩,q⟩
def zoQ(o:X.calm=true):fX X (.builtin "min") (λxs H Q=>∃(p:ag)(ns:List Int),xs=[.ref p]/\bS X.K H p (ns.map V.int)/\ns≠[]/\∀M,M∈ns->(∀a∈ns,M<=a)->Q (.int M) H):=by
 intro z s σ H xs us Q I r h;symm;let⟨p,ns,rfl,i,y,q⟩:=h;let⟨u,rfl,g⟩:=gI r;cases g;symm;let⟨its,f,pl,hz⟩:=I.list i;let⟨ys,e,b⟩:=MQ (BH f);have hl:=pl.isList;rw[e] at hl;have hsz:0<ys.size:=by
  grind
 show min_intList (I.ok.hd o) hl hsz λv h' tk hv m=>?_
 symm;let⟨t,rfl⟩:=intItems_at hv;let⟨x,w⟩:=argBest_lt (numAt ys) (ys.size-1);show⟨.int _,H,I.kept m,⟨_,rfl⟩,q _ ?_ λa d=>?_⟩
 .rw[b,Dy];show getD_mem (by rw[aE,cH];ext)
 rw[b] at d;let⟨j,n,rfl⟩:=mem_getD d;rw[aE,cH] at n;rw[<-Dy];show w j 'a'
def zoR(o:X.calm=true):fX X (.builtin "max") (λxs H Q=>∃(p:ag)(ns:List Int),xs=[.ref p]/\bS X.K H p (ns.map V.int)/\ns≠[]/\∀M,M∈ns->(∀a∈ns,a<=M)->Q (.int M) H):=by
 intro z s σ H xs us Q I r h;symm;let⟨p,ns,rfl,i,y,q⟩:=h;let⟨u,rfl,g⟩:=gI r;cases g;symm;let⟨its,f,pl,hz⟩:=I.list i;let⟨ys,e,b⟩:=MQ (BH f);have hl:=pl.isList;rw[e] at hl;have hsz:0<ys.size:=by
  grind
 show max_intList (I.ok.hd o) hl hsz λv h' tk hv m=>?_
 symm;let⟨t,rfl⟩:=intItems_at hv;let⟨x,w⟩:=argBest_gt (numAt ys) (ys.size-1);show⟨.int _,H,I.kept m,⟨_,rfl⟩,q _ ?_ λa d=>?_⟩
 .rw[b,Dy];show getD_mem (by rw[aE,cH];ext)
 rw[b] at d;let⟨j,n,rfl⟩:=mem_getD d;rw[aE,cH] at n;rw[<-Dy];show w j 'a'
def EJ:bF:=λds Q=>fK ds λd=>eI d λes=>g7 (vV es) λns=>Q (.fz (.int ns.sum))
def A9(b:X.calm=true):jh X (.builtin "sum") EJ:=by
 show⟨_,zoP b,λG H d ds Q P s rs h k=>?_⟩;let⟨a,bs,e,c,h⟩:=rs.Cv EY id h;show⟨a,bs,e,(s.cB c).sq,k _ _ _ G (.refl s) (dH (gK _ _ _)) h⟩
def qr:bF:=λds Q=>vM ds (λd=>eI d λes=>g7 (vV es) λns=>ns≠[]/\∀M,M∈ns->(∀a∈ns,M<=a)->Q (.fz (.int M))) λd e=>gu d λi=>gu e λj=>Q (.fz (.int (if j<i then j else i)))
def rJ:bF:=λds Q=>vM ds (λd=>eI d λes=>g7 (vV es) λns=>ns≠[]/\∀M,M∈ns->(∀a∈ns,a<=M)->Q (.fz (.int M))) λd e=>gu d λi=>gu e λj=>Q (.fz (.int (if j>i then j else i)))
def U0{Q:R->Prop}{P:VK}{B:List Int->Int->Prop}{f:Int->Int->Int}(s:aW G H)(m:au X.K G b ds)(h:vM ds (λd=>eI d λes=>g7 (vV es) λns=>ns≠[]/\∀M,M∈ns->B ns M->Q (.fz (.int M))) λd e=>gu d λi=>gu e λj=>Q (.fz (.int (f i j))))(k:∀v H' r g,Ext G H g H'->dh X.K g H' H v r->Q r->P v H') :
  (∃p ns,b=[.ref p]/\bS X.K H p (ns.map V.int)/\ns≠[]/\∀M,M∈ns->B ns M->P (.int M) H)\/∃i j,b=[.int i,.int j]/\P (.int (f i j)) H:=by
 rcases m.ot h with⟨v,d,rfl,c,h⟩ | ⟨v,u,d,e,rfl,c,l,h⟩
 .let⟨a,bs,rfl,q,h⟩:=c.Ls EY id h;show .inl ⟨a,bs,rfl,(s.cB q).sq,h.1,λM o n=>k _ _ _ G (.refl s) (dH (gK _ _ _)) (h.2 M o n)⟩
 let⟨i,rfl,h⟩:=c.I h;let⟨j,rfl,h⟩:=l.I h;show .inr ⟨_,_,rfl,k _ _ _ G (.refl s) (dH (gK _ _ _)) h⟩
def EX(a:X.calm=true):jh X (.builtin "min") qr:=by
 show⟨_,(zoQ a).or (zoc a),λG H b ds Q P s rs h k=>U0 s rs h k⟩
def A8(a:X.calm=true):jh X (.builtin "max") rJ:=by
 show⟨_,(zoR a).or (zob a),λG H b ds Q P s rs h k=>U0 s rs h k⟩
def Po:D->Option aa | .str b=>some b | _=>none
def Uj(h:Po d\b):d=.str b:=by cases d<;>cases h;rfl
abbrev La:=rM Po
theorem yP(bs):La (bs.map D.str)\bs:=LV (f:=Po) (g:=D.str) (λ_=>rfl) bs
theorem zrw{K:ao}{bs:List aa}(h:au K G a (bs.map D.str)):a=bs.map V.str:=LD id h
theorem XN{K:ao}(bs:List aa):au K G (bs.map V.str) (bs.map D.str):=Wi (λ_=>yF _ _ _) bs
def Yp:∀{us},Vals (c.map V.str) us->StrsAre us c:=by
 induction c with
 | nil=>
  intro us h;cases h;show .nil
 | cons n r d=>
  intro us h;cases h with
  | cons a b=>
   let⟨t,rfl⟩:=a;show .cons _ _ (d b)
theorem L8:∀{a ss},StrsAre a ss->Vals (ss.map V.str) a
 | _,_,.nil=>.nil
 | _,_,.cons _ _ h=>.cons ⟨_,rfl⟩ (L8 h)
def ab7:fX X (.builtin "sorted") (λxs H Q=>∃p ss,xs=[.ref p]/\bS X.K H p (ss.map V.str)/\ss.length<64/\∀d:List aa,d.Perm ss->sortedS d=true->∀l,H l=none->Q (.ref l) (upd H l (.lst (d.map V.str)))):=by
 intro t s σ H xs us Q I r h;symm;let⟨p,ss,rfl,i,n,q⟩:=h;let⟨u,rfl,g⟩:=gI r;cases g;symm;let⟨its,f,pl,hz⟩:=I.list i;have hl:its.length=ss.length:=by rw[<-f.length,aE]
 show sorted_strs pl.isList (Yp f) 'g' λout d a1 a2 m=>?_
 symm;let⟨j,he⟩:=IE s.heap its out;have hf:H (*...*+1)=none:=I.aU.fresh (iZ _);show⟨.ref (*...*+1),_,I.laid (a:=*...*+1) (o:=.lst (d.map V.str)) (t':=s.toks) (λb o e=>IS e) (iZ _) ?_,rfl,q d a2 m _ hf⟩;show⟨by rw[aE,a2.length_eq];cbv,out.toList,j,L8 a1,?_⟩;show he
def zm5:fX X (.builtin "sorted") (λxs H Q=>∃p ns,xs=[.ref p]/\bS X.K H p (ns.map V.int)/\ns.length<64/\∀d:List Int,d.Perm ns->d.Pairwise (·<=·)->∀l,H l=none->Q (.ref l) (upd H l (.lst (d.map V.int)))):=by
 intro v s σ H xs us Q I r h;symm;let⟨p,ss,rfl,j,t,q⟩:=h;let⟨u,rfl,i⟩:=gI r;cases i;symm;let⟨its,f,pl,hz⟩:=I.list j;have hl:its.length=ss.length:=by rw[<-f.length,aE]
 show sorted_ints pl.isList (BH f) 'g' λout g a1 a2 n=>?_
 symm;let⟨m,he⟩:=IE s.heap its out;have hf:H (*...*+1)=none:=I.aU.fresh (iZ _);show⟨.ref (*...*+1),_,I.laid (a:=*...*+1) (o:=.lst (g.map V.int)) (t':=s.toks) (λb o e=>IS e) (iZ _) ?_,rfl,q g a2 n _ hf⟩;show⟨by rw[aE,a2.length_eq];cbv,out.toList,m,Mb a1,?_⟩;show he
def FK:bF:=λds Q=>fK ds λd=>eI d λes=>AZ (La es) (g7 (vV es) λns=>ns.length<64/\∀a:List Int,a.Perm ns->a.Pairwise (·<=·)->Q (.ow (a.map D.int))) λss=>ss.length<64/\∀b:List aa,b.Perm ss->sortedS b=true->Q (.ow (b.map D.str))
theorem zoV{K:ao}(bs:List Int):au K G (bs.map V.int) (bs.map D.int):=Wi (λ_=>gK _ _ _) bs
def WU(_:X.calm=true):jh X (.builtin "sorted") FK:=by
 show⟨_,ab7.or zm5,λG H i ds Q P s rs h k=>?_⟩;let⟨a,xs,es,rfl,d,c,h⟩:=rs.Zk h;rcases zt2 h with⟨bs,e,h⟩ | h
 .rw[F9 Uj e] at c;rw[zrw c] at d;show .inl ⟨a,bs,rfl,(s.cB d).sq,h.1,λb g f=>sk s (XN b) (h.2 b g f) k⟩
 let⟨bs,e,h⟩:=V8 h;rw[F9 EY e] at c;rw[zrt c] at d;show .inr ⟨a,bs,rfl,(s.cB d).sq,h.1,λb g f=>sk s (zoV b) (h.2 b g f) k⟩
def MtP(X:Cx)(e:String)(o:D->List D->(R->Prop)->Prop):Prop:=∃r,Qo X e r/\∀G H x d a ds Q P,aW G H->Rep X.K G x d->au X.K G a ds->o d ds Q->
 (∀v H' b c,Ext G H c H'->dh X.K c H' H v b->Q b->P v H')->r x a H P
def dM(T:String)(o:D->List D->(R->Prop)->Prop)(te:TD)(ts:fm):TD:=λρ Q=>te ρ λr=>jJ r.val=T/\ts ρ λds=>o r.val ds Q
def zum{K:ao}(s:aW G H)(r:Rep K G x d)(h:jJ d=T)(b:T="list"\/T="str"):Ci K T x H:=by
 cases d with
 | str z=>subst r;show h.symm
 | lst ds=>
  let⟨a,xs,rfl,c,y⟩:=r;show .inl ⟨h.symm,xs,(s.cB c).sq⟩
 | non=>subst h;rcases b with h | h<;>simp[jJ] at h
 | bl=>subst h;rcases b with h | h<;>simp[jJ] at h
 | int=>subst h;rcases b with h | h<;>simp[jJ] at h
 | tup=>subst h;rcases b with h | h<;>simp[jJ] at h
 | obj=>subst h;rcases b with h | h<;>simp[jJ] at h
 | dic=>subst h;rcases b with h | h<;>simp[jJ] at h
 | dit=>subst h;rcases b with h | h<;>simp[jJ] at h
 | exc=>subst h;rcases b with h | h<;>simp[jJ] at h
 | idn=>subst h;rcases b with h | h<;>simp[jJ] at h
def zun(V:MtP X j o)(Y:T="list"\/T="str")(L:PlainAttrs T)(slot:Slot T name j)(CK:typeOf (.builtin j)=pure (.type "method_descriptor"))
  (he:PD X e te) (W:jg X (b::es) ts) (z:attributeBase e name X.env (eval e X.env)=eval e X.env:=by rfl)
  (OH:((backTo pos (starEach (b::es) X.env)).all (λx=>!x.1)&&(backToKw pos (keywordEach [] X.env)).all (λx=>x.1.isSome)
   && decide ((b::es).length+([]:List Keyword).length+(if ([]:List Keyword).isEmpty then 0 else 1)<30))=true:=by rfl)
  (A:(n.endLine==pos.line)=true:=by rfl) (S:starEach (b::es) X.env=(false,eval b X.env)::starEach es X.env:=by rfl) (Z2:(backTo pos (starEach es X.env)).any (·.1)=false:=by rfl) :
  PD X (.Call (.Attribute e name n) (b::es) [] pos) (dM T o te ts):=by
 symm;let⟨r,U,O⟩:=V;let⟨t1,N,K⟩:=he;let⟨t2,M,J⟩:=W;show⟨_,vS L slot CK U N M z OH A S Z2,λρ σ t q G H Q P E h k=>K ρ σ t q G H _ _ E h λv H' F G' x B p=>?_⟩;symm;let⟨G2,f,m,l⟩:=B.freeze x;show⟨zum f.s m p.1 Y,J ρ σ t q G2 H' _ _ (E.ext f) p.2 λy H3 ds G3 d rs Z=>?_⟩;show O G3 H3 v F.val y ds Q P d.s (m.mono d.g) rs Z λw H4 C G4 u i I=>k w H4 C G4 ((f.trans d).trans u) (i.pG (f.trans d).h) I
def pd(d:D)(ds:List D):Nat:=ds.countP λe=>cV e d
def K9:D->List D->(R->Prop)->Prop:=λd ds Q=>eI d λes=>fK ds λx=>bN 8 x/\(∀e∈es,bN 8 e)/\Q (.fz (.int (pd x es)))
theorem Wf{c:St}(I:Inv X f c H s):∀{es b us},(∀e∈es,bN 8 e)->Vals b us->au X.K H b es->us.countP (qS X H d)=pd d es
 | [],_,_,_,a,re=>by
  cases a
  .rfl
  simp![au] at re
 | e::es,_,_,h,a,re=>by
  cases a with
  | nil=>simp![au] at re
  | cons r t=>
   unfold pd;rw[xN,xN,K5 I (h e 'c') r re.1,Wf I (λx hx=>h x 'i') t re.2];rfl
def zuo(E:X.A.units+64<cLine):MtP X "list.count" K9:=by
 show⟨λx g H Q=>∃p d es ws y,x=.ref p/\g=[y]/\bS X.K H p ws/\bN 8 d/\(∀e∈es,bN 8 e)/\Rep X.K H y d/\au X.K H ws es/\Q (.int (pd d es)) H,λJ s σ H x xs v us Q I f rs h=>?_,λG H x d g ds Q P s f rs h k=>?_⟩
 .symm;let⟨p,d,es,ws,y,rfl,rfl,w,hd,he,t,re,q⟩:=h;cases f;symm;let⟨u,rfl,r⟩:=gI rs;let⟨its,i,pl,hz⟩:=I.list w;obtain⟨⟨cls,D,data,sl⟩,n,j,m,z,b⟩:=id pl;simp only at m b;subst m b;show qd SQ ⟨_,j,rfl⟩ PySem.F.entry_list_count (PySem.F.args_list_count_2 _ _) (SeqAt.list_countAt p its.toArray n D sl u (qS X H d)) ⟨j,LX (A:=X.A.in1) I hd (by show X.A.units+1+8<cLine;lia) t r he i re,?_⟩;rw[Wf I he i re];show⟨.int _,H,I.tok _,⟨_,rfl⟩,q⟩
 unfold K9 at h;let⟨a,xs,es,rfl,C,B,h⟩:=f.L h;let⟨y,x,rfl,o,h⟩:=rs.one h;show⟨a,_,_,xs,y,rfl,rfl,(s.cB C).sq,h.1,h.2.1,o.mono s,B.mono s,k _ _ _ G (.refl s) (dH (gK _ _ _)) h.2.2⟩
end
theorem Yo(m:l≠a):
  ∀n i s Q,s.heap.IsListIter a l i->s.heap.IsList l items->i+n<=items.size->
   (∀h':aD,h'.IsListIter a l (i+n)->j9 a s.heap h'->Q ((items.toList.drop i).take n) 'j')->↥(draw (.ref a) n) Q E s
 | 0,i,s,Q,st,f,t,q=>by
  show ay (by have:=q s.heap st ⟨rfl,λ_ _=>rfl⟩;simpa using this)
 | n+1,i,s,Q,st,f,t,q=>by
  have h:i<items.size:=by lia
  show aj (SH st f (x:=items[i]) (by simp[h]) λk p d=>?_);have r:k.IsList l items:=by
   let⟨o,e,c⟩:=f;show⟨o,(d.2 l m).trans e,c⟩
  show aj (gi (Yo m n (i+1) { s with heap:=k } _ p r 'a' λu v g=>ay ?_));have:=q u (by rw[show i+(n+1)=i+1+n by lia];show v) ⟨g.1.trans d.1,λb j=>(g.2 b j).trans (d.2 b j)⟩;have e:(items.toList.drop i).take (n+1)=items[i]::(items.toList.drop (i+1)).take n:=by
   rw[qX (by simpa using h)];rfl
  rw[e] at this;show this
def zeX(hd:A.handled=none)(a:s.heap.IsList l items)
  (q:∀h':aD,xw *...* s.heap h'->Q items.toList 'j'):↥(unpackItems (.ref l) items.size none) Q E s:=by
 have h:l< *...*:=by let⟨o,e,z⟩:=a;show cf e
 have ty:s.TypeIs (.ref l) "list":=by let⟨o,e,c,z⟩:=a;show⟨o,e,c⟩
 show aj ?_;show aj (DR ty F.slot_list_iter.lookup ?_);show ay ?_;show aj (gi (tZ a ?_));have f:(s.heap.push { cls:=oV "list_iterator",data:=QQ #[fw l,vi 0 0] }).IsList l items:=by
  let⟨o,e,c⟩:=a;show⟨o,cy _ e,c⟩
 show aj (gi (Yo (cC h) items.size 0 _ _ ⟨_,cT _ rfl,rfl,rfl⟩ f 'g' λk n d=>?_));have i:k.IsList l items:=by
  let⟨o,e,c⟩:=f;show⟨o,(d.2 l (cC h)).trans e,c⟩
 have el:List.take items.size (DB 0 items.toList)=items.toList:=by rw[IZ,show items.size=items.toList.length by simp,gk]
 rw[el,if_neg ∅];show aj (gi (Sx hd n i ∅ λj m=>?_));show ay (q j λb o g e=>m b o g ?_);rw[d.2 b g];show cy _ e
def zzx(K:ao)(n:Nat)(t:tJ):TG:=λv σ H Q=>∃a xs,v=.ref a/\bS K H a xs/\xs.length=n/\t xs σ H Q
def zup(m:X.calm=true)(h:zF X d t)
  (j:(assignEach d X.env).length=n:=by rfl) (q:(assignEach d X.env).findIdx? (·.1)=none:=by rfl):PG X (.Tuple d k pos) (zzx X.K n t):=by
 intro g s σ H v u Q I r hw;symm;let⟨a,xs,p,i,hl,hw⟩:=hw;subst p;cases r;symm;let⟨its,f,pl,hz⟩:=I.list i;show aj (xA ?_);unfold unpack;have hlen:(assignEach d X.env).length=its.toArray.size:=by rw[j,<-hl,f.length];rfl
 rw[hlen,q];show aj (gi (zeX (I.ok.hd m) pl.isList λh' hx=>?_));have w:Inv X g σ H 'j':=I.kept (t':=s.toks) λb o e=>hx b o (cC (cf e)) e
 show h g _ σ H xs _ Q w (by simpa using f) hw
def J7(n:Nat)(t:mL):eR:=λd ρ Q=>eI d λds=>ds.length=n/\t ds ρ Q
def LC(j:X.calm=true)(h:AX X b t)(i:(assignEach b X.env).length=n:=by rfl)(l:(assignEach b X.env).findIdx? (·.1)=none:=by rfl):pW X (.Tuple b k pos) (J7 n t):=by
 let⟨t1,f,c⟩:=h;show⟨_,zup j f i l,λρ σ o m G H d v Q P E r h k=>?_⟩;let⟨a,xs,b,e,g,rs,h⟩:=r.L h;show⟨a,xs,e,(E.e.s.cB g).sq,by rw[rs.length];show h.1,c ρ σ o m G H _ xs Q P E rs h.2 k⟩
def zrx{k:Int}:∀a,a∈step_dedup acc k↔a∈acc\/a=k:=by
 intro a;unfold step_dedup;split
 .rename_i h;constructor
  .exact .inl
  rintro(h' | rfl)
  .exact h'
  simpa using h
 simp
def zm6{k:Int}(h:acc.Nodup):(step_dedup acc k).Nodup:=by
 unfold step_dedup;split
 .exact h
 rename_i c;rw[lq];show⟨h,by show jo _ _,λa e b d=>?_⟩;have:b=k:=by simpa using d
 subst this;rintro rfl;show c (by simpa using e)
def zm7(l acc:List Int)(h:acc.Nodup):(l.foldl step_dedup acc).Nodup/\∀a,a∈l.foldl step_dedup acc↔a∈acc\/a∈l:=by
 induction l generalizing acc with
 | nil=>show⟨h,λa=>by simp⟩
 | cons k r b=>
  let⟨d,c⟩:=b (step_dedup acc k) (zm6 h);show⟨d,λa=>?_⟩;rw[xH,c a,zrx a,bE,or_assoc]
def ziP(ns:List Int):firstMet (λi=>ns.getD i 0) ns.length=ns.foldl step_dedup []:=by
 unfold firstMet;congr 1
 apply AG
 .simp
 intro i b a;simp[List.getD,a]
section
variable{X:Cx}{e:az}{te:TD}{es:List az}
def K8(ns:List Int):List Int:=ns.foldl step_dedup []
def zo0(m:X.calm=true):fX X (.type "set") (λxs H Q=>∃(p:ag)(ns:List Int),xs=[.ref p]/\bS X.K H p (ns.map V.int)/\ns.length<4000/\∀q,H q=none->∀S:Int->Bool,Q (.ref q) (upd H q (.set S (K8 ns).length))):=by
 intro n s σ H xs us Q I r h;symm;let⟨p,ns,rfl,i,hsz,q⟩:=h;let⟨u,rfl,g⟩:=gI r;cases g;symm;let⟨its,d,pl,hz⟩:=I.list i;have hl:its.toArray.size=ns.length:=by rw[eP,<-d.length,aE]
 show call_set_list (I.ok.hd m) pl.isList (by simpa using BH d) (by have:scanBound=4096:=(by rfl);lia) λh' tk f j=>?_
 have hf:H *...*=none:=I.aU.fresh (bB _);rw[hl] at f;show⟨.ref *...*,_,I.laid (a:=*...*) (t':=tk) (λb o e=>j b o (cf e) e) (bB _) (o:=.set _ _) f,rfl,?_⟩;rw[ziP];show q _ hf _
def zo1:fX X (.builtin "len") (λxs H Q=>∃p S n,xs=[.ref p]/\H p=some (.set S n)/\Q (.int n) H):=by
 intro z s σ H xs us Q I r h;symm;let⟨p,S,n,rfl,d,q⟩:=h;let⟨u,rfl,b⟩:=gI r;cases b;symm;let⟨o,es,y,t,j,i,g,x,v,m,f,rfl⟩:=(show s.heap.SetOf (intKind X.prog X.w) p S n from I.aU p _ d)
 show call_len_set j i g f ?_ ⟨.int _,H,I.tok _,⟨_,rfl⟩,q⟩;have:scanBound=4096:=by rfl
 have e:es.size<4096:=by trivial
 show Int.ofNat_lt.mpr (Ap e 'g')
def XM:bootBuiltins "set"=some (.type "set"):=by rfl
def LB:bF:=λds Q=>fK ds λd=>eI d λes=>g7 (vV es) λns=>ns.length<4000/\∀l:List Int,l.Nodup->(∀k,k∈l↔k∈ns)->Q (.fz (.int l.length))
def XJ(n:X.calm=true)(j:X.mg "len"=none)(r:X.mg "set"=none)(o:jg X [e] ts)(y:Gl X "len":=by rfl)(l:Gl X "set":=by rfl)
  (he:starEach [e] X.env=(false,eval e X.env)::starEach [] X.env:=by rfl) (f:starEach [.Call (.Name "set" c) [e] [] d] X.env=(false,eval (.Call (.Name "set" c) [e] [] d) X.env)::starEach [] X.env:=by rfl):PD X (.Call (.Name "len" i) [.Call (.Name "set" c) [e] [] d] [] pos) (fN LB ts):=by
 let⟨t,pp,q⟩:=o;show⟨_,Bp zo1 y j iY (lU (Gi (zo0 n) l r XM pp (by decide) (by rfl) he rfl) lQ f) (by decide) (by rfl) f rfl,λρ σ v u G H Q P E h k=>?_⟩;show q ρ σ v u G H _ _ E h λz H' ds w x rs b=>?_
 let⟨a,ns,e,p,b⟩:=rs.Cv EY id b;show⟨a,ns,e,(x.s.cB p).sq,b.1,λg m S=>⟨g,S,_,rfl,eV,?_⟩⟩;let⟨f1,f2⟩:=zm7 ns [] IY;show k _ _ _ w (x.trans (.own x.s m)) (dH (gK _ _ _)) (b.2 (K8 ns) f1 λk=>by rw[K8,f2];simp)
theorem dA.look{K:ao}:∀{a fs d},dA K H a fs->fs.lookup f\d->∃v,a.lookup f\v/\Rep K H v d
 | [],[],d,_,h=>by trivial
 | (x,v)::a,(y,d')::fs,d,r,h=>by
  obtain⟨⟨rfl,e⟩,c⟩:=r;rw[DZ] at h ⊢;cases b:f==x with
  | true=>rw[b] at h;cases h;show⟨v,rfl,e⟩
  | false=>rw[b] at h;show dA.look c h
 | [],_::_,_,r,_=>by simp![dA] at r
 | _::_,[],_,r,_=>by simp![dA] at r
theorem WT:∀{fs:List (aa×D)}{d},fs.lookup f\d->∃p∈fs,p.1=f
 | [],d,h=>by trivial
 | (y,d')::fs,d,h=>by
  rw[DZ] at h;cases a:f==y with
  | true=>show⟨(y,d'),by show .head _,(beq_iff_eq.mp a).symm⟩
  | false=>
   rw[a] at h;let⟨p,c,b⟩:=WT h;show⟨p,by show .tail _ ‹_›,b⟩
def iy(f:aa)(te:TD):TD:=λρ Q=>te ρ λr=>Ob r.val λfs=>∃d,fs.lookup f\d/\Q (.fz d)
def cD(he:PD X e te)(o:attributeBase e f X.env (eval e X.env)=eval e X.env:=by rfl):PD X (.Attribute e f pos) (iy f te):=by
 symm;let⟨t,p,q⟩:=he;show⟨_,zvY p o,λρ σ I D G H Q P E h k=>q ρ σ I D G H _ _ E h λv H' r K x i m=>?_⟩;symm;let⟨F,g,b,l⟩:=i.freeze x;let⟨a,J,C,B,A,fs,e,z,y,w,u,d,hd,j⟩:=b.O m;let⟨v,hv,b⟩:=u.look hd;let⟨pr,n,rfl⟩:=WT hd;show⟨a,C,B,A,v,e,g.s _ _ z,y.cls,w pr n,hv,k _ _ _ F g (dH b) j⟩
def xZ(f:aa)(v:D):List (aa×D)->List (aa×D)
 | []=>[(f,v)]
 | (g,x)::r=>if g=f then(g,v)::r else(g,x)::xZ f v r
theorem dA.put{K:ao}(a:Rep K H v d):∀{b fs},dA K H b fs->dA K H (jr f v b) (xZ f d fs)
 | [],[],_=>by simp![jr,xZ,dA,and_true,true_and];show a
 | (x,u)::b,(y,d')::fs,r=>by
  obtain⟨⟨rfl,e⟩,c⟩:=r;simp![jr,xZ];split
  .simp![dA,true_and];show⟨a,c⟩
  simp![dA,true_and];show⟨e,dA.put a c⟩
 | [],_::_,r=>by simp![dA] at r
 | _::_,[],r=>by simp![dA] at r
theorem dA.length{K:ao}:∀{a fs},dA K H a fs->a.length=fs.length
 | [],[],_=>rfl
 | (x,u)::a,(y,d')::fs,r=>by
  simp[dA.length r.2]
 | [],_::_,r=>by simp![dA] at r
 | _::_,[],r=>by simp![dA] at r
structure Making(K:ao)(C:ag)(x dx:ag)(G0 H0:Hp)(ρ:Ev)(σ:St)(G H:Hp)(fs:List (aa×D))(gs:List (aa×V)):Prop where
 e:aS K G0 H0 ρ σ G H
 sl:σ[0]?\some (.ref x)
 hx:H x\.ins C dx gs
 pO:H dx\.own x
 gx:G x=none
 C4:G dx=none
 r:dA K G gs fs
theorem Making.ext{K:ao}(M:Making K C x c f d ρ a G H fs b)(y:Ext G H i H'):Making K C x c f d ρ a i H' fs b:=
 ⟨M.e.ext y,M.sl,y.h _ _ M.hx,y.h _ _ M.pO,y.n _ M.gx (by rw[M.hx];show nofun),y.n _ M.C4 (by rw[M.pO];show nofun),dA.mono y.g _ _ M.r⟩
def aS.aby{K:ao}(E:aS K r l ρ m G H)(hx:H x\.ins C y w)(no:∀i o,gt ρ i≠.ov o)(gx:G x=none)(t:l x=none):aS K r l ρ m G (upd H x o):=by
 let⟨own,a,b⟩:=E.sl;show⟨⟨E.e.g,λb o e=>by rw[bQ (iL e t)];show E.e.h b o e,λb o e=>by rw[bQ (iL e gx)];show E.e.s b o e,E.e.n⟩,E.len,λq=>if q=x then none else own q,λq i h=>?_,λi h=>?_⟩
 .dsimp only at h;split at h
  .cases h
  rename_i j;rw[bQ j];show a q i h
 let⟨v,fp,c,d,e,f⟩:=b i h;have nx:∀q∈fp,q≠x:=λq j z=>by
  cases k:gt ρ i with
  | un=>show h k
  | fz d=>rw[k] at e;rw[e.1] at j;cases j
  | ow ds=>
   rw[k] at e;obtain⟨p,xs,_,rfl,e,_⟩:=e;rw[<-cG.mp j,z,hx] at e;cases e
  | ov o=>show no i o k
 show⟨v,fp,c,d,e.mono (aW.refl _) λq j u z=>by rw[bQ (nx q j)];show z,λq j=>(if_neg (nx q j)).trans (f q j)⟩
abbrev u9:=Ev->List (aa×D)->(List (aa×D)->Prop)->Prop
def HE(X:Cx)(C:ag)(g:List cq)(t:u9):Prop:=∃tt,jU X g tt/\∀x a ρ σ e b G H fs h Q E,b x=none->b a=none->a≠x->(∀i o,gt ρ i≠.ov o)->
 Making X.K C x a e b ρ σ G H fs h->t ρ fs Q->(∀c j H' d f,Making X.K C x a e b ρ c j H' d f->Q d->E.nx c H')->tt E σ H
def J6:u9:=λ_ fs Q=>Q fs
def lK(f:aa)(te:TD)(u:u9):u9:=λρ fs Q=>te ρ λr=>fs.length<1000/\u ρ (xZ f r.val fs) Q
theorem Wn:HE X C [] J6:=⟨_,Lz,λx b ρ σ d c G H fs a Q E _ _ _ _ M h k=>k σ G H fs a M h⟩
def mP(c:vf X.K C)(n:gf X.K C f)(he:PD X e te)(L:HE X C m u)(hN:X.N[0]?\x:=by rfl)(hv:u7 X.env.scope x:=by first | show Or.inl rfl | show Or.inr (Or.inl rfl) | show Or.inr (Or.inr rfl))
  (J:swapsWith e (some (.Attribute (.Name x j) f i)) pos.line X.env=pure false:=by rfl) (hd:(x==("__debug__":aa))=false:=by decide) (I:(x==("__classdict__":aa))=false:=by decide) :
  HE X C (.Assign [.Attribute (.Name x j) f i] e pos::m) (lK f te u):=by
 symm;let⟨t1,P,F⟩:=he;let⟨S,O,D⟩:=L;show⟨_,LP (zvZ (Bi hN hv hd I) P J) O,λx q ρ σ t s G H fs p Q E g w d b M h k=>?_⟩;show F ρ σ t s G H _ _ M.e h λv H' r T y B o=>?_
 symm;let⟨R,z,A,l⟩:=B.freeze y;have M2:=M.ext z;show⟨_,M.sl,x,C,q,p,rfl,M2.hx,c,n,by rw[M.r.length];show o.1,?_⟩;show D x q ρ σ t s R _ (xZ f r.val fs) (jr f v p) Q E g w d b ?_ o.2 k;show⟨M2.e.aby M2.hx b M2.gx g,M2.sl,eV,by rw[bQ d];show M2.pO,M2.gx,M2.C4,M2.r.put A⟩
end
def ISp(K:ao)(C:ag)(n:Nat)(t:bF):Sp:=λe H Q _=>∃x a H1 G ds d b,e=.ref x::d/\H=upd (upd H1 a (.own x)) x (.ins C a [])/\H1 x=none/\H1 a=none/\a≠x/\aW G H1/\au K G d ds/\ds.length=n/\t ds b/\
 ∀H' r c,Ext G H1 c H'->dh K c H' H1 (.ref x) r->b r->Q .non H'
section
variable{P:aI}{w:aH}{K:ao}{mg:aa->Option af}{base:aD}
def sf(N:List aa)(ds:List D):Ev:=.un::(ds.map Sl.fz++xF (N.length-1-ds.length) .un)
def zo3(s:aW G H)(r:au K G g ds):aS K G H (sf N ds) (start N (x::g)) G H:=by
 have E:=WX (N:=N.drop 1) s r;have n:sf N ds=.un::pB (N.drop 1) ds:=by simp[sf,pB]
 have m:start N (x::g)=some x::start (N.drop 1) g:=by simp[start,Nat.sub_sub,ID]
 rw[n,m];let⟨own,a,b⟩:=E.sl;show⟨E.e,gy (·+1) E.len,λq=>(own q).map (·+1),λq i h=>?_,λi h=>?_⟩
 .let⟨k,l,z⟩:=jZ.mp h;show a q k l
 cases i with
 | zero=>show(h rfl).elim
 | succ i=>
  let⟨v,fp,c,d,e,f⟩:=b i h;show⟨v,fp,c,d,e,λq j=>gy (Ik (·+1)) (f q j)⟩
def zk6(N ds):∀i o,gt (sf N ds) i≠.ov o:=by
 have key:∀(l:List Sl),(∀s∈l,∀o,s≠.ov o)->∀i o,gt l i≠.ov o:=by
  intro l;induction l with
  | nil=>intro _ i o h;cases h
  | cons a r c=>
   intro h i o;cases i with
   | zero=>show h a 'c' o
   | succ i=>show c (λs b=>h s 'i') i o
 show key _ λs b o e=>?_
 subst e;unfold sf at b;simp at b
def X7{st:cq}{V:gR}(F:HJ K x i st f V)(S:oM N ("self"::ps) (dQ st))(hC:ClsAt K B C)
  (body:∀m A outer s H E,eX k (A.deeper (envOfC i (dQ st) *...* f m))->HE (lN iR P w K mg base N i (dQ st) f m A outer s H E).oj C (iO st) T)
  (spec:∀ds j,ds.length=ps.length->t ds j->T (sf N ds) [] λfs=>(∀p∈fs,gf K C p.1)/\j (.fz (.obj B fs))):kH P w K mg base iR (k+1) f V ("self"::ps) (ISp K C ps.length t):=by
 show F.ok S (λY H Q E h=>?_) (λm A outer s H Y Q E hr h=>?_)
 .let⟨x,d,H1,G,ds,X,j,rfl,l,l,l,l,l,r,hl,l⟩:=h;simp[r.length,hl]
 symm;let⟨x,d,H1,G,ds,X,j,rfl,rfl,hx,pO,W,s0,r,hl,ht,Z⟩:=h;let⟨tt,p,q⟩:=body m A outer s _ E hr;have E0:=zo3 (N:=N) (x:=.ref x) s0 r;have gx:=s0.free hx;have C4:=s0.free pO;have L:aW H1 (upd (upd H1 d (.own x)) x (.ins C d [])):=λb o e=>by rw[bQ (iL e hx),bQ (iL e pO)];show e
 have M0:Making K C x d G H1 (sf N ds) (start N (.ref x::X)) G (upd (upd H1 d (.own x)) x (.ins C d [])) [] []:=
  ⟨E0.ext ⟨aW.refl _,L,s0.trans L,λ_ h _=>h⟩,by rfl,eV,by rw[bQ W];show eV,gx,C4,by simp![dA]⟩
 show⟨tt,p,q x d _ _ G H1 G _ [] [] _ _ hx pO W (zk6 _ _) M0 (spec ds j hl ht) λaL I H' fs v M O=>?_⟩;have y:=M.e.e;have sG:aW I (upd (upd I d (.own x)) x (.ins C d v)):=λb o e=>by rw[bQ (iL e M.gx),bQ (iL e M.C4)];show e
 show Z H' (.fz (.obj B fs)) (upd (upd I d (.own x)) x (.ins C d v)) ⟨y.g.trans sG,y.h,λb o e=>?_,λb h1 u=>?_⟩ ?_ O.2
 .by_cases U:b=x
  .subst U;rw[eV] at e;rw[M.hx];show e
  rw[bQ U] at e;by_cases J:b=d
  .subst J;rw[eV] at e;rw[M.pO];show e
  rw[bQ J] at e;show y.s b o e
 .rw[bQ (λz=>u (by rw[z];show hx)),bQ (λz=>u (by rw[z];show pO))];show y.n b h1 u
 show⟨x,C,d,v,rfl,eV,hC,O.1,dA.mono sG _ _ M.r⟩
structure xm(P:aI)(w:aH)(K:ao)(mg:aa->Option af)(base:aD)(k:Nat)(x:aa)(n:Nat)(t:bF):Prop where
 ex:∃(C f:ag)(fd:gR)(ps:List aa),Mk K C f/\kH P w K mg base iR k f fd ps (ISp K C n t)/\mg x\.ref C/\Binds K fd ps []
end
def WS(C:xm X.prog X.w X.K X.mg X.base k x n t)(u:eX k' X.A)(b:jg X (e::es) ts)(v:k+1<=k':=by decide)(z:Gl X x:=by rfl)(o:(x==("__debug__":aa))=false:=by decide)
  (he:starEach (e::es) X.env=(false,eval e X.env)::starEach es X.env:=by rfl) (D:(backTo pos (starEach es X.env)).any (·.1)=false:=by rfl):PD X (.Call (.Name x p) (e::es) [] pos) (f7 n t ts):=by
 symm;let⟨C,f,fd,ps,M,F,hm,B⟩:=C.ex;let⟨tt,pp,q⟩:=b;show⟨_,ztR M F (u.mono v) z hm B .nil Us pp o he D,λρ σ R N G H Q P E h k=>q ρ σ R N G H _ _ E h λi H' ds S y rs d=>?_⟩;intro a I b pO J;rw[eS];show⟨a,I,H',S,ds,i,Q,rfl,rfl,b,pO,J,y.s,rs,d.1,d.2,λL r O g j m=>⟨rfl,k _ L r O (y.trans g) (j.pG y.h) m⟩⟩
def zH(K:ao)(C:ag):List aa->Prop
 | []=>True
 | x::r=>gf K C x/\zH K C r
theorem zH.all{K:ao}:∀{l},zH K C l->∀x∈l,gf K C x
 | [],_,x,h=>by cases h
 | y::r,n,x,h=>by
  rcases bE.mp h with rfl | h
  .exact n.1
  show zH.all n.2 x h
structure xr(K:ao)(mg:aa->Option af)(cn qual:aa)(st:cq)(fields:List aa):Prop where
 ex:∃(C f:ag)(fd:gR),ClsAt K cn C/\Mk K C f/\HJ K "__init__" qual st f fd/\mg cn=some (.ref C)/\zH K C fields
theorem aam{K:ao}{st:cq}{kV b pm d ct:af}(X:K.In h)(G:h.Ns mainGlobals mg)
  (aC:Aq K mainGlobals c=some (some (.ref C))) (a1:rh K (.ref C) "__init__"=some (some (.ref f))) (i1:Q7 K (.ref f)=true)
  (l1:K.lookup f=some ⟨g,e,.func (mD "__init__" a (pV st) (iO st) (dQ st) .none kV b pm k d ct),j⟩) (c1:xE K d a=true) (k1:oW K (.ref f)=true)
  (pg:D0 K C QF=true) (hd:D9 K C=true) (po:Jo K C=true) (sa:rh K (.ref C) "__setattr__"=some (some (.builtin "object.__setattr__"))) (mk:Jd K C=true) (kc:oW K (.ref C)=true)
  (i:zH K C fields):xr K mg c a st fields:=
 ⟨C,f,_,⟨aC,⟨pg,hd,po,sa⟩⟩,⟨mk,a1,i1,kc⟩,K7 l1 c1 k1,IT X G aC,i⟩
def r0:D->Bool
 | .non=>true
 | .bl _=>true
 | .int _=>true
 | .str _=>true
 | _=>false
def Ui(i:Nat)(te:TD):TD:=λρ Q=>te (gE i ρ) λr=>rF r λd=>r0 d=true/\Q (.fz d)
def Ki(i:Nat)(t:eN):eN:=λρ Q=>t (gE i ρ) Q
def F8{K:ao}(h:r0 d=true)(r:Rep K G v d):Rep K a v d:=by
 cases d<;>first | (show r) | cases h
def vD(G:Hp)(L:List ag):Hp:=λa=>if a∈L then none else G a
def LU(j:∀q∈L,G q=none)(x:Ext (plus G H L) H c H'):Ext G H (vD c L) H':=by
 show⟨λb u e=>?_,x.h,λb u e=>?_,λq i f=>?_⟩
 .have a:b∉L:=λz=>by rw[j b z] at e;cases e
  unfold vD;rw[if_neg a];show x.g b u (by rw[qJ a];show e)
 .unfold vD at e;split at e
  .cases e
  show x.s b u e
 unfold vD;split
 .rfl
 rename_i d;show x.n q (by rw[qJ d];show i) f
theorem aS.ZE{K:ao}(i)(E:aS K d b ρ a G H):∃c,aS K d b (gE i ρ) a c H/\∀e H',Ext c H e H'->∃g,Ext G H g H':=
 let⟨L,f,h,_⟩:=E.O1 i
 ⟨_,h,λe H' x=>⟨_,LU f x⟩⟩
def zus(i)(h:PD X e te):PD X e (Ui i te):=by
 let⟨tt,p,q⟩:=h;show⟨tt,p,λρ σ l f G H Q P E h k=>?_⟩;let⟨j,n,back⟩:=E.ZE i;show q _ σ l f j H _ _ n h λv H' r m x b a=>?_
 let⟨d,b,z,a⟩:=b.F a;let⟨g,c⟩:=back m H' x;show k v H' (.fz d) g c (F8 a.1 b) a.2
def Wm(i)(h:PB X e t):PB X e (Ki i t):=by
 let⟨tt,p,q⟩:=h;show⟨tt,p,λρ σ j d G H Q P E h k=>?_⟩;let⟨g,m,back⟩:=E.ZE i;show q _ σ j d g H _ _ m h λb H' l x c=>?_
 let⟨f,a⟩:=back l H' x;show k b H' f a c
def Gu:bF:=λds Q=>fK ds λd=>eI d λa=>g7 (La a) λss=>ss.length<4000/\(∀l:List aa,l.Nodup->(∀w∈l,w∈ss)->l.length<64)/\∀l:List aa,l.Nodup->(∀w,w∈l↔w∈ss)->sortedS l=true->Q (.ow (l.map D.str))
def ziS(t:SetTable)(n):(t.orStandIn n).led=t.led:=by
 unfold SetTable.orStandIn;split<;>rfl
def zm8(t a h x):(layNew t a h x).2.1.led=t.led:=by
 unfold layNew;split
 .exact ziS _ _
 rfl
def zj1{t t':SetTable}(h:t.relaid c a\(t',b)):t'.led=t.led/\t'.plain=t.plain:=by
 unfold SetTable.relaid SetTable.laid at h;cases d:SetTable.layClean (SetTable.sizeAbove a-1) c with
 | none=>rw[d] at h;cases h
 | some owner=>
  rw[d] at h;cases h;show⟨rfl,rfl⟩
def zhB(t b a)(d:t.plain=false):(relayAll t b a).2.1.led=t.led/\(relayAll t b a).2.1.plain=false:=by
 unfold relayAll;split
 .rename_i t' order c;let⟨f,e⟩:=zj1 c;dsimp only;split
  .exact⟨f,e.trans d⟩
  show⟨rfl,rfl⟩
 show⟨rfl,rfl⟩
section
variable{prog:aI}{w:aH}{A:bh}{E:af->ai->Prop}{s:ai}
structure acf(w:aH)(es:Array (Int×af))(t:SetTable):Prop where
 led:t.led=!(w.params.followText "set-order")
 plain:es.size=0\/t.plain=false
structure fP(prog:aI)(w:aH)(h:aD)(a:ag)(es:Array (Int×af))(ep:Nat)(t:SetTable):Prop where
 at_:h.get? a=some { cls:=.type "set",dict:=none,data:=.set es ep t,slots:=#[] }
 el:ElemsOf (strKind prog w) es.toList
 small:es.size<scanBound
 fits:t.fits es.size=true
 marks:acf w es t
def Mem(prog:aI)(w:aH)(a:Array (Int×af))(k:aa):Prop:=∃e∈a.toList,(strKind prog w).is k e.2=true
def X6(c:'f' a=some { cls:=.type "set",dict:=none,data:=.set f d t,slots:=#[] })(e:b.size<scanBound)
  (h:∀h',j9 a s.heap h'->h'.get? a=some { cls:=.type "set",dict:=none,data:=.set b (d+1) t',slots:=#[] }->Q () 'j'):↥(storeSet a b t') Q E s:=by
 show wpAny_storeSet_of c rfl ?_ (D7 e);show h _ (t7 s.heap a (QK b t')) ?_;have:=rE (QK b t') c (by rfl);show this
def zut(S:fP prog w s.heap a f U t)(M:f.size+1<scanBound)
  (h:∀h' z Y t',j9 a s.heap h'->fP prog w h' a z Y t'->((z=f/\Mem prog w f x)\/(¬Mem prog w f x/\xv z.toList (f.toList++[(hashStr w x,.str x tk)])))->∀b,Q b 'j') :
  ↥(setAddHashed a (.str x tk) ((strKind prog w).hash x)) Q E s:=by
 have P:(strKind prog w).is x (.str x tk)=true:=by show DO x (.str x tk)=true;show o5 _
 have W:(vh x tk).scannable=true:=rfl;have v:=S.at_;show gi (aj (vv v rfl S.fits ?_));dsimp only;rw[byScan_of W S.small S.el];show aj (aj (mB (aj (wpAny_setScan_of P v rfl S.fits S.el ?_))));cases hr:List.findIdx? (λe=>(strKind prog w).is x e.2) f.toList with
 | some j=>
  symm;let⟨hj,qP,l⟩:=List.findIdx?_eq_some_iff_getElem.mp hr;show ay (ay ?_);show h s.heap f U t (aay a s.heap) S (.inl ⟨rfl,f.toList[j],gP hj,qP⟩) _
 | none=>
  have N:¬Mem prog w f x:=λ⟨e,he,o⟩=>by
   grind
  have way:∀(b:Bool){s1:ai}{m:Unit->ai->Prop},m () s1->↥(match b with | true=>rule "set.scan.the-table-gave-way" | false=>pure ()) m E s1:=λb s1 m q=>by
   cases b
   .exact ay q
   show mB q
  have n:=layNew_perm t f ((strKind prog w).hash x) (.str x tk);have H:=layNew_fits t f ((strKind prog w).hash x) (.str x tk);have F:=zm8 t f ((strKind prog w).hash x) (.str x tk);generalize layNew t f ((strKind prog w).hash x) (.str x tk)=L at n H F ⊢;let⟨d,t1,C,adl⟩:=L;rw[o6] at n;have p:ElemsOf (strKind prog w) d.toList:=(S.el.push P W).perm n;have hsz:d.size=f.size+1:=by rw[<-cH,n.length_eq,bP,cH];rfl
  have u:d.size<scanBound:=by cbv
  show aj (way _ ?_)
  -- oe table,not plain any more
  have tail:∀(g:Bool->Sem Unit),(∀(b:Bool)(s1:ai)(m:Unit->ai->Prop),m () s1->↥(g b) m E s1)->∀i:SetTable,i.fits d.size=true->i.led=t.led->i.plain=false->↥(do
    storeSet a d i
    if (!C&&i.tooFull)=true then do
        g (relayAll i d (vp d.size)).2.2
        storeSet a (relayAll i d (vp d.size)).1 (relayAll i d (vp d.size)).2.1
        pure (some true)
     else pure (some true)) (λr Z=>↥(match r with | some added=>pure added | none=>setAddHashedIn a (vh x tk) ((strKind prog w).hash x) 99999) Q E Z) E s:=by
   intro g hg i f2 R O;show aj (X6 v u λy V g1=>?_);have D:∀b,Q b { s with heap:=y }:=h y d _ i V ⟨g1,p,u,f2,⟨R.trans S.marks.led,.inr O⟩⟩ (.inr ⟨N,n⟩)
   split
   .have o:=relayAll_perm i d (vp d.size);have K:=relayAll_fits i d (vp d.size);have I:=zhB i d (vp d.size) O;generalize relayAll i d (vp d.size)=Rl at o K I ⊢;let⟨J,t3,adk⟩:=Rl;have T:J.size=d.size:=by rw[<-cH,o.length_eq,cH]
    show aj (hg _ _ _ ?_);show aj (X6 (s:={ s with heap:=y }) g1 (by rw[T];show u) λh2 X g2=>ay (ay ?_));show h h2 J _ t3 (V.trans X) ⟨g2,p.perm o,by rw[T];show u,K,⟨(I.1.trans R).trans S.marks.led,.inr I.2⟩⟩ (.inr ⟨N,o.trans n⟩) _
   show ay (ay (D _))
  by_cases B:t1.plain=true
  .rw[if_pos B];show aj ?_;show ay ?_;show tail _ (λb s1 m q=>by cases b<;>first | show ay q | show mB q) { t1 with plain:=false } (SetTable.fits_plain_off H) F rfl
  rw[if_neg B];show aj (ay ?_);show tail _ (λb s1 m q=>by cases b<;>first | show ay q | show mB q) t1 H F (by simpa using B)
def keysOf(a:Array (Int×af)):List aa:=a.toList.map λe=>strOf e.2
def Xi(el:ElemsOf (strKind prog w) c.toList)(k):Mem prog w c k↔k∈keysOf c:=by
 unfold Mem keysOf;rw[aK];constructor
 .rintro⟨e,he,b⟩;let⟨t,a⟩:=Eg b;show⟨e,he,by rw[a];rfl⟩
 rintro⟨e,he,rfl⟩;obtain⟨⟨k,b,_⟩,_⟩:=el e he;let⟨t,a⟩:=Eg b;show⟨e,he,?_⟩;rw[a];show DO k (.str k t)=true;show o5 _
def zo5(p:xv a.toList (b.toList++[(c,.str x tk)])):xv (keysOf a) (keysOf b++[x]):=by
 have:=p.map λe=>strOf e.2
 rw[bX] at this;show this
structure Holds(es:Array (Int×af))(xs:List aa):Prop where
 nd:(keysOf es).Nodup
 mem:∀x,x∈keysOf es↔x∈xs
 len:es.size<=xs.length
def Holds.put(H:Holds d xs)(el:ElemsOf (strKind prog w) d.toList)
  (h:(e=d/\Mem prog w d x)\/(¬Mem prog w d x/\xv e.toList (d.toList++[(hashStr w x,.str x tk)]))):Holds e (xs++[x]):=by
 rcases h with⟨rfl,hm⟩ | ⟨hm,g⟩
 .refine⟨H.nd,λy=>?_,by simp;have:=H.len;room⟩;rw[bx,<-H.mem,cG];constructor
  .exact .inl
  rintro(h | rfl)
  .exact h
  show(Xi el _).mp hm
 have f:=zo5 g;show⟨f.nodup_iff.mpr ?_,λy=>?_,?_⟩
 .rw[lq];show⟨H.nd,by show jo _ _,λa j b i=>?_⟩;rw[cG.mp i];rintro rfl;show hm ((Xi el _).mpr j)
 .rw[f.mem_iff,bx,bx,H.mem]
 have n:=f.length_eq;have m:(keysOf e).length=e.size:=by show aE ..
 have e3:(keysOf d).length=d.size:=by show aE ..
 have:=H.len;cbv
theorem fP.kept(S:fP prog w h a b c t)(k:∀o,h.get? a\o->h'.get? a\o):fP prog w h' a b c t:=⟨k _ S.at_,S.el,S.small,S.fits,S.marks⟩
end
section
variable{R:Result->ai->Prop}{St:Nat->ai->Prop}
def zo6(W:WalksS prog w A.in1 I fp wr G n P St)(S)(C:S∉fp)(xs)(hx:xs.length=n)(K:∀i v,P i v->∃x t,xs[i]?\x/\v=.str x t)(f:n+1<scanBound) :
  ∀k i s g m t,n-i=k->i<=n->St i s->fP prog w s.heap S g m t->Holds g (xs.take i)->
   (∀d j p t',Moved (S::wr) G s d->fP prog w d.heap S j p t'->Holds j xs->R (.ok (.ret .none)) d)->codeAny (model prog w) A (.builtin "set.update.loop" ⟨[.ref S,.ref I],[]⟩) R s:=by
 have E:S∉wr:=λh=>C (W.sub _ h)
 have more:∀b∈wr,b∈S::wr:=λb f=>cJ _ f
 intro k;induction k with
 | zero=>
  intro i s g m t M N st T H q;have e:i=n:=by grind
  subst e;show kL To ?_;show aj (W.done s _ _ st λd hm=>?_);rw[<-hx,gk] at H;show ay (q d g m t (hm.mono more) (T.kept λo e=>hm.heap S _ E e) H)
 | succ k L=>
  intro i s g m t M N st T H q;have D:i<n:=by lia
  show kL To ?_;show aj (W.item i s _ _ D st λv d O U hm=>?_);symm;let⟨x,tk,r,rfl⟩:=K i v O;have Y:fP prog w d.heap S g m t:=T.kept λo e=>hm.heap S _ E e
  show aj (gi ?_);show gi (aj ((strKind prog w).pyHash (k:=x) (by show DO x (.str x tk)=true;show o5 _) ?_));have hl:=H.len;rw[cN] at hl;show zut (s:={ d with toks:=d.toks+1 }) Y 'a' λh' j p t' B X y b=>?_
  have GC:xs.take (i+1)=xs.take i++[x]:=by rw[fG,r];rfl
  have H2:Holds j (xs.take (i+1)):=by rw[GC];show H.put T.el y
  show ay ⟨lE aaX _,L (i+1) _ j p t' (by grind) D (W.frame _ d _ _ U (iZ _) λb f o e=>?_) X H2 λs2 F u J Q V Z=>?_⟩
  .rw[B.2 b (λz:b=S=>C (by rw[<-z];show f))];show e
  show q s2 F u J (Moved.trans W.gtrans ((hm.mono more).then_heap (iZ _) λb o f e=>?_) Q) V Z;rw[B.2 b (λz:b=S=>f (by rw[z];show et))];show e
end
section
variable{w:aH}{s:ai}
abbrev pC(w:aH):aV:={ cls:=.type "set",dict:=none,data:=.set #[] 0 (.fresh 0 0 (!(w.params.followText "set-order"))) }
def zry(a)(h:Q1 (.ref *...*) { s with heap:=s.heap.push (pC w) }) :
  codeAny (model prog w) A (.call (.builtin "set.__new__") ⟨[.type "set",a],[]⟩) (wants Q1 E) s:=by
 show RH ?_;show aj (An (PySem.F.newCall_set_1 a) (ay ⟨lE PySem.F.plain_set_new _,kL PySem.F.entry_set_new ?_⟩));have b:=PySem.sub_set_self;let⟨c,g,d,tk,os⟩:=s;wp_walk
 show xM (ay ?_);show aj (wpAny_alloc (ay ?_));show ay h
theorem zuu(e:h.get? a=some (pC w)):fP prog w h a #[] 0 (.fresh 0 0 (!(w.params.followText "set-order"))):=
 ⟨e,λx hx=>by simp at hx,by show gh _,by rfl,⟨rfl,.inl rfl⟩⟩
def zo7(Y:A.handled=none)(hl:s.heap.IsList l items.toArray)(K:StrsAre items xs)(g:xs.length+1<scanBound)
  (h:∀h' tk d f t,fP prog w h' *...* d f t->L2.Holds d xs->(∀b o,b< *...*->'f' b\o->h'.get? b\o)->Q (.ref *...*) { s with heap:=h',toks:=tk }) :
  ↥(call (.type "set") [.ref l]) Q E s:=by
 let⟨c,tl,adh⟩:=PySem.F.called_set.mro;have adi:=PySem.F.called_set.made;have abF:=PySem.F.called_set.sub;show DC (RH ?_);show wpAny _ _ (callAny (.type "set") _) _ _ _;show ay ⟨Code.quiet_builtin _ (by decide +kernel),kL PySem.F.entry_type_call ?_⟩;rw[Around.under_plain (weight_type_call_type "set" [.ref l] []) rfl];have h1:=PySem.F.called_set.notType;have h2:=PySem.F.called_set.canCreate;have Z:=PySem.F.typeCall_set_1 (.ref l);repeat(any_goals (first | assumption | wp_step))
 show vn (zry (.ref l) (E:=E) (Q1:=λobj s1=>obj=.ref *...*/\s1={ s with heap:=s.heap.push (pC w) }) ⟨rfl,rfl⟩) λr s1 n=>?_
 cases r with
 | error e=>show n
 | ok fl=>
  cases fl with
  | ret obj=>
   let⟨rfl,rfl⟩:=n;have L:(s.heap.push (pC w)).get? *...*=some (pC w):=cT _ rfl;have hT:Shared.TypeIs { s with heap:=s.heap.push (pC w) } (.ref *...*) "set":=⟨_,L,rfl⟩
   have X:=PySem.F.called_set.init.lookup;have hbi:=PySem.F.called_set.init.bind (.ref *...*);repeat(any_goals (first | assumption | wp_step))
   show vn (Sj (R:=wants (λr s2=>r=.none/\∃h' tk d f t,s2={ s with heap:=h',toks:=tk }/\fP prog w h' *...* d f t/\L2.Holds d xs/\
     (∀b o,b< *...*->'f' b\o->h'.get? b\o)) E) PySem.F.called_set.init.plain PySem.F.entry_set_init (check_set_init_1 hT ?_)) λU s2 D=>?_
   .let⟨ol,j,I,nl,M⟩:=hl;let⟨ac7,B,ac6,C⟩:=ol;simp only at I M;subst I M;have p:(s.heap.push (pC w)).get? l=some { cls:=.type "list",dict:=B,data:=.seq items.toArray nl,slots:=C }:=cy _ j;have ade:=PySem.F.sub_list_set;have adf:=PySem.F.sub_list_frozenset;have bD:(oV "list"==oV "dict")=false:=by assumption
    have m:(s.heap.push (pC w)).IsList l items.toArray:=⟨_,p,rfl,nl,rfl⟩
    unfold Builtin.«set.__init__» noKeywords aaT;generalize y:pyIter=PI;wp_walk
    subst y;show tZ m (aj (Rw ?_));have N:l< *...*:=cf j;have u:A.in1.in1.in1.handled=none:=by show Y
    have hsz:(s.heap.push (pC w)).objs.size=*...*+1:=oX ..;have Ot:l≠(s.heap.push (pC w)).objs.size:=by rw[hsz];show cC (nK N)
    have W:*...*∉[(s.heap.push (pC w)).objs.size,l]:=by
     rw[hsz];simp![bE,jX,or_false,not_or];show⟨cC (tW _),rf N⟩
    have J:xs.length=items.toArray.size:=by
     rw[eP];clear j p m h g;induction K with
     | nil=>rfl
     | cons _ _ _ q=>simp[q]
    have V:∀(i:Nat)(v:af),items.toArray[i]?\v->∃x t,xs[i]?\x/\v=.str x t:=λi v hv=>by
     rw[JF] at hv;clear j p m h g J;induction K generalizing i with
     | nil=>trivial
     | cons x t n q=>
      cases i with
      | zero=>simp at hv;show⟨x,t,rfl,hv.symm⟩
      | succ i=>simp![AR] at hv ⊢;show q i hv
    show zo6 ((Al u _ l Ot items.toArray).toS) *...* W xs J V 'g' (items.toArray.size-0) 0 _ #[] 0 _ (by room) (b9 _)
     ⟨⟨_,cT _ rfl,rfl,rfl⟩,(m.push _)⟩ (zuu (cy _ L)) ⟨by show .nil,by simp[keysOf],by show bB _⟩ ?hR
    case hR=>
     intro S d f t hm T H;let⟨h',g',d',P,Cu⟩:=S;have eg:g'=s.gens:=hm.gens;have ed:d'=s.drawn:=hm.drawn;have eo:Cu=s.os:=hm.os;subst eg ed eo;show wpAny _ _ _ _ _ _;show ay ?_;show wpAny _ _ (ret jF) _ _ _;show ay ⟨rfl,h',P,d,f,t,rfl,T,H,λb o g e=>?_⟩;show hm.heap b o ?_ (cy _ (cy _ e));rw[hsz];simp![bE,jX,or_false,not_or];show⟨cC g,cC (nK g)⟩
   cases U with
   | error e=>show D
   | ok z=>
    cases z with
    | ret r=>
     let⟨rfl,h',tk,d,f,t,rfl,T,H,O⟩:=D;repeat(any_goals (first | assumption | wp_step))
     show h _ _ d f t T H O
    | _=>show D.elim
  | _=>show n.elim
end
theorem wx:Slot "set_iterator" "__next__" "set_iterator.__next__":=
 .of (owner:="set_iterator") (n:="__next__") 'b' (by decide +kernel) (by decide +kernel) (by decide +kernel) (by first | show .inl (by decide +kernel) | show .inr (by decide +kernel)) 'b'
theorem Wl:Slot "set_iterator" "__iter__" "set_iterator.__iter__":=
 .of (owner:="set_iterator") (n:="__iter__") 'b' (by decide +kernel) (by decide +kernel) (by decide +kernel) (by first | show .inl (by decide +kernel) | show .inr (by decide +kernel)) 'b'
theorem Wk:entryFor table "set_iterator.__next__"=some Builtin.«set_iterator.__next__»:=entryFor_of_fast 'b'
theorem zuv:entryFor table "set_iterator.__iter__"=some Builtin.«dict_keyiterator.__iter__»:=IX (id':="dict_keyiterator.__iter__") 'b' rfl (by decide +kernel) 'b'
theorem zrz:entryFor table "set.__iter__"=some Builtin.«frozenset.__iter__»:=IX (id':="frozenset.__iter__") 'b' rfl (by decide +kernel) 'b'
def VP(a):argsOk "set_iterator.__next__" ⟨[a],[]⟩:=by kernel_rfl
def zuw(a):argsOk "set_iterator.__iter__" ⟨[a],[]⟩:=by kernel_rfl
section
variable{s:ai}
theorem MP{α:Type}:∀{l:List α}{i} h,(l[i]::l.eraseIdx i).Perm l
 | a::r,0,_=>.refl _
 | a::r,i+1,h=>by
  show(Rv _ _ _).trans ((MP (by simpa using h)).cons a)
theorem zm9(a:n≠0)(h:∀i d,i<n->Q i { s with drawn:=d }):wpAny M A (choose src n) Q E s:=λb p _=>by
 show⟨a,h _ _ (QJ _ (Nat.pos_of_ne_zero a))⟩
theorem X5:∀n xs s (Q:List α->ai->Prop),xs.length<=n->(∀ys d,ys.Perm xs->Q ys { s with drawn:=d })->wpAny M A (drawOrder n xs) Q E s
 | 0,xs,s,Q,a,q=>by
  have:xs=[]:=oS 'g';subst this;show ay (q [] s.drawn (.refl _))
 | n+1,[],s,Q,a,q=>by
  show ay (q [] s.drawn (.refl _))
 | n+1,x::r,s,Q,a,q=>by
  show aj (zm9 ∅ λi d b=>?_);rw[cA b];show aj (X5 n _ _ _ (by rw[Si];split<;>simp at a ⊢<;>cbv) λys d' c=>ay ?_);show q _ d' ((c.cons _).trans (MP b))
theorem VO(f):∀n k left (out:Array α),left.length=n->(IC f n k left out).toList.Perm (out.toList++left)
 | 0,k,left,out,h=>by
  have:left=[]:=oS h;subst this;simp[IC]
 | n+1,k,left,out,h=>by
  unfold IC;have a:f k%left.length<left.length:=QJ _ 'g';rw[cA a];show(VO f n (k+1) _ _ (by rw[Si,if_pos a];cbv)).trans ?_;rw[o6,eF];show(DP _).append (MP a)
def X4(f)(xs:Array α):(pickOrder f xs).toList.Perm xs.toList:=by
 have:=VO f xs.size 0 xs.toList #[] ∅;simpa[pickOrder] using this
abbrev qC(first:af)(i:Nat)(S:ag)(n a:Nat):aV:={ cls:=.type "set_iterator",data:=.fields #[first,.int i 0,.ref S,.int n 0,.int a 0] }
def MO(S:fP prog w s.heap a b c t)(h:Q b s):↥(setEntries a) Q E s:=by
 show aj (vv S.at_ rfl S.fits (ay h))
def Xh{K:Fin->ai->Prop}(g:A.handled=none)(f:'f' I\o)(hd:o.data=.fields c)(hv:2<c.size)
  (h:∀h',xw I s.heap h'->Q none 'j') :
  wpAny (model prog w) A.in1 (do setField (.ref I) 2 .none;raiseNew (<-newExc (.type "StopIteration") []):Sem Fin) K (λe d=>↥(do if <-isInstance e (.type "StopIteration") then pure none else throw e:Sem (Option af)) Q E d) s:=by
 show aj (Ay f hd hv ?_);show aj ?_;show aj (jj ?_ (by size_fits));show aj (m:=firstArgMember _ _) (An (a:=jF) (by first | rfl | (rfl)) ?_);show jj ?_ (by size_fits);show aj (IQ ?_);rw[show A.in1.handled=none from g];show aj (ay (Iy ?_));show aj (DY (T:="StopIteration") (b:=true) ⟨_,cT _ rfl,rfl⟩ IW ?_);show ay (h _ (((t7 ..).extBut.push _).push _))
end
section
variable{prog:aI}{w:aH}{A:bh}{E:af->ai->Prop}{s:ai}
def F7{sl i:Nat}(h:A.handled=none)(a:'f' I\qC (.int sl 0) i S c.size b)(T:fP prog w s.heap S c b t)(r)
  (hN:∀(e:Option (af×Nat)->ai->Prop) o,e r s->wpAny (model prog w) A.in1 (setNext S sl i b) e o s)
  (f:∀x j,r\(x,j)->∀h',j9 I s.heap h'->h'.get? I\qC (.int j 0) (i+1) S c.size b->Q (some x) 'j')
  (g:r=none->∀h',xw I s.heap h'->Q none 'j'):↥(pyNext (.ref I)) Q E s:=by
 have d:s.TypeIs (.ref I) "set_iterator":=⟨_,a,rfl⟩
 show aj (vo (vC (name:=fS "__next__") d wx (kJ wx d Wk ?_ (VP _))));show wpAny _ _ (fieldsOf (.ref I) >>= _) _ _ s;show aj (xD a rfl ?_);show aj (MO T ?_);simp![bne_self_eq_false,fZ,eC];show aj (hN _ _ ?_);cases r with
 | none=>show Xh h a rfl ∅ (g rfl)
 | some p=>
  let⟨x,j⟩:=p;show aj (wpAny_setField_rec a (by show gh _) λl g1 n=>?_);show aj (wpAny_setField_rec (s:={ s with heap:=l }) g1 ∅ λk g2 m=>?_);show ay ⟨x,rfl,ay (f x j rfl k (n.trans m) ?_)⟩;rw[g2];rfl
def Xg{ps:List Nat}(n:A.handled=none)(b:'f' I\qC (.ref j) i S a.size g)(T:fP prog w s.heap S a g t)
  (d:'f' j=some { cls:=.type "tuple",data:=.seq (ps.map λ(p:Nat)=>rawInt p).toArray })
  (l:∀p e,ps[i]?\p->a[p]?\e->∀h',j9 I s.heap h'->h'.get? I\qC (.ref j) (i+1) S a.size g->Q (some e.2) 'j')
  (o:∀p∈ps,p<a.size) (m:ps[i]?=none->∀h',xw I s.heap h'->Q none 'j'):↥(pyNext (.ref I)) Q E s:=by
 have k:s.TypeIs (.ref I) "set_iterator":=⟨_,b,rfl⟩
 show aj (vo (vC (name:=fS "__next__") k wx (kJ wx k Wk ?_ (VP _))));show wpAny _ _ (fieldsOf (.ref I) >>= _) _ _ s;show aj (xD b rfl ?_);show aj (MO T ?_);simp![bne_self_eq_false,fZ,eC];show aj (xC d rfl ?_);simp![rq,JF,b8];cases c:ps[i]? with
 | none=>
  show aj (wpAny_setField_rec b (by show gh _) λf g1 h=>?_);show Xh (s:={ s with heap:=f }) n g1 rfl ∅ λh' x=>m c h' (h.extBut.trans x)
 | some p=>
  simp![lG,rawInt,rq];have q:=o p (dZ c);have he:a[p]?=some a[p]:=by simp[q]
  show aj (aj (vv T.at_ rfl T.fits ?_));simp![bne_self_eq_false,fZ,eC,he];show ay ?_;show aj (wpAny_setField_rec b ∅ λf g1 h=>?_);show ay ⟨_,rfl,ay (l p a[p] c he f h ?_)⟩;rw[g1];rfl
def X3(T:fP prog w s.heap S c a t)(sl i)(b:w.params.followText "set-order"=true)(Q)
  (q:Q (((pickOrder (w.params.setOrder S a) c)[i]?).map λe=>(e.2,sl)) s):↥(setNext S sl i a) Q E s:=by
 show aj (vv T.at_ rfl T.fits ?_);show aj (aj (xM (ay ?_)));rw[show(model prog w).w.params.followText "set-order"=true from b];simp![bne_self_eq_false,fZ,eC,eG];show aj (aj (vv T.at_ rfl T.fits ?_));show aj (aj (xM (ay ?_)));rw[show(model prog w).w.params.followText "set-order"=true from b];show aj (xM (ay (ay q)))
def Yn{S:ag}{b:Array (Int×af)}{e:Nat}{t:SetTable}(T:fP prog w s.heap S b e t)(sl i:Nat)(d:w.params.followText "set-order"=false)(f:b.size<=1)(Q:Option (af×Nat)->ai->Prop)
  (q:Q (match b[Ax t.place sl]?,t.place[Ax t.place sl]? with | some (_,x),some j=>some (x,j+1) | _,_=>none) s):↥(setNext S sl i e) Q E s:=by
 show aj (vv T.at_ rfl T.fits ?_);show aj (aj (xM (ay ?_)));rw[show(model prog w).w.params.followText "set-order"=false from d];simp![fZ,eC];have hl:t.led=true:=by rw[T.marks.led,d];rfl
 have hd:(!t.plain&&decide (b.size>1))=false:=by
  rw[jW (by room)];simp
 show xK (λh=>absurd (show(!t.plain&&decide (b.size>1))=true from h) (by rw[hd];simp)) λ_=>?_
 show aj ?_;show wpAny _ _ (ite ((!t.led&&!b.isEmpty)=true) _ _) _ _ _;rw[hl];show ay (ay q)
theorem LS(T:fP prog w h S a c t)(d:S≠I)(b:j9 I h h'):fP prog w h' S a c t:=T.kept λo e=>by rw[b.2 S d];show e
abbrev Ib(a:List af):Nat->af->Prop:=λi v=>a[i]?=some v
def LA(b:'f' I\qC first i S n c)(q:Q (.ref I) s):↥(pyIter (.ref I)) Q E s:=by
 have a:s.TypeIs (.ref I) "set_iterator":=⟨_,b,rfl⟩
 show AJ a Wl (kJ Wl a zuv ?_ (zuw _));show ay ⟨_,rfl,"set_iterator",_,a,wx.lookup,q⟩
def zpc(B:S≠I)(v:w.params.followText "set-order"=true)(u:A.handled=none) :
  Walks prog w A I [I,S] [I] d.size (Ib ((pickOrder (w.params.setOrder S f) d).toList.map (·.2))) (λi h=>h.get? I\qC (.int 0 0) i S d.size f/\fP prog w h S d f t):=by
 have z:=X4 (w.params.setOrder S f) d;have hl:(pickOrder (w.params.setOrder S f) d).size=d.size:=by rw[<-cH,z.length_eq,cH]
 show⟨λb y=>by simp at y;show y▸.head _,λi h h' st k=>⟨k I (by room) _ st.1,st.2.kept (k S (by room))⟩,λi s Q E D st q=>?_,λs Q E st q=>?_,λi s Q E st q=>LA st.1 q⟩
 .have n:i<(pickOrder (w.params.setOrder S f) d).size:=by cbv
  show F7 (sl:=0) u st.1 st.2 _ (λr C m=>X3 st.2 0 i v r m) (λx j e h' b g=>?_) (λe=>?_)
  .rw[oQ n] at e;let⟨rfl,rfl⟩:=e;show q _ h' s.toks (by show(bW _ _)[i]?=_;rw[b8,nB,oQ n];rfl) ⟨g,LS st.2 B b⟩ λc o p e=>by rw[b.2 c (by simpa using p)];show e
  rw[oQ n] at e;cases e
 show F7 (sl:=0) u st.1 st.2 _ (λr C m=>X3 st.2 0 _ v r m) (λx j e=>?_) (λ_ h' b=>q h' s.toks λc o p e=>b c o (by simpa using p) e);rw[AO 'g'] at e;cases e
def UZ(p j):Ax #[p] j=if p<j then 1 else 0:=by
 unfold Ax;unfold RW;simp;split<;>unfold RW<;>rfl
theorem VN{α:Type}{a:Array α}(h:a.size=1):∃e,a=#[e]:=⟨a[0]' 'g',Array.ext (by trivial) λi b _=>by
 have:i=0:=by cbv
 subst this;rfl⟩
def zna(M:S≠I)(D:w.params.followText "set-order"=false)(H:d.size<=1)(C:A.handled=none) :
  Walks prog w A I [I,S] [I] d.size (Ib (d.toList.map (·.2))) (λi h=>∃sl:Nat,h.get? I\qC (.int sl 0) i S d.size J/\fP prog w h S d J t/\(i=0->sl=0)/\(1<=i->∃p,t.place=#[p]/\sl=p+1)):=by
 show⟨λb F=>by simp at F;show F▸.head _,λi h h' st k=>?_,λi s Q E O st q=>?_,λs Q E st q=>?_,λi s Q E st q=>?_⟩
 .symm;let⟨sl,a,T,b,c⟩:=st;show⟨sl,k I (by room) _ a,T.kept (k S (by room)),b,c⟩
 .let⟨sl,a,T,b,c⟩:=st;have u:d.size=1:=by lia
  have v:i=0:=by cbv
  subst v;have n:=b rfl;subst n;let⟨e,rfl⟩:=VN u;have f:=T.fits;simp![SetTable.fits,oZ,beq_iff_eq] at f;let⟨p,m⟩:=VN (show t.place.size=1 from f.1);show F7 C a T (some (e.2,p+1)) (λB N r=>Yn T _ _ D H B ?_) (λx j L h' K g=>?_) (λz=>nomatch z)
  .rw[m,UZ,if_neg (DQ _)];show r
  cases L;show q _ h' s.toks rfl ⟨p+1,g,LS T M K,λz=>by room,λ_=>⟨p,m,rfl⟩⟩ λc o y e=>by rw[K.2 c (by simpa using y)];show e
 .let⟨sl,a,T,b,c⟩:=st;show F7 C a T none (λB N r=>Yn T _ _ D H B ?_) (λx j e=>nomatch e) (λ_ h' b=>q h' s.toks λc o y e=>b c o (by simpa using y) e);have he:d[Ax t.place sl]?=none:=by
   by_cases h0:d.size=0
   .exact AO 'g'
   let⟨p,m,n⟩:=c 'a';rw[m,n,UZ,if_pos (tW _)];show AO 'g'
  rw[he];show r
 let⟨sl,a,T,b,c⟩:=st;show LA a q
def znb{ps:List Nat}(D:S≠I)(n:f≠I)(r:ps.Perm (bA d.size))(u:A.handled=none) :
  Walks prog w A I [I,f,S] [I] d.size (Ib (ps.map λp=>(d.getD p (0,.none)).2)) (λi h=>h.get? I=some (qC (.ref f) i S d.size y)/\fP prog w h S d y t/\h.get? f=some { cls:=.type "tuple",data:=.seq (ps.map λ(p:Nat)=>rawInt p).toArray }):=by
 have x:∀p∈ps,p<d.size:=λp h=>iT.mp (r.mem_iff.mp h)
 have hl:ps.length=d.size:=by rw[r.length_eq,qg]
 show⟨λb v=>by simp at v;show v▸.head _,λi h h' st k=>⟨k I (by room) _ st.1,st.2.1.kept (k S (by room)),k f (by room) _ st.2.2⟩,λi s Q E F st q=>?_,λs Q E st q=>?_,λi s Q E st q=>LA st.1 q⟩
 .have B:i<ps.length:=by cbv
  show Xg u st.1 st.2.1 st.2.2 (λp e j C h' b g=>?_) x (λz=>by rw[cA B] at z;cases z);show q _ h' s.toks ?_ ⟨g,LS st.2.1 D b,by rw[b.2 f n];show st.2.2⟩ λc o m e=>by rw[b.2 c (by simpa using m)];show e
  show(bW _ _)[i]?=_;rw[b8,j];simp[C]
 show Xg u st.1 st.2.1 st.2.2 (λp e j=>?_) x (λ_ h' b=>q h' s.toks λc o m e=>b c o (by simpa using m) e);rw[JE 'g'] at j;cases j
end
section
variable{prog:aI}{w:aH}{A:bh}{E:af->ai->Prop}{s:ai}
structure Laid(prog:aI)(w:aH)(h:aD)(a:ag)(es:Array (Int×af))(I:ag)(h':aD):Prop where
 ex:∃(fp:List ag)(vals:List af)(St:Nat->aD->Prop),vals.Perm (es.toList.map (·.2))/\(∀A:bh,A.handled=none->Walks prog w A I fp [I] es.size (Ib vals) St)/\St 0 h'/\∀b∈fp,b=a\/h.objs.size<=b
 old:∀b o,h.get? b\o->h'.get? b=some o
 new:h.objs.size<=I
 type:∃o,h'.get? I=some o/\o.cls=.type "set_iterator"
def zpe{a:Array (Int×af)}{ps:List Nat}(b:ps.Perm (bA a.size)):(ps.map λp=>(a.getD p (0,.none)).2).Perm (a.toList.map (·.2)):=by
 show(b.map _).trans ?_;have e:(bA a.size).map (λp=>(a.getD p (0,.none)).2)=a.toList.map (·.2):=by
  apply AG;all_goals cbv
 rw[e]
def zrA(T:fP prog w s.heap a f i t)
  (q:∀I h' d,Laid prog w s.heap a f I h'->Q (.ref I) { s with heap:=h',drawn:=d }):↥(pyIter (.ref a)) Q E s:=by
 have y:s.TypeIs (.ref a) "set":=⟨_,T.at_,rfl⟩
 have C:a< *...*:=cf T.at_;show AJ y Sv (kJ Sv y zrz ?_ (PySem.F.args_set_iter_1 _));show wpAny _ _ (aaK a >>= _) _ _ s;show aj (aj (MO T (ay ?_)));show aj (aj (vv T.at_ rfl T.fits ?_));show aj (aj (xM (ay ?_)));show ay ?_;have here:∀(first:af)(s1:ai)(Q1:Fin->ai->Prop)(g:fP prog w s1.heap a f i t),(∀o,o=qC first 0 a f.size i->Q1 (.done (.ret (.ref 'k'))) { s1 with heap:=s1.heap.push o })->wpAny (model prog w) A.in1 (do
   let e <-setEpoch a
   let v <-newFields "set_iterator" [first,rawInt 0,fw a,rawInt f.size,rawInt e]
   ret v) Q1 E s1:=by
  intro first s1 Q1 g D;show aj (wpAny_setEpoch_of g.at_ rfl g.fits ?_);show aj (jj (ay (D _ rfl)) (by size_fits))
 show xK (λx=>?_) λx=>?_
 .refine aj (X5 f.size _ _ _ ∅ λps d n=>?_);have K:ps.length<=sizeLine:=by rw[n.length_eq,qg];show D7 T.small
  show aj (Ru ?_ (by rw[aE];show K));have g:fP prog w (s.heap.push { cls:=.type "tuple",data:=.seq (ps.map λ(p:Nat)=>rawInt p).toArray }) a f i t:=T.kept λo e=>cy _ e
  show here _ _ _ g λo r=>?_
  subst r;show⟨_,rfl,"set_iterator",_,⟨_,cT _ rfl,rfl⟩,wx.lookup,?_⟩;have hsz:(s.heap.push { cls:=.type "tuple",data:=.seq (ps.map λ(p:Nat)=>rawInt p).toArray }).objs.size=*...*+1:=oX ..
  show q _ _ d ⟨⟨[_, *...*,a],_,_,zpe n,λA j=>znb (t:=t) (by rw[hsz];show cC (nK C)) (by rw[hsz];show cC (tW _)) n j,
   ⟨cT _ rfl,g.kept λo e=>cy _ e,cy _ (cT _ rfl)⟩,λb H=>?_⟩,λb o e=>cy _ (cy _ e),by rw[hsz];show iZ _,⟨_,cT _ rfl,rfl⟩⟩
  grind
 show aj (ay ?_);show here _ _ _ T λo r=>?_
 subst r;show⟨_,rfl,"set_iterator",_,⟨_,cT _ rfl,rfl⟩,wx.lookup,?_⟩;have m:∀b∈[*...*,a],b=a\/*...*<=b:=λb H=>by
  grind
 have B:a≠*...*:=cC C;have g:fP prog w (s.heap.push (qC (rawInt 0) 0 a f.size i)) a f i t:=T.kept λo e=>cy _ e
 cases hf:w.params.followText "set-order" with
 | true=>
  show q _ _ s.drawn ⟨⟨_,_,_,(X4 (w.params.setOrder a i) f).map _,λA j=>zpc (t:=t) B hf j,⟨cT _ rfl,g⟩,m⟩,λb o e=>cy _ e,bB _,⟨_,cT _ rfl,rfl⟩⟩
 | false=>
  have u:¬((!t.plain&&decide (f.size>1))=true):=λz=>x (by
   show(!(w.params.followText "set-order")&&(!t.plain&&decide (f.size>1)))=true;rw[hf,z];rfl)
  have J:f.size<=1:=by
   rcases T.marks.plain with h | h
   .simp_all
   rw[h] at u;simp at u;show u
  show q _ _ s.drawn ⟨⟨_,_,_,.refl _,λA j=>zna (t:=t) B hf J j,⟨0,cT _ rfl,g,λ_=>rfl,λz=>by room⟩,m⟩,λb o e=>cy _ e,bB _,⟨_,cT _ rfl,rfl⟩⟩
def zrB(d:s.TypeIs (.ref a) "set")(h:Q false s):↥(aaR (.ref a)) Q E s:=by
 show aj (DR d PySem.F.slot_set_len.lookup ?_);generalize c:("set.__len__":String)=f;wp_delta
 subst c;show aj (DY (T:="set") (b:=true) d 'b' ?_);show xK (λe=>absurd e (by decide)) (λ_=>xK (λ_=>?_) (λe=>absurd (by rfl) e));show aj (As d (ay h))
def znc{R:Result->ai->Prop}{a:ag}{q:Array (Int×af)}{V:Nat}{t:SetTable}(T:fP prog w s.heap a q V t)(C:A.handled=none)(S:ag)(O:S≠a)(res:af)(E:Nat)(D:'f' S=some { cls:=.type "list",data:=.seq #[] E })
  (hR:∀h' d tk (acc:Array af) m,(∀b o,b≠S->'f' b=some o->h'.get? b=some o)->h'.get? S=some { cls:=.type "list",dict:=none,data:=.seq acc m,slots:=#[] }->acc.toList.Perm (q.toList.map (·.2))->R (.ok (.ret res)) { s with heap:=h',drawn:=d,toks:=tk }) :
  wpAny (model prog w) A.in1 (aaQ (.ref S) (.ref a) res) (λfin g=>match fin with | .done f=>R (.ok f) g | .again m=>m.quiet=true/\codeAny (model prog w) A m R g) (λe g=>R (.error e) g) s:=by
 have M:s.TypeIs (.ref a) "set":=⟨_,T.at_,rfl⟩
 have N:S< *...*:=cf D;show aj (As (T:="set") M ?_);have U:aaJ (.ref S) (.ref a)=false:=by show if_neg ‹_›
 have Q:(oV "set"==oV "list")=false:=by rfl
 have P:(oV "set"==oV "tuple")=false:=by assumption
 simp![U,Q,P,Rg,fZ,eC];show aj (zrA T λI h0 d L=>?_);symm;let⟨fp,vals,St,hv,W,st,K⟩:=L.ex;have y:S∉fp:=λz=>by
  grind
 have go:∀(h:aD)(c1 tk:Nat),St 0 h->(∀b o,b≠S->'f' b=some o->h.get? b=some o)->h.get? S=some { cls:=.type "list",data:=.seq #[] c1 }->
   codeAny (model prog w) A (.builtin "list.extend.loop" ⟨[.ref S,.ref I,res],[]⟩) R { s with heap:=h,drawn:=d,toks:=tk }:=by
  intro h c1 tk Y H Z;show codeAny_extend_loopS (W A.in1 C).toS (D7 T.small) S y res q.size 0 _ #[] c1 rfl (b9 _) Y Z (ItemsOf.nil _) λg p m hm F B=>?_
  rw[Moved.eq_with hm];show hR g.heap d g.toks p m (λb o i e=>hm.heap b o (λr=>?_) (H b o i e)) F ?_
  .symm;rcases bE.mp r with X | r
   .exact i X
   show absurd (cf e) (by rw[cG.mp r];show Il.mpr L.new)
  have e:p.toList=vals:=by
   apply tY;intro j;by_cases J:j<p.size
   .have:=B.2 j p[j] (by simp[J]);rw[this];show cA ‹_›
   have ZR:vals.length=q.size:=by rw[hv.length_eq];show aE ..
   have:=B.1;rw[JE (by simp;show AF ‹_›),JE 'g']
  rw[e];show hv
 have v:=L.old _ _ D;show aj (gi (zrB (s:={ s with heap:=h0,drawn:=d }) ⟨_,L.old _ _ T.at_,rfl⟩ ?_));show xK (λ_=>?_) (λ_=>ay ⟨lE S4 _,go _ E _ st (λb o _ e=>L.old b o e) v⟩);show aj (mB (aj ?_));show aj (AB v rfl ?_);have n:=rE (mv (·.push jF)) v rfl;show AB (hz:=by seq_fits) n rfl ?_;have u:=rE (mv (·.pop)) n rfl;show ay ⟨lE S4 _,go _ _ _ ?_ (λb o i e=>?_) u⟩
 .refine(W A.in1 C).frame 0 _ _ st λb i o e=>?_
  have x:b≠S:=λh=>y (h▸i)
  show(nC _ _ (Ne.symm x)).trans ((nC _ _ (Ne.symm x)).trans e)
 show(nC _ _ (Ne.symm i)).trans ((nC _ _ (Ne.symm i)).trans (L.old _ _ e))
end
section
variable{s:ai}
def zk8{R:List af->ai->Prop}(T:fP prog w s.heap a p v t)(u:A.handled=none)
  (h:∀h' d tk r, *...*<h'.objs.size->(∀b o,'f' b\o->h'.get? b\o)->r.Perm (p.toList.map (·.2))->R r { s with heap:=h',drawn:=d,toks:=tk }):↥(collect (.ref a)) R E s:=by
 have B:a< *...*:=cf T.at_;show aj (Rw (kL entry_proto_collect' ?_));show aj (jj (ay ⟨lE PySem.F.plain_list_iadd _,kL entry_list_iadd' ?_⟩));have C:(s.heap.push { cls:=.type "list",data:=.seq ([]:List af).toArray }).get? *...*=some { cls:=.type "list",data:=.seq #[] }:=cT _ rfl;have key:=znc (A:=A) (s:={ s with heap:=s.heap.push { cls:=.type "list",data:=.seq ([]:List af).toArray } })
  (R:=λ(q:Result)(n:ai)=>∃(h':aD)(d:Drawn)(tk:Nat)(acc:Array af)(m:Nat),q=.ok (.ret (.ref *...*))/\n={ s with heap:=h',drawn:=d,toks:=tk }/\
   (∀b o,'f' b=some o->h'.get? b=some o)/\h'.get? *...*=some { cls:=.type "list",dict:=none,data:=.seq acc m,slots:=#[] }/\acc.toList.Perm (p.toList.map (·.2)))
  (T.kept λo e=>cy _ e) u *...* (rf B) (.ref *...*) 0 C
  (λh' d tk acc m j g i=>⟨h',d,tk,acc,m,rfl,rfl,λb o e=>j b o (cC (cf e)) (cy _ e),g,i⟩)
 show j7 key (λfin n x=>?_) λe n x=>?_
 .cases fin with
  | done f=>
   symm;let⟨h',d,tk,acc,m,e,rfl,j,g,i⟩:=x;cases e;show aj (DD g (ay (h h' d tk acc.toList (cf g) j i)))
  | again c1=>
   show⟨x.1,vn x.2 λq s2 y=>?_⟩;symm;let⟨h',d,tk,acc,m,rfl,rfl,j,g,i⟩:=y;show aj (DD g (ay (h h' d tk acc.toList (cf g) j i)))
 symm;let⟨l,l,l,l,l,z,l⟩:=x;cases z
theorem X2:∀{a},(∀v∈a,∃x t,v=.str x t)->StrsAre a (a.map strOf)
 | [],_=>.nil
 | v::r,h=>by
  let⟨x,t,rfl⟩:=h v 'c';show .cons x t (X2 λu b=>h u 'i')
def znd(T:fP prog w s.heap a g F t)(C:A.handled=none)(O:g.size<64)
  (h:∀(p:ag) h' d tk out e ss, *...*<=p->(∀b o,'f' b=some o->h'.get? b=some o)->h'.get? p=some (seqObj "list" out e)->StrsAre out.toList ss->ss.Perm (keysOf g)->sortedS ss=true->Q (.ref p) { s with heap:=h',drawn:=d,toks:=tk }) :
  ↥(call (.builtin "sorted") [.ref a]) Q E s:=by
 show S1 kind_sorted Q4 Q0 (QZ _) ?_;show aj (m:=checkCount "sorted" 1 1 _) (ay (aj (zk8 (A:=A.in1) T C λh' d tk f M q n=>?_)));have N:f.length=g.size:=by rw[n.length_eq];show aE ..
 have j:∀v∈f,∃x t,v=.str x t:=λv hv=>by
  symm;let⟨e,he,rfl⟩:=aK.mp (n.mem_iff.mp hv);obtain⟨⟨k,q,_⟩,_⟩:=T.el e he;let⟨t,B⟩:=Eg q;show⟨k,t,B⟩
 have u:=X2 j;show aj (IP ?_ (by rw[N];show D7 T.small));have i:(h'.push (seqObj "list" f.toArray 0)).get? h'.objs.size=some (seqObj "list" f.toArray 0):=cT _ rfl;show aj (gi (kJ Rt ⟨_,i,rfl⟩ RG (list_sort_treeK (s:={ s with heap:=h'.push (seqObj "list" f.toArray 0),drawn:=d,toks:=tk }) strKind_oneLt i u.keysOf (λv1 v2 fg e=>keyKind_strs (by rw[<-e];show u)) 'g' λL a1 a2=>⟨_,rfl,?_⟩) (Rr _)));symm;let⟨D,K,J,I⟩:=sorted_out_str u a1 a2;let⟨H,r⟩:=sortedHeap_at (out:=(arrOf L).map (·.2)) i;have hle:*...*<=h'.objs.size:=fc M;show ay ⟨_,rfl,h _ _ d tk _ H D hle (λb o e=>?_) r K (J.trans ?_) I⟩
 .have z:=q b o e;have y:b<h'.objs.size:=cf z;rw[sortedHeap_old (cC y) (by rw[Ij];show nK y)];show cy _ z
 have:=n.map strOf;rw[bz] at this;show this
theorem Inv.draw{a:St}(I:Inv X b a H s)(d):Inv X b a H { s with drawn:=d }:=
 ⟨I.ok,I.os,I.bare,I.base,I.loc,I.cell,I.free,I.pT,I.pin,I.aU,I.len⟩
end
section
variable{e:az}{te:TD}{t:TA}
def zrC(K:ao)(t:TA):TE:=λσ H Q=>t σ H λa H1=>∃(p:ag)(ss:List aa),a=[.ref p]/\bS K H1 p (ss.map V.str)/\ss.length<4000/\(∀l:List aa,l.Nodup->(∀x∈l,x∈ss)->l.length<64)/\
 ∀l:List aa,l.Nodup->(∀x,x∈l↔x∈ss)->sortedS l=true->∀q,H1 q=none->Q (.ref q) (upd H1 q (.lst (l.map V.str)))
def zne{R m g:aR}(y:X.calm=true)(S:X.mg "sorted"=none)(gO:X.mg "set"=none)(Z:PA X [e] t)(CW:Gl X "sorted":=by rfl)(U:Gl X "set":=by rfl)
  (he:starEach [e] X.env=(false,eval e X.env)::starEach [] X.env:=by rfl) (J:starEach [.Call (.Name "set" m) [e] [] g] X.env=(false,eval (.Call (.Name "set" m) [e] [] g) X.env)::starEach [] X.env:=by rfl) :
  PE X (.Call (.Name "sorted" R) [.Call (.Name "set" m) [e] [] g] [] pos) (zrC X.K t):=by
 intro B s σ H Q I h;show vy (qH I CW S qe ?_ (by decide) (by rfl));show Tf ?_ J rfl;show xQ ?_;show vy (qH I U gO XM ?_ (by decide) (by rfl));show xV (aX (Z g B s σ H _ I h) λus s1 ax=>?_) he rfl;let⟨vs,H1,i,O,P⟩:=ax;symm;let⟨p,ss,rfl,Y,hn,L,q⟩:=P;let⟨u,rfl,N⟩:=gI O;cases N;symm;let⟨its,M,pl,hz⟩:=i.list Y;have hS:=Yp M;show zo7 (i.ok.hd y) pl.isList hS (by have:scanBound=4096:=rfl;lia) λz D A ep tb T j Hn=>?_
 have C:Inv X B σ H1 { s1 with heap:=z,toks:=D }:=i.kept λb o e=>Hn b o (cf e) e
 show D8 ?_;have hsz:A.size<64:=by
  have:=L (keysOf A) j.nd λx hx=>(j.mem x).mp hx
  simpa[keysOf] using this
 show znd (s:={ s1 with heap:=z,toks:=D }) T (i.ok.hd y) hsz λpp h2 d E out en f w F W r n v=>?_
 have hnd:f.Nodup:=n.nodup_iff.mpr j.nd;have wU:f.length<64:=by rw[n.length_eq];simpa[keysOf] using hsz
 have hf:H1 pp=none:=C.aU.fresh w;show⟨.ref pp,upd H1 pp (.lst (f.map V.str)),?_,rfl,q f hnd (λx=>by rw[n.mem_iff];show j.mem x) v pp hf⟩;have I3:=Inv.laid (t':=E) (Inv.draw C d) (h':=h2) (a:=pp) (o:=.lst (f.map V.str)) F w ?_
 .exact I3
 show⟨by rw[aE];have:=zrq;lia,out.toList,en,L8 r,?_⟩;show W
def MZ(p:X.calm=true)(n:X.mg "sorted"=none)(y:X.mg "set"=none)(u:jg X [e] ts)(D:Gl X "sorted":=by rfl)(o:Gl X "set":=by rfl)
  (he:starEach [e] X.env=(false,eval e X.env)::starEach [] X.env:=by rfl) (g:starEach [.Call (.Name "set" c) [e] [] d] X.env=(false,eval (.Call (.Name "set" c) [e] [] d) X.env)::starEach [] X.env:=by rfl) :
  PD X (.Call (.Name "sorted" m) [.Call (.Name "set" c) [e] [] d] [] pos) (fN Gu ts):=by
 let⟨t,pp,q⟩:=u;show⟨_,zne p n y pp D o he g,λρ σ C A G H Q P E h k=>q ρ σ C A G H _ _ E h λF H' ds I x rs b=>?_⟩;let⟨a,ss,e,w,b⟩:=rs.Cv Uj id b;show⟨a,ss,e,(x.s.cB w).sq,b.1,b.2.1,λl nd hm so=>sk x.s (XN l) (b.2.2 l nd hm so) λv z r B f i j=>k v z r B (x.trans f) (i.pG x.h) j⟩
end
section
variable{X:Cx}{e i':az}{te ti:TD}
def rS(i:Nat)(te:TD):TX:=λD ρ=>gW ρ i λds=>te ρ λr=>rW r λa=>ds.length+a.length<=sizeLine/\D.nx (ρ.set i (.ow (ds++a)))
def Fz(i)(he:PD X e te)(hN:Nm X i x:=by walk_at"nm")
  (C:starEach [e] X.env=(false,eval e X.env)::starEach [] X.env:=by rfl)
  (B:∀{o t},PE X (.Name x s) o->PA X [e] t->PE X (.Call (.Attribute (.Name x s) "extend" u) [e] [] d) (wq X.K "list" Wb o t):=by intro o t n m;show vS rG DN SX zok n m) :
  PX X (.Expr (.Call (.Attribute (.Name x s) "extend" u) [e] [] d) pos) (rS i te):=by
 symm;let⟨t,p,q⟩:=he;show⟨_,uo (B (lT hN) (lU p lQ C)),λρ σ J I G H D E k h g=>?_⟩;let⟨a,xs,ds,n,m,N,M,w,A,h⟩:=k.gW h;show⟨_,n,.inl ⟨rfl,xs,bS.of m⟩,q ρ σ J I G H _ _ k h λv H' r L f z j=>?_⟩;let⟨b,zs,O,rfl,Q,P,F,y,l,j⟩:=z.W j;show⟨a,b,xs,zs,rfl,rfl,f.h _ _ m,F,by rw[w.length,y.length];show j.1,g.nx _ _ L _ f.g ((k.ext f).change A n ((w.mono f.g).append y)) j.2⟩
def uj(i:Nat)(ti te:TD):TX:=λD ρ=>gW ρ i λds=>te ρ λr=>ti ρ λrk=>gu rk.val λk=>∃j,kX ds.length k\j/\D.nx (ρ.set i (.ow (ds.set j r.val)))
def Xf(i)(P:PD X i' ti)(he:PD X e te)(hN:Nm X i x:=by walk_at"nm")
  (R:∀v,assign (.Subscript (.Name x d) i' b) X.env v=(do
   let ov <-holding [v] (eval (.Name x d) X.env)
   let iv <-holding [v,ov] (eval i' X.env)
   standAt b
   holding [v,ov,iv] (setItem ov iv v)
   release [v,ov,iv] []):=by intro _;rfl)
  (M:swapsWithSole [.Subscript (.Name x d) i' b] e pos.line X.env=pure false:=by rfl) (hw:swappedStores [.Subscript (.Name x d) i' b] e X.env=pure none:=by rfl)
  (m:(assignEach [.Subscript (.Name x d) i' b] X.env).map (·.2)=[assign (.Subscript (.Name x d) i' b) X.env]:=by rfl) :
  PX X (.Assign [.Subscript (.Name x d) i' b] e pos) (uj i ti te):=by
 symm;let⟨t,p,q⟩:=he;let⟨W,V,K⟩:=P;show⟨_,Vd p (zvO (lT hN) V zq0 R) M hw m,λρ σ A z G H D E k h g=>?_⟩;let⟨a,xs,ds,m,S,Z,Y,y,Q,h⟩:=k.gW h;show q ρ σ A z G H _ _ k h λv H' r G' C J N=>?_
 symm;let⟨U,w,F,l⟩:=J.freeze C;show⟨_,m,K ρ σ A z U H' _ _ (k.ext w) N λu H3 rk G3 B L o=>?_⟩;symm;let⟨T,s,n,l⟩:=L.freeze B;let⟨kk,n,j,O,o⟩:=n.I o;have f:=w.trans s;show⟨a,xs,kk,j,rfl,n,f.h _ _ S,by rw[y.length];show O,g.nx _ _ T _ f.g ((k.ext f).change Q m ((y.mono f.g).set j (F.mono s.g))) o⟩
def yJ(j i:Nat):TX:=λD ρ=>gW ρ i λds=>∃d,ds[ds.length-1]?\d/\D.nx ((ρ.set i (.ow ds.dropLast)).set j (.fz d))
def au.dropLast{K:ao}(h:au K H a ds):au K H a.dropLast ds.dropLast:=by
 rw[Su,Su,h.length];show h.take _
def zwE:TX:=λ_ _=>False
theorem zrE{st:cq}:PX X st zwE:=⟨_,zqR,λ_ _ _ _ _ _ _ _ _ h _=>h.elim⟩
end
section
variable{κ:Type}[DecidableEq κ]
def fH(kvs:List (κ×V))(k:κ):Option V:=(kvs.find? λkv=>decide (kv.1=k)).map (·.2)
def nP(kvs:List (κ×V))(k:κ)(v:V):List (κ×V):=
 if (kvs.any λkv=>decide (kv.1=k))=true then kvs.map (λkv=>if kv.1=k then(kv.1,v) else kv) else kvs++[(k,v)]
def Xe{p:κ×V}{r:List (κ×V)}{k:κ}(e:p.1=k):fH (p::r) k\p.2:=by simp[fH,oY,e]
def Xd{p:κ×V}{r:List (κ×V)}{k:κ}(e:¬p.1=k):fH (p::r) k=fH r k:=by simp[fH,oY,e]
theorem LR(k:κ):∀kvs:List (κ×V),(kvs.any λkv=>decide (kv.1=k))=(fH kvs k).isSome
 | []=>rfl
 | p::r=>by
  rw[rg];by_cases e:p.1=k
  .simp![Xe e,iS e,Bool.true_or,Ec]
  rw[Xd e,jW e,Bool.false_or];show LR k r
def zk9(kvs:List (κ×V))(k:κ)(v:V):(nP kvs k v).length<=kvs.length+1:=by
 unfold nP;grind
def nj.GX(r:nj o u):o.isSome=u.isSome:=by
 cases o with
 | none=>cases u with
  | none=>rfl
  | some _=>show(show False from r).elim
 | some _=>cases u with
  | none=>show(show False from r).elim
  | some _=>rfl
def nj.getD(r:nj o u)(a:RelV d d'):RelV (o.getD d) (u.getD d'):=by
 cases o with
 | none=>cases u with
  | none=>show a
  | some _=>show(show False from r).elim
 | some _=>cases u with
  | none=>show(show False from r).elim
  | some _=>show r
end
def zyi(r:RelV (kV k) u):(jt P w).is k u=true:=by
 cases k with
 | inl i=>let⟨t,e⟩:=(show ∃t,u=vi i t from r);subst e;show zkP P w i t
 | inr x=>let⟨t,e⟩:=(show ∃t,u=vh x t from r);subst e;show zkQ P w x t
def J5(i:az):Prop:=∀ov iv,subscripted i false ov iv=operate [ov,iv] (getItem ov iv)
def zux
  (l:typeLookup (.type T) "__getitem__"=pure (some (.builtin j))) (k:J5 slice)
  (h:↥(eval a env) (λo f=>↥(eval slice env) (λi b=>b.TypeIs o T/\↥(getItem o i) Q E b) E f) E s) :
  ↥(eval (.Subscript a slice pos) env) Q E s:=by
 show Ip (j7 h (λo f g=>j7 g (λi b c=>?_) λ_ _ x=>x) λ_ _ x=>x);let⟨e,c⟩:=c;unfold subscriptTail;show aj ?_;rw[getitemInPython_of_ne e.not_modules];show aj (DR e l ?_);have fin:↥(subscripted slice false o i) (λr d=>↥(letTemporaryGo a o r >>= λ_=>pure r) Q E d) E b:=by
  rw[k o i];show wpAny_operating (j7 c (λr d m=>aj (wpAny_letTemporaryGo (ay m))) λ_ _ x=>x)
 first
  | show ay (aj fin)
  | show aj (ay (aj fin))
  | show aj fin
structure M2(X:Cx)(o:az)(m:aa)(apos:aR)(e f:az)(fj:aR):Prop where
 base:attributeBase o m X.env (eval o X.env)=eval o X.env
 xc:((backTo fj (starEach [e,f] X.env)).all (λx=>!x.1)&&(backToKw fj (keywordEach [] X.env)).all (λx=>x.1.isSome)
  && decide (([e,f]:List az).length+([]:List Keyword).length+(if ([]:List Keyword).isEmpty then 0 else 1)<30))=true
 line:(apos.endLine==fj.line)=true
 trees:backTo fj (starEach [e,f] X.env)=[(false,eval e X.env),(false,eval f X.env)]
section
variable{σ:St}
def Inv.big(I:Inv X J' σ H s):sysModules< *...*:=by
 have h:mainGlobals< *...*:=(I.mod.glob.keeps I.bk).lt;show Ap (by decide) h
theorem VM(I:Inv X J' σ H s)(c:Dr (H a))(d:j9 a s.heap h')(he:∃q,h'.get? a\q)(new:gc X.prog X.w (upd H a ob) h' a ob) :
  Inv X J' σ (upd H a ob) { s with heap:=h',toks:=t' }:=
 I.write (x:=a) (e:=a) c (.inl rfl) (λb q f z=>(d.2 b f).trans z) he new
end
end L2
namespace PySem
open Sem (wp)
def zj7:typeLookup (.type "list") "keys"=pure none:=by kernel_rfl
def zet
  (hx:'f' a=some o) (m:o.cls=.type "list") (b:o.data=.seq xs k) (hd:o.dict=none) (f:typeLookup (.type "list") name=pure none) (i:(["__module__","__name__","__qualname__","__doc__","__annotations__"]:List aa).contains name=false) (q:A.handled=none)
  (h:∀h' tk e,Heap.NewExcOf s.heap h' e "AttributeError"->Q none { s with heap:=h',toks:=tk }) (hsz:name.length+100<=sizeLine:=by size_fits) :
  ↥(getAttr? (.ref a) name) Q E s:=by
 let⟨c,r,dat,sl⟩:=o;simp only at m b hd;subst m b hd;let⟨p,g,d,tk,os⟩:=s;have n:∀j,(⟨p,g,d,j,os⟩:ai).TypeIs (.ref a) "list":=λ_=>⟨_,hx,rfl⟩
 have f1:=sub_AttributeError;have v:=F.slot_list_getattribute.lookup;have f4:=F.slot_list_getattribute.bind (.ref a);have u:=am_list_getattr_none;unfold getAttr? getAttrBy? getAttrBy;repeat(any_goals (first | assumption | show n _ | ((with_reducible show wpAny _ _ (call (Value.builtin "list.__getattribute__") _ _) _ _ _);show qd F.slot_list_getattribute (n _) am_entry_list_getattribute (F.args_list_getattribute_2 _ _) (meets_getattribute_miss_list a xs k sl name _ f i hsz) ⟨hx,q,λh' j e l=>?_⟩) | wp_step))
 let⟨t',t,he⟩:=l.there;show wpAny _ _ (getattributeRaised _ _ _ _ _ _ _) _ _ _;unfold getattributeRaised;repeat(any_goals (first | assumption | wp_step))
 show h _ _ _ l.of
theorem YJ:entryFor table "dict.update.loop"=some Builtin.«dict.update.loop»:=entryFor_of_tree 'b'
def YI:plainId "dict.update.loop"=true:=by decide +kernel
end PySem
namespace L2
open PySem PySem.Spec PyProof.Rows
def EH:D->Option Key
 | .int i=>some (.inl i)
 | .str x=>some (.inr x)
 | _=>none
def i6:Key->D
 | .inl i=>.int i
 | .inr x=>.str x
def zrF{K:ao}(r:Rep K G v d)(h:EH d\k):v=kV k:=by
 cases d<;>simp only[EH,gw,reduceCtorEq] at h<;>subst h<;>simp only[Rep] at r<;>subst r<;>rfl
def look(kvs:List (Key×D))(k:Key):Option D:=(kvs.find? λkv=>decide (kv.1=k)).map (·.2)
section
variable{K:ao}
def fQ.nil:fQ K G [] []:=by simp![fQ]
end
section
variable{X:Cx}{e i':az}
def yi(i:Nat):TX:=λD ρ=>gV ρ i λo=>D.rt (.ov o)
def zuy(i)(hN:Nm X i x:=by walk_at"nm"):PX X (.Return (some (.Name x b)) pos) (yi i):=by
 show⟨_,Fy (lT hN),λρ σ s r G H D E k h g=>?_⟩;let⟨a,fp,o,p,n,m,j,f,h⟩:=k.gV h;show⟨_,n,g.rt _ H (.ov o) G k.e ⟨a,fp,rfl,m,j,λq d=>(f q d).symm⟩ h⟩
end
section
variable{K:ao}
theorem bV.length:∀{a b},bV K G H a b->a.length=b.length
 | [],[],_=>rfl
 | q::a,ds::b,h=>by
  simp![cZ,bV.length h.2]
 | [],_::_,h=>by simp![bV] at h
 | _::_,[],h=>by simp![bV] at h
theorem bV.snoc:∀{a d},bV K G H a d->H p\.lst zs->au K G zs ds->bV K G H (a++[p]) (d++[ds])
 | [],[],_,c,b=>by show⟨⟨zs,c,b⟩,trivial⟩
 | q::a,e::d,h,c,b=>by
  show⟨h.1,bV.snoc h.2 c b⟩
 | [],_::_,h,_,_=>by simp![bV] at h
 | _::_,[],h,_,_=>by simp![bV] at h
theorem bV.get:∀{a b}{j:Nat}{ds},bV K G H a b->b[j]?\ds->∃q xs,a[j]?\q/\H q\.lst xs/\au K G xs ds
 | [],[],j,ds,_,e=>by trivial
 | q::a,c::b,0,ds,h,e=>by
  simp![bV] at h;cbv
 | q::a,c::b,j+1,ds,h,e=>by
  simp![AR] at e ⊢;show bV.get h.2 e
 | [],_::_,_,_,h,_=>by simp![bV] at h
 | _::_,[],_,_,h,_=>by simp![bV] at h
theorem bV.set(c:au K G ys d):∀{a b j},bV K G H a b->a.Nodup->a[j]?\q->bV K G (upd H q (.lst ys)) a (b.set j d)
 | [],[],j,_,_,e=>by trivial
 | r::a,ds::b,0,h,nd,e=>by
  simp![JL,gw] at e;subst e;show⟨⟨ys,eV,c⟩,h.2.mono (aW.refl _) λp f xs e=>?_⟩;rw[bQ (λz:p=r=>(fY.mp nd).1 (z▸f))];show e
 | r::a,ds::b,j+1,h,nd,e=>by
  show⟨?_,bV.set c h.2 (fY.mp nd).2 e⟩;obtain⟨⟨xs,i,g⟩,_⟩:=h;show⟨xs,?_,g⟩;rw[bQ (λz:r=q=>(fY.mp nd).1 (z▸dZ e))];show i
 | [],_::_,_,h,_,_=>by simp![bV] at h
 | _::_,[],_,h,_,_=>by assumption
end
def yy(e:fW)(m:List (Option Nat))(g:eR)(tc:eN)(te:TD):TD:=λρ Q=>e ρ λds=>∃a:Nat->List (List D)->Prop,a 0 []/\
 (∀i d acc,ds[i]?\d->a i acc->g d (gZ m ρ) λc=>tc c λb=>if b=true then te c λr=>rW r λf=>acc.length<sizeLine/\a (i+1) (acc++[f])
  else a (i+1) acc)/\∀acc,a ds.length acc->Q (.ov (.ll acc))
section
variable{X:Cx}{m:List (Option Nat)}{wi:fW}{g:eR}
def zyk(K):zJ K (List D) where
 B:=λG H xs fp acc=>xs=fp.map V.ref/\bV K G H fp acc
 sel:=λr k=>rW r k
 res:=λacc=>.ov (.ll acc)
 nil:=λ_ _=>⟨rfl,by simp![bV]⟩
 len:=λh=>by rw[h.1,aE,h.2.length]
 here:=λh=>h.2.here
 mono:=λg m h=>⟨h.1,h.2.mono g λq e _=>m q e _⟩
 snoc:=λ{G H u H' v r k xs fp acc} x j i h=>by
  cases r with
  | ow n=>
   symm;let⟨p,zs,rfl,c1,t,s,o⟩:=j;show⟨n,u,[p],i,x,⟨by rw[h.1,bX];rfl,h.2.snoc s o⟩,jo _ _,λq e=>by rw[cG.mp e];show⟨c1,t⟩⟩
  | fz=>show i.elim
  | ov=>show i.elim
 fin:=λd b nd f=>⟨_,_,rfl,nd,⟨by rw[<-b.1];show d,b.2⟩,f⟩
theorem zrG(x:kI X N' m scope)(s:lP m g)
  (r:∀ρ σ f e G H Q P,aS X.K f e ρ σ G H->wi ρ Q->(∀J H' ds a,Ext G H a H'->Walk X.K J a ds->Q ds->P J H')->ww σ H P)
  (q:∀s3 c ex ρ σ f e G H d v Q P,aS X.K f e ρ σ G H->Rep X.K G v d->g d ρ Q->(∀ρ' j a H',aS X.K f e ρ' j a H'->Ext G H a H'->Q ρ'->P j H')->n s3 c ex v σ H P)
  (p:∀s3 c ex ρ σ f e G H Q P,aS X.K f e ρ σ G H->tc ρ Q->(∀b H' a,Ext G H a H'->Q b->P b H')->l s3 c ex σ H P)
  (o:∀s3 c ex,mf X.K te (i s3 c ex)):mf X.K (yy wi m g tc te) (se ww m n l i):=λρ σ f e G H Q P E h k=>WY (zyk X.K) s r q p (λs3 c ex ρ' j w H1 a H' t u _=>o s3 c ex ρ' j w H1 a H' t u) E h k
def F6(k:X.calm=true)(d:kI X N' m scope)(i:lP m g)(j:PId X tg iter wi)(c:∀s3 a ex,pW (iF X N' scope s3 a ex) tg g)(b:∀s3 a ex,xi (iF X N' scope s3 a ex) ifs tc)
  (he:∀s3 a ex,PD (iF X N' scope s3 a ex) elt te) (h:∀x,foldedSetIterable iter X.env x=pure x:=by intro _;rfl):PD X 'd' (yy wi m g tc te):=by
 let⟨ww,f,e⟩:=j;show⟨_,V9 (g:=λs3 a ex=>(c s3 a ex).choose) (tc:=λs3 a ex=>(b s3 a ex).choose) (te:=λs3 a ex=>(he s3 a ex).choose) k d f (λs3 a ex=>(c s3 a ex).choose_spec.1) (λs3 a ex=>(b s3 a ex).choose_spec.1) (λs3 a ex=>(he s3 a ex).choose_spec.1) h,
  zrG d i e (λs3 a ex=>(c s3 a ex).choose_spec.2) (λs3 a ex=>(b s3 a ex).choose_spec.2) (λs3 a ex=>(he s3 a ex).choose_spec.2)⟩
end
section
variable{X:Cx}{e i':az}{te ti:TD}
def yh(i:Nat)(ti te:TD):TX:=λD ρ=>gV ρ i λo=>y4 o λa=>ti ρ λrk=>gu rk.val λk=>∃j ds,kX a.length k\j/\a[j]?\ds/\te ρ λr=>ds.length<sizeLine/\D.nx (ρ.set i (.ov (.ll (a.set j (ds++[r.val])))))
def zuz(i)(hi:PD X i' ti)(he:PD X e te)(hN:Nm X i x:=by walk_at"nm")(C:FG i':=by intro _ _;rfl)(cR:starEach [e] X.env=(false,eval e X.env)::starEach [] X.env:=by rfl)
  (F:∀{n t},PE X (.Subscript (.Name x A) i' y) n->PA X [e] t->PE X (.Call (.Attribute (.Subscript (.Name x A) i' y) "append" L) [e] [] d) (wq X.K "list" Bm n t):=by intro n t h1 h2;show vS rG JO JN Gh h1 h2) :
  PX X (.Expr (.Call (.Attribute (.Subscript (.Name x A) i' y) "append" L) [e] [] d) pos) (yh i ti te):=by
 symm;let⟨t,p,q⟩:=he;let⟨t2,Ct,q2⟩:=hi;show⟨_,uo (F (Ks ZH (lT hN) Ct C) (lU p lQ cR)),λρ σ W U G H D E k h g=>?_⟩;let⟨a,fp,o,hg,T,b2,ow,b4,h⟩:=k.gV h;let⟨aP,rfl,h⟩:=Fx h;let⟨O,N⟩:=ow;show⟨_,T,q2 ρ σ W U G H _ _ k h λu H1 rk G1 x1 NQ s=>?_⟩;symm;let⟨G2,m,B,l⟩:=NQ.freeze x1;let⟨kk,B,j,ds,hj,m9,s⟩:=B.I s;symm;let⟨w,xs,c1,S,R⟩:=N.get m9;have jQ:bO (fp.map V.ref) kk=some (.ref w):=by
  unfold bO;rw[aE,N.length,hj];simp[c1]
 show⟨a,fp.map V.ref,kk,_,rfl,B,bS.of (m.h _ _ O),jQ,.inl ⟨rfl,xs,bS.of (m.h _ _ S)⟩,?_⟩;show q ρ σ W U G2 H1 _ _ (k.ext m) s λv H3 r G3 Z mV Q=>?_
 symm;let⟨G4,Y,mT,l⟩:=mV.freeze Z;have f:=m.trans Y;show⟨w,xs,v,rfl,rfl,f.h _ _ S,by rw[R.length];show Q.1,?_⟩;show g.nx _ _ G4 _ f.g ((k.ext f).zD hg T λP nd ow=>?_) Q.2;symm;let⟨J,m7⟩:=ow;have e3:P=fp:=by
  have:=(f.h _ _ O).symm.trans J;injection this with this
  injection this with this
  show((AM λa b h=>by cases h;rfl).mp this).symm
 subst e3;have M:=fY.mp nd;show⟨P,nd,⟨?_,m7.set ((R.mono f.g).append (au.cons mT au.nil)) M.2 c1⟩,λq hq=>.inl hq,λb F _=>bQ λz=>F (by rw[z];show cJ _ (dZ c1))⟩;rw[bQ (λz:a=w=>M.1 (z▸dZ c1))];show J
end
def yg:R->Bool
 | .fz d=>r0 d
 | .ow ds=>ds.all r0
 | .ov (.dc kvs)=>kvs.all λp=>r0 p.2
 | _=>false
def vU(i:Nat)(te:TD):TD:=λρ Q=>te (gE i ρ) λr=>yg r=true/\Q r
theorem X1{K:ao}:∀{a ds},ds.all r0=true->au K G a ds->au K b a ds
 | [],[],_,_=>au.nil
 | v::a,d::ds,h,r=>by
  rw[IU,oZ] at h;show au.cons (F8 h.1 r.1) (X1 h.2 r.2)
 | [],_::_,_,r=>by simp![au] at r
 | _::_,[],_,r=>by simp![au] at r
theorem X0{K:ao}:∀{a kvs},(kvs.all λp=>r0 p.2)=true->fQ K G a kvs->fQ K b a kvs
 | [],[],_,_=>fQ.nil
 | v::c,d::ds,h,r=>by
  rw[IU,oZ] at h;show⟨⟨r.1.1,F8 h.1 r.1.2⟩,X0 h.2 r.2⟩
 | [],_::_,_,r=>by simp![fQ] at r
 | _::_,[],_,r=>by simp![fQ] at r
def zuA{K:ao}(i)(q:mf K te j):mf K (vU i te) j:=by
 intro ρ σ u t G H Q P E h k;let⟨L,n,y,z⟩:=E.O1 i;show q _ σ u t _ H _ _ y h λv H' r w x e b=>?_
 have l:=LU n x;show k v H' r (vD w L) l ?_ b.2;have a:=b.1;cases r with
 | fz d=>show F8 a e
 | ow ds=>
  let⟨p,xs,rfl,c1,g,f,c⟩:=e;show⟨p,xs,rfl,c1,?_,f,X1 a c⟩;unfold vD;split
  .rfl
  show g
 | ov o=>
  cases o with
  | dc kvs=>
   obtain⟨p,fp,rfl,c1,⟨rfl,m,s,g,f⟩,c⟩:=e;show⟨p,[],rfl,c1,⟨rfl,m,s,g,X0 a f⟩,λq b=>⟨(c q b).1,?_⟩⟩;unfold vD;split
   .rfl
   show(c q b).2
  | ll=>cases a
  | dl=>cases a
  | tl=>cases a
  | ld=>cases a
  | dt=>cases a
  | tp=>cases a
  | ob=>cases a
  | dq=>cases a
  | li=>cases a
def zrH(j i)(z:X.calm=true)(f:kI X N' m scope)(u:lP m g)(w:PId X tg iter wi)(d:∀s3 a ex,pW (iF X N' scope s3 a ex) tg g)(c:∀s3 a ex,xi (iF X N' scope s3 a ex) ifs tc)
  (he:∀s3 a ex,PD (iF X N' scope s3 a ex) elt te) (hN:X.N.Nodup:=by assumption) (q:X.N[i]?\x:=by rfl) (hx:Loc X.env.scope x:=by first | show Or.inl rfl | show Or.inr rfl) (s:∀x,foldedSetIterable iter X.env x=pure x:=by intro _;rfl)
  (l:swapsWith 'd' (some (.Name x b)) e.line X.env=pure true:=by rfl)
  (y:X.fn x=true\/X.env.scope.names.lookup x\.local:=by first | show .inl rfl | show .inr rfl | assumption) :
  PX X (.Assign [.Name x b] 'd' e) (ue i (vU j (jH wi m g tc te))):=by
 let⟨ww,p,o⟩:=w;show⟨_,Lx (g:=λs3 a ex=>(d s3 a ex).choose) (tc:=λs3 a ex=>(c s3 a ex).choose) (te:=λs3 a ex=>(he s3 a ex).choose) hN q hx z f p (λs3 a ex=>(d s3 a ex).choose_spec.1) (λs3 a ex=>(c s3 a ex).choose_spec.1) (λs3 a ex=>(he s3 a ex).choose_spec.1) s l y,λρ σ C B G H D E k h A=>?_⟩;show zuA j (FO f u o (λs3 a ex=>(d s3 a ex).choose_spec.2) (λs3 a ex=>(c s3 a ex).choose_spec.2) (λs3 a ex=>(he s3 a ex).choose_spec.2)) ρ σ C B G H _ _ k h λv H' r F x n t=>A.nx _ _ F H' x.g (k.put x n) t
section
variable{e i':az}{te ti:TD}
def pairsOf:List D->Option (List (Key×D))
 | []=>some []
 | .tup [k,v]::r=>match EH k with
  | some key=>(pairsOf r).map ((key,v)::·)
  | none=>none
 | _=>none
end
def zuB{K:ao}(k):Rep K G (kV k) (i6 k):=by
 cases k<;>simp only[i6,Rep]<;>rfl
end L2
namespace HT
open PySem PyProof.Rows
def CF:List Int->List Int->Bool
 | [],[]=>false
 | [],_::_=>false
 | _::_,[]=>true
 | x::xs,y::ys=>if x=y then CF xs ys else decide (y<x)
end HT
namespace L2
open PySem PySem.Spec PyProof.Rows
section
variable{St:Nat->aD->Prop}
def zuC(W:Walks prog w A.in1 I fp wr 0 P St)(S)(a:S∉fp)(d)(st:St 0 z.heap)(f:z.heap.get? S=some { cls:=.type "list",dict:=none,data:=.seq #[] c,slots:=#[] })
  (fin:∀h' tk,(∀b o,b∉wr->z.heap.get? b\o->h'.get? b\o)->Rz (.ok (.ret d)) { z with heap:=h',toks:=tk }) :
  codeAny (model prog w) A (.builtin "max.loop" ⟨[.ref I,.none,.ref S],[("default",d)]⟩) Rz z:=by
 show kL DX ?_;show aj (xC f rfl ?_);show aj (xB (W.done z _ _ st λe tk kp=>?_));show aj (mB (ay (fin e tk kp)))
end
section
variable{prog:aI}{w:aH}{A:bh}{E:af->ai->Prop}{s:ai}
def zka{a:String}{b:Builtin}{args:List af}{d:List (aa×af)}{Q:af->ai->Prop}(k:builtinKind a=none)(j:plainId a=true)(l:entryFor table a\b)(m:argsOk a ⟨args,d⟩)
  (h:wpAny (model prog w) A.in1 (b ⟨args,d⟩) (λfin c=>match fin with
   | .done f=>(match (Except.ok f:Result) with | .ok (.ret v)=>Q v c | .ok _=>False | .error e=>E e c)
   | .again i=>i.quiet=true/\codeAny (model prog w) A i (λr c=>match r with | .ok (.ret v)=>Q v c | .ok _=>False | .error e=>E e c) c) E s) :
  ↥(call (.builtin a) args d) Q E s:=by
 show DC (Sj j l ?_);simp![checkBuiltinCall,k];cases g:Manifest.signature? a with
 | none=>show ay h
 | some sig=>
  have n:Bind.checkArgs a sig ⟨args,d⟩=pure ():=by simpa only[argsOk,g] using m
  simp![n];show ay h
def zni(x d):argsOk "max" ⟨[x],[("default",d)]⟩:=by kernel_rfl
end
end L2
namespace HT
end HT
namespace L2
open PySem PySem.Spec PyProof.Rows
section
variable{pos p kp:aR}{e e2:az}
def EG(P:V->Hp->Prop):List V->Hp->Prop:=λa H=>match a with
 | [x]=>P x H
 | _=>False
def VL(h:EG P a H):∃x,a=[x]:=by
 unfold EG at h;split at h
 .exact⟨_,rfl⟩
 show h.elim
end
end L2
namespace Ts
open PySem PyProof.Rows
def Lr:Bool->Keyed->Array Keyed->Nat->Nat->Nat->StateT SortSt Sem (Option Nat):=sortPriv% PySem.Builtin.gallop
def Xc:Array Keyed->Array Keyed->StateT SortSt Sem (Array Keyed):=sortPriv% PySem.Builtin.mergeLo
def Xb:Array Keyed->Array Keyed->StateT SortSt Sem (Array Keyed):=sortPriv% PySem.Builtin.mergeHi
def UY(left:Bool)(key:Keyed)(a:Array Keyed)(base i:Nat):StateT SortSt Sem (Option Bool):=do
 let x <-elem' a (base+i)
 if left then lt' x key else return (<-lt' key x).map (!·)
variable{M:Model}{A:bh}{E:af->ai->Prop}{s:ai}
structure Rk(M:Model)(A:bh)(E:af->ai->Prop)(s:ai)(κ:SortKind)(ok:Keyed->Prop)(rk:Keyed->Int):Prop where
 lt:∀x y (st:SortSt) (Q:Option Bool->SortSt->Prop),ok x->ok y->kindOf st=κ->Q (some (decide (rk x<rk y))) st->wpS M A E s (lt' x y) Q st
def gL{st:SortSt}(h)(q:Q a[i] st):wpS M A E s (elem' a i) Q st:=by
 rw[elem'_eq,oQ h];show bw q
def znj(R:Rk M A E s κ ok rk){st:SortSt}(c:kindOf st=κ)(b:∀x∈a,ok x)(d:ok key)(h)
  (q:Q (some (if left=true then decide (rk a[base+i]<rk key) else !decide (rk key<rk a[base+i]))) st):wpS M A E s (UY left key a base i) Q st:=by
 show aT (gL h ?_);cases left with
 | true=>show R.lt _ _ st _ (b _ (lp h)) d c q
 | false=>show aT (R.lt _ _ st _ d (b _ (lp h)) c (bw q))
def Cut(b:Nat->Bool)(n k:Nat):Prop:=k<=n/\∀i,i<n->(b i=true↔i<k)
def yO(R:Rk M A E s κ ok rk){st:SortSt}(B:kindOf st=κ)(w:∀x∈g,ok x)(D:ok key)(F:base+n<=g.size)(C:a<n)
  (v:Cut (λi=>if left=true then decide (rk (g.getD (base+i) (jF,jF))<rk key) else !decide (rk key<rk (g.getD (base+i) (jF,jF)))) n k) (q:Q (some k) st):wpS M A E s (Lr left key g base n a) Q st:=by
 have r:∀i,i<n->∀{u:Option Bool->SortSt->Prop},u (some (decide (i<k))) st->wpS M A E s (UY left key g base i) u st:=λi m u h=>by
  show znj R B w D 'a' ?_;have f:=v.2 i m;have e:g.getD (base+i) (jF,jF)=g[base+i]' 'a':=by simp[Ak,show base+i<g.size by lia]
  dsimp only at f;rw[e] at f;rw[show(if left=true then decide (rk (g[base+i]' 'a')<rk key) else !decide (rk key<rk (g[base+i]' 'a')))=decide (i<k) by rw[xJ,f,iG]];show h
 have y:=v.1;show aT (r a C ?_);by_cases h0:a<k
 .dsimp only;rw[if_pos (iS h0)];show aT (iX (jq (Q:=λc j=>j=st/\c.1=none/\a+c.2.1<k/\k<=a+min c.2.2 (n-a)) (λi c j=>j=st/\c.1=none/\a+c.2.1<k/\i+1<=c.2.2) ?_ ?_ ⟨rfl,rfl,⋯,by show 0+1<=1;show gh _⟩) ?_)
  .rintro i ⟨c1,la,of⟩ j _ t ⟨rfl,b,d,f⟩;dsimp only at b d f ⊢;subst b;by_cases hd:of>=n-a
   .rw[if_pos hd];show bw ⟨rfl,rfl,d,by dsimp only;lia⟩
   rw[if_neg hd];show aT (r _ 'a' ?_);by_cases hm:a+of<k
   .simp![hm,decide_true,Av,fZ,eC];show bw ⟨rfl,rfl,hm,by dsimp only;lia⟩
   simp![hm,decide_false,IV,eG];show bw ⟨rfl,rfl,d,by dsimp only;ext⟩
  .rintro⟨c1,la,of⟩ j ⟨rfl,b,d,f⟩;show⟨rfl,b,d,by lia⟩
  rintro⟨c1,la,of⟩ j ⟨rfl,b,d,f⟩;dsimp only at b d f ⊢;subst b;show aT (iX (jq (Q:=λc l=>l=j/\c.1=none/\c.2.2=k) (λi c l=>l=j/\c.1=none/\c.2.1<=k/\k<=c.2.2/\c.2.2<=n/\c.2.2-c.2.1+i<=n) ?_ ?_ ⟨rfl,rfl,by dsimp only;trivial,⋯,by dsimp only;lia,by dsimp only;ext⟩) ?_)
  .rintro i ⟨c1,lo,m⟩ l _ t ⟨rfl,b,d,f,o,p⟩;dsimp only at b d f o p ⊢;subst b;by_cases hd:lo>=m
   .rw[if_pos hd];show bw ⟨rfl,rfl,by dsimp only;lia⟩
   rw[if_neg hd];show aT (r _ 'a' ?_);by_cases hm:lo+(m-lo)/2<k
   .dsimp only;rw[if_pos (iS hm)];show bw ⟨rfl,rfl,by dsimp only;trivial,f,o,by dsimp only;lia⟩
   dsimp only;rw[if_neg λz=>hm (nJ z)];show bw ⟨rfl,rfl,d,by dsimp only;cbv,by dsimp only;lia,by dsimp only;ext⟩
  .rintro⟨c1,lo,m⟩ l ⟨rfl,b,d,f,o,p⟩;show⟨rfl,b,by lia⟩
  rintro⟨c1,lo,m⟩ l ⟨rfl,b,d⟩;subst b d;show bw q
 dsimp only;rw[if_neg λz=>h0 (nJ z)];show aT (iX (jq (Q:=λc j=>j=st/\c.1=none/\k<=a-c.2.1/\c.2.1<=a/\a+1-min c.2.2 (a+1)<=k) (λi c j=>j=st/\c.1=none/\k<=a-c.2.1/\c.2.1<=a/\i+1<=c.2.2) ?_ ?_ ⟨rfl,rfl,by show k<=a-0;cbv,b9 _,by show 0+1<=1;show gh _⟩) ?_)
 .rintro i ⟨c1,la,of⟩ j _ t ⟨rfl,b,d,f,o⟩;dsimp only at b d f o ⊢;subst b;by_cases hd:of>=a+1
  .rw[if_pos hd];show bw ⟨rfl,rfl,d,f,by dsimp only;cbv⟩
  rw[if_neg hd];show aT (r _ 'a' ?_);by_cases hm:a-of<k
  .dsimp only;rw[if_pos (iS hm)];show bw ⟨rfl,rfl,d,f,by dsimp only;ext⟩
  dsimp only;rw[if_neg λz=>hm (nJ z)];show bw ⟨rfl,rfl,by dsimp only;cbv,by dsimp only;show AF ‹_›,by dsimp only;lia⟩
 .rintro⟨c1,la,of⟩ j ⟨rfl,b,d,f,o⟩;show⟨rfl,b,d,f,by lia⟩
 rintro⟨c1,la,of⟩ j ⟨rfl,b,d,f,o⟩;subst b;show aT (iX (jq (Q:=λc l=>l=j/\c.1=none/\c.2.2=k) (λi c l=>l=j/\c.1=none/\c.2.1<=k/\k<=c.2.2/\c.2.2<=n/\c.2.2-c.2.1+i<=n) ?_ ?_ ⟨rfl,rfl,⋯,⋯,by dsimp only;lia,by dsimp only;ext⟩) ?_)
 .rintro i ⟨c1,lo,m⟩ l _ t ⟨rfl,b,d,f,o,p⟩;dsimp only at b d f o p ⊢;subst b;by_cases hd:lo>=m
  .rw[if_pos hd];show bw ⟨rfl,rfl,by dsimp only;lia⟩
  rw[if_neg hd];show aT (r _ 'a' ?_);by_cases hm:lo+(m-lo)/2<k
  .dsimp only;rw[if_pos (iS hm)];show bw ⟨rfl,rfl,by dsimp only;trivial,f,o,by dsimp only;lia⟩
  dsimp only;rw[if_neg λz=>hm (nJ z)];show bw ⟨rfl,rfl,d,by dsimp only;cbv,by dsimp only;lia,by dsimp only;ext⟩
 .rintro⟨c1,lo,m⟩ l ⟨rfl,b,d,f,o,p⟩;show⟨rfl,b,by lia⟩
 rintro⟨c1,lo,m⟩ l ⟨rfl,b,d⟩;subst b d;show bw q
variable{α:Type}(rk:α->Int)
structure MI(a b out:List α)(ia ib:Nat):Prop where
 la:ia<=a.length
 lb:ib<=b.length
 pm:out.Perm (a.take ia++b.take ib)
 so:out.Pairwise λx y=>rk x<=rk y
 ga:∀x∈out,∀y∈a.drop ia,rk x<=rk y
 gb:∀x∈out,∀y∈b.drop ib,rk x<=rk y
variable{rk}
def MI.len(h:MI rk a b out d c):out.length=d+c:=by
 have:=h.pm.length_eq;rw[bP,cN,cN] at this;have:=h.la;have:=h.lb;cbv
def Yl{l:List α}:l.drop i=(l.drop i).take k++l.drop (i+k):=by
 rw[<-List.drop_drop,qm]
def MI.tG(h:MI rk a b out c f)(sa:a.Pairwise λx y=>rk x<=rk y)(i:c+k<=a.length)(j:∀x∈(a.drop c).take k,∀y∈b.drop f,rk x<=rk y):MI rk a b (out++(a.drop c).take k) (c+k) f:=by
 have e:(a.drop c).Pairwise λx y=>rk x<=rk y:=sa.sublist (Jn _ _)
 rw[Yl (k:=k),mn] at e;have g:=h.ga;rw[Yl (k:=k)] at g;show⟨i,h.lb,?_,?_,λx hx y d=>?_,λx hx y d=>?_⟩
 .rw[List.take_add];have:=h.pm.append_right ((a.drop c).take k);show this.trans ?_;rw[eF,eF];show vB _ vA
 .rw[mn];show⟨h.so,e.1,λx hx y d=>g x hx y (jn _ d)⟩
 .rcases bx.mp hx with hx | hx
  .exact g x hx y (fT _ d)
  show e.2.2 x hx y d
 rcases bx.mp hx with hx | hx
 .exact h.gb x hx y d
 show j x hx y d
theorem MI.swap(h:MI rk a b out d c):MI rk b a out c d:=⟨h.lb,h.la,h.pm.trans vA,h.so,h.gb,h.ga⟩
theorem MI.Dm(h:MI rk a b out d c)(e:b.Pairwise λx y=>rk x<=rk y)(f:c+k<=b.length)(g:∀x∈(b.drop c).take k,∀y∈a.drop d,rk x<=rk y):MI rk a b (out++(b.drop c).take k) d (c+k):=(h.swap.tG e f g).swap
def Xa{l:List α}(h):(l.drop i).take 1=[l[i]]:=by
 rw[qX h];rfl
def znk{l:List α}(s:l.Pairwise λx y=>rk x<=rk y)(h):∀y∈l.drop i,rk l[i]<=rk y:=by
 intro y a;rw[qX h] at a;rcases bE.mp a with rfl | a
 .exact fA _
 have b:(l.drop i).Pairwise λx y=>rk x<=rk y:=s.sublist (Jn _ _)
 rw[qX h,iV] at b;show b.1 y a
def MI.uG(h:MI rk a b out c d)(sa:a.Pairwise λx y=>rk x<=rk y)(g:b.Pairwise λx y=>rk x<=rk y)(f)(j:d<b.length)(e:rk a[c]<=rk b[d]):MI rk a b (out++[a[c]]) (c+1) d:=by
 have:=h.tG sa (k:=1) (by trivial) (λx hx y i=>by
  rw[Xa f] at hx;simp at hx;subst hx;show IK e (znk g j y i))
 rwa [Xa f] at this
theorem MI.za(h:MI rk a b out d c)(sa:a.Pairwise λx y=>rk x<=rk y)(f:b.Pairwise λx y=>rk x<=rk y)(i g)(e:rk b[c]<=rk a[d]):MI rk a b (out++[b[c]]) d (c+1):=(h.swap.uG f sa g i e).swap
def MI.Dh(h:MI rk a b out c d)(sa:a.Pairwise λx y=>rk x<=rk y)(j:b.Pairwise λx y=>rk x<=rk y)(e:∀x∈a.drop c,∀y∈b.drop d,rk x<=rk y) :
  (out++a.drop c++b.drop d).Perm (a++b)/\(out++a.drop c++b.drop d).Pairwise λx y=>rk x<=rk y:=by
 have i:=h.tG sa (k:=a.length-c) (by have:=h.la;cbv) (λx hx=>e x (rD hx));have m:(a.drop c).take (a.length-c)=a.drop c:=p9 ∅;rw[m] at i
 have f:=i.Dm j (k:=b.length-d) (by have:=h.lb;cbv) (λx hx y g=>by
  rw[show c+(a.length-c)=a.length by have:=h.la;cbv,Jj] at g;cases g)
 have l:(b.drop d).take (b.length-d)=b.drop d:=p9 ∅;rw[l] at f;show⟨?_,f.so⟩;have:=f.pm;rwa [show c+(a.length-c)=a.length by have:=h.la;cbv,show d+(b.length-d)=b.length by have:=h.lb;cbv,gk,gk] at this
def MI.Pl(h:MI rk a b out d c)(sa:a.Pairwise λx y=>rk x<=rk y)(f:b.Pairwise λx y=>rk x<=rk y)(e:∀x∈b.drop c,∀y∈a.drop d,rk x<=rk y) :
  (out++b.drop c++a.drop d).Perm (a++b)/\(out++b.drop c++a.drop d).Pairwise λx y=>rk x<=rk y:=by
 let⟨i,g⟩:=h.swap.Dh f sa e;show⟨i.trans vA,g⟩
abbrev ky(st:SortSt)(g:Nat):SortSt:=qc (kindOf st) (arrOf st) (pendingOf st) g (failedOf st)
variable{M:Model}{A:bh}{E:af->ai->Prop}{s:ai}
theorem yL{st:SortSt}(q:Q () st):wpS M A E s (liftM (rule x):StateT SortSt Sem Unit) Q st:=wpS_lift (mB ⟨rfl,q⟩)
def cv(rk:Keyed->Int)(l:List Keyed):Prop:=l.Pairwise λx y=>rk x<=rk y
def lI(rk:Keyed->Int)(a b r:Array Keyed):Prop:=r.toList.Perm (a.toList++b.toList)/\cv rk r.toList
structure Mw(rk:Keyed->Int)(a b out:Array Keyed)(ia ib:Nat):Prop where
 mi:MI rk a.toList b.toList out.toList ia ib
 la:ia+1<a.size
 lb:ib<b.size
section
variable{rk:Keyed->Int}{a b out:Array Keyed}{ia ib:Nat}
def FJ(a:Array Keyed)(i):(a.extract i a.size).toList=a.toList.drop i:=by
 rw[Ej];show p9 ∅
def VJ(a:Array Keyed)(i k):(a.extract i (i+k)).toList=(a.toList.drop i).take k:=by
 simp[DK]
def WH(a:Array Keyed):a.toList.drop a.size=[]:=by simp
def Bs(h:MI rk a.toList b.toList out.toList ia ib)(sa:cv rk a.toList)(d:cv rk b.toList)(f:ia=a.size\/ib=b.size):lI rk a b (out++a.extract ia a.size++b.extract ib b.size):=by
 let⟨i,g⟩:=h.Dh sa d (λx hx y c=>by
  rcases f with e | e
  .rw[e,WH] at hx;cases hx
  .rw[e,WH] at c;cases c)
 unfold lI cv;rw[nA,nA,FJ,FJ];show⟨i,g⟩
def Gf(h:MI rk a.toList b.toList out.toList ia ib)(sa:cv rk a.toList)(d:cv rk b.toList)(l:0<a.size)(k:ia+1=a.size)(g:∀x∈b,rk x<rk (a[a.size-1])):lI rk a b (out++b.extract ib b.size++a.extract ia a.size):=by
 let⟨j,i⟩:=h.Pl sa d (λx hx y c=>by
  have e:a.toList.drop ia=[a[a.size-1]]:=by
   have f:ia<a.toList.length:=by simp;lia
   rw[qX f,SE (by simp;cbv)];simp[show ia=a.size-1 by lia]
  rw[e] at c;simp at c;have:=g x (by simpa using ua hx);rw[c];show kd ‹_›)
 unfold lI cv;rw[nA,nA,FJ,FJ];show⟨j,i⟩
end
theorem uk(p):∀n,(∀i j,i<=j->j<n->p j=true->p i=true)->∃k,Cut p n k
 | 0,_=>⟨0,bB _,λi a=>absurd a (DQ i)⟩
 | n+1,h=>by
  let⟨k,k1,c⟩:=uk p n λi j d f=>h i j d 'a'
  cases b:p n with
  | true=>
   show⟨n+1,bB _,λi a=>⟨λ_=>a,λ_=>?_⟩⟩;show h i n 'a' (by show bB _) b
  | false=>
   show⟨k,by lia,λi a=>?_⟩;by_cases e:i=n
   .subst e;rw[b];show⟨λz=>(by cases z),λz=>by lia⟩
   show c i 'a'
abbrev dk:Keyed:=(jF,jF)
def iB{a:Array Keyed}(h):a.getD i dk=a[i]:=by simp[Ak,h]
def uq{rk:Keyed->Int}{a:Array Keyed}(sa:cv rk a.toList)(h:i<=j)(b:j<a.size):rk (a.getD i dk)<=rk (a.getD j dk):=by
 rw[iB b,iB (by show qh ‹_› ‹_›)];by_cases e:i=j
 .subst e;show fA _
 have:=Es.mp sa i j (by simp;show qh ‹_› ‹_›) (by simpa using b) 'a';trivial
def VI{a:Array Keyed}(h:i+k<=a.size)(hx:x∈(a.toList.drop i).take k):∃t,t<k/\x=a.getD (i+t) dk:=by
 let⟨t,b,e⟩:=qj hx;have c:t<k:=by simp at b;ext
 show⟨t,c,?_⟩;rw[iB 'a',<-e];simp
def VH{a:Array Keyed}(hx:x∈a.toList.drop i):∃t,i+t<a.size/\x=a.getD (i+t) dk:=by
 let⟨t,c,e⟩:=qj hx;have b:i+t<a.size:=by simp at c;ext
 show⟨t,b,?_⟩;rw[iB b,<-e];simp
theorem zzy{rk:Keyed->Int}{a:Array Keyed}(sa:cv rk a.toList)(b key):∃k,Cut (λi=>if false=true then decide (rk (a.getD (b+i) dk)<rk key) else !decide (rk key<rk (a.getD (b+i) dk))) (a.size-b) k:=
 uk _ _ λi j d c h=>by
  have:=uq (rk:=rk) sa (show b+i<=b+j by cbv) ⋯;simp![fZ,eC,lh,j5] at h ⊢;ext
theorem zyl{rk:Keyed->Int}{b:Array Keyed}(c:cv rk b.toList)(a key):∃k,Cut (λi=>if true=true then decide (rk (b.getD (a+i) dk)<rk key) else !decide (rk key<rk (b.getD (a+i) dk))) (b.size-a) k:=
 uk _ _ λi j e d h=>by
  have:=uq (rk:=rk) c (show a+i<=a+j by cbv) ⋯;simp![eG,iG] at h ⊢;ext
def MI.O0{rk:Keyed->Int}{a b out:Array Keyed}(h:MI rk a.toList b.toList out.toList c d)(sa:cv rk a.toList)(g:cv rk b.toList)(la:c<a.size)(lb)(e:Cut (λi=>if false=true then decide (rk (a.getD (c+i) dk)<rk b[d]) else !decide (rk b[d]<rk (a.getD (c+i) dk))) (a.size-c) k) :
  MI rk a.toList b.toList (out++a.extract c (c+k)).toList (c+k) d/\c+k<=a.size/\(c+k<a.size->rk b[d]<rk (a.getD (c+k) dk)):=by
 have p:=e.1;show⟨?_,by lia,λo=>?_⟩
 .rw[nA,VJ];show h.tG sa (by simp;lia) λx hx y j=>?_
  let⟨t,m,rfl⟩:=VI 'a' hx;let⟨u,l,rfl⟩:=VH j;have f:=(e.2 t (by show bK ‹_› ‹_›)).mpr m;have n:=uq (rk:=rk) g (show d<=d+u by cbv) l;rw[iB lb] at n;simp![fZ,eC,lh,j5] at f;ext
 have f:=mt (e.2 k 'a').mp (qf k);simpa using f
def MI.OZ{rk:Keyed->Int}{a b out:Array Keyed}(h:MI rk a.toList b.toList out.toList d c)(sa:cv rk a.toList)(g:cv rk b.toList)(la)(lb:c<=b.size)(e:Cut (λi=>if true=true then decide (rk (b.getD (c+i) dk)<rk a[d]) else !decide (rk a[d]<rk (b.getD (c+i) dk))) (b.size-c) k) :
  MI rk a.toList b.toList (out++b.extract c (c+k)).toList d (c+k)/\c+k<=b.size/\(c+k<b.size->rk a[d]<=rk (b.getD (c+k) dk)):=by
 have p:=e.1;show⟨?_,by lia,λo=>?_⟩
 .rw[nA,VJ];show h.Dm g (by simp;lia) λx hx y j=>?_
  let⟨t,m,rfl⟩:=VI 'a' hx;let⟨u,l,rfl⟩:=VH j;have f:=(e.2 t (by show bK ‹_› ‹_›)).mpr m;have n:=uq (rk:=rk) sa (show d<=d+u by cbv) l;rw[iB la] at n;simp![eG,iG] at f;ext
 have f:=mt (e.2 k 'a').mp (qf k);simpa using f
def VG{a:Type}{f:Nat->StateT SortSt Sem a}{c:Prop}{_:Decidable c}{x y:Nat}{Q:a->SortSt->Prop}{st:SortSt}(h:∀n,wpS M A E s (f n) Q st):wpS M A E s (if c then f x else f y) Q st:=by split<;>show h _
def VF{a:Type}{f:Array Keyed->Nat->StateT SortSt Sem a}{c c1:Prop}{_:Decidable c}{_:Decidable c1}{b:StateT SortSt Sem a}{o1 o0:Array Keyed}{i1 i0:Nat}{Q:a->SortSt->Prop}{st:SortSt}(P:Array Keyed->Nat->Prop)(h:∀o i,P o i->wpS M A E s (f o i) Q st)(j:c->c1->wpS M A E s b Q st)
  (g:c->¬c1->P o1 i1) (e:¬c->P o0 i0):wpS M A E s (if c then(if c1 then b else f o1 i1) else f o0 i0) Q st:=by
 split
 .rename_i d;split
  .rename_i h;show j d h
  rename_i z;show h _ _ (g d z)
 rename_i z;show h _ _ (e z)
def VE{b:Type}{f:Array Keyed->Nat->StateT SortSt Sem b}{c c1 a:Prop}{_:Decidable c}{_:Decidable c1}{_:Decidable a}{g e:StateT SortSt Sem b}{o1 o0:Array Keyed}{i1 i0:Nat}{Q:b->SortSt->Prop}{st:SortSt}(P:Array Keyed->Nat->Prop)(h:∀o i,P o i->wpS M A E s (f o i) Q st)
  (m:c->c1->wpS M A E s g Q st) (l:c->¬c1->a->wpS M A E s e Q st) (k:c->¬c1->¬a->P o1 i1) (j:¬c->P o0 i0):wpS M A E s (if c then(if c1 then g else if a then e else f o1 i1) else f o0 i0) Q st:=by
 split
 .rename_i d;split
  .rename_i h;show m d h
  rename_i z;split
  .rename_i y;show l d z y
  rename_i y;show h _ _ (k d z y)
 rename_i z;show h _ _ (j z)
def zlb{κ:SortKind}{ok:Keyed->Prop}{rk:Keyed->Int}(R:Rk M A E s κ ok rk){a b:Array Keyed}{Q:Array Keyed->SortSt->Prop}{st:SortSt}(L:kindOf st=κ)(I:∀x∈a,ok x)(ob:∀x∈b,ok x)(sa:cv rk a.toList)(m:cv rk b.toList)(w:0<a.size)(U:0<b.size)
  (h0:rk b[0]<rk a[0]) (G:∀x∈b,rk x<rk (a[a.size-1])) (q:∀(r:Array Keyed) g,r.toList.Perm (a.toList++b.toList)->cv rk r.toList->Q r (ky st g)):wpS M A E s (Xc a b) Q st:=by
 show aT (yL ?_);show aT (gL U ?_);have cR:st=ky st (gallopOf st):=rfl;have m0:MI rk a.toList b.toList (#[b[0]]:Array Keyed).toList 0 1:=by
  have n0:MI rk a.toList b.toList [] 0 0:=⟨b9 _,b9 _,by rfl,.nil,λx hx=>(by cases hx),λx hx=>(by cases hx)⟩
  have:=n0.za sa m (by simpa using w) (by simpa using U) (by simp![kK];show kd ‹_›);trivial
 by_cases c1:1=b.size
 .rw[if_pos 'l'];show bw ?_;let⟨g1,g2⟩:=Bs m0 sa m (.inr c1);show q _ _ g1 g2
 rw[if_neg (by simpa using c1)];by_cases Y:0+1=a.size
 .rw[if_pos 'l'];show bw ?_;let⟨g1,g2⟩:=Gf m0 sa m w Y G;show q _ _ g1 g2
 rw[if_neg (by simpa using Y)];show aT (oT ?_);let Q1:Option (Array Keyed)×Array Keyed×Nat×Nat×Nat->SortSt->Prop:=λc l=>∃g r,l=ky st g/\c.1\r/\lI rk a b r
 let I1:Nat->Option (Array Keyed)×Array Keyed×Nat×Nat×Nat->SortSt->Prop:=λi c l=>(∃g,l=ky st g)/\c.1=none/\Mw rk a b c.2.1 c.2.2.1 c.2.2.2.1/\i<c.2.1.size
 show aT (iX (jq (Q:=Q1) I1 ?_ ?_ ⟨⟨_,cR⟩,rfl,⟨m0,by dsimp only;lia,by dsimp only;lia⟩,by show gh _⟩) ?_)
 .rintro i ⟨c1,out,h,d,mg⟩ l _ fL ⟨⟨g,rfl⟩,n,f,hsz⟩;subst n;let Q2:Option (Array Keyed)×Array Keyed×Nat×Nat×Nat×Nat->SortSt->Prop:=λc l=>(l=ky st g)/\((∃r,c.1\r/\lI rk a b r)\/(c.1=none/\Mw rk a b c.2.1 c.2.2.1 c.2.2.2.1/\i+1<c.2.1.size))
  let I2:Nat->Option (Array Keyed)×Array Keyed×Nat×Nat×Nat×Nat->SortSt->Prop:=λj c l=>(l=ky st g)/\c.1=none/\Mw rk a b c.2.1 c.2.2.1 c.2.2.2.1/\i+j<c.2.1.size
  show aT (iX (jq (Q:=Q2) I2 ?_ ?_ ⟨rfl,rfl,f,⋯⟩) ?_)
  .rintro j ⟨c1,out,h,d,ac,C⟩ l _ OD ⟨rfl,n,f,hsz⟩;dsimp only at n f hsz ⊢;subst n;have la:=f.la;have lb:=f.lb;have ZG:h<a.toList.length:=by simp;show fc ‹_›
   have mX:d<b.toList.length:=by simpa using lb
   show aT (gL lb (aT (gL (show h<a.size by ext) (aT (R.lt _ _ _ _ (ob _ (lp _)) (I _ (lp _)) L ?_)))));by_cases Z:rk b[d]<rk (a[h]'⋯)
   .dsimp only;rw[if_pos (iS Z)];have p:=f.mi.za sa m ZG mX (by simp![kK];show kd ‹_›);rw[kK,<-o6] at p;show aT (gL lb ?_);by_cases u:d+1=b.size
    .rw[if_pos 'l'];show bw ⟨rfl,.inl ⟨_,rfl,Bs p sa m (.inr u)⟩⟩
    rw[if_neg (by simpa using u)];split
    .exact bw ⟨rfl,.inr ⟨rfl,⟨p,la,by dsimp only;lia⟩,by simp;lia⟩⟩
    show bw ⟨rfl,rfl,⟨p,la,by dsimp only;lia⟩,by simp;lia⟩
   dsimp only;rw[if_neg λz=>Z (nJ z)];have D:=f.mi.uG sa m ZG mX (by simp![kK];lia);rw[kK,<-o6] at D;show aT (gL (show h<a.size by ext) ?_);by_cases u:h+1+1=a.size
   .rw[if_pos 'l'];show bw ⟨rfl,.inl ⟨_,rfl,Gf D sa m w u G⟩⟩
   rw[if_neg (by simpa using u)];split
   .exact bw ⟨rfl,.inr ⟨rfl,⟨D,by dsimp only;lia,lb⟩,by simp;lia⟩⟩
   show bw ⟨rfl,rfl,⟨D,by dsimp only;lia,lb⟩,by simp;lia⟩
  .rintro⟨c1,out,h,d,ac,C⟩ l ⟨rfl,n,f,hsz⟩;show⟨rfl,.inr ⟨n,f,by lia⟩⟩
  rintro⟨c1,out,h,d,ac,C⟩ l ⟨rfl,N⟩;rcases N with⟨r,rfl,O⟩ | ⟨rfl,f,hsz⟩
  .exact bw ⟨g,r,rfl,rfl,O⟩
  show aT (yL ?_);let Q3:Option (Array Keyed)×Array Keyed×Nat×Nat×Nat×Nat×Nat->SortSt->Prop:=λc l=>(∃g,l=ky st g)/\((∃r,c.1\r/\lI rk a b r)\/(c.1=none/\Mw rk a b c.2.1 c.2.2.1 c.2.2.2.1/\i+1<c.2.1.size))
  let I3:Nat->Option (Array Keyed)×Array Keyed×Nat×Nat×Nat×Nat×Nat->SortSt->Prop:=λj c l=>(∃g,l=ky st g)/\c.1=none/\Mw rk a b c.2.1 c.2.2.1 c.2.2.2.1/\i+1<c.2.1.size
  show aT (iX (jq (Q:=Q3) I3 ?_ ?_ ⟨⟨_,rfl⟩,rfl,f,hsz⟩) ?_)
  .rintro j ⟨c1,out,h,d,mg,ac,C⟩ l _ OD ⟨⟨g,rfl⟩,n,f,hsz⟩;dsimp only at n f hsz ⊢;subst n;have la:=f.la;have lb:=f.lb;have ol:=f.mi.len;rw[cH] at ol;generalize mg-1=NZ;apply VG (x:=NZ) (y:=mg);intro mg2;show aT (nE (aT (gL lb ?_)));let⟨k,X⟩:=zzy sa h b[d];show aT (yO R L I (ob _ (lp _)) 'a' 'a' X ?_);dsimp only;let⟨v,m2,F⟩:=f.mi.O0 sa m (by show fc ‹_›) lb X;have S:¬k>0->h+k=h:=λz=>by lia
   generalize out++a.extract h (h+k)=o1 at v ⊢;have lo1:h<=h+k:=AH _ _;generalize h+k=i1 at v m2 F S lo1 ⊢;apply VE (o1:=o1) (i1:=i1) (o0:=out) (i0:=h) (λo i=>MI rk a.toList b.toList o.toList i d/\i+1<a.size/\h<=i/\rk b[d]<rk (a.getD i dk));rotate_left
   .exact λ_ e=>bw ⟨⟨_,rfl⟩,.inl ⟨_,rfl,Gf v sa m w (by simpa using e) G⟩⟩
   .exact λ_ _ e=>bw ⟨⟨_,rfl⟩,.inl ⟨_,rfl,Bs v sa m (.inl (by simpa using e))⟩⟩
   .intro _ u W;have u:¬i1+1=a.size:=by simpa using u
    have W:¬i1=a.size:=by simpa using W
    show⟨v,by lia,lo1,F 'a'⟩
   .intro z;have:=S z;rw[this] at F;show⟨f.mi,la,bB _,F (by show fc ‹_›)⟩
   rintro o t ⟨mo,li,lo,lr⟩;rw[iB (by show fc ‹_›)] at lr;have p:=mo.za sa m (show t<a.toList.length by simp;show fc ‹_›) (show d<b.toList.length by simpa using lb) (by simp![kK];show kd ‹_›);rw[kK,<-o6] at p;show aT (gL lb ?_);by_cases e3:d+1=b.size
   .rw[if_pos 'l'];show bw ⟨⟨_,rfl⟩,.inl ⟨_,rfl,Bs p sa m (.inr e3)⟩⟩
   rw[if_neg (by simpa using e3)];show aT (gL (show t<a.size by show fc ‹_›) ?_);let⟨k1,B⟩:=zyl m (d+1) (a[t]'(by show fc ‹_›));show aT (yO R L ob (I _ (lp _)) 'a' 'a' B ?_);dsimp only;let⟨n1,n2,n3⟩:=p.OZ sa m (by show fc ‹_›) (by trivial) B;have P:¬k1>0->d+1+k1=d+1:=λz=>by lia
   generalize o.push b[d]++b.extract (d+1) (d+1+k1)=o2 at n1 ⊢;generalize o.push b[d]=o3 at p ⊢;have ZA:d+1<=d+1+k1:=AH _ _;generalize d+1+k1=T at n1 n2 n3 P ZA ⊢;have Zz:d<d+1:=tW _;have J:d+1<b.size:=by lia
   generalize d+1=j0 at p n3 P ZA Zz J ⊢;apply VF (o1:=o2) (i1:=T) (o0:=o3) (i0:=j0) (λo j=>MI rk a.toList b.toList o.toList t j/\j<b.size/\d<j/\rk (a[t]'(by show fc ‹_›))<=rk (b.getD j dk));rotate_left
   .exact λ_ e=>bw ⟨⟨_,rfl⟩,.inl ⟨_,rfl,Bs n1 sa m (.inr (by simpa using e))⟩⟩
   .intro _ e;have e:¬T=b.size:=by simpa using e
    show⟨n1,by lia,by show bK ‹_› ‹_›,n3 'a'⟩
   .intro z;have:=P z;rw[this] at n3;show⟨p,J,Zz,n3 J⟩
   rintro o K ⟨NY,H,lo4,N3⟩;rw[iB H] at N3;have nn:=NY.uG sa m (show t<a.toList.length by simp;show fc ‹_›) (show K<b.toList.length by simpa using H) (by trivial);rw[kK,<-o6] at nn;show aT (gL (show t<a.size by show fc ‹_›) ?_);by_cases V:t+1+1=a.size
   .rw[if_pos 'l'];show bw ⟨⟨_,rfl⟩,.inl ⟨_,rfl,Gf nn sa m w V G⟩⟩
   rw[if_neg (by simpa using V)];have nl:=nn.len;rw[cH] at nl;split
   .exact bw ⟨⟨_,rfl⟩,.inr ⟨rfl,⟨nn,by dsimp only;lia,H⟩,by dsimp only;lia⟩⟩
   show bw ⟨⟨_,rfl⟩,rfl,⟨nn,by dsimp only;lia,H⟩,by dsimp only;lia⟩
  .rintro⟨c1,out,h,d,mg,ac,C⟩ l ⟨⟨g,rfl⟩,n,f,hsz⟩;show⟨⟨g,rfl⟩,.inr ⟨n,f,hsz⟩⟩
  rintro⟨c1,out,h,d,mg,ac,C⟩ l ⟨⟨g,rfl⟩,N⟩;rcases N with⟨r,rfl,O⟩ | ⟨rfl,f,hsz⟩
  .exact bw ⟨g,r,rfl,rfl,O⟩
  show aT (nE (bw ⟨⟨_,rfl⟩,rfl,f,hsz⟩))
 .rintro⟨c1,out,h,d,mg⟩ l ⟨⟨g,rfl⟩,n,f,hsz⟩;exfalso
  have h1:=f.mi.len;have h2:=f.la;have h3:=f.lb;rw[cH] at h1;lia
 rintro⟨c1,out,h,d,mg⟩ l ⟨g,r,rfl,rfl,g1,g2⟩;show bw (q r g g1 g2)
section
variable{α:Type}(rk:α->Int)
structure MH(a b out:List α)(na nb:Nat):Prop where
 la:na<=a.length
 lb:nb<=b.length
 pm:out.reverse.Perm (a.drop na++b.drop nb)
 so:out.reverse.Pairwise λx y=>rk x<=rk y
 ga:∀y∈a.take na,∀x∈out,rk y<=rk x
 gb:∀y∈b.take nb,∀x∈out,rk y<=rk x
variable{rk}
def MH.len(h:MH rk a b out d c):out.length+d+c=a.length+b.length:=by
 have:=h.pm.length_eq;rw[bP,o4,o4,List.length_reverse] at this;have:=h.la;have:=h.lb;lia
theorem MH.swap(h:MH rk a b out d c):MH rk b a out c d:=⟨h.lb,h.la,h.pm.trans vA,h.so,h.gb,h.ga⟩
def Yk{l:List α}(a:t<=n):l.take n=l.take t++(l.take n).drop t:=by
 have:=(qm t (l.take n)).symm;rwa [List.take_take,mE a] at this
def MH.tG(h:MH rk a b out c g)(sa:a.Pairwise λx y=>rk x<=rk y)(i:t<=c)(k:∀x∈(a.take c).drop t,∀y∈b.take g,rk y<=rk x):MH rk a b (out++((a.take c).drop t).reverse) t g:=by
 have l:=h.la;have f:(a.take c).Pairwise λx y=>rk x<=rk y:=sa.sublist (AK _ _)
 rw[Yk i,mn] at f;have ga:=h.ga;rw[Yk i] at ga;have j:(out++((a.take c).drop t).reverse).reverse=(a.take c).drop t++out.reverse:=by rw[List.reverse_append,List.reverse_reverse]
 show⟨by show bK ‹_› ‹_›,h.lb,?_,?_,λy d x hx=>?_,λy d x hx=>?_⟩
 .rw[j];show(h.pm.append_left _).trans ?_;rw[<-eF];show JH _ ?_;have:a.drop t=(a.take c).drop t++a.drop c:=by
   have e:a=a.take c++a.drop c:=(qm c a).symm;rw[show a.drop t=(a.take c++a.drop c).drop t by rw[<-e],EB (by simp;lia)]
  rw[this]
 .rw[j,mn];show⟨f.2.1,h.so,λx hx y d=>ga x (fT _ hx) y (Ji.mp d)⟩
 .rcases bx.mp hx with hx | hx
  .exact ga y (jn _ d) x hx
  show f.2.2 y d x (Ji.mp hx)
 rcases bx.mp hx with hx | hx
 .exact h.gb y d x hx
 show k x (Ji.mp hx) y d
theorem MH.Dm(h:MH rk a b out d c)(e:b.Pairwise λx y=>rk x<=rk y)(f:t<=c)(g:∀x∈(b.take c).drop t,∀y∈a.take d,rk y<=rk x):MH rk a b (out++((b.take c).drop t).reverse) d t:=(h.swap.tG e f g).swap
def Xy{l:List α}(h):(l.take (n+1)).drop n=[l[n]]:=by
 rw[fG,cA h,EB (by simp;lia),SE (by rw[cN];lia)];rfl
def znl{l:List α}(s:l.Pairwise λx y=>rk x<=rk y)(h):∀y∈l.take (n+1),rk y<=rk l[n]:=by
 intro y a;let⟨i,b,rfl⟩:=qj a;have c:i<=n:=by simp at b;lia
 rw[D6];by_cases e:i=n
 .subst e;show fA _
 show Es.mp s i n (by show qh ‹_› ‹_›) h 'a'
def MH.uG(h:MH rk a b out (c+1) (d+1))(sa:a.Pairwise λx y=>rk x<=rk y)(g:b.Pairwise λx y=>rk x<=rk y)(f j)(e:rk b[d]<=rk a[c]):MH rk a b (out++[a[c]]) c (d+1):=by
 have:=h.tG sa (t:=c) (by show iZ _) (λx hx y i=>by
  rw[Xy f] at hx;simp at hx;subst hx;show IK (znl g j y i) e)
 rwa [Xy f] at this
theorem MH.za(h:MH rk a b out (d+1) (c+1))(sa:a.Pairwise λx y=>rk x<=rk y)(f:b.Pairwise λx y=>rk x<=rk y)(i)(g:c<b.length)(e:rk a[d]<=rk b[c]):MH rk a b (out++[b[c]]) (d+1) c:=(h.swap.uG f sa g i e).swap
def MH.Dh(h:MH rk a b out d c)(sa:a.Pairwise λx y=>rk x<=rk y)(j:b.Pairwise λx y=>rk x<=rk y)(g:∀x∈a.take d,∀y∈b.take c,rk x<=rk y) :
  (a.take d++b.take c++out.reverse).Perm (a++b)/\(a.take d++b.take c++out.reverse).Pairwise λx y=>rk x<=rk y:=by
 have k:=h.Dm j (t:=0) (b9 _) (λx hx y f=>g y f x (by trivial));have i:=k.tG sa (t:=0) (b9 _) (λx hx y f=>by simp at f);have e:(out++((b.take c).drop 0).reverse++((a.take d).drop 0).reverse).reverse=a.take d++b.take c++out.reverse:=by simp
 have p:=i.pm;have s:=i.so;rw[e] at p s;show⟨by trivial,s⟩
def MH.Pl(h:MH rk a b out d c)(sa:a.Pairwise λx y=>rk x<=rk y)(f:b.Pairwise λx y=>rk x<=rk y)(e:∀x∈b.take c,∀y∈a.take d,rk x<=rk y) :
  (b.take c++a.take d++out.reverse).Perm (a++b)/\(b.take c++a.take d++out.reverse).Pairwise λx y=>rk x<=rk y:=by
 let⟨i,g⟩:=h.swap.Dh f sa e;show⟨i.trans vA,g⟩
end
def Fp(a:Array Keyed)(n):(a.extract 0 n).toList=a.toList.take n:=by
 simp[DK]
def WG(a:Array Keyed)(h:n<=a.size):(a.extract t n).toList=(a.toList.take n).drop t:=by
 rw[Ej];rw[List.drop_take]
structure Mv(rk:Keyed->Int)(a b out:Array Keyed)(na nb:Nat):Prop where
 mh:MH rk a.toList b.toList out.toList na nb
 la:0<na
 lb:1<nb
section
variable{rk:Keyed->Int}{a b out:Array Keyed}
def BG(h:MH rk a.toList b.toList out.toList na nb)(sa:cv rk a.toList)(d:cv rk b.toList)(f:na=0\/nb=0):lI rk a b (a.extract 0 na++b.extract 0 nb++out.reverse):=by
 let⟨i,g⟩:=h.Dh sa d (λx hx y c=>by
  rcases f with e | e
  .rw[e] at hx;simp at hx
  .rw[e] at c;simp at c)
 unfold lI cv;rw[nA,nA,Fp,Fp,Ei];show⟨i,g⟩
def Gs(h:MH rk a.toList b.toList out.toList na nb)(sa:cv rk a.toList)(c:cv rk b.toList)(i)(g:nb=1)(l:∀x∈a,rk b[0]<rk x):lI rk a b (b.extract 0 nb++a.extract 0 na++out.reverse):=by
 let⟨k,j⟩:=h.Pl sa c (λx hx y d=>by
  have e:b.toList.take nb=[b[0]]:=by
   have f:0<b.toList.length:=by simpa using i
   rw[g,fG,cA f];simp
  rw[e] at hx;simp at hx;subst hx;have:=l y (by simpa using rD d);show kd ‹_›)
 unfold lI cv;rw[nA,nA,Fp,Fp,Ei];show⟨k,j⟩
def LQ(d:n<=a.size)(hx:x∈(a.toList.take n).drop t):∃u,t<=u/\u<n/\x=a.getD u dk:=by
 let⟨u,c,e⟩:=qj hx;have b:t+u<n:=by simp at c;lia
 show⟨t+u,by cbv,b,?_⟩;rw[iB (by show bK ‹_› ‹_›),<-e];simp
def UX(b:n<=a.size)(hx:x∈a.toList.take n):∃u,u<n/\x=a.getD u dk:=by
 let⟨u,z,d,c⟩:=LQ (a:=a) (t:=0) b (x:=x) (by trivial);show⟨u,d,c⟩
def MH.O0(h:MH rk a.toList b.toList out.toList na (c+1))(sa:cv rk a.toList)(j:cv rk b.toList)(lb)(d:Cut (λi=>if false=true then decide (rk (a.getD (0+i) dk)<rk b[c]) else !decide (rk b[c]<rk (a.getD (0+i) dk))) na t) :
  MH rk a.toList b.toList (out++(a.extract t na).reverse).toList t (c+1)/\t<=na/\∀u,u+1=t->rk (a.getD u dk)<=rk b[c]:=by
 have f:=h.la;show⟨?_,d.1,λu n=>?_⟩
 .rw[nA,Ei,WG a f];show h.tG sa d.1 λx hx y k=>?_
  let⟨u,m,g,rfl⟩:=LQ f hx;let⟨v,v1,rfl⟩:=UX (by trivial) k;have e:=mt (d.2 u g).mp 'g';have l:=uq (rk:=rk) j (show v<=c by lia) lb;rw[iB lb] at l;simp![fZ,eC,lh,j5,lD] at e;ext
 have:=d.1;have e:=(d.2 u 'a').mpr 'a';simpa using e
def MH.OZ(h:MH rk a.toList b.toList out.toList (c+1) nb)(sa:cv rk a.toList)(j:cv rk b.toList)(la)(d:Cut (λi=>if true=true then decide (rk (b.getD (0+i) dk)<rk a[c]) else !decide (rk a[c]<rk (b.getD (0+i) dk))) nb t) :
  MH rk a.toList b.toList (out++(b.extract t nb).reverse).toList (c+1) t/\t<=nb/\∀u,u+1=t->rk (b.getD u dk)<rk a[c]:=by
 have f:=h.lb;show⟨?_,d.1,λu n=>?_⟩
 .rw[nA,Ei,WG b f];show h.Dm j d.1 λx hx y k=>?_
  let⟨u,m,g,rfl⟩:=LQ f hx;let⟨v,v1,rfl⟩:=UX (by trivial) k;have e:=mt (d.2 u g).mp 'g';have l:=uq (rk:=rk) sa (show v<=c by lia) la;rw[iB la] at l;simp![eG,iG,lD] at e;ext
 have:=d.1;have e:=(d.2 u 'a').mpr 'a';simpa using e
end
theorem zym{rk:Keyed->Int}{a:Array Keyed}(sa:cv rk a.toList)(b:n<=a.size)(key):∃k,Cut (λi=>if false=true then decide (rk (a.getD (0+i) dk)<rk key) else !decide (rk key<rk (a.getD (0+i) dk))) n k:=
 uk _ _ λi j d c h=>by
  have:=uq (rk:=rk) sa (show 0+i<=0+j by cbv) 'a';simp![fZ,eC,lh,j5] at h ⊢;ext
theorem zyn{rk:Keyed->Int}{b:Array Keyed}(a:cv rk b.toList)(c:n<=b.size)(key):∃k,Cut (λi=>if true=true then decide (rk (b.getD (0+i) dk)<rk key) else !decide (rk key<rk (b.getD (0+i) dk))) n k:=
 uk _ _ λi j e d h=>by
  have:=uq (rk:=rk) a (show 0+i<=0+j by cbv) 'a';simp![eG,iG] at h ⊢;ext
variable{M:Model}{A:bh}{E:af->ai->Prop}{s:ai}
def zlc{κ:SortKind}{ok:Keyed->Prop}{rk:Keyed->Int}(R:Rk M A E s κ ok rk){a b:Array Keyed}{Q:Array Keyed->SortSt->Prop}{st:SortSt}(J:kindOf st=κ)(F:∀x∈a,ok x)(ob:∀x∈b,ok x)(sa:cv rk a.toList)(h:cv rk b.toList)(ha:0<a.size)(C:0<b.size)
  (D:∀x∈a,rk b[0]<rk x) (h9:rk (b[b.size-1])<rk (a[a.size-1])) (q:∀(r:Array Keyed) g,r.toList.Perm (a.toList++b.toList)->cv rk r.toList->Q r (ky st g)):wpS M A E s (Xb a b) Q st:=by
 show aT (yL ?_);show aT (gL (show a.size-1<a.size by lia) ?_);have cR:st=ky st (gallopOf st):=rfl;have m0:MH rk a.toList b.toList (#[a[a.size-1]]:Array Keyed).toList (a.size-1) b.size:=by
  have n0:MH rk a.toList b.toList [] (a.size-1+1) (b.size-1+1):=⟨by simp;lia,by simp;lia,by
   rw[show a.size-1+1=a.size by lia,show b.size-1+1=b.size by lia];simp,.nil,λy _ x hx=>(by cases hx),λy _ x hx=>(by cases hx)⟩
  have:=n0.uG sa h (by simp;lia) (by simp;lia) (by simp![kK];show kd ‹_›);rw[show b.size-1+1=b.size by lia] at this;trivial
 by_cases c1:a.size-1=0
 .rw[if_pos 'l'];show bw ?_;let⟨g1,g2⟩:=BG m0 sa h (.inl c1);show q _ _ g1 g2
 rw[if_neg (by simpa using c1)];by_cases V:b.size=1
 .rw[if_pos 'l'];show bw ?_;let⟨g1,g2⟩:=Gs m0 sa h C V D;show q _ _ g1 g2
 rw[if_neg (by simpa using V)];show aT (oT ?_);let Q1:Option (Array Keyed)×Nat×Nat×Array Keyed×Nat->SortSt->Prop:=λc f=>∃g r,f=ky st g/\c.1\r/\lI rk a b r
 let I1:Nat->Option (Array Keyed)×Nat×Nat×Array Keyed×Nat->SortSt->Prop:=λi c f=>(∃g,f=ky st g)/\c.1=none/\Mv rk a b c.2.2.2.1 c.2.1 c.2.2.1/\i<c.2.2.2.1.size
 show aT (iX (jq (Q:=Q1) I1 ?_ ?_ ⟨⟨_,cR⟩,rfl,⟨m0,by dsimp only;lia,by dsimp only;lia⟩,by show gh _⟩) ?_)
 .rintro i ⟨c1,na,nb,out,mg⟩ f _ fL ⟨⟨g,rfl⟩,k,d,hsz⟩;subst k;let Q2:Option (Array Keyed)×Nat×Nat×Array Keyed×Nat×Nat->SortSt->Prop:=λc f=>(f=ky st g)/\((∃r,c.1\r/\lI rk a b r)\/(c.1=none/\Mv rk a b c.2.2.2.1 c.2.1 c.2.2.1/\i+1<c.2.2.2.1.size))
  let I2:Nat->Option (Array Keyed)×Nat×Nat×Array Keyed×Nat×Nat->SortSt->Prop:=λj c f=>(f=ky st g)/\c.1=none/\Mv rk a b c.2.2.2.1 c.2.1 c.2.2.1/\i+j<c.2.2.2.1.size
  show aT (iX (jq (Q:=Q2) I2 ?_ ?_ ⟨rfl,rfl,d,⋯⟩) ?_)
  .rintro j ⟨c1,na,nb,out,ac,w⟩ f _ OD ⟨rfl,k,d,hsz⟩;dsimp only at k d hsz ⊢;subst k;have la:=d.la;have lb:=d.lb;have I:=d.mh.la;have p:=d.mh.lb;rw[cH] at I p;obtain⟨na,rfl⟩:∃n,na=n+1:=⟨na-1,by lia⟩
   obtain⟨nb,rfl⟩:∃n,nb=n+1:=⟨nb-1,by lia⟩
   dsimp +instances only [Sb]
   show aT (gL (show nb<b.size by trivial) (aT (gL (show na<a.size by trivial) (aT (R.lt _ _ _ _ (ob _ (lp _)) (F _ (lp _)) J ?_)))));by_cases W:rk (b[nb]'(by trivial))<rk (a[na]'(by trivial))
   .dsimp only;rw[if_pos (iS W)];have B:=d.mh.uG sa h (show na<a.toList.length by simp;trivial) (show nb<b.toList.length by simp;trivial) (by simp![kK];show kd ‹_›);rw[kK,<-o6] at B;show aT (gL (show na<a.size by trivial) ?_);by_cases m:na=0
    .rw[if_pos 'l'];show bw ⟨rfl,.inl ⟨_,rfl,BG B sa h (.inl m)⟩⟩
    rw[if_neg (by simpa using m)];split
    .exact bw ⟨rfl,.inr ⟨rfl,⟨B,by dsimp only;lia,lb⟩,by simp;lia⟩⟩
    show bw ⟨rfl,rfl,⟨B,by dsimp only;lia,lb⟩,by simp;lia⟩
   dsimp only;rw[if_neg λz=>W (nJ z)];have l:=d.mh.za sa h (show na<a.toList.length by simp;trivial) (show nb<b.toList.length by simp;trivial) (by simp![kK];ext);rw[kK,<-o6] at l;show aT (gL (show nb<b.size by trivial) ?_);by_cases m:nb=1
   .rw[if_pos 'l'];show bw ⟨rfl,.inl ⟨_,rfl,Gs l sa h C m D⟩⟩
   rw[if_neg (by simpa using m)];split
   .exact bw ⟨rfl,.inr ⟨rfl,⟨l,la,by dsimp only;lia⟩,by simp;lia⟩⟩
   show bw ⟨rfl,rfl,⟨l,la,by dsimp only;lia⟩,by simp;lia⟩
  .rintro⟨c1,na,nb,out,ac,w⟩ f ⟨rfl,k,d,hsz⟩;show⟨rfl,.inr ⟨k,d,by lia⟩⟩
  rintro⟨c1,na,nb,out,ac,w⟩ f ⟨rfl,K⟩;rcases K with⟨r,rfl,L⟩ | ⟨rfl,d,hsz⟩
  .exact bw ⟨g,r,rfl,rfl,L⟩
  show aT (yL ?_);let Q3:Option (Array Keyed)×Nat×Nat×Array Keyed×Nat×Nat×Nat->SortSt->Prop:=λc f=>(∃g,f=ky st g)/\((∃r,c.1\r/\lI rk a b r)\/(c.1=none/\Mv rk a b c.2.2.2.1 c.2.1 c.2.2.1/\i+1<c.2.2.2.1.size))
  let I3:Nat->Option (Array Keyed)×Nat×Nat×Array Keyed×Nat×Nat×Nat->SortSt->Prop:=λj c f=>(∃g,f=ky st g)/\c.1=none/\Mv rk a b c.2.2.2.1 c.2.1 c.2.2.1/\i+1<c.2.2.2.1.size
  show aT (iX (jq (Q:=Q3) I3 ?_ ?_ ⟨⟨_,rfl⟩,rfl,d,hsz⟩) ?_)
  .rintro j ⟨c1,na,nb,out,mg,ac,w⟩ f _ OD ⟨⟨g,rfl⟩,k,d,hsz⟩;dsimp only at k d hsz ⊢;subst k;have la:=d.la;have lb:=d.lb;have X:=d.mh.la;have N:=d.mh.lb;have ol:=d.mh.len;simp![cH] at X N ol;obtain⟨nb,rfl⟩:∃n,nb=n+1:=⟨nb-1,by lia⟩
   have p:nb<b.size:=by trivial
   generalize mg-1=NZ;apply VG (x:=NZ) (y:=mg);intro mg2;show aT (nE (aT (gL p ?_)));let⟨t,ct⟩:=zym sa X b[nb];show aT (yO R J F (ob _ (lp _)) 'a' 'a' ct ?_);dsimp only;let⟨H,m2,G⟩:=d.mh.O0 sa h p ct;generalize OO:na-t=ac2;generalize out++(a.extract t na).reverse=o1 at H ⊢;apply VF (o1:=o1) (i1:=t) (o0:=out) (i0:=na) (λo i=>MH rk a.toList b.toList o.toList i (nb+1)/\0<i/\i<=na/\∀u,u+1=i->rk (a.getD u dk)<=rk b[nb]);rotate_left
   .exact λ_ e=>bw ⟨⟨_,rfl⟩,.inl ⟨_,rfl,BG H sa h (.inl (by simpa using e))⟩⟩
   .intro _ e;have e:¬t=0:=by simpa using e
    show⟨H,by lia,m2,G⟩
   .intro z;have e:t=na:=by lia
    rw[e] at G;show⟨d.mh,⋯,bB _,G⟩
   rintro o O ⟨mo,pos,hle,lr⟩;obtain⟨t,rfl⟩:∃v,O=v+1:=⟨O-1,by lia⟩
   dsimp +instances only [Sb]
   have m4:=lr t rfl;rw[iB (by show bK ‹_› ‹_›)] at m4;have l:=mo.za sa h (show t<a.toList.length by simp;show bK ‹_› ‹_›) (show nb<b.toList.length by simpa using p) (by trivial);rw[kK,<-o6] at l;show aT (gL p ?_);by_cases e3:nb=1
   .rw[if_pos 'l'];show bw ⟨⟨_,rfl⟩,.inl ⟨_,rfl,Gs l sa h C e3 D⟩⟩
   rw[if_neg (by simpa using e3)];show aT (gL (show t<a.size by show bK ‹_› ‹_›) ?_);let⟨u,U⟩:=zyn h (show nb<=b.size by show fc ‹_›) (a[t]'(by show bK ‹_› ‹_›));show aT (yO R J ob (F _ (lp _)) 'a' 'a' U ?_);dsimp only;let⟨n1,n2,n3⟩:=l.OZ sa h (by show bK ‹_› ‹_›) U;generalize hbc:nb-u=bc2;generalize o.push b[nb]++(b.extract u nb).reverse=Z at n1 ⊢;generalize o.push b[nb]=Y at l ⊢;apply VE (o1:=Z) (i1:=u) (o0:=Y) (i0:=nb) (λo j=>MH rk a.toList b.toList o.toList (t+1) j/\1<j/\j<=nb/\∀v,v+1=j->rk (b.getD v dk)<rk (a[t]'(by show bK ‹_› ‹_›)));rotate_left
   .exact λ_ e=>bw ⟨⟨_,rfl⟩,.inl ⟨_,rfl,Gs n1 sa h C (by simpa using e) D⟩⟩
   .exact λ_ _ e=>bw ⟨⟨_,rfl⟩,.inl ⟨_,rfl,BG n1 sa h (.inr (by simpa using e))⟩⟩
   .intro _ m T;have m:¬u=1:=by simpa using m
    have T:¬u=0:=by simpa using T
    show⟨n1,by lia,n2,n3⟩
   .intro z;have e:u=nb:=by lia
    rw[e] at n3;show⟨l,by lia,bB _,n3⟩
   rintro o P ⟨NY,gt1,le2,N3⟩;obtain⟨u,rfl⟩:∃v,P=v+1:=⟨P-1,by lia⟩
   have n4:=N3 u rfl;rw[iB 'a'] at n4;have nn:=NY.uG sa h (show t<a.toList.length by simp;show bK ‹_› ‹_›) (show u<b.toList.length by simp;lia) (by show kd ‹_›);rw[kK,<-o6] at nn;show aT (gL (show t<a.size by show bK ‹_› ‹_›) ?_);by_cases S:t=0
   .rw[if_pos 'l'];show bw ⟨⟨_,rfl⟩,.inl ⟨_,rfl,BG nn sa h (.inl S)⟩⟩
   rw[if_neg (by simpa using S)];have nl:=nn.len;simp![cH] at nl;split
   .exact bw ⟨⟨_,rfl⟩,.inr ⟨rfl,⟨nn,by dsimp only;lia,⋯⟩,by dsimp only;ext⟩⟩
   show bw ⟨⟨_,rfl⟩,rfl,⟨nn,by dsimp only;lia,⋯⟩,by dsimp only;ext⟩
  .rintro⟨c1,na,nb,out,mg,ac,w⟩ f ⟨⟨g,rfl⟩,k,d,hsz⟩;show⟨⟨g,rfl⟩,.inr ⟨k,d,hsz⟩⟩
  rintro⟨c1,na,nb,out,mg,ac,w⟩ f ⟨⟨g,rfl⟩,K⟩;rcases K with⟨r,rfl,L⟩ | ⟨rfl,d,hsz⟩
  .exact bw ⟨g,r,rfl,rfl,L⟩
  show aT (nE (bw ⟨⟨_,rfl⟩,rfl,d,hsz⟩))
 .rintro⟨c1,na,nb,out,mg⟩ f ⟨⟨g,rfl⟩,k,d,hsz⟩;dsimp only at k d hsz ⊢;exfalso
  have h1:=d.mh.len;simp![cH] at h1;lia
 rintro⟨c1,na,nb,out,mg⟩ f ⟨g,r,rfl,rfl,g1,g2⟩;show bw (q r g g1 g2)
theorem zld(i:Nat):mergeAt' i=(do
 let s <-get
 let(some (sa,na,power),some (b,nb,_)):=((pendingOf s)[i]?,(pendingOf s)[i+1]?) | unsupported "internal:list.sort.pending"
 set (setPending s (((pendingOf s).setIfInBounds i (sa,na+nb,power)).eraseIdxIfInBounds (i+1)))
 let some k <-Lr false (<-elem' (arrOf s) b) (arrOf s) sa na 0 | return false
 let(sa,na):=(sa+k,na-k)
 if na==0 then return true
 let some nb <-Lr true (<-elem' (arrOf s) (sa+na-1)) (arrOf s) b nb (nb-1) | return false
 if nb==0 then return true
 let x:=(arrOf s).extract sa b
 let y:=(arrOf s).extract b (b+nb)
 let merged <-if na<=nb then Xc x y else Xb x y
 modify λs=>setArr s (merged.toList.zipIdx.foldl (λa (p,j)=>a.setIfInBounds (sa+j) p) (arrOf s))
 return (failedOf (<-get)).isNone):=rfl
variable{M:Model}{A:bh}{E:af->ai->Prop}{s:ai}
theorem Xx(b):∀(m l:List Keyed) k,b+k+m.length<=l.length->
  (m.zipIdx k).foldl (λ(a:Array Keyed)(q:Keyed×Nat)=>a.setIfInBounds (b+q.2) q.1) l.toArray=(l.take (b+k)++m++l.drop (b+k+m.length)).toArray
 | [],l,k,h=>by simp
 | x::m,l,k,h=>by
  simp![cZ] at h;rw[Jh,xH];rw[show l.toArray.setIfInBounds (b+k) x=(l.set (b+k) x).toArray by simp];rw[Xx b m (l.set (b+k) x) (k+1) (by rw[mF];lia)];congr 1
  have c:(l.set (b+k) x).take (b+(k+1))=l.take (b+k)++[x]:=by
   rw[show b+(k+1)=b+k+1 by rfl,fG,List.take_set,Em 'a'];rw[List.set_eq_of_length_le (by simp;lia)];rfl
  rw[c,List.drop_set_of_lt 'a'];simp![cZ,eF,mG,rn];rw[show b+(k+1)+m.length=b+k+(m.length+1) by lia]
theorem zuD{st:SortSt}(q:Q ⟨⟩ x):wpS M A E s (set x:StateT SortSt Sem PUnit) Q st:=nE (f:=λ_=>x) q
def Fo{rk:Keyed->Int}(h:cv rk l)(b:i<=j)(a:j<l.length):rk (l[i]'(by show qh ‹_› ‹_›))<=rk l[j]:=by
 by_cases e:i=j
 .subst e;show fA _
 show Es.mp h i j (by show qh ‹_› ‹_›) a 'a'
theorem cv.app{rk:Keyed->Int}(b:cv rk l)(a:cv rk m)(h:∀x∈l,∀y∈m,rk x<=rk y):cv rk (l++m):=mn.mpr ⟨b,a,h⟩
def zle{rk:Keyed->Int}(R:Rk M A E s κ ok rk){st:SortSt}(l:kindOf st=κ)(T:failedOf st=none)(O:∀x∈arrOf st,ok x)
  (dec:(arrOf st).toList=P++(X++(Y++S))) (p1:(pendingOf st)[i]?\(P.length,X.length,p)) (p2:(pendingOf st)[i+1]?\(P.length+X.length,Y.length,pb)) (ha:0<X.length) (hb:0<Y.length) (o:cv rk X) (n:cv rk Y)
  (q:∀Z g,Z.Perm (X++Y)->cv rk Z->Q true (qc κ (P++(Z++S)).toArray (((pendingOf st).setIfInBounds i (P.length,X.length+Y.length,p)).eraseIdxIfInBounds (i+1)) g none)):wpS M A E s (mergeAt' i) Q st:=by
 rw[zld];show aT (oT ?_);rw[p1,p2];show aT (zuD ?_);have hsz:(arrOf st).size=P.length+(X.length+(Y.length+S.length)):=by rw[<-cH,dec];simp
 have H:arrOf st=(P++(X++(Y++S))).toArray:=by rw[<-dec]
 have D:∀t,(h:t<X.length)->(arrOf st).getD (P.length+t) dk=X[t]:=λt h=>by
  rw[iB 'a'];simp[H,JQ,SW,h]
 have C:∀t,(h:t<Y.length)->(arrOf st).getD (P.length+X.length+t) dk=Y[t]:=λt h=>by
  rw[iB 'a'];have e2:P.length+X.length+t-P.length-X.length=t:=by ext
  simp![H,List.getElem_toArray];rw[JQ 'a',JQ 'a',SW 'g'];congr 1
 have W:(arrOf st)[P.length+X.length]' 'a'=Y[0]:=by
  have:=C 0 hb;rw[iB 'a'] at this;simpa using this
 show aT (gL (show P.length+X.length<(arrOf st).size by ext) ?_);rw[W]
 have G:∀x,x∈P\/x∈X\/x∈Y\/x∈S->ok x:=λx hx=>O x (by
  rw[<-ql,dec];simp![bx];show hx)
 obtain⟨k,J⟩:∃k,Cut (λi=>if false=true then decide (rk ((arrOf st).getD (P.length+i) dk)<rk Y[0]) else !decide (rk Y[0]<rk ((arrOf st).getD (P.length+i) dk))) X.length k:=by
  show uk _ _ λi j dX B h=>?_
  have:=Fo o dX B;rw[D j B] at h;rw[D i (by show qh ‹_› ‹_›)];simp![fZ,eC,lh,j5] at h ⊢;ext
 have F:=J.1;show aT (yO R l O (G _ (.inr (.inr (.inl (gP _))))) 'g' ha J ?_);dsimp only;have K:∀x∈X.take k,∀y∈Y,rk x<=rk y:=λx hx y v=>by
  let⟨t,f,rfl⟩:=qj hx;let⟨u,hu,rfl⟩:=qj v;have c:t<k:=by simp at f;cbv
  have b:=(J.2 t (by show bK ‹_› ‹_›)).mpr c;dsimp only at b;rw[D t (by show bK ‹_› ‹_›)] at b;have h2:=Fo n (b9 u) hu;simp![fZ,eC,lh,j5] at b;rw[D6];ext
 have x2:∀x∈X.drop k,rk Y[0]<rk x:=λx hx=>by
  let⟨t,f,rfl⟩:=qj hx;have c:k+t<X.length:=by simp at f;lia
  have b:=mt (J.2 (k+t) c).mp 'g';dsimp only at b;rw[D _ c] at b;simpa using b
 have same:∀g,qc κ (P++((X++Y)++S)).toArray (((pendingOf st).setIfInBounds i (P.length,X.length+Y.length,p)).eraseIdxIfInBounds (i+1)) g none=qc κ (arrOf st) (((pendingOf st).setIfInBounds i (P.length,X.length+Y.length,p)).eraseIdxIfInBounds (i+1)) g none:=λg=>by
  rw[H];simp
 have whole:cv rk (X++Y)->Q true (setPending st (((pendingOf st).setIfInBounds i (P.length,X.length+Y.length,p)).eraseIdxIfInBounds (i+1))):=λh=>by
  have:=q (X++Y) (gallopOf st) (DP _) h;rw[same] at this;show Q true (qc (kindOf st) (arrOf st) _ (gallopOf st) (failedOf st));rw[l,T];show this
 by_cases e1:X.length-k=0
 .rw[if_pos 'l'];show bw (whole (o.app n λx hx=>K x ?_));rw[p9 'a'];show hx
 rw[if_neg (by simpa using e1)];have gl:(arrOf st)[P.length+k+(X.length-k)-1]'⋯=X[X.length-1]:=by
  have:=D (X.length-1) 'a';rw[iB 'a'] at this;rw[<-this];congr 1
  lia
 show aT (gL (show P.length+k+(X.length-k)-1<(arrOf st).size by ext) ?_);rw[gl];obtain⟨m,I⟩:∃m,Cut (λi=>if true=true then decide (rk ((arrOf st).getD (P.length+X.length+i) dk)<rk X[X.length-1]) else !decide (rk X[X.length-1]<rk ((arrOf st).getD (P.length+X.length+i) dk))) Y.length m:=by
  show uk _ _ λi j dX B h=>?_
  have:=Fo n dX B;rw[C j B] at h;rw[C i (by show qh ‹_› ‹_›)];simp![eG,iG] at h ⊢;ext
 have Pk:=I.1;show aT (yO R l O (G _ (.inr (.inl (gP _)))) 'a' ⋯ I ?_);dsimp only;have y1:∀y∈Y.take m,rk y<rk X[X.length-1]:=λy v=>by
  let⟨t,f,rfl⟩:=qj v;have c:t<m:=by simp at f;cbv
  have b:=(I.2 t (by show bK ‹_› ‹_›)).mpr c;dsimp only at b;rw[C t (by show bK ‹_› ‹_›)] at b;simpa using b
 have y2:∀x∈X,∀y∈Y.drop m,rk x<=rk y:=λx hx y v=>by
  let⟨t,f,rfl⟩:=qj v;let⟨u,hu,rfl⟩:=qj hx;have c:m+t<Y.length:=by simp at f;lia
  have b:=mt (I.2 (m+t) c).mp 'g';dsimp only at b;rw[C _ c] at b;have h2:=Fo o (show u<=X.length-1 by lia) 'a';rw[Jm];simp![eG,iG] at b;ext
 by_cases e2:m=0
 .rw[if_pos 'l'];show bw (whole (o.app n λx hx y v=>y2 x hx y ?_));rw[e2];trivial
 rw[if_neg (by simpa using e2)];have ex:((arrOf st).extract (P.length+k) (P.length+X.length)).toList=X.drop k:=by
  rw[Ej,dec];simp![DK];rw[AS,EB F,show P.length+X.length-(P.length+k)=(X.drop k).length by rw[o4];lia,Rq]
 have e:((arrOf st).extract (P.length+X.length) (P.length+X.length+m)).toList=Y.take m:=by
  rw[Ej,dec];simp![DK];rw[AS,show X.length=X.length+0 from rfl,AS,IZ,show P.length+(X.length+0)+m-(P.length+(X.length+0))=m by cbv,Tc Pk]
 have zx:((arrOf st).extract (P.length+k) (P.length+X.length)).size=X.length-k:=by rw[<-cH,ex,o4]
 have zy:((arrOf st).extract (P.length+X.length) (P.length+X.length+m)).size=m:=by rw[<-cH,e,cN];show if_pos ‹_›
 generalize (arrOf st).extract (P.length+k) (P.length+X.length)=x at ex zx ⊢;generalize (arrOf st).extract (P.length+X.length) (P.length+X.length+m)=y at e zy ⊢;have ox:∀z∈x,ok z:=λz hz=>G z (.inr (.inl (ua (by rw[<-ex];show ql.mpr hz))))
 have oy:∀z∈y,ok z:=λz hz=>G z (.inr (.inr (.inl (rD (by rw[<-e];show ql.mpr hz)))))
 have sx:cv rk x.toList:=by rw[ex];show o.sublist (Jn _ _)
 have sy:cv rk y.toList:=by rw[e];show n.sublist (AK _ _)
 have ZO:0<x.size:=by lia
 have Oe:0<y.size:=by lia
 have U:y[0]=Y[0]:=by
  have:y.toList[0]'(by simpa using Oe)=Y[0]:=by simp![e,D6]
  simpa using this
 have V:x[x.size-1]=X[X.length-1]:=by
  have:x.toList[x.size-1]'(by simp;lia)=X[X.length-1]:=by
   simp![ex,Jm];congr 1
   lia
  simpa using this
 have fx:∀z∈x,rk y[0]<rk z:=λz hz=>by
  rw[U];show x2 z (by rw[<-ex];show ql.mpr hz)
 have fy:∀z∈y,rk z<rk (x[x.size-1]):=λz hz=>by
  rw[V];show y1 z (by rw[<-e];show ql.mpr hz)
 have fin:∀(r:Array Keyed) g,r.toList.Perm (x.toList++y.toList)->cv rk r.toList->Q true (qc κ (r.toList.zipIdx.foldl (λ(a:Array Keyed)(z:Keyed×Nat)=>a.setIfInBounds (P.length+k+z.2) z.1) (arrOf st)) (((pendingOf st).setIfInBounds i (P.length,X.length+Y.length,p)).eraseIdxIfInBounds (i+1)) g none):=λr g d rs=>by
  have rl:=d.length_eq;rw[bP,ex,e,o4,cN,mE Pk] at rl;rw[ex,e] at d;have e9:=Xx (P.length+k) r.toList (P++(X++(Y++S))) 0 (by simp![bP];lia);rw[<-H] at e9;rw[e9];have t1:(P++(X++(Y++S))).take (P.length+k+0)=P++X.take k:=by
   rw[QY,List.take_length_add_append,Tc F]
  have t2:(P++(X++(Y++S))).drop (P.length+k+0+r.toList.length)=Y.drop m++S:=by
   rw[show P.length+k+0+r.toList.length=P.length+(X.length+m) by lia,AS,AS,EB Pk]
  rw[t1,t2];have:=q (X.take k++(r.toList++Y.drop m)) g ?_ ?_
  .simpa[eF] using this
  .have b:(X.take k++(r.toList++Y.drop m)).Perm (X.take k++((X.drop k++Y.take m)++Y.drop m)):=vB _ (d.append_right _);show b.trans ?_;rw[eF,qm,<-eF,qm]
  have mr:∀z∈r.toList,z∈X.drop k\/z∈Y.take m:=λz hz=>bx.mp (d.mem_iff.mp hz)
  have N:cv rk (X.take k++X.drop k):=by rw[qm];show o
  have L:cv rk (Y.take m++Y.drop m):=by rw[qm];show n
  have d1:=(mn.mp N)
  have d2:=(mn.mp L)
  show cv.app d1.1 (rs.app d2.2.1 λz hz w hw=>?_) λz hz w hw=>?_
  .rcases mr z hz with h | h
   .exact y2 z (ua h) w hw
   show d2.2.2 z h w hw
  rcases bx.mp hw with hw | hw
  .rcases mr w hw with h | h
   .exact d1.2.2 z hz w h
   show K z hz w (rD h)
  show K z hz w (ua hw)
 split
 .refine aT (zlb R l ox oy sx sy ZO Oe (fx _ (lp _)) fy λr g d rs=>?_);show aT (nE (aT (oT (bw ?_))));have:=fin r g d rs;show Q (failedOf st).isNone (qc (kindOf st) _ _ g (failedOf st));rw[T,l];show this
 show aT (zlc R l ox oy sx sy ZO Oe fx (fy _ (lp _)) λr g d rs=>?_);show aT (nE (aT (oT (bw ?_))));have:=fin r g d rs;show Q (failedOf st).isNone (qc (kindOf st) _ _ g (failedOf st));rw[T,l];show this
def kr(rk:Keyed->Int)(xs:Array Keyed)(i:Nat):Int:=rk (xs.getD i dk)
def k9(rk:Keyed->Int)(xs:Array Keyed)(lo n:Nat):Prop:=∀i j,i<=j->j<n->kr rk xs (lo+i)<=kr rk xs (lo+j)
structure Sl(xs ys:Array Keyed)(lo n:Nat):Prop where
 pm:ys.Perm xs
 out:∀j,j<lo\/lo+n<=j->ys[j]?=xs[j]?
theorem Sl.size{lo n:Nat}(h:Sl xs ys lo n):ys.size=xs.size:=h.pm.size_eq
theorem Sl.refl(xs lo n):Sl xs xs lo n:=⟨aar _,λ_ _=>rfl⟩
theorem Sl.trans{lo n:Nat}(h:Sl xs ys lo n)(h':Sl ys zs lo n):Sl xs zs lo n:=⟨h'.pm.trans h.pm,λj a=>(h'.out j a).trans (h.out j a)⟩
def zev{rk:Keyed->Int}(h:ys[i]?=xs[j]?):kr rk ys i=kr rk xs j:=by
 unfold kr;rw[S9,S9,h]
variable{M:Model}{A:bh}{E:af->ai->Prop}{s:ai}
def yT{rk:Keyed->Int}(R:Rk M A E s κ ok rk){st:SortSt}(d:kindOf st=κ)(a:∀x∈arrOf st,ok x)(c:i<(arrOf st).size)(b:j<(arrOf st).size)
  (q:Q (some (decide (kr rk (arrOf st) i<kr rk (arrOf st) j))) st):wpS M A E s (ltAt' i j) Q st:=by
 show aT (oT (aT (gL c (aT (gL b ?_)))));show R.lt _ _ _ _ (a _ (lp _)) (a _ (lp _)) d ?_;unfold kr at q;rwa [iB c,iB b] at q
theorem Sl.ok{lo n:Nat}(h:Sl xs ys lo n){ok:Keyed->Prop}(a:∀x∈xs,ok x):∀x∈ys,ok x:=λx hx=>a x (h.pm.mem_iff.mp hx)
def znm{rk:Keyed->Int}(R:Rk M A E s κ ok rk){lo n t:Nat}{st:SortSt}(O:kindOf st=κ)(K:∀x∈arrOf st,ok x)(U:lo+n<=(arrOf st).size)(L:k9 rk (arrOf st) lo t)(N:t<=n)
  (q:∀ys,Sl (arrOf st) ys lo n->k9 rk ys lo n->Q true (setArr st ys)):wpS M A E s (binarySort' lo n t) Q st:=by
 show aT (iX (jq (I:=λk (c:Option Bool×Unit) b=>c.1=none/\∃ys,b=setArr st ys/\Sl (arrOf st) ys lo n/\k9 rk ys lo (min k n))
  (Q:=λc b=>c.1=none/\∃ys,b=setArr st ys/\Sl (arrOf st) ys lo n/\k9 rk ys lo n) ?step ?fin ?init) ?post)
 case post=>
  rintro⟨c,⟨⟩⟩ b ⟨a,ys,rfl,g,f⟩;subst a;show bw (q ys g f)
 case init=>
  show⟨rfl,arrOf st,rfl,Sl.refl _ _ _,λi j v u=>?_⟩;by_cases g:t=0
  .have:i=j:=by lia
   subst this;show fA _
  show L i j v 'a'
 case fin=>
  rintro c b ⟨a,ys,rfl,g,f⟩;show⟨a,ys,rfl,g,by rwa [show min (max (max t 1) n) n=n by lia] at f⟩
 case step=>
  rintro k ⟨c,⟨⟩⟩ b V T ⟨a,ys,rfl,g,f⟩;subst a;rw[show min k n=k by lia] at f;have hsz:=g.size;have J:=g.ok K;obtain⟨p,y⟩:∃p,Cut (λm=>!decide (kr rk ys (lo+k)<kr rk ys (lo+m))) k p:=by
   show uk _ _ λi j v u h=>?_
   have:=f i j v u;simp![lh,j5] at h ⊢;lia
  have B:=y.1;show aT (iX (jq (I:=λj (c:Option Bool×Nat×Nat) b=>b=setArr st ys/\c.1=none/\c.2.1<=p/\p<=c.2.2/\c.2.2<=k/\c.2.2-c.2.1+j<=k)
   (Q:=λ(c:Option Bool×Nat×Nat) b=>b=setArr st ys/\c.1=none/\c.2.1=p) ?_ ?_ ⟨rfl,rfl,b9 _,B,bB _,by show k-0+0<=k;cbv⟩) ?_)
  .rintro j ⟨c,l,r⟩ b _ u ⟨rfl,a,o,z,e3,D⟩;dsimp only at a o z e3 D ⊢;subst a;by_cases hd:l>=r
   .rw[if_pos hd];show bw ⟨rfl,rfl,by dsimp only;lia⟩
   rw[if_neg hd];have P:l<=(l+r)/2/\(l+r)/2<r:=by lia
   generalize (l+r)/2=d at P ⊢;show aT (yT R O J (show lo+k<ys.size by lia) (show lo+d<ys.size by lia) ?_);have hm:=y.2 (d) 'a';simp![lh,j5] at hm;by_cases H:kr rk ys (lo+k)<kr rk ys (lo+d)
   .rw[show decide (kr rk (arrOf (setArr st ys)) (lo+k)<kr rk (arrOf (setArr st ys)) (lo+d))=true from iS H];show bw ⟨rfl,rfl,o,by dsimp only;cbv,by dsimp only;lia,by dsimp only;lia⟩
   rw[show decide (kr rk (arrOf (setArr st ys)) (lo+k)<kr rk (arrOf (setArr st ys)) (lo+d))=false from jW H];show bw ⟨rfl,rfl,by dsimp only;lia,z,e3,by dsimp only;lia⟩
  .rintro⟨c,l,r⟩ b ⟨rfl,a,o,z,e3,D⟩;show⟨rfl,a,by lia⟩
  rintro⟨c,l,r⟩ b ⟨rfl,a,o⟩;dsimp only at a o ⊢;subst a o;show aT (nE (bw ⟨rfl,bubble ys (lo+k) (lo+k-(lo+l)),rfl,g.trans ⟨bubble_perm _ _ _,λj u=>?_⟩,?_⟩))
  .rw[RF 'a' _ 'g',if_neg ⋯,if_neg 'a']
  have C:∀j,kr rk (bubble ys (lo+k) (lo+k-(lo+l))) (lo+j)=if j=l then kr rk ys (lo+k) else if l<j/\j<=k then kr rk ys (lo+(j-1)) else kr rk ys (lo+j):=λj=>by
   have e:=RF (xs:=ys) (src:=lo+k) 'a' (lo+k-(lo+l)) 'g' (lo+j);by_cases c1:j=l
   .rw[if_pos ⋯] at e;rw[if_pos c1];show zev e
   rw[if_neg 'a'] at e;rw[if_neg c1];by_cases F:l<j/\j<=k
   .rw[if_pos ⋯,show lo+j-1=lo+(j-1) by lia] at e;rw[if_pos F];show zev e
   rw[if_neg ⋯] at e;rw[if_neg F];show zev e
  have below:∀m,m<l->kr rk ys (lo+m)<=kr rk ys (lo+k):=λm hm=>by
   have:=(y.2 m (by show bK ‹_› ‹_›)).mpr hm;simp![lh,j5] at this;cbv
  have above:∀m,l<=m->m<k->kr rk ys (lo+k)<=kr rk ys (lo+m):=λm hm S=>by
   have:=mt (y.2 m S).mp 'g';simp![lh,j5] at this;lia
  intro i j v u;rw[C,C];by_cases a1:i=l
  .rw[if_pos a1];by_cases w:j=l
   .rw[if_pos w];show fA _
   rw[if_neg w,if_pos 'a'];show above _ 'a' 'a'
  rw[if_neg a1];by_cases a2:l<i/\i<=k
  .rw[if_pos a2,if_neg 'a',if_pos 'a'];show f _ _ 'a' 'a'
  rw[if_neg a2];by_cases w:j=l
  .rw[if_pos w];show below i 'a'
  rw[if_neg w];by_cases G:l<j/\j<=k
  .rw[if_pos G];show f _ _ 'a' ⋯
  rw[if_neg G];show f _ _ v 'a'
def L7{rk:Keyed->Int}(b:j<=xs.size)(k):kr rk (mirror xs i j ((j-i)/2)) k=if i<=k/\k<j then kr rk xs (i+j-1-k) else kr rk xs k:=by
 have e:=Sa (i:=i) b k;by_cases a:i<=k/\k<j
 .rw[if_pos a] at e ⊢;show zev e
 rw[if_neg a] at e ⊢;show zev e
theorem Ge{i j lo n:Nat}(a:j<=xs.size)(d:lo<=i)(b:j<=lo+n):Sl xs (mirror xs i j ((j-i)/2)) lo n:=
 ⟨mirror_perm _ _ _ _,λk c=>by rw[Sa a,if_neg 'a']⟩
def MY{rk:Keyed->Int}(b:j<=xs.size)(a:∀k,i<=k->k<j->kr rk xs k=kr rk xs (j-1))(k):kr rk (mirror xs i j ((j-i)/2)) k=kr rk xs k:=by
 rw[L7 b];split
 .rw[a _ ⋯ ⋯,a k 'g' 'g']
 rfl
def Dec(rk:Keyed->Int)(xs:Array Keyed)(lo n:Nat):Prop:=∀i j,i<=j->j<n->kr rk xs (lo+j)<=kr rk xs (lo+i)
theorem k9.more{rk:Keyed->Int}{lo n:Nat}(h:k9 rk xs lo n)(c:1<=n)(d:kr rk xs (lo+n-1)<=kr rk xs (lo+n)):k9 rk xs lo (n+1):=λi j b f=>by
 by_cases e:j=n
 .subst e;by_cases a:i=j
  .subst a;show fA _
  have:=h i (j-1) 'a' ⋯;rw[show lo+(j-1)=lo+j-1 by lia] at this;lia
 show h i j b 'a'
theorem Dec.more{rk:Keyed->Int}{lo n:Nat}(h:Dec rk xs lo n)(c:1<=n)(d:kr rk xs (lo+n)<=kr rk xs (lo+n-1)):Dec rk xs lo (n+1):=λi j b f=>by
 by_cases e:j=n
 .subst e;by_cases a:i=j
  .subst a;show fA _
  have:=h i (j-1) 'a' ⋯;rw[show lo+(j-1)=lo+j-1 by lia] at this;lia
 show h i j b 'a'
theorem Dec.turn{rk:Keyed->Int}{lo n:Nat}(h:Dec rk xs lo n)(a:lo+n<=xs.size):k9 rk (mirror xs lo (lo+n) ((lo+n-lo)/2)) lo n:=λi j c b=>by
 rw[L7 a,L7 a,if_pos 'a',if_pos 'g'];have:=h (n-1-j) (n-1-i) ⋯ ⋯;rw[show lo+(lo+n)-1-(lo+i)=lo+(n-1-i) by lia,show lo+(lo+n)-1-(lo+j)=lo+(n-1-j) by lia];show this
variable{M:Model}{A:bh}{E:af->ai->Prop}{s:ai}
def FI{st:SortSt}(h:Q () (setArr st (mirror (arrOf st) i j ((j-i)/2)))):wpS M A E s (reverseSlice' i j) Q st:=by
 show nE h
def zpn{rk:Keyed->Int}(R:Rk M A E s κ ok rk){lo d:Nat}{st:SortSt}(C:kindOf st=κ)(y:∀x∈arrOf st,ok x)(X:lo+d<=(arrOf st).size)(Y:1<=d)
  (q:∀ys n,1<=n->n<=d->Sl (arrOf st) ys lo d->k9 rk ys lo n->Q (some n) (setArr st ys)):wpS M A E s (countRun' lo d) Q st:=by
 rw[countRun'_eq];show aT (iX (jq (I:=λi (c:Option (Option Nat)×Nat) a=>a=st/\c.1=none/\c.2=i/\k9 rk (arrOf st) lo i)
  (Q:=λ(c:Option (Option Nat)×Nat) a=>a=st/\c.1=none/\1<=c.2/\c.2<=d/\k9 rk (arrOf st) lo c.2/\(c.2<d->kr rk (arrOf st) (lo+c.2)<kr rk (arrOf st) (lo+c.2-1))) ?_ ?_ ⟨rfl,rfl,rfl,λi j v u=>by rw[show i=j by cbv];show fA _⟩) ?_)
 .rintro i ⟨c,n⟩ a H N ⟨rfl,b,e,f⟩;dsimp only at b e ⊢;subst b e;show aT (yT R C y 'a' ⋯ ?_);by_cases m:kr rk (arrOf a) (lo+n)<kr rk (arrOf a) (lo+n-1)
  .dsimp only;rw[if_pos (iS m)];show bw ⟨rfl,rfl,H,by show fc ‹_›,f,λ_=>m⟩
  dsimp only;rw[if_neg λz=>m (nJ z)];show bw ⟨rfl,rfl,rfl,f.more H 'g'⟩
 .rintro⟨c,n⟩ a ⟨rfl,b,e,f⟩;subst e;show⟨rfl,b,by cbv,by cbv,f,λz=>by cbv⟩
 rintro⟨c,n⟩ a ⟨rfl,b,n1,n2,f,hd⟩;dsimp only at b n1 n2 f hd ⊢;subst b;by_cases U:n=d
 .rw[if_pos 'l'];show bw (q (arrOf a) n n1 n2 (Sl.refl _ _ _) f)
 rw[if_neg (by simpa using U)];generalize hR:(rule "list.sort.descending-run" >>= _:StateT SortSt Sem (Option Nat))=J;have fg:∀w,Sl (arrOf a) w lo d->Dec rk w lo (n+1)->wpS M A E s J Q (setArr a w):=by
  rw[<-hR];intro w S W;show aT (yL ?_);show aT (iX (jq (I:=λi (c:Option (Option Nat)×Nat×Nat) h=>∃ys,h=setArr a ys/\Sl (arrOf a) ys lo d/\c.1=none/\c.2.1=i/\Dec rk ys lo i/\c.2.2<i/\∀t,t<=c.2.2->kr rk ys (lo+i-1-t)=kr rk ys (lo+i-1))
   (Q:=λ(c:Option (Option Nat)×Nat×Nat) h=>∃ys,h=setArr a ys/\Sl (arrOf a) ys lo d/\c.1=none/\1<=c.2.1/\c.2.1<=d/\Dec rk ys lo c.2.1/\c.2.2<c.2.1/\∀t,t<=c.2.2->kr rk ys (lo+c.2.1-1-t)=kr rk ys (lo+c.2.1-1)) ?_ ?_ ⟨w,rfl,S,rfl,rfl,W,by dsimp only;cbv,λt p=>by rw[show t=0 by dsimp only at p;cbv];rfl⟩) ?_)
  .rintro i ⟨c,n,e⟩ h H N ⟨ys,rfl,g,b,G,o,r,eq⟩;dsimp only at b G r eq ⊢;subst b G;have hsz:=g.size;show aT (yT R C (g.ok y) (show lo+n<ys.size by lia) (show lo+n-1<ys.size by lia) ?_);by_cases m:kr rk ys (lo+n)<kr rk ys (lo+n-1)
   .dsimp only;rw[if_pos (iS m)];have P:=o.more 'a' (kd m);by_cases F:e>0
    .rw[if_pos F]
     have l:=MY (rk:=rk) (xs:=ys) (i:=lo+n-(e+1)) (j:=lo+n) 'a' (λk k1 K=>by
      have:=eq (lo+n-1-k) ⋯
      rwa [show lo+n-1-(lo+n-1-k)=k by lia] at this)
     show aT (FI ?_);show bw ⟨_,rfl,g.trans (Ge 'a' 'a' 'a'),rfl,rfl,λi j v u=>?_,by dsimp only;cbv,λt p=>by rw[show t=0 by dsimp only at p;cbv];rfl⟩;have:=P i j v u;rw[<-l,<-l] at this;show this
    rw[if_neg F];show bw ⟨ys,rfl,g,rfl,rfl,P,by dsimp only;cbv,λt p=>by rw[show t=0 by dsimp only at p;cbv];rfl⟩
   dsimp only;rw[if_neg λz=>m (nJ z)];show aT (yT R C (g.ok y) (show lo+n-1<ys.size by lia) (show lo+n<ys.size by lia) ?_);by_cases D:kr rk ys (lo+n-1)<kr rk ys (lo+n)
   .dsimp only;rw[if_pos (iS D)];show bw ⟨ys,rfl,g,rfl,by dsimp only;lia,by dsimp only;show fc ‹_›,o,r,eq⟩
   dsimp only;rw[if_neg λz=>D (nJ z)];show bw ⟨ys,rfl,g,rfl,rfl,o.more 'a' 'g',by dsimp only;cbv,λt p=>?_⟩;dsimp only at p;rw[show lo+(n+1)-1=lo+n by rfl];by_cases t0:t=0
   .subst t0;rfl
   have:=eq (t-1) 'g';rw[show lo+n-1-(t-1)=lo+n-t by lia] at this;lia
  .rintro⟨c,n,e⟩ h ⟨ys,rfl,g,b,G,o,r,eq⟩;dsimp only at b G r eq ⊢;subst G;show⟨ys,rfl,g,b,by lia,by lia,o,r,eq⟩
  rintro⟨c,n,e⟩ h ⟨ys,rfl,g,b,n1,n2,o,r,eq⟩;dsimp only at b n1 n2 o r eq ⊢;subst b;have hsz:=g.size;generalize T:(reverseSlice' lo (lo+n) >>= _:StateT SortSt Sem (Option Nat))=Tl;have tail:∀ws,Sl (arrOf a) ws lo d->Dec rk ws lo n->wpS M A E s Tl Q (setArr a ws):=by
   rw[<-T];intro ws lw V;have hw:=lw.size;show aT (FI ?_);have B:=lw.trans (Ge (xs:=ws) (i:=lo) (j:=lo+n) (lo:=lo) (n:=d) 'a' 'g' 'g');have hz:=V.turn 'a';generalize mirror ws lo (lo+n) ((lo+n-lo)/2)=zs at B hz;show aT (iX (jq (I:=λi (c:Option (Option Nat)×Nat) h=>h=setArr a zs/\c.1=none/\c.2=i/\k9 rk zs lo i)
    (Q:=λ(c:Option (Option Nat)×Nat) h=>h=setArr a zs/\c.1=none/\1<=c.2/\c.2<=d/\k9 rk zs lo c.2) ?_ ?_ ⟨rfl,rfl,rfl,hz⟩) ?_)
   .rintro i ⟨c,n⟩ h H N ⟨rfl,b,e,f⟩;dsimp only at b e ⊢;subst b e;show aT (yT R C (B.ok y) (show lo+n<zs.size by have:=B.size;lia) (show lo+n-1<zs.size by have:=B.size;lia) ?_);by_cases m:kr rk zs (lo+n)<kr rk zs (lo+n-1)
    .dsimp only;rw[if_pos (iS m)];show bw ⟨rfl,rfl,by show bK ‹_› ‹_›,by show fc ‹_›,f⟩
    dsimp only;rw[if_neg λz=>m (nJ z)];show bw ⟨rfl,rfl,rfl,f.more (by show bK ‹_› ‹_›) 'g'⟩
   .rintro⟨c,n⟩ h ⟨rfl,b,e,f⟩;subst e;show⟨rfl,b,by cbv,by cbv,f⟩
   rintro⟨c,n⟩ h ⟨rfl,b,n1,n2,f⟩;subst b;show bw (q zs n n1 n2 B f)
  by_cases F:e>0
  .rw[if_pos F]
   have l:=MY (rk:=rk) (xs:=ys) (i:=lo+n-(e+1)) (j:=lo+n) 'a' (λk k1 K=>by
    have:=eq (lo+n-1-k) ⋯
    rwa [show lo+n-1-(lo+n-1-k)=k by lia] at this)
   show aT (FI (tail _ (g.trans (Ge (xs:=ys) (i:=lo+n-(e+1)) (j:=lo+n) (lo:=lo) (n:=d) 'a' ⋯ 'g')) λi j v u=>?_));have:=o i j v u;rw[<-l,<-l] at this;show this
  rw[if_neg F];show tail ys g o
 by_cases O:n>1
 .rw[if_pos O];show aT (yT R C y 'a' ⋯ ?_);by_cases L:kr rk (arrOf a) lo<kr rk (arrOf a) (lo+n-1)
  .dsimp only;rw[if_pos (iS L)];show bw (q (arrOf a) n n1 n2 (Sl.refl _ _ _) f)
  dsimp only;rw[if_neg λz=>L (nJ z)];have same:∀k,lo<=k->k<lo+n->kr rk (arrOf a) k=kr rk (arrOf a) (lo+n-1):=λk k1 K=>by
   have a1:=f 0 (k-lo) 'g' ⋯;have a2:=f (k-lo) (n-1) 'a' 'a';rw[show lo+(k-lo)=k by ext] at a1 a2;rw[show lo+(n-1)=lo+n-1 by lia] at a2;simp![QY] at a1;lia
  have l:=MY (rk:=rk) (xs:=arrOf a) (i:=lo) (j:=lo+n) 'a' same;show aT (FI (fg _ (Ge (xs:=arrOf a) (i:=lo) (j:=lo+n) (lo:=lo) (n:=d) 'a' 'g' 'g') (Dec.more (λi j v u=>?_) n1 ?_)))
  .rw[l,l,same _ 'g' 'g',same (lo+i) 'g' 'a'];show fA _
  rw[l,l];lia
 rw[if_neg O];show fg (arrOf a) (Sl.refl _ _ _) (Dec.more (λi j v u=>by rw[show i=j by lia];show fA _) n1 'a')
def starts:Nat->List (List Keyed)->List (Nat×Nat)
 | _,[]=>[]
 | st,X::a=>(st,X.length)::starts (st+X.length) a
abbrev ft(t:Nat×Nat×Nat):Nat×Nat:=(t.1,t.2.1)
theorem MT:∀st a,(starts st a).length=a.length
 | _,[]=>rfl
 | st,X::a=>by simp[starts,MT]
theorem Yx:∀st a W,starts st (a++[W])=starts st a++[(st+a.flatten.length,W.length)]
 | st,[],W=>by rfl
 | st,X::a,W=>by
  simp![mG,starts,Yx (st+X.length) a W,jY,bP];rw[show st+X.length+a.flatten.length=st+(X.length+a.flatten.length) by lia]
theorem L6:∀st a X Xs2,(starts st (a++X::Xs2))[a.length]?\(st+a.flatten.length,X.length)
 | st,[],X,Xs2=>by rfl
 | st,A::a,X,Xs2=>by
  simp![mG,starts,cZ,AR,L6 (st+A.length) a X Xs2,jY,bP];rw[show st+A.length+a.flatten.length=st+(A.length+a.flatten.length) by lia]
theorem Yw(hz:Z.length=X.length+Y.length):∀st a,((starts st (a++X::Y::Xs2)).set a.length (st+a.flatten.length,X.length+Y.length)).eraseIdx (a.length+1)=starts st (a++Z::Xs2)
 | st,[]=>by
  simp[starts,hz,Nat.add_assoc]
 | st,A::a=>by
  have b:=Yw (Xs2:=Xs2) hz (st+A.length) a;simp![mG,starts,cZ,List.set_cons_succ,JK,jY,bP];rw[show st+(A.length+a.flatten.length)=st+A.length+a.flatten.length by lia,b]
theorem YE{α b:Type}(f:α->b):∀(l:List α) n,(l.map f).eraseIdx n=(l.eraseIdx n).map f
 | [],_=>rfl
 | a::r,0=>rfl
 | a::r,n+1=>by show f a::(r.map f).eraseIdx n=_;rw[YE f r n];rfl
structure RI(rk:Keyed->Int)(a0 arr:Array Keyed)(pend:Array (Nat×Nat×Nat))(Xs:List (List Keyed))(S:List Keyed):Prop where
 pm:arr.toList.Perm a0.toList
 dec:arr.toList=Xs.flatten++S
 so:∀X∈Xs,cv rk X/\0<X.length
 ps:pend.toList.map ft=starts 0 Xs
def zrI{a:List (List Keyed)}(h:i+1<a.length):∃b X Y Xs2,a=b++X::Y::Xs2/\b.length=i:=by
 show⟨a.take i,a[i],a[i+1],a.drop (i+2),?_,by simp;lia⟩;rw[<-qX,<-qX,qm]
def VD{b:Array (Nat×Nat×Nat)}{i a n:Nat}(h:b.toList.map ft=l)(e:l[i]?\(a,n)):∃p,b[i]?\(a,n,p):=by
 rw[<-h,b8,nB] at e;cases c:b[i]? with
 | none=>rw[c] at e;cases e
 | some t=>
  rw[c] at e;let⟨x,y,z⟩:=t;simp at e;let⟨rfl,rfl⟩:=e;show⟨z,rfl⟩
variable{M:Model}{A:bh}{E:af->ai->Prop}{s:ai}
def WE{rk:Keyed->Int}(R:Rk M A E s κ ok rk){st:SortSt}(t:kindOf st=κ)(v:failedOf st=none)(r:∀x∈f,ok x)
  (h:RI rk f (arrOf st) (pendingOf st) d S) (u:i+1<d.length)
  (q:∀c j,kindOf c=κ->failedOf c=none->RI rk f (arrOf c) (pendingOf c) j S->j.length+1=d.length->j.flatten.length=d.flatten.length->Q true c):wpS M A E s (mergeAt' i) Q st:=by
 let⟨a,X,Y,Xs2,rfl,rfl⟩:=zrI u;let⟨w,o⟩:=VD h.ps (L6 0 a X (Y::Xs2));have p:=L6 0 (a++[X]) Y Xs2;rw[show a++[X]++Y::Xs2=a++X::Y::Xs2 by simp,bP,JG] at p;let⟨pb,e⟩:=VD h.ps p;rw[lD] at o e;rw[show(a++[X]).flatten.length=a.flatten.length+X.length by simp] at e;have n:=h.so X (by show fT _ (.head _));have m:=h.so Y ∅;have hd:(arrOf st).toList=a.flatten++(X++(Y++(Xs2.flatten++S))):=by rw[h.dec];simp
 show zle R t v (λx hx=>r x ?_) hd o e n.2 m.2 n.1 m.1 λZ g k zs=>?_
 .have:=h.pm.mem_iff.mp (ql.mpr hx);show ql.mp this
 have l:Z.length=X.length+Y.length:=by rw[k.length_eq,bP]
 show q _ (a++Z::Xs2) rfl rfl ⟨?_,?_,λW b=>?_,?_⟩ (by simp![bP,cZ];rfl) (by simp[l];lia)
 .refine xv.trans ?_ h.pm;rw[hd];show vB _ ?_;rw[<-eF X];show k.append_right _
 .simp
 .rcases bx.mp b with b | b
  .exact h.so W (by show jn _ ‹_›)
  rcases bE.mp b with rfl | b
  .exact⟨zs,by lia⟩
  show h.so W (by simp[b])
 have:=Yw (X:=X) (Y:=Y) (Z:=Z) (Xs2:=Xs2) l 0 a;rw[<-this,<-h.ps,lD];rw[Array.toList_eraseIdxIfInBounds,Array.toList_setIfInBounds,<-YE,vj]
def zwF{rk:Keyed->Int}(h:Sl xs ys F.length m)(hd:xs.toList=F++S)(b:k9 rk ys F.length n)(f:F.length+n<=xs.size):∃W e,ys.toList=F++(W++e)/\W.length=n/\cv rk W:=by
 have hsz:=h.size;have d:ys.toList.take F.length=F:=by
  have:ys.toList.take F.length=xs.toList.take F.length:=by
   apply tY;intro i;rw[vx,vx];split
   .rw[nB,nB];show h.out i (.inl (by assumption))
   rfl
  rw[this,hd,Rq]
 show⟨(ys.toList.drop F.length).take n,(ys.toList.drop F.length).drop n,?_,by simp;lia,?_⟩
 .rw[qm];conv=>lhs;rw[<-qm F.length ys.toList,d]
 show Es.mpr λi j g c k=>?_
 have a:j<n:=by simp at c;ext
 have:=b i j (by show fc ‹_›) a;unfold kr at this;rw[iB 'a',iB 'a'] at this;simpa[D6,Jm] using this
variable{M:Model}{A:bh}{E:af->ai->Prop}{s:ai}
def znn(p:Array (Nat×Nat×Nat))(k f)(h:∀x,ft (f x)=ft x):(p.modify k f).toList.map ft=p.toList.map ft:=by
 apply tY;intro i;rw[b8,b8,nB,nB,Array.getElem?_modify];split
 .cases p[i]? with
  | none=>rfl
  | some x=>simp![lG,h]
 rfl
theorem VC:∀(a:List (List Keyed)),(∀X∈a,0<X.length)->a.length<=a.flatten.length
 | [],_=>bB _
 | X::a,h=>by
  have d:=h X 'c';have c:=VC a λY b=>h Y 'i'
  rw[jY,bP,cZ];lia
theorem Sl.wide{lo n m:Nat}(h:Sl xs ys lo n)(a:n<=m):Sl xs ys lo m:=⟨h.pm,λj b=>h.out j 'a'⟩
def zrJ{d:Type}{f:Nat->StateT SortSt Sem d}{c:Prop}{_:Decidable c}{b:StateT SortSt Sem Bool}{u:StateT SortSt Sem d}{str:String}{x y:Nat}{Q:d->SortSt->Prop}{st:SortSt}(P:Nat->SortSt->Prop)(h:∀k a,P k a->wpS M A E s (f k) Q a)
  (i:c->wpS M A E s b (λr a=>r=true/\P x a) st) (j:¬c->P y st):wpS M A E s (if c then(rule str >>= λ_=>b >>= λr=>if (!r)=true then u else f x) else f y) Q st:=by
 split
 .rename_i e;show aT (yL (aT (iX (i e) λr a g=>?_)));rw[g.1];show h _ _ g.2
 rename_i e;show h _ _ (j e)
def zrK{rk:Keyed->Int}(R:Rk M A E s κ ok rk){st:SortSt}(hk:kindOf st=κ)(hf:failedOf st=none)(hp:pendingOf st=#[])(K:∀x∈arrOf st,ok x)
  (q:∀e,(arrOf e).toList.Perm (arrOf st).toList->cv rk (arrOf e).toList->failedOf e=none->Q () e):wpS M A E s sortRuns' Q st:=by
 rw[sortRuns'_eq];show aT (oT ?_);dsimp only;generalize hmr:minRun' (arrOf st).size (arrOf st).size 0=H;generalize hsz:(arrOf st).size=sz;have h0:RI rk (arrOf st) (arrOf st) (pendingOf st) [] (arrOf st).toList:=⟨DP _,rfl,λX v=>(by cases v),by rw[hp];rfl⟩
 show aT (iX (jq (I:=λi (c:Option Unit×Nat) e=>c.1=none/\kindOf e=κ/\failedOf e=none/\∃b S,RI rk (arrOf st) (arrOf e) (pendingOf e) b S/\b.flatten.length=c.2/\c.2<=sz/\i<=c.2)
  (Q:=λ(c:Option Unit×Nat) e=>c.1=none/\kindOf e=κ/\failedOf e=none/\∃b,RI rk (arrOf st) (arrOf e) (pendingOf e) b []) ?_ ?_ ⟨rfl,hk,hf,[],_,h0,rfl,b9 _,bB _⟩) ?_)
 .rintro i ⟨c,lo⟩ e _ hi ⟨l,r,z,b,S,g,Oy,hle,pM⟩;subst l Oy;have as:(arrOf e).size=sz:=by rw[<-hsz,<-cH,<-cH];show g.pm.length_eq
  have V:∀x∈arrOf e,ok x:=λx hx=>K x (ql.mp (g.pm.mem_iff.mp (ql.mpr hx)))
  have sl:b.flatten.length+S.length=sz:=by rw[<-as,<-cH,g.dec,bP]
  by_cases hd:b.flatten.length>=sz
  .rw[if_pos hd];have:S=[]:=SN.mp 'a';subst this;show bw ⟨rfl,r,z,b,g⟩
  rw[if_neg hd];show aT (zpn R r V 'g' 'a' λys n n1 n2 J Z=>?_);have D:n<H->n<=min (sz-b.flatten.length) H/\min (sz-b.flatten.length) H<=sz-b.flatten.length:=λh=>by lia
  generalize min (sz-b.flatten.length) H=fr at D ⊢;apply zrJ (x:=fr) (y:=n) (λk a=>∃zs,a=setArr e zs/\Sl (arrOf e) zs b.flatten.length (sz-b.flatten.length)/\k9 rk zs b.flatten.length k/\1<=k/\k<=sz-b.flatten.length);rotate_left
  .intro l;have f2:=D l;show znm R (st:=setArr e ys) r (J.ok V) (show _<=ys.size by have:=J.size;lia) Z f2.1 λzs O P=>⟨rfl,zs,rfl,J.trans (O.wide f2.2),P,by lia,f2.2⟩
  .exact λ_=>⟨ys,rfl,J,Z,n1,n2⟩
  rintro n _ ⟨zs,rfl,Y,P,n1,n2⟩;let⟨W,G,dz,wl,ws⟩:=zwF Y g.dec P 'a';have U:RI rk (arrOf st) zs (pendingOf e) b (W++G):=⟨(Array.perm_iff_toList_perm.mp Y.pm).trans g.pm,dz,g.so,g.ps⟩
  have ent:∀(a:SortSt)(d:List (List Keyed)),kindOf a=κ->failedOf a=none->RI rk (arrOf st) (arrOf a) (pendingOf a) d (W++G)->d.flatten.length=b.flatten.length->∃w F,RI rk (arrOf st) (arrOf a) ((pendingOf a).push (b.flatten.length,n,0)) w F/\w.flatten.length=b.flatten.length+n:=λa d m f2 f o=>by
   show⟨d++[W],G,⟨f.pm,by rw[f.dec];simp,λX v=>?_,?_⟩,by simp[o,wl]⟩
   .rcases bx.mp v with v | v
    .exact f.so X v
    simp at v;subst v;show⟨ws,by lia⟩
   rw[o6,bX,f.ps,Yx,o,wl,lD];rfl
  show aT (oT ?_);cases hbk:(pendingOf (setArr e zs)).back? with
  | none=>
   show aT (nE (bw ?_));let⟨w,F,B,C⟩:=ent (setArr e zs) b r z U rfl;show⟨rfl,r,z,w,F,B,C,by lia,by lia⟩
  | some t=>
   let⟨s1,t1,p1⟩:=t;show aT (iX (jq (I:=λj (c:Option Unit×Unit) a=>c.1=none/\kindOf a=κ/\failedOf a=none/\∃d,RI rk (arrOf st) (arrOf a) (pendingOf a) d (W++G)/\d.flatten.length=b.flatten.length)
    (Q:=λ(c:Option Unit×Unit) a=>c.1=none/\kindOf a=κ/\failedOf a=none/\∃d,RI rk (arrOf st) (arrOf a) (pendingOf a) d (W++G)/\d.flatten.length=b.flatten.length) ?_ ?_ ⟨rfl,r,z,b,U,rfl⟩) ?_)
   .rintro j ⟨c,⟨⟩⟩ a _ hj ⟨l,m,f2,d,f,o⟩;subst l;show aT (oT ?_);have pl:(pendingOf a).size=d.length:=by
     have:=gy Ao f.ps;rwa [aE,cH,MT] at this
    by_cases big:(pendingOf a).size>1
    .rw[if_pos big,oQ (show(pendingOf a).size-2<(pendingOf a).size by lia)];generalize (pendingOf a)[(pendingOf a).size-2]' 'a'=u;let⟨u1,u2,u3⟩:=u;dsimp only;split
     .exact bw ⟨rfl,m,f2,d,f,o⟩
     show aT (WE R m f2 K f 'a' λGI w L N B _ C=>?_);show bw ⟨rfl,L,N,w,B,by rw[C,o]⟩
    rw[if_neg big];show bw ⟨rfl,m,f2,d,f,o⟩
   .rintro⟨c,⟨⟩⟩ a h;show h
   rintro⟨c,⟨⟩⟩ a ⟨l,m,f2,d,f,o⟩;subst l;show aT (nE (aT (nE (bw ?_))));let⟨w,F,B,C⟩:=ent (setPending a ((pendingOf a).modify ((pendingOf a).size-1) λx=>(x.1,x.2.1,power' sz (2*s1+t1) (2*s1+t1+t1+n) sz))) d m f2 ⟨f.pm,f.dec,f.so,by rw[<-f.ps];show znn _ _ _ λx=>rfl⟩ o;show⟨rfl,m,f2,w,F,B,C,by lia,by lia⟩
 .rintro⟨c,lo⟩ e ⟨l,r,z,b,S,g,Oy,hle,pM⟩;have as:(arrOf e).size=sz:=by rw[<-hsz,<-cH,<-cH];show g.pm.length_eq
  have sl:b.flatten.length+S.length=sz:=by rw[<-as,<-cH,g.dec,bP]
  have:S=[]:=SN.mp 'a';subst this;show⟨l,r,z,b,g⟩
 rintro⟨c,lo⟩ e ⟨l,r,z,b,g⟩;subst l;have as:(arrOf e).size=sz:=by rw[<-hsz,<-cH,<-cH];show g.pm.length_eq
 have fl:b.flatten.length=sz:=by rw[<-as,<-cH,g.dec];simp
 have xl:=VC b λX v=>(g.so X v).2
 show aT (iX (jq (I:=λj (c:Option Unit×Unit) a=>c.1=none/\kindOf a=κ/\failedOf a=none/\∃d,RI rk (arrOf st) (arrOf a) (pendingOf a) d []/\d.length+j<=sz)
  (Q:=λ(c:Option Unit×Unit) a=>c.1=none/\kindOf a=κ/\failedOf a=none/\∃d,RI rk (arrOf st) (arrOf a) (pendingOf a) d []/\d.length<=1) ?_ ?_ ⟨rfl,r,z,b,g,by cbv⟩) ?_)
 .rintro j ⟨c,⟨⟩⟩ a _ hj ⟨l,m,f2,d,f,o⟩;subst l;show aT (oT ?_);have pl:(pendingOf a).size=d.length:=by
   have:=gy Ao f.ps;rwa [aE,cH,MT] at this
  by_cases T:(pendingOf a).size<=1
  .rw[if_pos T];show bw ⟨rfl,m,f2,d,f,by cbv⟩
  rw[if_neg T];have ix:∀(p:Prop)[Decidable p],(if p then(pendingOf a).size-2-1 else(pendingOf a).size-2)+1<d.length:=λp _=>by split<;>ext
  show aT (WE R m f2 K f (ix _) λGI w L N B C _=>?_);show bw ⟨rfl,L,N,w,B,by lia⟩
 .rintro⟨c,⟨⟩⟩ a ⟨l,m,f2,d,f,o⟩;show⟨l,m,f2,d,f,by lia⟩
 rintro⟨c,⟨⟩⟩ a ⟨l,m,f2,d,f,o⟩;subst l;show bw (q a f.pm ?_ f2);rw[f.dec,eS];match d,o,f.so with
 | [],_,_=>show .nil
 | [X],_,so=>simpa using (so X 'c').1
section
variable{prog:aI}{w:aH}{A:bh}{E:af->ai->Prop}{s:ai}
structure Ky(prog:aI)(w:aH)(A:bh)(s:ai)(κ:SortKind)(ok:Keyed->Prop)(rk:Keyed->Int):Prop where
 key:∀x y (C:Bool->ai->Prop),ok x->ok y->C (decide (rk x<rk y)) s->↥(keyLt' κ x.1 y.1) C (λ_ _=>False) s
def qV(n:Nat):Prop:=∀{prog w A E s κ rk it}(R:Ky prog w A s κ (λx=>x∈it) rk){Q},it.size=n->
 (∀a,(arrOf a).toList.Perm it.toList->cv rk (arrOf a).toList->failedOf a=none->Q () a)->wpS (model prog w) A E s sortRuns' Q (qc κ it #[] 7 none)
structure Ask(prog:aI)(w:aH)(A:bh)(E:af->ai->Prop)(vs:List af)(rk:Keyed->Int)(s:ai):Prop where
 ask:2<=vs.length->∃κ,(∀Q':SortKind->ai->Prop,Q' κ s->↥(keyKind' vs.toArray) Q' E s)/\Ky prog w A s κ (λx=>x∈pairsOf vs) rk
def zpq{rk:Keyed->Int}(h:l.length<2):cv rk l:=by
 cases l with
 | nil=>show .nil
 | cons a r=>
  cases r with
  | nil=>show jo _ _
  | cons b t=>
   simp![cZ] at h;lia
def zlf{rk:Keyed->Int}(g:'f' a=some (seqObj "list" d.toArray n))(hl:d.length<=sizeLine)(v:2<=d.length->qV d.length)
  (R:∀h',(∀b o,b≠a->'f' b\o->h'.get? b\o)->Ask prog w A E d rk 'j')
  (h:∀f:SortSt,(arrOf f).toList.Perm (pairsOf d).toList->cv rk (arrOf f).toList->P (.done (.ret .none)) { s with heap:=sortedHeap s.heap a d ((arrOf f).map (·.2)) }) :
  ↥(Builtin.«list.sort» ⟨[.ref a],[]⟩) P E s:=by
 rw[list_sort_plain];have q:a< *...*:=cf g;show aj (listItems_at g rfl ?_);show aj (IM g rfl ?_ (by trivial) (b9 _));obtain⟨m,r⟩:∃m,(s.heap.update a (mv λ_=>#[])).get? a=some (seqObj "list" #[] m):=⟨_,get?_update_seq g (λ_=>#[])⟩
 show aj (Iw r rfl ?_);show aj (Ru ?_ (by show hl));show aj (IP ?_ (b9 _));show gi ?_;have j:(((s.heap.update a (mv λ_=>#[])).push (seqObj "tuple" d.toArray 0)).push (seqObj "list" #[] 0)).get? a=some (seqObj "list" #[] m):=by
  rw[D5 _ _ _ (by rw[Ij,Jg];show cC (nK q)),D5 _ _ _ (by rw[Jg];show cC q)];show r
 have y:=R (((s.heap.update a (mv λ_=>#[])).push (seqObj "tuple" d.toArray 0)).push (seqObj "list" #[] 0)) (λb o x e=>cy _ (cy _ ((nC _ _ (Ne.symm x)).trans e)));have fin:=h;by_cases i:d.toArray.size<2
 .rw[if_pos i,if_pos i];show aj (ay ?_);show aj (ay ?_);show aj (Iw j rfl ?_);show aj (IM j rfl ?_ (b9 _) (by rw[Rp];show(pairsOf d).size<=_;rw[DJ];show Jq hl));simp![bne_self_eq_false,fZ,eC];show ay (fin (qc general' (d.toArray.zip d.toArray) #[] 7 none) (DP _) ?_);show cv rk (pairsOf d).toList;show zpq (by rw[cH,DJ];room)
 rw[if_neg i,if_neg i];let⟨κ,t,kr⟩:=y.ask (by show AF ‹_›);show aj (t _ ?_)
 show aj (j7 (v (by show AF ‹_›) kr
  (Q:=λ_ f=>(arrOf f).toList.Perm (pairsOf d).toList/\cv rk (arrOf f).toList/\failedOf f=none) (DJ d) λf a1 a2 z=>⟨a1,a2,z⟩) ?_ λ_ _ e=>e)
 rintro⟨⟨⟩,f⟩ B ⟨rfl,p,u,hf⟩;show aj (Iw j rfl ?_)
 show aj (IM j rfl ?_ (b9 _) (by
  rw[Rp,<-cH,p.length_eq,cH,DJ];show Jq hl))
 rw[hf];simp![bne_self_eq_false,fZ,eC];show ay (fin f p u)
def aa4{rk:Keyed->Int}(i:s.heap.IsList l a.toArray)(hz:a.length<=sizeLine)(g:2<=a.length->qV a.length)
  (R:∀h',(∀b o,'f' b\o->h'.get? b\o)->Ask prog w A.in1.in1 E a rk 'j')
  (h:∀c:SortSt,(arrOf c).toList.Perm (pairsOf a).toList->cv rk (arrOf c).toList->Q (.ref (*...*+1)) { s with heap:=sortedAll s.heap a ((arrOf c).map (·.2)) }) :
  ↥(call (.builtin "sorted") [.ref l]) Q E s:=by
 show S1 kind_sorted Q4 Q0 (QZ _) ?_;show aj (m:=checkCount "sorted" 1 1 _) (ay ?_);show aj (collect_list i ?_ hz);show aj (IP ?_ hz);have hsz:((s.heap.push (seqObj "list" #[] 0)).update *...* (mv (·++a.toArray))).objs.size=*...*+1:=by
  rw[Jg,Ij]
 have f:(((s.heap.push (seqObj "list" #[] 0)).update *...* (mv (·++a.toArray))).push (seqObj "list" a.toArray 0)).get? (*...*+1)=some (seqObj "list" a.toArray 0):=by
  rw[<-hsz];show cT _ rfl
 have keep:∀b o,'f' b=some o->(((s.heap.push (seqObj "list" #[] 0)).update *...* (mv (·++a.toArray))).push (seqObj "list" a.toArray 0)).get? b=some o:=λb o q=>by
  have d:b< *...*:=cf q;rw[D5 _ _ _ (by rw[hsz];show cC (nK d)),Heap.get?_update_ne _ _ _ _ (cC d),D5 _ _ _ (cC d)];show q
 rw[hsz];show aj (gi (kJ Rt ⟨_,f,rfl⟩ RG (zlf (rk:=rk) f hz g (λh' k=>R h' λb o e=>k b o (cC (nK (cf e))) (keep b o e)) λc a1 a2=>⟨_,rfl,?_⟩) (Rr _)));show ay ⟨_,rfl,h c a1 a2⟩
end
theorem y9(n):qV n:=λR _ _ q=>zrK (ok:=λx=>x∈_) ⟨λx y st Q d c e q=>by
 rw[lt'_eq];show aT (oT ?_);rw[e]
 show aT (wpS_lift (vo (j7 (R.key x y (λb a=>a=_/\b=decide _) d c ⟨rfl,rfl⟩) (λb a ⟨g,f⟩=>⟨g,by subst f;show bw q⟩) λ_ _ z=>z.elim)))⟩ rfl rfl rfl (λx hx=>hx) q
end Ts
namespace HT
end HT
namespace Ts
open PySem PySem.W PyProof.Rows
section
variable{w:aH}{A:bh}{s:ai}
def JZ(h:aD)(v:af):List Int:=match v with
 | .ref a=>match h.get? a with
  | some o=>match o.data with
   | .seq xs _=>numsOf xs.toList
   | _=>[]
  | none=>[]
 | _=>[]
def zyp(h:aD)(v:af):Prop:=∃a o xs n,v=.ref a/\h.get? a=some o/\o.cls=.type "tuple"/\o.data=.seq xs n/\IntsAre xs.toList (JZ h v)/\JZ h v≠[]
theorem zpr(k:∀b o,h.get? b\o->h'.get? b\o):∀{its},(∀v∈its,zyp h v)->∃fs,KatTups h' its fs/\fs.length=its.length/\∀v∈fs,∃n t,v=vi n t
 | [],_=>⟨[],.nil,rfl,λv hv=>by cases hv⟩
 | v::r,hv=>by
  let⟨fs,j,i,g⟩:=zpr k (its:=r) λx hx=>hv x (cJ _ hx)
  let⟨a,o,xs,n,rfl,e,f,hd,c,d⟩:=hv v et;generalize JZ h (.ref a)=t at c d;generalize hx:xs.toList=l at c;cases c with
  | nil=>show absurd rfl d
  | cons m u p=>
   have h0:xs[0]?\.int m u:=by rw[<-nB,hx];rfl
   show⟨.int m u::fs,QX (k _ _ e) f hd h0 j,by simp[i],λx hx=>by
    rcases bE.mp hx with rfl | hx
    .exact⟨_,_,rfl⟩
    .exact g x hx⟩
end
theorem Zd(b:2<=n)(a:n<64):qV n:=y9 n
end Ts
namespace L2
open PySem PySem.Spec PyProof.Rows
def wa{α i:Type}{f:α->i}{a b:List i}(h:a.Perm b):∀{L},b=L.map f->∃c:List α,c.Perm L/\a=c.map f:=by
 induction h with
 | nil=>intro L e;show⟨[],by rw[show L=[] from by simpa using e.symm],rfl⟩
 | cons x h m=>
  intro L e;cases L with
  | nil=>cases e
  | cons y L=>
   injection e with o n
   let⟨c,k,j⟩:=m n;show⟨y::c,k.cons y,by rw[bT,o,j]⟩
 | swap x y l=>
  intro L e;match L,e with
  | [],e=>cases e
  | [_],e=>cases e
  | u::v::L,e=>
   simp![bT,tQ.injEq] at e;show⟨v::u::L,Rv u v L,by simp[e]⟩
 | trans k j g d=>
  intro L e;let⟨L2,a1,a2⟩:=d e;let⟨r,q,p⟩:=g a2;show⟨r,q.trans a1,p⟩
theorem VB{α:Type}{f:α->V}{g:α->af}:∀{L:List α},(∀q∈L,RelV (f q) (g q))->Vals (L.map f) (L.map g)
 | [],_=>.nil
 | q::L,h=>.cons (h q et) (VB λx hx=>h x (cJ _ hx))
theorem FH{α:Type}{K:ao}{f:α->V}{g:α->D}:∀{L:List α},(∀q∈L,Rep K G (f q) (g q))->au K G (L.map f) (L.map g)
 | [],_=>au.nil
 | q::L,h=>au.cons (h q et) (FH λx hx=>h x (cJ _ hx))
def UW(i j)(K:X.calm=true)(L:jg X [a,b] ts)(hN:X.N.Nodup:=by assumption)(J:X.N[i]?\x:=by rfl)(I:X.N[j]?\y:=by rfl)(M:i≠j:=by decide)
  (hx:X.env.scope.names.lookup x\.local:=by rfl) (B:X.env.scope.names.lookup y\.local:=by rfl)
  (hw:swappedStores [.Tuple [.Name x m,.Name y l] kt pt] (.Tuple [a,b] n f) X.env=pure (some [x,y]):=by rfl)
  (C:swapsWithSole [.Tuple [.Name x m,.Name y l] kt pt] (.Tuple [a,b] n f) pos.line X.env=pure false:=by rfl) :
  PX X (.Assign [.Tuple [.Name x m,.Name y l] kt pt] (.Tuple [a,b] n f) pos) (AW (kh ts) (ph 2 (gq (eH i) (gq (eH j) lM)))):=by
 let⟨t,p,q⟩:=L;show⟨_,zvP K hN J I M hx B p hw C,λρ σ P O G H D E k h g=>q ρ σ P O G H _ _ k h λT H' ds Q w rs c=>?_⟩;let⟨Z,c⟩:=c;let⟨F,c⟩:=c;match ds,F,rs,c with
 | [d,e],_,rs,c=>
  let⟨v,u,rfl,z,A⟩:=T8 rs;have o:=k.ext w;have S:=o.put (i:=i) (.refl o.e.s) (r:=.fz d) z;have R:=S.put (i:=j) (.refl o.e.s) (r:=.fz e) A;show⟨v,u,rfl,g.nx _ _ Q H' w.g R c⟩
theorem L5:∀{a us},Vals (a.map kV) us->ItemsAre (jt P w) a us
 | [],_,r=>by rw[j8] at r;cases r;show .nil
 | k::a,_,r=>by
  rw[bT] at r;cases r with
  | cons h t=>show .cons (zyi h) (L5 t)
abbrev KT(H:Hp):List (List Key×V)->List (List Key×ag×af)->Prop:=Paired λp q=>p.1=q.1/\H q.2.1\.tup (p.1.map kV)/\RelV p.2 q.2.2
def KT.val(r:KT H kvs xs)(k):nj (fH kvs k) ((atKey xs k).map (·.2)):=by
 induction r with
 | nil=>show qY
 | @cons p q ps a h t f=>
  let⟨d,y,g⟩:=h;by_cases e:p.1=k
  .have c:q.1=k:=d.symm.trans e;have b:atKey (q::a) k\q.2:=by simp[atKey,oY,c]
   rw[Xe e,b];show g
  have c:¬q.1=k:=λz=>e (d.trans z)
  have b:atKey (q::a) k=atKey a k:=by simp[atKey,oY,c]
  rw[Xd e,b];show f
def KT.wD(r:KT H kvs xs)(k)(c:RelV y u) :
  KT H (kvs.map λkv=>if kv.1=k then(kv.1,y) else kv) (xs.map (putAt k u)):=by
 induction r with
 | nil=>show .nil
 | @cons p q ps g h t d=>
  rw[bT,bT];show .cons ?_ d;let⟨a,b,f⟩:=h;unfold putAt;by_cases e:p.1=k
  .rw[if_pos e,if_pos (a.symm.trans e)];show⟨a,b,c⟩
  rw[if_neg e,if_neg (λz=>e (a.trans z))];show⟨a,b,f⟩
def KT.put(r:KT H kvs xs)(k)(c:H b\.tup (k.map kV))(a:RelV y u) :
  KT H (nP kvs k y) (storedH xs k b u):=by
 have e:(kvs.any λkv=>decide (kv.1=k))=(atKey xs k).isSome:=by
  rw[LR,(r.val k).GX,D4]
 unfold nP storedH;rw[e];by_cases q:(atKey xs k).isSome=true
 .rw[if_pos q,if_pos q];show r.wD k a
 rw[if_neg q,if_neg q];show QP r ⟨rfl,c,a⟩
theorem KT.keeps(r:KT H kvs xs)(a:∀b ys,H b\.tup ys->H' b\.tup ys):KT H' kvs xs:=
 Paired.Zx r λ_ _ z=>⟨z.1,a _ _ z.2.1,z.2.2⟩
theorem Uh(ok:fR P w H h)(e:Rd H a u):gc P w H h a u:=e.ok ok
def vT(ok:fR P w H h)(e:H a\.tup (b.map kV)):(tupleKind (jt P w)).is h b a:=by
 let⟨z,its,r,o,f,d,n,c⟩:=(show gc P w H h a (.tup (b.map kV)) from ok a _ e)
 show⟨o,its.toArray,n,f,d,c,by simpa using L5 r⟩
end L2
namespace PySem
open Sem (wp)
section
variable{prog:aI}{w:aH}{K:Type}[DecidableEq K]{knd:HeapKind prog w K}{A:bh}{E:af->ai->Prop}{s:ai}
def zgy{d a:ag}{xs:List (K×ag×af)}{k:K}{b:af}{Q:af->ai->Prop}(t:knd.room A)(g:knd.is s.heap k a)(B:s.heap.DictOfH knd d xs)
  (there:∀p,atKey xs k\p->Q p.2 { s with toks:=s.toks+knd.draws k })
  (new:atKey xs k=none->∀h',h'.DictOfH knd d (storedH xs k a b)->j9 d s.heap h'->Q b { s with heap:=h',toks:=s.toks+knd.draws k })
  (hsz:xs.length<=sizeLine):↥(dictSetDefault d (.ref a) b) Q E s:=by
 let⟨o,l,D,c,C,hd,he,f,i⟩:=B;unfold dictSetDefault;try with_reducible show gi ?_
 show aj (knd.pyHash t g (aj (wpAny_dictFind_heap (s:={ s with toks:=s.toks+knd.draws k }) t g c hd he f i (λn=>?_) λj p u=>?_)))
 .have e:=atKey_none_of_get n;have nw:=new e;rw[storedH_new e] at nw;have m:k∉xs.map (·.1):=not_mem_keys_of_get n;have F:l.size<=sizeLine:=by have:=size_of_entries he;cbv
  show aj (mB (aj (wpAny_updateDictKeys (hz:=F) (s:={ s with toks:=s.toks+knd.draws k }) c hd (ay (nw _ ⟨_,_,D+1,rE _ c (Obj.isFreed_of_dict (Sh hd _)),
   C.mapDictKeys _,Sh hd _,by simp[he,entryOfKey],λx hx=>?_,?_⟩ (t7 ..))))))
  .have keep:∀{q:K}{v:ag},knd.is s.heap q v->knd.is (s.heap.update d (Obj.mapDictKeys λl=>l.push ⟨knd.hash k,.ref a,b⟩)) q v:=λh=>knd.keeps h c hd (t7 ..)
   rcases bx.mp hx with hx | hx
   .exact keep (f x hx)
   rw[cG.mp hx];show keep g
  rw[bX,lq];show⟨i,by show jo _ _,λx hx y r z=>m (by rw[List.map_singleton,cG] at r;rw[<-show x=k from z.trans r];show hx)⟩
 show aj (vt (s:={ s with toks:=s.toks+knd.draws k }) c hd ?_);rw[entry_at he j,u];show aj (mB (ay (there p (atKey_of_get i u))))
theorem zdt{d a:ag}(hd:(d==sysModules)=false)(b:af) :
  MeetsIn prog w (Builtin.«dict.setdefault» ⟨[.ref d,.ref a,b],[]⟩) (λA R s=>∃k xs,knd.room A.in1/\knd.is s.heap k a/\s.heap.DictOfH knd d xs/\xs.length<=sizeLine/\
   (∀p,atKey xs k\p->R (.ok (.ret p.2)) { s with toks:=s.toks+knd.draws k })/\
   (atKey xs k=none->∀h',h'.DictOfH knd d (storedH xs k a b)->j9 d s.heap h'->R (.ok (.ret b)) { s with heap:=h',toks:=s.toks+knd.draws k })):=
 .of_wp λA R s x=>by
  let⟨k,xs,e,h,hm,hz,j,i⟩:=x;show aj ?_;show aj (El hm.typeIs ?_);show ay ?_;show wpAny _ _ (if (d==sysModules)=true then _ else(dictSetDefault d (.ref a) b >>= _)) _ _ s;rw[if_neg (by rw[hd];show jk)];show aj (zgy e h hm (λp f=>ay ⟨p.2,rfl,j p f⟩) (λg h' l c=>ay ⟨b,rfl,i g h' l c⟩) hz)
end
def oJ(h:aD)(d:ag)(a:Array DictEntry)(b:Nat):Prop:=∃o,h.get? d\o/\o.ExactDict/\o.data=.dict a b
def oJ.kept(x:oJ h d a b)(k:∀o,h.get? d\o->h'.get? d\o):oJ h' d a b:=by
 let⟨o,c,r⟩:=x;show⟨o,k o c,r⟩
section
variable{s:ai}
def oJ.ty(x:oJ s.heap d es ep):s.TypeIs (.ref d) "dict":=by
 let⟨o,a,b,z⟩:=x;show⟨o,a,b.1⟩
def zrL(hd:(d==sysModules)=false)(x:oJ s.heap d es ep)
  (q:Q (.ref *...*) { s with heap:=s.heap.push { cls:=.type "dict_keyiterator",data:=.fields #[.ref d,.int 0 0,.int es.size 0,.int ep 0] } }):↥(pyIter (.ref d)) Q E s:=by
 let⟨c,b,z,a⟩:=id x;show AJ x.ty RM (kJ RM x.ty F.entry_dict_iter ?_ (F.args_dict_iter_1 _));show aj (m:=aaM _ _) ?_;show aj (El x.ty (show wpAny _ _ (pure (fw d)) _ _ s from ay ?_));show wpAny _ _ (JD d >>= _) _ _ s;unfold JD;rw[if_neg (by rw[hd];show jk)];show aj (ay (aj (vt b a (aj (xG b a (aj (jj (ay ⟨_,rfl,"dict_keyiterator",_,⟨_,cT _ rfl,rfl⟩,F.slot_dict_keyiterator_next.lookup,?_⟩))))))));trivial
def zrM(t:s.heap.IsKeyIter it d i es.size ep)(x:oJ s.heap d es ep)(h)
  (q:∀h',h'.IsKeyIter it d (i+1) es.size ep->j9 it s.heap h'->Q (some es[i].key) 'j'):↥(pyNext (.ref it)) Q E s:=by
 symm;let⟨m,e,j,b⟩:=id t;let⟨n,g,z,f⟩:=id x;show aj (vo (vC (name:=fS "__next__") t.typeIs Ey
  (kJ Ey t.typeIs Tb ?_ (Te _))))
 show aj (ay (aj (aj ?_)));show aj (EA t.typeIs (ay (aj (xD e b ?_))));show aj (ay (aj (vt g f ?_)));rw[if_neg ∅];show aj (ay (aj (xG g f ?_)));rw[if_neg ∅];show ay ?_;simp![show ¬((i:Int)<0) from by cbv,eC,rq,oQ h];show aj (aj (EA t.typeIs (ay (aj (Ss t.typeIs ?_)))));show wpAny _ _ (setField (.ref it) 1 (rawInt ((i:Int)+1)) >>= _) _ _ s;show aj (Ay e b ∅ ?_);have t':(s.heap.update it (Au (·.setIfInBounds 1 (rawInt ((i:Int)+1))))).IsKeyIter it d (i+1) es.size ep:=
  ⟨_,rE _ e (Sr (Eb b _)),(RV ..).trans j,by rw[Eb b];rfl⟩
 show aj (gi (aj (Ss (s:={ s with heap:=s.heap.update it (Au (·.setIfInBounds 1 (rawInt ((i:Int)+1)))) }) t'.typeIs ?_)));show ay (ay ⟨_,rfl,ay (q _ t' (t7 ..))⟩)
def zuE(n:A.handled=none)(t:s.heap.IsKeyIter it d i es.size ep)(x:oJ s.heap d es ep)(j:es.size<=i)
  (q:∀h',xw it s.heap h'->Q none 'j'):↥(pyNext (.ref it)) Q E s:=by
 symm;let⟨o,e,r,f⟩:=id t;let⟨p,h,z,g⟩:=id x;show aj (vo (vC (name:=fS "__next__") t.typeIs Ey
  (kJ Ey t.typeIs Tb ?_ (Te _))))
 show aj (ay (aj (aj ?_)));show aj (EA t.typeIs (ay (aj (xD e f ?_))));show aj (ay (aj (vt h g ?_)));rw[if_neg ∅];show aj (ay (aj (xG h g ?_)));rw[if_neg ∅];show ay ?_;simp only[show ¬((i:Int)<0) from by cbv,eC,rq,AO j];show aj (aj (EA t.typeIs (ay ?_)));show wpAny _ _ (setField (.ref it) 0 .none >>= _) _ _ s;show aj (Ay e f (by show gh _) ?_);show aj ?_;show aj (jj (aj (m:=firstArgMember _ _) (An (a:=jF) (by first | rfl | (rfl)) (jj ?_ (by size_fits)))) (by size_fits));show aj (IQ ?_);rw[show A.in1.handled=none from n];show aj (ay (Iy ?_));show aj (DY (T:="StopIteration") (b:=true) ⟨_,cT _ rfl,rfl⟩ IW ?_);show ay (q _ (((t7 ..).extBut.push _).push _))
end
end PySem
namespace L2
open PySem PySem.Spec PyProof.Rows
def IsT(H:Hp)(a:ag):Prop:=∃kvs bs,Rd H a (.dT kvs bs)
def vQ(ok:fR P w H h)(e:Rd H a (.dT kvs bs)):kvs.length<=sizeLine/\(a==sysModules)=false/\
  ∃xs,xs.map (λx=>x.2.1)=bs.1/\KT H kvs xs/\h.DictOfH (tupleKind (jt P w)) a xs:=by
 symm;let⟨z,y,xs,v,r,o,s,u,n,j,i,g,f⟩:=(show gc P w H h a (.dT kvs bs) from Uh ok e)
 have all:∀{l:List (List Key×V)}{m:List (List Key×ag×af)},KT H l m->∀x∈m,(tupleKind (jt P w)).is h x.1 x.2.1:=λ{l m} q=>by
  induction q with
  | nil=>show λx hx=>nomatch hx
  | @cons p q ps A b t d=>
   intro x hx;cases hx with
   | head=>show vT ok (by rw[<-b.1];show b.2.1)
   | tail _ hx=>show d x hx
 show⟨z,y,xs,v,r,o,s,u,n,j,i,g,all r,f.1⟩
def zyq:TE:=λ_ H Q=>∀p,H p=none->Q (.ref p) (upd H p (.dT [] ([],0)))
section
variable{e i':az}{te ti:TD}
theorem VA:PE X (.Dict [] [] pos) zyq:=λb s σ H Q I h=>by
 have ok:gc X.prog X.w (upd H *...* (.dT [] ([],0))) (s.heap.push { cls:=.type "dict",data:=.dict #[] }) *...* (.dT [] ([],0)):=
  ⟨b9 _,beq_eq_false_iff_ne.mpr (Ne.symm (cC I.big)),[],rfl,.nil,_,#[],0,cT _ rfl,⟨rfl,rfl,rfl⟩,rfl,rfl,IY,rfl⟩
 show wpAny_Dict_empty ⟨.ref *...*,_,I.laid (a:=*...*) (o:=.dT [] ([],0)) (t':=s.toks) (λ_ _ q=>cy _ q) (bB _) ok,rfl,h _ (I.aU.fresh (bB _))⟩
def KS{g:St}(I:Inv X j g H s)(d:IsT H a) :
  s.TypeIs (.ref a) "dict"/\(∀b,fw a=.ref b->∃ob,'f' b=some ob/\ob.dict=none)/\(a==sysModules)=false:=by
 symm;let⟨kvs,bs,e⟩:=d;let⟨z,hd,xs,z,z,f⟩:=vQ I.aU e;show⟨f.typeIs,λb q=>?_,hd⟩;cases q;symm;let⟨ob,z,z,i,h,z⟩:=f;show⟨ob,i,h.2.1⟩
def zyr(e ty d:TE):TE:=λσ H Q=>e σ H λx H1=>∃a,x=.ref a/\IsT H1 a/\ty σ H1 λy g=>d σ g λz c=>∃kvs bs k b,c a\.dT kvs bs/\y=.ref b/\c b\.tup (k.map kV)/\kvs.length<sizeLine/\
 (∀v,fH kvs k\v->Q v c)/\(fH kvs k=none->∀f,Q z (upd c a (.dT (kvs++[(k,z)]) (bs.1++[b],f))))
def zuF{g R:aR}{E ty D:TE}(hu:X.A.units+64<cLine)(ho:PE X o E)(he:PE X e ty)(hf:PE X f D)(m:M2 X o "setdefault" g e f R):PE X (.Call (.Attribute o "setdefault" g) [e,f] [] R) (zyr E ty D):=by
 intro B s σ H Q I h;show RU m.base m.xc m.line JJ Ta PySem.F.type_dict_setdefault (aX (ho B s σ H _ I h) λu s1 i=>?_);symm;let⟨x,H1,U,Y,a,ex,d,q1⟩:=i;subst ex;obtain rfl:u=fw a:=Y;symm;let⟨t1,V,l⟩:=KS U d;show⟨t1,V,?_⟩;rw[m.trees];show AQ rfl (Jz (xQ (aX (he B s1 σ H1 _ U q1) λiv s2 i=>?_)));symm;let⟨y,H2,I2,W,q2⟩:=i;show xQ (aX (hf B s2 σ H2 _ I2 q2) λP s3 i=>?_);symm;let⟨z,C,n,J,kvs,bs,k,b,t,ey,M,hl,q3,Z⟩:=i;show D8 ?_;subst ey;obtain rfl:iv=fw b:=W;symm;let⟨hz,hd,xs,bq,rel,T⟩:=vQ n.aU (.inl t);have hlen:kvs.length=xs.length:=tS rel;show IB Ta T.typeIs PySem.F.entry_dict_setdefault (PySem.F.args_dict_setdefault_3 _ _ _) (zdt (knd:=tupleKind (jt X.prog X.w)) hd P)
  ⟨k,xs,vw (by grind),vT n.aU M,T,by rw[<-hlen];show hz,λp hp=>?_,λL h' Pf hs=>?_⟩
 .have r:=rel.val k;rw[hp] at r;cases hx:fH kvs k with
  | none=>rw[hx] at r;show r.elim
  | some x=>
   rw[hx] at r;show⟨x,C,n.tok _,r,q3 x hx⟩
 have r:=rel.val k;rw[L] at r;cases hx:fH kvs k with
 | some=>rw[hx] at r;show r.elim
 | none=>
  symm;let⟨q,es,j,K,h2,h3,O,l,N⟩:=Pf;rw[storedH_new L] at O N;have v:KT C (kvs++[(k,z)]) (xs++[(k,b,P)]):=QP rel ⟨rfl,M,J⟩;have ok:gc X.prog X.w (upd C a (.dT (kvs++[(k,z)]) (bs.1++[b],j))) h' a (.dT (kvs++[(k,z)]) (bs.1++[b],j)):=by
   show⟨by simp;room,hd,_,by rw[bX,bq];rfl,v.keeps λc ys S=>?_,q,es,j,K,h2,h3,O,N,rfl⟩;rw[bQ (Up S t (λz=>nomatch z))];show S
  show⟨z,_,VM n (by rw[t];show qY) hs ⟨q,K⟩ ok,J,Z hx j⟩
def yf:TD:=λ_ Q=>Q (.ov (.dt []))
def WD:PD X (.Dict [] [] pos) yf:=by
 show⟨_,VA,λρ σ c b G H Q P E h k=>λd hd=>?_⟩;show k _ _ (.ov (.dt [])) G (.own E.e.s hd) ⟨d,[],rfl,by show jo _ _,⟨[],([],0),eV,trivial,rfl,rfl,by trivial⟩,λq a=>?_⟩ h;simp![cG] at a;subst a;show⟨hd,E.e.s.free hd⟩
def znp{k:List Key}{j:Nat}(h:b[j]?\(k,v))(d:∀c<j,∀p,b[c]?\p->p.1≠k):fH b k\v:=by
 induction b generalizing j with
 | nil=>trivial
 | cons a b e=>
  unfold fH;rw[oY];cases j with
  | zero=>
   cbv
  | succ j=>
   have g:a.1≠k:=d 0 (gh _) a rfl;simp![g,decide_false];show e h λc f p i=>d (c+1) (Nat.succ_lt_succ f) p (by trivial)
def YC{k:List Key}:(b.any λkv=>decide (kv.1=k))=(fH b k).isSome:=by
 induction b with
 | nil=>rfl
 | cons a b c=>
  unfold fH;grind
def Xw{α b:Type}{a:List (List Key×α)}{kvs:List (List Key×b)}(h:a.map (·.1)=kvs.map (·.1))(k):(a.any λkv=>decide (kv.1=k))=kvs.any λkv=>decide (kv.1=k):=by
 have d:(a.any λkv=>decide (kv.1=k))=(a.map (·.1)).any λx=>decide (x=k):=by rw[qZ];rfl
 have c:(kvs.any λkv=>decide (kv.1=k))=(kvs.map (·.1)).any λx=>decide (x=k):=by rw[qZ];rfl
 rw[d,c,h]
theorem fu.snoc(a:H b\.tup (k.map kV)):∀{ps bs},fu H ps bs->fu H (ps++[(k,v)]) (bs++[b])
 | [],[],_=>⟨a,trivial⟩
 | p::ps,c::bs,h=>⟨h.1,fu.snoc a h.2⟩
 | [],_::_,h=>h.elim
 | _::_,[],h=>h.elim
def zpv{k:List Key}(h:fH a k=none):fH (a++[(k,v)]) k\v:=by
 unfold fH at h ⊢;rw[RT];rw[AN] at h;rw[h];simp
def kN:List D->Option (List Key)
 | []=>some []
 | d::r=>match EH d,kN r with
  | some k,some a=>some (k::a)
  | _,_=>none
theorem yS{K:ao}:∀{ds b a},au K G b ds->kN ds\a->b=a.map kV
 | [],[],a,_,h=>by simp![kN,gw] at h;subst h;rfl
 | d::ds,v::b,a,r,h=>by
  simp![kN] at h;split at h
  .rename_i k f e c;simp![gw] at h;subst h;rw[zrF r.1 e,yS r.2 c];rfl
  cases h
 | [],_::_,_,r,_=>by simp![au] at r
 | _::_,[],_,r,_=>by simp![au] at r
def hE(kvs:List (List Key×List D))(k:List Key):List (List Key×List D):=if (kvs.any λkv=>decide (kv.1=k))=true then kvs else kvs++[(k,[])]
end
section
variable{e i':az}{te ti:TD}
def zrN{l₁:List α}{l₂:List c}(h:Paired F l₁ l₂):∀{i:Nat}{a b},l₁[i]?\a->l₂[i]?\b->F a b:=by
 induction h with
 | nil=>show nofun
 | cons r t f=>
  intro i a b e d;cases i with
  | zero=>cases e;cases d;show r
  | succ i=>show f e d
theorem bL.keys{K:ao}:∀{c kvs},bL K G c kvs->c.map (·.1)=kvs.map (·.1)
 | [],[],_=>rfl
 | a::c,b::kvs,h=>by
  rw[bT,bT,h.1.1,bL.keys h.2]
 | [],_::_,h=>by simp![bL] at h
 | _::_,[],h=>by simp![bL] at h
theorem fu.at:∀{ps bs}{i:Nat}{b k},fu H ps bs->bs[i]?\b->(ps.map (·.1))[i]?\k->H b\.tup (k.map kV)
 | p::ps,c::bs,0,b,k,h,a,d=>by
  simp![JL,gw,bT] at a d;subst a d;show h.1
 | p::ps,c::bs,i+1,b,k,h,a,d=>by
  show fu.at h.2 a d
 | [],[],_,_,_,_,a,_=>by trivial
 | [],_::_,_,_,_,h,_,_=>h.elim
 | _::_,[],_,_,_,h,_,_=>h.elim
def zwH(K:ao)(d ty:TE):TE:=λσ H Q=>d σ H λx H1=>ty σ H1 λy c=>∃a b kvs bs k v,x=.ref a/\y=.ref b/\Rd c a (.dT kvs bs)/\cY K c b (k.map kV)/\fH kvs k\v/\Q v c
def zrO(T:X.A.units+64<cLine)(D:PE X o f)(E:PE X i ty)(B:J5 i):PE X (.Subscript o i pos) (zwH X.K f ty):=by
 intro j s σ H Q I h;show zux PySem.F.slot_dict_getitem.lookup B (aX (D j s σ H _ I h) λu s1 d=>?_);symm;let⟨x,H1,O,n,t⟩:=d;show aX (E j s1 σ H1 _ O t) λiv s2 d=>?_
 symm;let⟨y,P,e,m,a,b,kvs,bs,k,v,ex,M,L,J,hv,r⟩:=d;subst ex M;obtain rfl:u=fw a:=n;obtain rfl:iv=fw b:=m;symm;let⟨l,hd,xs,l,rel,g⟩:=vQ e.aU L;obtain⟨its,q,⟨o1,g1,c1,n1,N⟩,_⟩:=e.tuple J;have key:(tupleKind (jt X.prog X.w)).is s2.heap k b:=⟨o1,its.toArray,n1,g1,c1,N,by simpa using L5 q⟩
 symm;let⟨S,hw,z⟩:=nj.some_of (v:=v) (o:=(atKey xs k).map (·.2)) (by rw[<-hv];show rel.val k);let⟨p,C,R⟩:=jZ.mp hw;show⟨g.typeIs,wpAny_getItem_heap (vw 'a') key g C ?_⟩;rw[R];show⟨v,P,e.tok _,z,r⟩
def lO(kvs:List (List Key×D))(k:List Key):Option D:=(kvs.find? λkv=>decide (kv.1=k)).map (·.2)
def ye(te ti:TD):TD:=λρ Q=>te ρ λr=>ti ρ λrk=>vN r.val λkvs=>qN rk.val λa=>∃k d,kN a\k/\lO kvs k\d/\Q (.fz d)
theorem bL.look{K:ao}:∀{c kvs},bL K G c kvs->lO kvs k\d->∃v,fH c k\v/\Rep K G v d
 | [],[],_,e=>by trivial
 | a::c,b::kvs,h,e=>by
  simp![bL] at h;unfold lO at e;unfold fH;rw[oY] at e ⊢;rw[h.1.1];by_cases f:b.1=k
  .simp_all
  simp![f,decide_false] at e ⊢;show bL.look h.2 e
 | [],_::_,h,_=>by simp![bL] at h
 | _::_,[],h,_=>by simp![bL] at h
def Lq(M:X.A.units+64<cLine)(he:PD X e te)(S:PD X i' ti)(N:J5 i':=by intro _ _;rfl):PD X (.Subscript e i' pos) (ye te ti):=by
 symm;let⟨t,p,q⟩:=he;let⟨t2,D,C⟩:=S;show⟨_,zrO M p D N,λρ σ n m G H Q P E h k=>q ρ σ n m G H _ _ E h λv H1 r G1 x B O=>?_⟩;symm;let⟨Z,j,z,l⟩:=B.freeze x;show C ρ σ n m Z H1 _ _ (E.ext j) O λu W rk G3 o F i=>?_
 symm;let⟨Y,f,I,l⟩:=F.freeze o;let⟨a,J,bs,kvs,rfl,V,wV,y,i⟩:=z.Dq i;let⟨b,ys,es,rfl,U,K,key,d,R,hl,i⟩:=I.T i;let⟨w,hw,L⟩:=(bL.mono f.g _ _ y).look hl;show⟨a,b,J,bs,key,w,rfl,rfl,.inl (f.s _ _ (f.g _ _ V)),by rw[<-yS K R];show f.s.uE U,hw,k w W (.fz d) Y (j.trans f) L i⟩
end
section
variable{K:ao}
def aS.unset(E:aS K G0 H0 ρ σ G H):aS K G0 H0 (ρ.set i .un) (σ.set i u) G H:=by
 let⟨L,y,y,k⟩:=E.step i;show k (mF ..) (λj h=>vz h.symm) (aW.refl _) E.e.s (λ_ _ _=>⟨rfl,id⟩) λ_ z=>(z rfl).elim
end
end L2
namespace PySem
open Sem (wp)
end PySem
namespace L2
open PySem PySem.Spec PyProof.Rows
end L2
namespace PySem
open Sem (wp)
end PySem
namespace L2
open PySem PySem.Spec PyProof.Rows
namespace SI
open PySem PySem.Spec PyProof.Rows
structure Kn(prog:aI)(w:aH) where
 κ:Type
 dec:DecidableEq κ
 knd:Rn prog w κ
 to:κ->Tok->af
 un:af->κ
 adb:∀x t,knd.is x (to x t)=true
 shape:∀x v,knd.is x v=true->∃t,v=to x t
 ac1:∀x t,un (to x t)=x
 sc:∀x t,(to x t).scannable=true
 hv:∀x t,∃b,hashByValue 8 (to x t)=pure b
instance {prog:aI} {w:aH} (kn:Kn prog w):DecidableEq kn.κ:=kn.dec
end SI
end L2
namespace L2
open PySem PySem.Spec PyProof.Rows
namespace SI
end SI
end L2
namespace L2
open PySem PySem.Spec PyProof.Rows
section
variable{P:aI}{w:aH}{K:ao}{mg:aa->Option af}{base:aD}
structure Ic(K:ao)(mg:aa->Option af)(x:aa)(st:cq)(ds:List af):Prop where
 ex:∃(T f:ag)(fd:gR)(o:aV)(n:Nat),tO (.ref T) K x x st f fd/\mg x\.ref f/\K.lookup T\o/\o.data=.seq ds.toArray n
theorem aca{st:cq}{kV d pm e ct:af}(X:K.In h)(G:h.Ns mainGlobals mg)(a:Aq K mainGlobals x\some (.ref f))
  (l:K.lookup f\⟨j,i,.func (mD x x (pV st) (iO st) (dQ st) (.ref T) kV d pm o e ct),m⟩) (c:xE K e x=true) (k:oW K (.ref f)=true) (t:K.lookup T\⟨tc,g,.seq ds.toArray n,b⟩):Ic K mg x st ds:=
 ⟨T,f,_,_,n,K7 l c k,IT X G a,t,rfl⟩
def tO.aak{st:cq}{ds d:List af}(F:tO (.ref T) K x b st f g)(m)(i:K.lookup T\o)(hd:o.data=.seq ds.toArray n)
  (h:∀kV doc pm an e ct us,us.length=m->∃k:Option (Array af)->Sem (List (aa×af)),bindArgs (mD x b (pV st) (iO st) (dQ st) (.ref T) kV doc pm an e ct) ⟨us,[]⟩=seqItems? (.ref T) >>= k/\k (some ds.toArray)=pure (ps.zip (us++d))) (j:ps.length=m+d.length:=by rfl):Binds K g ps d:=by
 symm;let⟨t,r,kV,doc,pm,an,e,ct,u,rfl,lf,v⟩:=F.ex;intro s us zg hl;let⟨k,q,p⟩:=h kV doc pm an e ct us (by rw[bP,j] at hl;cbv);show BindsTo.of_defaults rfl (zg _ _ i) hd q p
structure Dt(P:aI)(w:aH)(K:ao)(mg:aa->Option af)(base:aD)(k:Nat)(x:aa)(n:Nat)(t:bF)(b:Bool):Prop where
 ex:∃(f:ag)(fd:gR)(ps:List aa),kH P w K mg base iR k f fd ps (xj K n t)/\mg x\.ref f/\oW K (.ref f)=true/\Binds K fd ps []/\Binds K fd ps [.bool b]
def Dt.all(C:Dt P w K mg base k x n t b):Known P w K mg base k x n t:=by
 symm;let⟨f,fd,ps,h,g,e,d,z⟩:=C.ex;show⟨f,fd,ps,h,g,e,d⟩
end
section
variable{p p' pos pos':aR}{e:az}{ts:fm}
def zrP:fX X (.type "range") (λxs H Q=>∃j:Int,xs=[.int j]/\∀l,H l=none->Q (.ref l) (upd H l (.wB 0 j))):=by
 intro a s σ H xs us Q I r h;let⟨j,rfl,q⟩:=h;let⟨u,rfl,t,rfl⟩:=gI r;show Q8 ⟨.ref *...*,_,I.laid (t':=s.toks+1+1) (λb o e=>cy _ e) (bB _) (show gc X.prog X.w _ _ _ (.wB 0 j) from⟨_,_,_,cT _ rfl⟩),rfl,q _ (I.aU.fresh (bB _))⟩
theorem Yj:∀l k,(∀(j:Nat) v,l[j]?\v->∃t,v=.int ((k:Int)+j) t)->Vals ((List.range' k l.length).map λ(i:Nat)=>V.int i) l
 | [],_,_=>.nil
 | v::l,k,h=>by
  let⟨t,a⟩:=h 0 v rfl;show .cons ⟨t,by rw[a];rfl⟩ (Yj l (k+1) λj u b=>?_);let⟨t,a⟩:=h (j+1) u (by trivial);show⟨t,by rw[a];congr 1;lia⟩
def znr(n acc)(h:ItemsOf (λi v=>∃t,v=.int (0+i*1) t) acc n):Vals ((bA n).map λ(i:Nat)=>V.int i) acc.toList:=by
 have:=Yj acc.toList 0 λj v hv=>by
  let⟨t,a⟩:=h.2 j v (by simpa using hv);show⟨t,by congr 1;cbv⟩
 rw[cH,h.1] at this;rw[List.range_eq_range'];show this
def zi0(m:X.calm=true):fX X (.type "list") (λxs H Q=>∃(p:ag)(n:Nat),xs=[.ref p]/\H p=some (.wB 0 n)/\n<=sizeLine/\∀l,H l=none->Q (.ref l) (upd H l (.lst ((bA n).map λ(i:Nat)=>V.int i)))):=by
 intro o s σ H xs us Q I r h;symm;let⟨p,n,rfl,d,f,q⟩:=h;let⟨u,rfl,b⟩:=gI r;cases b;symm;let⟨t,u,v,e⟩:=I.aU p _ d;have big:sizeLine=16777216:=rfl;show call_list_range (I.ok.hd m) (show IsRange s.heap p 0 n 1 t u v from e) (small_one 'g' 'g' 'g' 'a') (n:=n) (by rw[Rm];split<;>ext) (by trivial) λh' tk acc c g hl j=>?_
 have hv:=znr n acc j;show⟨.ref *...*,_,I.laid (t':=tk) g (bB _) (show gc X.prog X.w _ h' _ (.lst ((bA n).map λ(i:Nat)=>V.int i)) from⟨by simpa using f,acc.toList,c,hv,by trivial⟩),rfl,q _ (I.aU.fresh (bB _))⟩
def yx(ts:fm):TD:=λρ Q=>ts ρ λds=>fK ds λd=>gu d λj=>0<=j/\j<=1000000/\Q (.ow ((bA j.toNat).map λ(i:Nat)=>.int i))
def zrQ(w:X.calm=true)(n:X.mg "list"=none)(A:X.mg "range"=none)(y:jg X [e] ts)(u:Gl X "list":=by rfl)(m:Gl X "range":=by rfl)(B:starEach [e] X.env=(false,eval e X.env)::starEach [] X.env:=by rfl):PD X (.Call (.Name "list" p) [.Call (.Name "range" p') [e] [] pos'] [] pos) (yx ts):=by
 let⟨t,pp,q⟩:=y;show⟨_,Gi (zi0 w) u n mq (lU (Gi zrP m A Iq pp (he:=B)) lQ),λρ σ I D G H Q P E h k=>q ρ σ I D G H _ _ E h λJ H' ds c x rs b=>?_⟩;let⟨j,rfl,z,K,b⟩:=rs.Zl b;show⟨j,rfl,λl o=>?_⟩;have big:sizeLine=16777216:=rfl;have a:Ext c H' c (upd H' l (.wB 0 j)):=.own x.s o;show⟨l,j.toNat,rfl,by rw[eV,Ef z],by lia,sk a.s (ds:=(bA j.toNat).map λ(i:Nat)=>.int i) (FH λq _=>by simp![Rep]) b λv C r F d f g=>k v C r F ((x.trans a).trans d) (f.pG (x.h.trans a.h)) g⟩
end
section
variable{P:aI}{w:aH}{K:ao}{mg:aa->Option af}{base:aD}
def zrR{st:cq}(k)(A:At K mg x st)(S:oM N ps (dQ st))
  (body:∀f a A outer s H E,eX k (A.deeper (envOfC x (dQ st) *...* f a))->jf (lN iR P w K mg base N x (dQ st) f a A outer s H E).oj (iO st) T)
  (spec:∀ds c,ds.length=n->t ds c->T { nx:=λ_=>c (.fz .non),rt:=c } (pB N ds))
  (b:∀kV doc pm an a ct us,us.length=n->bindArgs (mD x x (pV st) (iO st) (dQ st) .none kV doc pm an a ct) ⟨us,[]⟩=pure (ps.zip us)) (e:ps.length=n:=by rfl) (hd:k+1=d:=by rfl):Known P w K mg base d x n t:=by
 subst e hd;let⟨f,fd,F,hm⟩:=A.ex;show⟨f,fd,ps,LF F S (body f) spec,hm,F.kp,F.binds b⟩
theorem c9{st:cq}(k)(A:At K mg x st)
  (body:N.Nodup->∀f e A outer s H E,eX k (A.deeper (envOfC x (dQ st) *...* f e))->jf (lN iR P w K mg base N x (dQ st) f e A outer s H E).oj (iO st) T)
  (spec:∀ds g,ds.length=n->t ds g->T { nx:=λ_=>g (.fz .non),rt:=g } (pB N ds))
  (S:oM N (N.take n) (dQ st):=by walk_at"sc") (b:∀kV doc pm an e ct us,us.length=n->bindArgs (mD x x (pV st) (iO st) (dQ st) .none kV doc pm an e ct) ⟨us,[]⟩=pure ((N.take n).zip us):=by walk_at"bn") (h:(N.take n).length=n:=by rfl) (hd:k+1=d:=by rfl):Known P w K mg base d x n t:=zrR k A S (body S.nd) spec b h hd
abbrev dr(P:aI)(w:aH)(K:ao)(mg:aa->Option af)(base:aD)(k:Nat)(x:aa)(N:List aa)(st:cq)(T:TX):Prop:=
 N.Nodup->∀f a A outer s H E,eX k (A.deeper (envOfC x (dQ st) *...* f a))->jf (lN iR P w K mg base N x (dQ st) f a A outer s H E).oj (iO st) T
end
end L2
namespace Ts
open PySem PySem.W PyProof.Rows
end Ts
namespace L2
open PySem PySem.Spec PyProof.Rows
def rR{α:Type}{l:List α}(h:l.length=n+1):∃a r,l=a::r/\r.length=n:=by
 cases l with
 | nil=>cases h
 | cons a r=>show⟨a,r,rfl,Nat.succ.inj h⟩
theorem zzz{α:Type}{l:List α}(h:l.length=0):l=[]:=oS h
def JY{α:Type}{l:List α}(h:l.length=1):∃b,l=[b]:=by
 let⟨a,r,e,h⟩:=rR h;show⟨a,by rw[e,zzz h]⟩
def JX{α:Type}{l:List α}(h:l.length=2):∃f a1,l=[f,a1]:=by
 symm;let⟨a,r,e,h⟩:=rR h;let⟨d,b⟩:=JY h;show⟨a,d,by rw[e,b]⟩
def TK{α:Type}{l:List α}(h:l.length=3):∃g a1 a2,l=[g,a1,a2]:=by
 symm;let⟨a,r,e,h⟩:=rR h;let⟨f,d,b⟩:=JX h;show⟨a,f,d,by rw[e,b]⟩
def TH{α:Type}{l:List α}(h:l.length=4):∃j a1 a2 i,l=[j,a1,a2,i]:=by
 symm;let⟨a,r,e,h⟩:=rR h;let⟨g,f,d,b⟩:=TK h;show⟨a,g,f,d,by rw[e,b]⟩
def TF{α:Type}{l:List α}(h:l.length=5):∃n a1 a2 m j,l=[n,a1,a2,m,j]:=by
 symm;let⟨a,r,e,h⟩:=rR h;let⟨i,g,f,d,b⟩:=TH h;show⟨a,i,g,f,d,by rw[e,b]⟩
def JW{α:Type}{l:List α}(h:l.length=6):∃p a1 a2 o n m,l=[p,a1,a2,o,n,m]:=by
 symm;let⟨a,r,e,h⟩:=rR h;let⟨j,i,g,f,d,b⟩:=TF h;show⟨a,j,i,g,f,d,by rw[e,b]⟩
def TC{α:Type}{l:List α}(h:l.length=7):∃s a1 a2 q p o n,l=[s,a1,a2,q,p,o,n]:=by
 symm;let⟨a,r,e,h⟩:=rR h;let⟨m,j,i,g,f,d,b⟩:=JW h;show⟨a,m,j,i,g,f,d,by rw[e,b]⟩
def TB{α:Type}{l:List α}(h:l.length=8):∃u a1 a2 t s q p o,l=[u,a1,a2,t,s,q,p,o]:=by
 symm;let⟨a,r,e,h⟩:=rR h;let⟨n,m,j,i,g,f,d,b⟩:=TC h;show⟨a,n,m,j,i,g,f,d,by rw[e,b]⟩
def zzB{α:Type}{l:List α}(h:l.length=9):∃w a1 a2 v u t s q p,l=[w,a1,a2,v,u,t,s,q,p]:=by
 symm;let⟨a,r,e,h⟩:=rR h;let⟨o,n,m,j,i,g,f,d,b⟩:=TB h;show⟨a,o,n,m,j,i,g,f,d,by rw[e,b]⟩
open PySem.Builtin PySem.Builtin.Str
end L2
namespace L2.SO
open PySem PySem.Spec PyProof.Rows L2
end L2.SO
namespace L2
open PySem PySem.Spec PyProof.Rows
section
variable{e:az}{t:TA}
def oD:Option aa->D
 | none=>.non
 | some x=>.str x
end
section
variable{prog:aI}{w:aH}{K:Type}[DecidableEq K]{knd:HeapKind prog w K}{A:bh}{E:af->ai->Prop}{s:ai}{d a:ag}{k:K}{xs:List (K×ag×af)}
def YD{Q:Bool->ai->Prop}(e:knd.room A.in1)(c:knd.is s.heap k a)(hd:(d==sysModules)=false)(b:s.heap.DictOfH knd d xs)
  (h:Q (atKey xs k).isSome { s with toks:=s.toks+knd.draws k }):↥(contains (.ref d) (.ref a)) Q E s:=by
 unfold contains;try with_reducible show gi ?_
 show aj (DR b.typeIs slot_dict_contains.lookup ?_);rw[if_neg (by show jk)];show aj (wpAny_callSpecialUnlessNone?_slot (name:=fS "__contains__") b.typeIs R5
  (kJ R5 b.typeIs entry_dict_contains ?_ (args_dict_contains _ _)))
 show wpAny _ _ (dictGet d (.ref a) >>= _) _ _ s;show aj (wpAny_dictGet_heap e c b ?_);cases hf:atKey xs k with
 | some p=>
  rw[hf] at h;show ay ⟨_,rfl,lA h⟩
 | none=>
  rw[hf] at h;show aj (wpAny_pendingKey_other hd (ay ⟨_,rfl,lA h⟩))
end
section
variable{X:Cx}{e i':az}{te ti tv:TD}
def JV(n:Bool):R2:=λx y H Q=>∃a b kvs bs k,y=.ref a/\x=.ref b/\Rd H a (.dT kvs bs)/\H b\.tup (k.map kV)/\Q (.bl (if n then !(fH kvs k).isSome else(fH kvs k).isSome)) H
def zy8(j:X.A.units+64<cLine):eh X (compareOp .In) (JV false):=by
 intro m s σ H x y v u Q I e d h;symm;let⟨a,b,kvs,bs,k,rfl,rfl,g,f,q⟩:=h;cases e;cases d;symm;let⟨z,hd,xs,z,rel,i⟩:=vQ I.aU g;show aj (YD (knd:=tupleKind (jt X.prog X.w)) (vw 'a') (vT I.aU f) hd i (ay ⟨.bl _,H,I.tok _,rfl,?_⟩));have:=(rel.val k).GX;rw[D4] at this;rw[<-this];show q
def zpw(j:X.A.units+64<cLine):eh X (compareOp .NotIn) (JV true):=by
 intro m s σ H x y v u Q I e d h;symm;let⟨a,b,kvs,bs,k,rfl,rfl,g,f,q⟩:=h;cases e;cases d;symm;let⟨z,hd,xs,z,rel,i⟩:=vQ I.aU g;show aj (YD (knd:=tupleKind (jt X.prog X.w)) (vw 'a') (vT I.aU f) hd i (ay ⟨.bl _,H,I.tok _,rfl,?_⟩));have:=(rel.val k).GX;rw[D4] at this;rw[<-this];show q
theorem bL.isSome{K:ao}(k):∀{c kvs},bL K G c kvs->(fH c k).isSome=(lO kvs k).isSome
 | [],[],_=>rfl
 | a::c,b::kvs,h=>by
  unfold lO fH;rw[oY,oY,h.1.1];by_cases d:b.1=k
  .simp![d,decide_true,lG,Ec]
  simp![d,decide_false];show bL.isSome k h.2
 | [],_::_,h=>by simp![bL] at h
 | _::_,[],h=>by simp![bL] at h
def vI(a:Bool):O2:=λd e Q=>qN d λb=>vN e λkvs=>∃k,kN b\k/\Q (.fz (.bl (if a then !(lO kvs k).isSome else(lO kvs k).isSome)))
def zuH{d e:D}(s:aW G H)(i:Rep X.K G x d)(g:Rep X.K G y e)(h:vI n d e Q)(k:∀v H' r c,Ext G H c H'->dh X.K c H' H v r->Q r->P v H'):JV n x y H P:=by
 let⟨b,ys,u,rfl,o,l,h⟩:=i.T h;let⟨a,j,bs,kvs,rfl,p,t,f,key,m,q⟩:=g.Dq h;show⟨a,b,j,bs,key,rfl,rfl,.inl (s _ _ p),by rw[<-yS l m];show s _ _ o,?_⟩;rw[f.isSome key];show k _ _ _ G (.refl s) (dH (iJ _ _ _)) q
theorem zrT(c:X.A.units+64<cLine):gG X (compareOp .NotIn) (vI true):=⟨_,zpw c,λG H x y d e Q P s b a h k=>zuH s b a h k⟩
def yd:TD:=λ_ Q=>Q (.ov (.dq []))
def zrU:PD X (.Dict [] [] pos) yd:=by
 show⟨_,VA,λρ σ c b G H Q P E h k=>λd hd=>?_⟩;show k _ _ (.ov (.dq [])) G (.own E.e.s hd) ⟨d,[],rfl,by show jo _ _,⟨rfl,[],([],0),eV,trivial,by simp![bL]⟩,λq a=>?_⟩ h;simp![cG] at a;subst a;show⟨hd,E.e.s.free hd⟩
def zuI(e ty d:TE):TE:=λσ H Q=>e σ H λx H1=>∃a,x=.ref a/\IsT H1 a/\ty σ H1 λy f=>d σ f λz c=>∃kvs bs k b,Rd c a (.dT kvs bs)/\y=.ref b/\c b\.tup (k.map kV)/\Q ((fH kvs k).getD z) c
def zpx(W:X.A.units+64<cLine)(M:PE X o q)(he:PE X e ty)(O:PE X f p)(m:M2 X o "get" g e f r):PE X (.Call (.Attribute o "get" g) [e,f] [] r) (zuI q ty p):=by
 intro j s σ H Q I h;show RU m.base m.xc m.line JJ Sq PySem.F.type_dict_get (aX (M j s σ H _ I h) λu s1 i=>?_);symm;let⟨x,H1,v,E,a,ex,d,L⟩:=i;subst ex;obtain rfl:u=fw a:=E;symm;let⟨t1,B,l⟩:=KS v d;show⟨t1,B,?_⟩;rw[m.trees];show AQ rfl (Jz (xQ (aX (he j s1 σ H1 _ v L) λiv s2 i=>?_)));symm;let⟨y,V,T,D,K⟩:=i;show xQ (aX (O j s2 σ V _ T K) λR s3 i=>?_);symm;let⟨z,U,n,C,kvs,bs,k,b,N,S,P,J⟩:=i;show D8 ?_;subst S;obtain rfl:iv=fw b:=D;symm;let⟨hz,hd,xs,Y,rel,t⟩:=vQ n.aU N;show IB Sq t.typeIs PySem.F.entry_dict_get (PySem.F.args_dict_get_3 _ _ _) (meetsH_dict_get_default (tupleKind (jt X.prog X.w)) a b hd R) ⟨vw ⋯,k,xs,vT n.aU P,t,?_⟩;show⟨_,U,n.tok _,(rel.val k).getD C,J⟩
def yw(te ti a:TD):TD:=λρ Q=>te ρ λr=>vN r.val λkvs=>ti ρ λrk=>a ρ λb=>qN rk.val λc=>∃k,kN c\k/\Q (.fz ((lO kvs k).getD b.val))
def zrV(hu:X.A.units+64<cLine)(he:PD X e te)(hi:PD X i' ti)(hf:PD X f J)(m:M2 X e "get" i i' f pos:=by show⟨rfl,rfl,rfl,rfl⟩):PD X (.Call (.Attribute e "get" i) [i',f] [] pos) (yw te ti J):=by
 symm;let⟨t,p,q⟩:=he;let⟨t2,p2,q2⟩:=hi;let⟨t3,p3,Z⟩:=hf;show⟨_,zpx hu p p2 p3 m,λρ σ F D G H Q P E h k=>q ρ σ F D G H _ _ E h λv H1 r G1 S Y C=>?_⟩;symm;let⟨G2,n,W,l⟩:=Y.freeze S;let⟨a,B,bs,kvs,rfl,K,wV,U,C⟩:=W.Dq C;show⟨a,rfl,⟨B,bs,.inl (n.s _ _ K)⟩,?_⟩;show q2 ρ σ F D G2 H1 _ _ (E.ext n) C λu H3 rk G3 R mV cM=>?_
 symm;let⟨G4,I,mT,l⟩:=mV.freeze R;show Z ρ σ F D G4 H3 _ _ ((E.ext n).ext I) cM λz M V G5 O NP j=>?_
 symm;let⟨N,x,y,l⟩:=NP.freeze O;let⟨b,ys,es,rfl,hb,jK,key,h1,j⟩:=mT.T j;have o:=I.trans x;show⟨B,bs,key,b,.inl (o.s _ _ (o.g _ _ K)),rfl,by rw[<-yS jK h1];show x.s _ _ (x.g _ _ hb),?_⟩;have L:=bL.mono o.g _ _ U;cases hl:lO kvs key with
 | none=>
  have:=L.isSome key;rw[hl] at this;cases hv:fH B key with
  | some=>rw[hv] at this;cases this
  | none=>
   rw[hl] at j;show k _ M (.fz V.val) N (n.trans o) y j
 | some d=>
  let⟨w,hw,iD⟩:=L.look hl;rw[hw];rw[hl] at j;show k _ M (.fz d) N (n.trans o) iD j
def zwI(d ty tv:TE):TS:=λD σ H=>tv σ H λv H1=>d σ H1 λx f=>ty σ f λy c=>∃a b kvs bs k,x=.ref a/\y=.ref b/\c a\.dT kvs bs/\c b\.tup (k.map kV)/\kvs.length<sizeLine/\∀e,D.nx σ (upd c a (.dT (nP kvs k v) (if (kvs.any λkv=>decide (kv.1=k))=true then bs.1 else bs.1++[b],e)))
def zrW{t ty tv:TE}(hu:X.A.units+64<cLine)(S:PE X o t)(T:PE X i ty)(hv:PE X d tv)(R:swapsWith d (some (.Subscript o i f)) pos.line X.env=pure false) :
  PS X (.Assign [.Subscript o i f] d pos) (zwI t ty tv):=by
 intro m s σ H D I h;show wpAny_Assign_Subscript (aX (hv m s σ H _ I h) λr s1 g=>?_) R;symm;let⟨v,H1,I1,N,Q⟩:=g;show aX (S m s1 σ H1 _ I1 Q) λu s2 g=>?_
 symm;let⟨x,H2,I2,M,P⟩:=g;show aX (T m s2 σ H2 _ I2 P) λiv s3 g=>?_
 symm;let⟨y,H3,n,L,a,b,kvs,bs,k,ex,Z,j,C,hl,O⟩:=g;subst ex Z;obtain rfl:u=fw a:=M;obtain rfl:iv=fw b:=L;symm;let⟨hz,hd,xs,J,rel,dd⟩:=vQ n.aU (.inl j);have hlen:kvs.length=xs.length:=tS rel;show wpAny_setItem_heap (knd:=tupleKind (jt X.prog X.w)) (hsz:=by rw[<-hlen];show hz) (vw 'a') (vT n.aU C) dd λh' Pf K=>?_
 symm;let⟨q,es,E,B,Y,W,V,l,U⟩:=Pf;show⟨σ,_,?_,O E⟩;show VM n (by rw[j];show qY) K ⟨q,B⟩ ⟨by have:=zk9 kvs k v;show bK ‹_› ‹_›,hd,_,?_,(rel.put k C N).keeps λc ys F=>?_,q,es,E,B,Y,W,V,U,rfl⟩
 .have e:(kvs.any λkv=>decide (kv.1=k))=(atKey xs k).isSome:=by
   rw[LR,(rel.val k).GX,D4]
  unfold storedH;rw[e];by_cases z:(atKey xs k).isSome=true
  .rw[if_pos z,if_pos z,bz,<-J];show t8 λp _=>?_
   show(putAt k r p).2.1=p.2.1;unfold putAt;split<;>rfl
  rw[if_neg z,if_neg z,bX,J];rfl
 rw[bQ (Up F j (λz=>nomatch z))];show F
end
def rQ(kvs:List (List Key×D))(k:List Key)(d:D):List (List Key×D):=
 if (kvs.any λkv=>decide (kv.1=k))=true then kvs.map (λkv=>if kv.1=k then(kv.1,d) else kv) else kvs++[(k,d)]
section
variable{K:ao}
theorem bL.length:∀{c kvs},bL K G c kvs->c.length=kvs.length
 | [],[],_=>rfl
 | a::c,b::kvs,h=>by
  simp![cZ,bL.length h.2]
 | [],_::_,h=>by simp![bL] at h
 | _::_,[],h=>by simp![bL] at h
theorem bL.any(k):∀{c kvs},bL K G c kvs->(c.any λkv=>decide (kv.1=k))=kvs.any λkv=>decide (kv.1=k)
 | [],[],_=>rfl
 | a::c,b::kvs,h=>by
  rw[rg,rg,h.1.1,bL.any k h.2]
 | [],_::_,h=>by simp![bL] at h
 | _::_,[],h=>by simp![bL] at h
theorem bL.snoc(r:Rep K G v d):∀{c kvs},bL K G c kvs->bL K G (c++[(k,v)]) (kvs++[(k,d)])
 | [],[],_=>by simp![rn,bL];show⟨⟨trivial,r⟩,trivial⟩
 | a::c,b::kvs,h=>by
  show⟨h.1,bL.snoc r h.2⟩
 | [],_::_,h=>by simp![bL] at h
 | _::_,[],h=>by simp![bL] at h
theorem bL.wD(r:Rep K G v d):∀{c kvs},bL K G c kvs->bL K G (c.map λkv=>if kv.1=k then(kv.1,v) else kv) (kvs.map λkv=>if kv.1=k then(kv.1,d) else kv)
 | [],[],_=>by trivial
 | a::c,b::kvs,h=>by
  simp![bT,bL];show⟨?_,bL.wD r h.2⟩;rw[h.1.1];split
  .exact⟨rfl,r⟩
  show⟨h.1.1,h.1.2⟩
 | [],_::_,h=>by assumption
 | _::_,[],h=>by assumption
def bL.put(h:bL K G a kvs)(r:Rep K G v d):bL K G (nP a k v) (rQ kvs k d):=by
 unfold nP rQ;rw[h.any k];split
 .exact h.wD r
 show h.snoc r
theorem fu.wD:∀{ps bs},fu G ps bs->fu G (ps.map λkv=>if kv.1=k then(kv.1,v) else kv) bs
 | [],[],h=>h
 | p::ps,b::bs,h=>by
  rw[bT];show⟨?_,fu.wD h.2⟩;split
  .exact h.1
  show h.1
 | [],_::_,h=>h.elim
 | _::_,[],h=>h.elim
def fu.put(h:fu G a bs)(c:G b\.tup (k.map kV)):fu G (nP a k v) (if (a.any λkv=>decide (kv.1=k))=true then bs else bs++[b]):=by
 unfold nP;split
 .exact h.wD
 show h.snoc c
end
section
variable{X:Cx}{e i':az}{te ti tv:TD}
def yc(i:Nat)(ti tv:TD):TX:=λD ρ=>gV ρ i λo=>NB o λkvs=>tv ρ λr=>ti ρ λrk=>qN rk.val λa=>∃k,kN a\k/\kvs.length<sizeLine/\D.nx (ρ.set i (.ov (.dq (rQ kvs k r.val))))
def zuJ(hu:X.A.units+64<cLine)(i)(hi:PD X i' ti)(he:PD X e tv)(hN:Nm X i x:=by walk_at"nm")
  (hs:swapsWith e (some (.Subscript (.Name x F) i' C)) pos.line X.env=pure false:=by rfl) :
  PX X (.Assign [.Subscript (.Name x F) i' C] e pos) (yc i ti tv):=by
 symm;let⟨t,p,q⟩:=he;let⟨t2,Ct,Z⟩:=hi;show⟨_,zrW hu (lT hN) Ct p hs,λρ σ O M G H D E k h g=>?_⟩;let⟨a,fp,o,hg,L,b2,ow,b4,h⟩:=k.gV h;let⟨kvs,rfl,h⟩:=zwf h;let⟨rfl,I,bs,K,wV,V⟩:=ow;show q ρ σ O M G H _ _ k h λv H' r G' S Y j=>?_
 let⟨G2,B,W,l⟩:=Y.freeze S;show⟨_,L,Z ρ σ O M G2 H' _ _ (k.ext B) j λu H3 rk G3 R mV n=>?_⟩;let⟨N,f,mT,l⟩:=mV.freeze R;let⟨b,ys,es,rfl,m,jK,key,hk,hlen,n⟩:=mT.T n;have J:N b\.tup (key.map kV):=by rw[<-yS jK hk];show m
 have d:=B.trans f;show⟨a,b,I,bs,key,rfl,rfl,d.h _ _ K,f.s _ _ J,by rw[V.length];show hlen,λep=>?_⟩;show g.nx _ _ N _ d.g ((k.ext d).zD hg L λfp nd ow=>?_) n;let⟨rfl,U,Q,P,w,y⟩:=ow;have e1:U=I/\Q=bs:=by
  have:=(d.h _ _ K).symm.trans P;injection this with this
  injection this with NF ND
  show⟨NF.symm,ND.symm⟩
 let⟨rfl,rfl⟩:=e1;show⟨[],by trivial,⟨rfl,_,_,eV,w.put J,y.put (W.mono f.g)⟩,λq j=>.inl j,λb m _=>bQ λz=>m (by show z▸.head _)⟩
end
section
variable{X:Cx}{e i':az}{te ti:TD}
def xY(i:Nat)(tk te:TD):TX:=λD ρ=>gV ρ i λo=>Nz o λkvs=>tk ρ λrk=>qN rk.val λb=>∃k n ds,kN b\k/\kvs.length<sizeLine/\(hE kvs k)[n]?\(k,ds)/\(∀a<n,∀p,(hE kvs k)[a]?\p->p.1≠k)/\te (ρ.set i (.ov (.dt (hE kvs k)))) λr=>ds.length<sizeLine/\D.nx (ρ.set i (.ov (.dt ((hE kvs k).set n (k,ds++[r.val])))))
def KR(hu:X.A.units+64<cLine)(i){R Q p3 p4 p5 F:aR}(hk:PD X y tk)(he:PD X e te)(hN:Nm X i x:=by walk_at"nm")
  (cR:starEach [e] X.env=(false,eval e X.env)::starEach [] X.env:=by rfl) (m:M2 X (.Name x R) "setdefault" Q y (.List [] p3) p4:=by show⟨rfl,rfl,rfl,rfl⟩)
  (I:∀{ta t},PE X (.Call (.Attribute (.Name x R) "setdefault" Q) [y,.List [] p3] [] p4) ta->PA X [e] t->PE X (.Call (.Attribute (.Call (.Attribute (.Name x R) "setdefault" Q) [y,.List [] p3] [] p4) "append" p5) [e] [] F) (wq X.K "list" Bm ta t):=by intro ta t h1 h2;show vS rG JO JN Gh h1 h2) :
  PX X (.Expr (.Call (.Attribute (.Call (.Attribute (.Name x R) "setdefault" Q) [y,.List [] p3] [] p4) "append" p5) [e] [] F) pos) (xY i tk te):=by
 symm;let⟨t,p,q⟩:=he;let⟨tkk,pk,qk⟩:=hk;show⟨_,uo (I (zuF hu (lT hN) pk (U9 lQ) m) (lU p lQ cR)),λρ σ G0 H0 G H D E k h g=>?_⟩;let⟨a,fp0,o,hg,N,b20,ow,b40,h⟩:=k.gV h;let⟨kvs,rfl,h⟩:=zwe h;obtain⟨ks0,bs0,ha0,_⟩:=ow;show⟨_,N,a,rfl,⟨ks0,bs0,.inl ha0⟩,qk ρ σ G0 H0 G H _ _ k h λvk Hk rk Gk xk rrk hqk=>?_⟩;obtain⟨G2,x2,og,_⟩:=rrk.freeze xk;let⟨bb,vs,es,rfl,Ht,rvs,key,n,ds,Hn,hlen,hj,abU,sR⟩:=og.T hqk;have E2:=k.ext x2;have s2:aW G G2:=x2.g;have aZ:i<ρ.length:=KC hg ∅;obtain⟨a2,fp,Z,b2,⟨ks,bs,ha,wV,OC,hkv,hr⟩,b4⟩:=E2.ov i _ hg;rw[N] at Z;cases Z;have I:Hk bb=some (.tup vs):=E2.e.s _ _ Ht;have Y:=yS rvs Hn;have Hl:ks.length=kvs.length:=by have:=gy Ao OC;simpa using this
 have oA:=hg;have CT:=aZ;have gbb:=Ht;generalize hρ:ρ=ρ' at *;generalize hH:Hk=H1 at *
 -- Vm ac4
 have fin:∀(O:Hp)(v:V)(Q5:VK),aS X.K G0 H0 (ρ'.set i (.ov (.dt (hE kvs key)))) σ G2 O->(∀u Dl,O a\.dT u Dl->fH u key\v)->(∀H',E.nx σ H'->Q5 .non H')->
   Ci X.K "list" v O/\t σ O λw H6=>Bm v [w] H6 Q5:=by
  intro O v Q5 E5 hv5 hQ5;have U:gt (ρ'.set i (.ov (.dt (hE kvs key)))) i=.ov (.dt (hE kvs key)):=by rw[sg,if_pos ⟨rfl,CT⟩]
  obtain⟨a',pU,c1,c2,⟨u,Dl,d1,dk,d2,d3,d4⟩,c4⟩:=E5.ov i _ U;rw[N] at c1;cases c1;let⟨L,xs,f1,f2,f3⟩:=d4.get (j:=n) (ds:=ds) (by rw[b8,hj];rfl);have hk5:u[n]?\(key,.ref L):=by
   have d:=gy (λl=>l[n]?) d2;have C:=gy (λl=>l[n]?) d3;simp![b8,hj,f1,lG] at d C;cases Hl:u[n]? with
   | none=>rw[Hl] at d;cases d
   | some p=>
    rw[Hl] at d C;simp![lG,gw] at d C;let⟨R,Q⟩:=p;simp only at d C;rw[d,C]
  have hv:v=.ref L:=by
   have d:=znp hk5 λj' Hq p hp z=>by
    have d:=gy (λl=>l[j']?) d2;simp![b8,hp,lG] at d;cases J:(hE kvs key)[j']? with
    | none=>rw[J] at d;cases d
    | some p'=>
     rw[J] at d;simp![lG,gw] at d;show abU j' Hq p' J (by rw[<-d];show z)
   rw[hv5 u Dl d1] at d;injection d
  subst hv;show⟨.inl ⟨rfl,xs,bS.of f2⟩,q _ σ G0 H0 G2 O _ _ E5 sR λw H7 r G7 x7 rr7 ZY=>?_⟩;obtain⟨G8,P,rv8,_⟩:=rr7.freeze x7;show⟨L,xs,w,rfl,rfl,P.h _ _ f2,by rw[f3.length];show ZY.1,hQ5 _ (g.nx _ _ G8 _ (s2.trans P.g) ?_ ZY.2)⟩;have E9:=(E5.ext P).zD (o':=.dt ((hE kvs key).set n (key,ds++[r.val]))) (H':=upd H7 L (.lst (xs++[w]))) U N λB nd ow=>?_
  .rw[List.set_set] at E9;show E9
  let⟨wL,zE,d,ek,C,e3,e4⟩:=ow;have Pa:wL=u:=by
   have:=(P.h _ _ d1).symm.trans d;injection this with this
   injection this with this
   show this.symm
  subst Pa;have Pb:B=pU:=(AM λa b h=>by cases h;rfl).mp (e3.symm.trans d3);subst Pb;have kU:=fY.mp nd;have ZX:L∈B:=dZ f1;show⟨B,nd,⟨wL,zE,?_,ek,?_,e3,?_⟩,λq f=>.inl f,λb I _=>bQ λz=>I (by rw[z];show cJ _ ZX)⟩
  .rw[bQ (λz:a=L=>kU.1 (z▸ZX))];show d
  .rw[C,vj];apply tY;intro m;rw[AI];split
   .rename_i M;subst M;rw[b8,hj];simp![lG,aE];rw[if_pos (c7.mp hj).1]
   rfl
  rw[vj];show e4.set ((f3.mono P.g).append (au.cons rv8 au.nil)) kU.2 f1
 show⟨b9 _,λl hl=>?_⟩;have S:a≠l:=λz=>by rw[<-z,ha] at hl;cases hl
 have Hi:bb≠l:=λz=>by rw[<-z,I] at hl;cases hl
 show⟨ks,bs,key,bb,by rw[bQ S];show ha,rfl,by rw[bQ Hi,<-Y];show I,by rw[Hl];show hlen,λv hv=>?_,λM ep=>?_⟩
 .have J:hE kvs key=kvs:=by
   unfold hE;rw[<-Xw OC,YC,hv];rfl
  have E3:=E2.ext (.own E2.e.s hl (o:=.lst []));have E4:aS X.K G0 H0 (ρ'.set i (.ov (.dt (hE kvs key)))) σ G2 (upd H1 l (.lst [])):=by
   rw[J];show E3.zD oA N λB nd ow=>⟨B,nd,ow,λq f=>.inl f,λ_ _ _=>rfl⟩
  show fin _ v (λ_ H'=>E.nx σ H') E4 (λu Dl W=>?_) λH' h'=>h'
  rw[bQ S,ha] at W;cases W;show hv
 have ab1:(kvs.any λkv=>decide (kv.1=key))=false:=by rw[<-Xw OC,YC,M];rfl
 have J:hE kvs key=kvs++[(key,[])]:=by
  unfold hE;rw[ab1];rfl
 have E4:aS X.K G0 H0 (ρ'.set i (.ov (.dt (hE kvs key)))) σ G2 (upd (upd H1 l (.lst [])) a (.dT (ks++[(key,.ref l)]) (bs.1++[bb],ep))):=by
  rw[J];show E2.zD oA N λB nd ow=>?_
  let⟨wL,zE,d,ek,C,e3,e4⟩:=ow;have Pa:wL=ks/\zE=bs:=by
   have:=ha.symm.trans d;injection this with this
   injection this with NF ND
   show⟨NF.symm,ND.symm⟩
  let⟨rfl,rfl⟩:=Pa;have sV:l∉a::B:=λz=>by
   rcases bE.mp z with z | z
   .exact S z.symm
   show e4.here l z hl
  have haf:a∉B:=(fY.mp nd).1;show⟨B++[l],?_,⟨_,_,eV,?_,by simp[C],by simp[e3],?_⟩,λq f=>?_,λb I M=>?_⟩
  .rw[fY] at nd ⊢;show⟨λz=>?_,?_⟩
   .rcases bx.mp z with z | z
    .exact nd.1 z
    simp at z;show S z
   rw[lq];show⟨nd.2,by show jo _ _,λx hx y hy=>?_⟩;simp at hy;subst hy;show λz=>sV (cJ _ (z▸hx))
  .exact fu.snoc (by rw[<-Y];show gbb) ek
  .rw[bX];show bV.snoc (zs:=[]) (e4.mono (aW.refl _) λq f xs e=>?_) ?_ au.nil
   .rw[bQ (λz:q=a=>haf (z▸f)),bQ (λz:q=l=>sV (cJ _ (z▸f)))];show e
   rw[bQ S.symm];show eV
  .rcases bE.mp f with rfl | f
   .exact .inl 'c'
   rcases bx.mp f with f | f
   .exact .inl (cJ _ f)
   simp at f;subst f;show .inr hl
  rw[bQ (λz:b=a=>I (by rw[z];show .head _)),bQ (λz:b=l=>M (by rw[z];show hl))]
 show fin _ _ (λ_ H'=>E.nx σ H') E4 (λu Dl W=>?_) λH' h'=>h'
 rw[eV] at W;cases W;show zpv M
end
end L2
namespace PySem
open Sem (wp)
theorem znu(d)(hd:(d==sysModules)=false):
  MeetsIn prog w (Builtin.«dict.values» ⟨[.ref d],[]⟩) (λ_ R s=>s.TypeIs (.ref d) "dict"/\R (.ok (.ret (.ref *...*))) { s with heap:=s.heap.push { cls:=.type "dict_values",data:=.fields #[.ref d] } }):=
 .of_wp λA R s ⟨a,h⟩=>by
  show aj (m:=aaF _ _) ?_;show aj (El a (show wpAny _ _ (pure d) _ _ s from ay ?_));unfold JD;rw[if_neg (by rw[hd];show jk)];show aj (ay (aj (jj (ay ⟨_,rfl,h⟩))))
def zpz(hv:s.heap.IsValuesView v d)(x:oJ s.heap d es ep)
  (q:Q (.ref *...*) { s with heap:=s.heap.push { cls:=.type "dict_valueiterator",data:=.fields #[.ref d,.int 0 0,.int es.size 0,.int ep 0] } }):↥(pyIter (.ref v)) Q E s:=by
 symm;let⟨ov,b,h,e⟩:=id hv;let⟨i,g,z,f⟩:=id x;show AJ hv.typeIs SM (kJ SM hv.typeIs F.entry_dict_values_iter ?_ (F.args_dict_values_iter_1 _));show aj (ay (aj (m:=aaL _) ?_));show aj (DH b e (x:=.ref d) rfl (ay (aj (m:=aaV _ _) ?_)));show aj (vt g f (aj (xG g f ?_)));simp![show aaS "dict_valueiterator"=false by decide,fZ,eC];show jj (ay ⟨_,rfl,"dict_valueiterator",_,⟨_,cT _ rfl,rfl⟩,F.slot_dict_valueiterator_next.lookup,?_⟩);trivial
def zpA(t:s.heap.IsValIter it d i es.size ep)(x:oJ s.heap d es ep)(h)
  (q:∀h',h'.IsValIter it d (i+1) es.size ep->j9 it s.heap h'->Q (some es[i].val) 'j'):↥(pyNext (.ref it)) Q E s:=by
 symm;let⟨m,e,j,b⟩:=id t;let⟨n,g,z,f⟩:=id x;show aj (vo (vC (name:=fS "__next__") t.typeIs EC
  (kJ EC t.typeIs Tg ?_ (Ti _))))
 show aj (ay (aj (aj ?_)));show aj (Ez t.typeIs (ay (aj (xD e b ?_))));show aj (ay (aj (vt g f ?_)));rw[if_neg ∅];show aj (ay (aj (xG g f ?_)));rw[if_neg ∅];show ay ?_;simp![show ¬((i:Int)<0) from by cbv,eC,rq,oQ h];show aj (aj (Ez t.typeIs (ay (aj (JC t.typeIs ?_)))));show wpAny _ _ (setField (.ref it) 1 (rawInt ((i:Int)+1)) >>= _) _ _ s;show aj (Ay e b ∅ ?_);have t':(s.heap.update it (Au (·.setIfInBounds 1 (rawInt ((i:Int)+1))))).IsValIter it d (i+1) es.size ep:=
  ⟨_,rE _ e (Sr (Eb b _)),(RV ..).trans j,by rw[Eb b];rfl⟩
 show aj (gi ?_);show aj (JC (s:={ s with heap:=s.heap.update it (Au (·.setIfInBounds 1 (rawInt ((i:Int)+1)))) }) t'.typeIs ?_);show aj (JC (s:={ s with heap:=s.heap.update it (Au (·.setIfInBounds 1 (rawInt ((i:Int)+1)))) }) t'.typeIs ?_);show ay (ay ⟨_,rfl,ay (q _ t' (t7 ..))⟩)
def zrY(n:A.handled=none)(t:s.heap.IsValIter it d i es.size ep)(x:oJ s.heap d es ep)(j:es.size<=i)
  (q:∀h',xw it s.heap h'->Q none 'j'):↥(pyNext (.ref it)) Q E s:=by
 symm;let⟨o,e,r,f⟩:=id t;let⟨p,h,z,g⟩:=id x;show aj (vo (vC (name:=fS "__next__") t.typeIs EC
  (kJ EC t.typeIs Tg ?_ (Ti _))))
 show aj (ay (aj (aj ?_)));show aj (Ez t.typeIs (ay (aj (xD e f ?_))));show aj (ay (aj (vt h g ?_)));rw[if_neg ∅];show aj (ay (aj (xG h g ?_)));rw[if_neg ∅];show ay ?_;simp only[show ¬((i:Int)<0) from by cbv,eC,rq,AO j];show aj (aj (Ez t.typeIs (ay ?_)));show wpAny _ _ (setField (.ref it) 0 .none >>= _) _ _ s;show aj (Ay e f (by show gh _) ?_);show aj ?_;show aj (jj (aj (m:=firstArgMember _ _) (An (a:=jF) (by first | rfl | (rfl)) (jj ?_ (by size_fits)))) (by size_fits));show aj (IQ ?_);rw[show A.in1.handled=none from n];show aj (ay (Iy ?_));show aj (DY (T:="StopIteration") (b:=true) ⟨_,cT _ rfl,rfl⟩ IW ?_);show ay (q _ (((t7 ..).extBut.push _).push _))
end PySem
namespace L2
open PySem PySem.Spec PyProof.Rows
def yv(ok:fR P w H h)(e:H a\.dT kvs bs):(a==sysModules)=false/\
  ∃xs b,xs.map (λx=>x.2.1)=bs.1/\KT H kvs xs/\oJ h a b bs.2/\b.toList=xs.map (entryOfKey (tupleKind (jt P w))):=by
 symm;let⟨z,y,xs,m,r,o,b,p,j,i,d,g,n,f⟩:=(show gc P w H h a (.dT kvs bs) from Uh ok (.inl e))
 rw[f] at d;show⟨y,xs,b,m,r,⟨o,j,i,d⟩,g⟩
def JU(a:ag)(c:List (List Key×V))(bs:List ag×Nat):It:=⟨λi H=>i<bs.1.length/\H a\.dT c bs,λi H v H'=>H'=H/\∃b,bs.1[i]?\b/\v=.ref b,λi H=>i=bs.1.length/\H a\.dT c bs⟩
def znv{K:ao}:Turn P w K N (JU a t bs) [f] f (λi h=>h.IsKeyIter f a i bs.1.length bs.2) where
 mem:=by show .head _
 obj:=λi h st b g=>by
  have e:b=f:=by simpa using g
  subst e;symm;let⟨o,e,c,d⟩:=st;show⟨o,e,λv z=>by rw[d] at z;cases z⟩
 keep:=λi h h' st k=>by
  symm;let⟨o,e,r⟩:=st;show⟨o,k f 'c' o e,r⟩
 item:=by
  intro X B hw C F i M s σ H E I hf st u;subst B hw C;symm;let⟨n,y⟩:=(show i<bs.1.length/\H a=some (.dT t bs) from u)
  let⟨hd,xs,j,p,rel,raw,m⟩:=yv I.aU y;have hlen:bs.1.length=j.size:=by rw[<-p,<-cH,m,aE,aE]
  rw[hlen] at st;have D:i<j.size:=by cbv
  show zrM st raw D λh' L O=>?_
  have kk:∀b o,b∉[f]->'f' b\o->h'.get? b\o:=λb o g e=>O.extBut b o (λz=>g (by show z▸.head _)) e
  have W:Inv X M σ H { s with heap:=h',toks:=s.toks }:=I.uA (fp:=[f]) kk hf;let⟨o,e,U,d⟩:=id L;have R:j[i].key=fw (bs.1[i]):=by
   have J:j.toList[i]?=some j[i]:=by rw[nB,oQ D]
   rw[m,b8] at J;let⟨x,hx,T⟩:=jZ.mp J;rw[<-T];have e3:=gy (λl=>l[i]?) p;simp![b8,hx,lG,cA n,gw] at e3;rw[<-e3];rfl
  rw[R];show⟨_,rfl,yo (s:={ s with heap:=h',toks:=s.toks }) e U d (by rfl) ⟨.ref bs.1[i],H,W,rfl,⟨rfl,_,cA n,rfl⟩,?_,λb g=>(hf b g).1⟩⟩;rw[hlen];show L
 done:=by
  intro X B hw C F i M s σ H E I hf st u;subst B hw C;symm;let⟨n,y⟩:=(show i=bs.1.length/\H a=some (.dT t bs) from u)
  let⟨hd,xs,j,p,rel,raw,m⟩:=yv I.aU y;have hlen:bs.1.length=j.size:=by rw[<-p,<-cH,m,aE,aE]
  subst n;rw[hlen] at st;show zuE (I.ok.hd F) st raw (bB _) λh' S=>⟨rfl,I.uA (fp:=[f]) (t':=s.toks) (λb o g q=>S b o (λz=>g (by show z▸.head _)) q) hf⟩
 self:=λA i s Q E st q=>wpAny_pyIter_keyiter st q
def JT(a:ag)(b:List (List Key×V))(bs:List ag×Nat):It:=⟨λi H=>i<b.length/\H a\.dT b bs,λi H v H'=>H'=H/\∃p,b[i]?\p/\v=p.2,λi H=>i=b.length/\H a\.dT b bs⟩
theorem znw:entryFor table "dict_valueiterator.__iter__"=some Builtin.«dict_keyiterator.__iter__»:=IX (id':="dict_keyiterator.__iter__") 'b' rfl (by decide +kernel) 'b'
def znx{K:ao}:Turn P w K O (JT a g bs) [f] f (λi h=>h.IsValIter f a i g.length bs.2) where
 mem:=by show .head _
 obj:=λi h st b j=>by
  have e:b=f:=by simpa using j
  subst e;symm;let⟨o,e,c,d⟩:=st;show⟨o,e,λv z=>by rw[d] at z;cases z⟩
 keep:=λi h h' st k=>by
  symm;let⟨o,e,r⟩:=st;show⟨o,k f 'c' o e,r⟩
 item:=by
  intro X y hw B L i N s σ H E I hf st t;subst y hw B;symm;let⟨n,u⟩:=(show i<g.length/\H a=some (.dT g bs) from t)
  let⟨hd,xs,m,W,rel,raw,p⟩:=yv I.aU u;have hlen:g.length=m.size:=by rw[tS rel,<-cH,p,aE]
  rw[hlen] at st;have D:i<m.size:=by cbv
  show zpA st raw D λh' M R=>?_
  have kk:∀b o,b∉[f]->'f' b\o->h'.get? b\o:=λb o j e=>R.extBut b o (λz=>j (by show z▸.head _)) e
  have Y:Inv X N σ H { s with heap:=h',toks:=s.toks }:=I.uA (fp:=[f]) kk hf;let⟨o,e,U,d⟩:=id M;have J:i<xs.length:=by rw[<-tS rel];show n
  have S:m[i].val=xs[i].2.2:=by
   have C:m.toList[i]?=some m[i]:=by rw[nB,oQ D]
   rw[p,b8,cA J] at C;simp![lG,gw] at C;rw[<-C];rfl
  have pr:=zrN rel (cA n) (cA J);rw[S];show⟨_,rfl,yo (s:={ s with heap:=h',toks:=s.toks }) e U d (by rfl) ⟨g[i].2,H,Y,pr.2.2,⟨rfl,_,cA n,rfl⟩,?_,λb j=>(hf b j).1⟩⟩;rw[hlen];show M
 done:=by
  intro X y hw B L i N s σ H E I hf st t;subst y hw B;symm;let⟨n,u⟩:=(show i=g.length/\H a=some (.dT g bs) from t)
  let⟨hd,xs,m,W,rel,raw,p⟩:=yv I.aU u;have hlen:g.length=m.size:=by rw[tS rel,<-cH,p,aE]
  subst n;rw[hlen] at st;show zrY (I.ok.hd L) st raw (bB _) λh' T=>⟨rfl,I.uA (fp:=[f]) (t':=s.toks) (λb o j q=>T b o (λz=>j (by show z▸.head _)) q) hf⟩
 self:=λA i s Q E st q=>by
  have x:s.TypeIs (.ref f) "dict_valueiterator":=st.typeIs;show AJ x Tn (kJ Tn x znw ?_ (PySem.F.args_dict_valueiterator_iter_1 _));show wpAny _ _ (ret (.ref f)) _ _ s;show ay ⟨_,rfl,"dict_valueiterator",_,x,PySem.F.slot_dict_valueiterator_next.lookup,q⟩
def zwJ(tl:TE):TI:=λσ H R=>tl σ H λx H1=>∃a b bs,x=.ref a/\H1 a\.dT b bs/\R (JU a b bs) H1
def zrZ(hl:PE X l tl):PI X tg l (zwJ tl):=by
 intro t s σ H R I h;show aX (hl t s σ H _ I h) λv s1 r=>?_
 let⟨x,H1,d,f,g⟩:=r;symm;let⟨a,u,bs,e,m,q⟩:=g;subst e;cases f;symm;let⟨hd,xs,n,p,rel,raw,i⟩:=yv d.aU m;have hlen:bs.1.length=n.size:=by rw[<-p,<-cH,i,aE,aE]
 show zrL hd raw ?_;show⟨'k',['k'],_,_,H1,rfl,d.kept (t':=s1.toks) λb o e=>cy _ e,znv,⟨_,cT _ rfl,rfl,by rw[hlen];rfl⟩,λb j=>?_,q⟩;have e:b='k':=by simpa using j
 subst e;show d.qR (bB _) (d.aU.fresh (bB _))
def zwK(tl:TE):TI:=λσ H R=>tl σ H λx H1=>∃a b bs,x=.ref a/\H1 a\.dT b bs/\R (JT a b bs) H1
def zr0(w:PE X o to)(p:attributeBase o "values" X.env (eval o X.env)=eval o X.env:=by rfl)(r:(d.endLine==n.line)=true:=by rfl) :
  PI X tg (.Call (.Attribute o "values" d) [] [] n) (zwK to):=by
 intro B s σ H R I h;show SR p r (aX (w B s σ H _ I h) λv s1 A=>?_);symm;let⟨x,H1,f,t,a,j,bs,ex,m,q⟩:=A;subst ex;symm;let⟨i,y,l⟩:=KS f ⟨j,bs,.inl m⟩;obtain rfl:v=fw a:=t;show⟨"dict","dict.values",JJ,SV,PySem.F.type_dict_values,i,y,AQ rfl (Se ?_)⟩;symm;let⟨hd,xs,z,D,rel,raw,u⟩:=yv f.aU m;have hlen:j.length=z.size:=by rw[tS rel,<-cH,u,aE]
 show IB SV i PySem.F.entry_dict_values (PySem.F.args_dict_values_1 _) (znu a hd) ⟨i,?_⟩;have g:(s1.heap.push { cls:=.type "dict_values",data:=.fields #[.ref a] }).IsValuesView 'k' a:=⟨_,cT _ rfl,rfl,rfl⟩
 show zpz g (raw.kept λo e=>cy _ e) ?_;show⟨_,[_],_,_,H1,rfl,(f.kept (t':=s1.toks) λb o e=>cy _ e).kept (t':=s1.toks) λb o e=>cy _ e,znx,⟨_,cT _ rfl,rfl,by rw[hlen];rfl⟩,λb C=>?_,q⟩;have e:b=(s1.heap.push { cls:=.type "dict_values",data:=.fields #[.ref a] }).objs.size:=by show cG.1 ‹_›
 subst e;rw[oX];show f.qR (iZ _) (f.aU.fresh (iZ _))
def JS(k:List Key):D:=.tup (k.map i6)
theorem fu.length:∀{ps bs},fu G ps bs->ps.length=bs.length
 | [],[],_=>rfl
 | p::ps,b::bs,h=>by rw[cZ,cZ,fu.length h.2]
 | [],_::_,h=>h.elim
 | _::_,[],h=>h.elim
theorem Xv{K:ao}:∀(k:List Key),au K G (k.map kV) (k.map i6)
 | []=>au.nil
 | a::k=>au.cons (zuB a) (Xv k)
def zny{K:ao}(h:G a\.dT c bs)(j:fu G c bs.1)(r:bL K G c kvs):Walk K (JU a c bs) G (kvs.map λp=>JS p.1):=by
 have o:=r.length;have s:=j.length;show⟨λi d f H' hd s1 s2=>?_,λf H' s1 s2=>⟨by rw[aE];cbv,s2 _ _ (s1 _ _ h)⟩⟩;rw[b8] at hd;let⟨p,g,rfl⟩:=jZ.mp hd;have q:i<kvs.length:=(c7.mp g).1;show⟨⟨by cbv,s2 _ _ (s1 _ _ h)⟩,λv n m=>?_⟩;let⟨rfl,b,l,rfl⟩:=m;show⟨f,.refl s2,?_⟩;have e:n b\.tup (p.1.map kV)/\f b\.tup (p.1.map kV):=by
  have:=j.at l (k:=p.1) (by rw[r.keys,b8,g];rfl);show⟨s2 _ _ (s1 _ _ this),s1 _ _ this⟩
 show⟨b,_,rfl,e.2,Xv p.1⟩
theorem bL.at{K:ao}:∀{c kvs},bL K G c kvs->∀(i:Nat){p q},c[i]?\p->kvs[i]?\q->Rep K G p.2 q.2
 | [],[],_,i,_,_,h,_=>by trivial
 | a::c,b::kvs,r,i,p,q,h,h'=>by
  cases i with
  | zero=>
   simp![JL,gw] at h h';subst h h';show r.1.2
  | succ i=>show bL.at r.2 i (by simpa using h) (by simpa using h')
 | [],_::_,r,_,_,_,_,_=>by simp![bL] at r
 | _::_,[],r,_,_,_,_,_=>by simp![bL] at r
def znz{K:ao}(h:G a\.dT b bs)(r:bL K G b kvs):Walk K (JT a b bs) G (kvs.map (·.2)):=by
 have j:=r.length;show⟨λi d e H' hd s1 s2=>?_,λe H' s1 s2=>⟨by rw[aE];show j.symm,s2 _ _ (s1 _ _ h)⟩⟩;rw[b8] at hd;let⟨p,c,rfl⟩:=jZ.mp hd;have k:i<kvs.length:=(c7.mp c).1;show⟨⟨by cbv,s2 _ _ (s1 _ _ h)⟩,λv l f=>?_⟩;let⟨rfl,q,g,rfl⟩:=f;show⟨e,.refl s2,(r.at i g c).mono s1⟩
def yn(te:TD):fW:=λρ Q=>te ρ λr=>vN r.val λkvs=>Q (kvs.map λp=>JS p.1)
def zr1(h:PD X l te):PId X tg l (yn te):=by
 symm;let⟨t,p,q⟩:=h;show⟨_,zrZ p,λρ σ u n G H Q P E h k=>q ρ σ u n G H _ _ E h λv H' r w x g b=>?_⟩;symm;let⟨o,d,f,z⟩:=g.freeze x;let⟨a,i,bs,kvs,rfl,e,m,j,b⟩:=f.Dq b;show⟨a,i,bs,rfl,d.s _ _ e,k _ H' _ o d (zny e m j) b⟩
def yu(te:TD):fW:=λρ Q=>te ρ λr=>vN r.val λkvs=>Q (kvs.map (·.2))
def zpB(h:PD X o te)(i:attributeBase o "values" X.env (eval o X.env)=eval o X.env:=by rfl)(j:(b.endLine==g.line)=true:=by rfl):PId X tg (.Call (.Attribute o "values" b) [] [] g) (yu te):=by
 symm;let⟨t,p,q⟩:=h;show⟨_,zr0 p i j,λρ σ A y G H Q P E h k=>q ρ σ A y G H _ _ E h λv H' r C x n d=>?_⟩;symm;let⟨z,e,m,l⟩:=n.freeze x;let⟨a,u,bs,kvs,rfl,f,B,w,d⟩:=m.Dq d;show⟨a,u,bs,rfl,e.s _ _ f,k _ H' _ z e (znz f w) d⟩
end L2
namespace Ts
open PySem PySem.W PyProof.Rows
section
variable{α:Type}{lt:α->α->Bool}{l:List α}{a b:α}
def sL(lt:α->α->Bool)(l:List α)(a:α):Int:=((l.countP λb=>lt b a:Nat):Int)
def Vn(h:∀x∈l,p x=true->q x=true):l.countP p<=l.countP q:=by
 induction l with
 | nil=>show bB _
 | cons a r c=>
  have:=c λx hx=>h x (cJ _ hx)
  rw[xN,xN];by_cases b:p a=true
  .rw[if_pos b,if_pos (h a et b)];cbv
  rw[if_neg b];lia
def zwL(h:∀x∈l,p x=true->q x=true)(b:a∈l)(g:p a=false)(f:q a=true):l.countP p<l.countP q:=by
 induction l with
 | nil=>cases b
 | cons c r e=>
  have i:=Vn (l:=r) λx hx=>h x (cJ _ hx)
  rw[xN,xN];rcases bE.mp b with z | b
  .subst z;rw[g,f];simp![fZ,eC,eG];lia
  have:=e (λx hx=>h x (cJ _ hx)) b;by_cases d:p c=true
  .rw[if_pos d,if_pos (h c et d)];cbv
  rw[if_neg d];lia
structure Ord(lt:α->α->Bool):Prop where
 tr:∀a b c,lt a b=true->lt b c=true->lt a c=true
 ir:∀a,lt a a=false
 y7:∀a b,a≠b->lt a b=true\/lt b a=true
def KW(O:Ord lt)(d:a∈l):lt a b=decide (sL lt l a<sL lt l b):=by
 unfold sL;cases h:lt a b with
 | true=>
  show Eq.symm ?_;rw[decide_eq_true_iff];have:=zwL (l:=l) (p:=λc=>lt c a) (q:=λc=>lt c b) (λx _ hx=>O.tr _ _ _ hx h) d (O.ir a) h;cbv
 | false=>
  show Eq.symm ?_;rw[j5];have:l.countP (λc=>lt c b)<=l.countP (λc=>lt c a):=by
   show Vn λx _ hx=>?_
   by_cases e:a=b
   .rw[e];show hx
   rcases O.y7 a b e with z | z
   .rw[z] at h;cases h
   show O.tr _ _ _ hx z
  cbv
def aa9(O:Ord lt)(d:a∈l)(c:b∈l)(h:sL lt l a<=sL lt l b):lt b a=false:=by
 rw[KW O c,j5];cbv
end
def md(p q:aa×Int):Bool:=if p.1=q.1 then decide (p.2<q.2) else decide (p.1.cps.toList<q.1.cps.toList)
def Lp{a b:aa}(h:a.cps.toList=b.cps.toList):a=b:=by
 cases a;cases b;simp![Str.mk.injEq];show Array.toList_inj.mp h
def Gq(hz:z∈pairsOf its):z.1∈its:=by
 unfold pairsOf at hz;have a:z∈its.zip its:=by simpa using hz
 show(jC a).1
end Ts
namespace L2
open PySem PySem.Spec PyProof.Rows
end L2
namespace Ts
open PySem PySem.W PyProof.Rows
section
open PySem.SeqAt
open PySem.AutoSeq1 (wpAny_loadPart')
open PySem.MeetsSeq PySem.MeetsSeq2 PySem.MeetsSeq3
theorem zr2(A s a t c u prog w E Q)(h:Q (.bool (decide (a.cps.toList<c.cps.toList))) s) :
  ↥(richCompare .Lt (.str a t) (.str c u)) Q E s:=
 (R9 h:↥(compareOp .Lt (.str a t) (.str c u)) Q E s)
theorem zr3(A s a t c u prog w E Q)(h:Q (.bool (decide (a<c))) s) :
  ↥(richCompare .Lt (.int a t) (.int c u)) Q E s:=
 (R8 h:↥(compareOp .Lt (.int a t) (.int c u)) Q E s)
def KU(A:bh)(s:ai)(y x:af)(b:Bool):Prop:=
 ∀prog w E Q,Q (.bool b) s->↥(richCompare .Lt y x) Q E s
def zi1(l b items items2 n n2 r j sl m q)(p:0<items2.size)(c) :
  Meets (Builtin.«list.__eq__.loop» ⟨[.ref l,.ref b,rawInt 0,rawInt 0],[]⟩)
   (λA R s=>'f' l=some { cls:=.type "list",dict:=r,data:=.seq items n,slots:=sl }/\'f' b=some { cls:=.type "list",dict:=j,data:=.seq items2 n2,slots:=m }/\
    EqAt A.in1 s items[0] items2[0] false/\KU A.in1 s items[0] items2[0] c/\R (.ok (.ret (.bool c))) s):=by
 intro prog w A R s h;symm;let⟨u,g,d,tk,os⟩:=s;let⟨hl,i,he,o,h⟩:=h;wp_walk using lC hl,lC i
 have e:items[(0:Int).toNat]?=some items[0]:=by simp[q]
 have f:items2[(0:Int).toNat]?=some items2[0]:=by simp[p]
 rw[e,f];show aj (he prog w _ _ ?_);wp_walk using lC hl,lC i
 rw[e,f];have t:=o prog w;wp_walk using t
 show h
def zkf(l items n j sl k) :
  ∀i:Nat,items.size-i=k->Meets (Builtin.«list.__eq__.loop» ⟨[.ref l,.ref l,rawInt i,rawInt 0],[]⟩)
   (λA R s=>'f' l=some { cls:=.type "list",dict:=j,data:=.seq items n,slots:=sl }/\R (.ok (.ret (.bool false))) s):=by
 induction k with
 | zero=>
  intro i f prog w A R s h;let⟨e,g,d,tk,os⟩:=s;let⟨a,h⟩:=h;wp_walk using lC a
  have b:items[((i:Nat):Int).toNat]?=none:=by simp;lia
  rw[b];wp_walk using lC a
  show R (.ok (.ret (.bool (decide (items.size<items.size))))) _;simpa using h
 | succ k c=>
  intro i f prog w A R s h;let⟨e,g,d,tk,os⟩:=s;let⟨a,h⟩:=h;wp_walk using lC a
  have m:i<items.size:=by ext
  have b:items[((i:Nat):Int).toNat]?=some items[i]:=by simp[m]
  rw[b];show aj (EqAt.same _ prog w _ _ ?_);wp_walk
  show⟨lE plain_eq_loop _,kL entry_eq_loop (by
   show c (i+1) 'a' prog w A R _ ⟨a,h⟩)⟩
def zi2(l b items items2 n n2 j e sl f p)(o:0<items2.size)(c) :
  Meets (Builtin.«list.__lt__» ⟨[.ref l,.ref b],[]⟩)
   (λA R s=>'f' l=some { cls:=.type "list",dict:=j,data:=.seq items n,slots:=sl }/\'f' b=some { cls:=.type "list",dict:=e,data:=.seq items2 n2,slots:=f }/\
    EqAt A.in1 s items[0] items2[0] false/\KU A.in1 s items[0] items2[0] c/\R (.ok (.ret (.bool c))) s):=by
 intro prog w A R s h;symm;let⟨q,g,d,tk,os⟩:=s;let⟨hl,i,he,m,h⟩:=h;have r:=SD;wp_walk using lC hl,lC i
 show⟨lE plain_eq_loop _,kL entry_eq_loop (by
  show zi1 l b items items2 n n2 j e sl f p o c prog w A R _ ⟨hl,i,he,m,h⟩)⟩
def zkg(l items n b sl) :
  Meets (Builtin.«list.__lt__» ⟨[.ref l,.ref l],[]⟩)
   (λA R s=>'f' l=some { cls:=.type "list",dict:=b,data:=.seq items n,slots:=sl }/\R (.ok (.ret (.bool false))) s):=by
 intro prog w A R s h;let⟨c,g,d,tk,os⟩:=s;let⟨a,h⟩:=h;have e:=SD;wp_walk using lC a
 show⟨lE plain_eq_loop _,kL entry_eq_loop (by
  show zkf l items n b sl _ 0 rfl prog w A R _ ⟨a,h⟩)⟩
end
open PySem.SeqAt
end Ts
namespace L2
open PySem PySem.Spec PyProof.Rows
abbrev a9:=aa×Int
def cX(p:a9):D:=.tup [.str p.1,.int p.2]
section
variable{X:Cx}
theorem L4{α:Type}{f:α->V}:∀{ps:List α}{its},Vals (ps.map f) its->∀z∈ps.zip its,RelV (f z.1) z.2
 | [],_,_,z,hz=>by cases hz
 | p::ps,_,r,z,hz=>by
  cases r with
  | cons a b=>
   rcases bE.mp hz with rfl | hz
   .exact a
   show L4 b z hz
theorem Ni{α e:Type}:∀{l:List α}{m:List e},l.length=m.length->∀b∈m,∃a,(a,b)∈l.zip m
 | [],[],_,b,d=>by cases d
 | a::l,c::m,h,b,d=>by
  rcases bE.mp d with rfl | d
  .exact⟨a,by show .head _⟩
  let⟨x,hx⟩:=Ni (l:=l) (m:=m) (by simpa using h) b d;show⟨x,by show .tail _ ‹_›⟩
 | [],_::_,h,_,_=>by trivial
 | _::_,[],h,_,_=>by trivial
def zwM:bF:=λds Q=>∃ps:List a9,ds=[.lst (ps.map cX)]/\ps.length<64/\∀a:List a9,a.Perm ps->a.Pairwise (λx y=>Ts.md y x=false)->Q (.ow (a.map cX))
end
section
variable{X:Cx}
def dG(g:List a9):a9:=g.headD ("",0)
def Lo(te:TD):TD:=λρ Q=>te ρ λr=>rV r λo=>y4 o λb=>∃gss:List (List a9),b=gss.map (λg=>g.map cX)/\gss.length<64/\(∀g∈gss,g≠[])/\(gss.map dG).Nodup/\∀a:List (List a9),a.Perm gss->a.Pairwise (λx y=>Ts.md (dG y) (dG x)=false)->Q (.ov (.ll (a.map λg=>g.map cX)))
end
def zpE(j i)(hN:Nm X i x:=by walk_at"nm")
  (hnd:X.N.Nodup:=by assumption) (J:X.N[j]?\y:=by rfl) (B:Loc X.env.scope y:=by first | show Or.inl rfl | show Or.inr rfl)
  (O:∀{n},PE X (.Name x f) n->PE X (.Call (.Attribute (.Name x f) "pop" o) [] [] b) (Kf X.K "list" TR n):=by intro n m;show U6 rG PySem.F.slot_list_pop PySem.F.type_list_pop zv6 m)
  (C:swapsWith (.Call (.Attribute (.Name x f) "pop" o) [] [] b) (some (.Name y u)) pos.line X.env=pure false:=by rfl) (M:X.fn y=true\/X.env.scope.names.lookup y=some .local:=by first | show .inl rfl | show .inr rfl | assumption) :
  PX X (.Assign [.Name y u] (.Call (.Attribute (.Name x f) "pop" o) [] [] b) pos) (yJ j i):=by
 show⟨_,Ld hnd J B (O (lT hN)) C M,λρ σ S R G H D E k h g=>?_⟩;let⟨a,xs,ds,m,v,Q,P,t,L,d,q,I⟩:=k.gW h;have hl:=t.length;symm;let⟨w,hw,A⟩:=t.get q;have p:xs[xs.length-1]?=some w:=by rw[hl];show hw
 show⟨_,m,.inl ⟨rfl,xs,bS.of v⟩,a,xs,w,rfl,rfl,v,p,?_⟩;have z:=k.change L m t.dropLast;show g.nx _ _ G _ (aW.refl _) (z.put (.refl z.e.s) (r:=.fz d) A) I
theorem Xu{K:ao}:∀{xs}{ns:List Int},au K G xs (ns.map D.int)->xs=ns.map V.int
 | [],[],_=>rfl
 | x::xs,n::ns,r=>by
  rw[bT,r.1,Xu r.2]
 | [],_::_,r=>by rw[bT] at r;simp![au] at r
 | _::_,[],r=>by rw[j8] at r;simp![au] at r
section
variable{X:Cx}{e:az}{te:TD}
def WC(K:ao):V->List V->Hp->VK->Prop:=λx a H Q=>∃l b xs zs,x=.ref l/\a=[.ref b]/\H l\.lst xs/\fq K H b zs/\xs.length+zs.length<=sizeLine/\Q .non (upd H l (.lst (xs++zs)))
def znB:zI X "list.extend" (WC X.K):=by
 intro B s σ H x A v us Q I i j h;symm;let⟨l,b,xs,zs,rfl,rfl,g,o,hz,q⟩:=h;cases i;symm;let⟨u,rfl,m⟩:=j.one;cases m;symm;let⟨z,its,n,r,hl,e⟩:=I.wK g;let⟨w,d,n2,f,p⟩:=I.cB o;have y:zs.length=d.length:=f.length;have hsz:its.toArray.size+d.toArray.size<=sizeLine:=by rw[eP,eP];cbv
 have t:¬(!its.toArray.isEmpty&&Ep (its.toArray.size+d.toArray.size))=true:=by
  rw[W6 hsz,Ja];show jk
 show qd DN ⟨_,e,rfl⟩ Sd (Sm _ _)
  (Tj l its.toArray n b d.toArray n2 t 'g' 'a') ⟨e,p,?_⟩
 show⟨.non,_,I.zd (its':=its++d) g e ∅ (r.append f) ?_,rfl,q⟩;rw[bP];show hz
def ym(i:Nat)(te:TD):TX:=λD ρ=>gW ρ i λds=>te ρ λr=>rF r λd=>eI d λa=>ds.length+a.length<=sizeLine/\D.nx (ρ.set i (.ow (ds++a)))
def zuK(i)(he:PD X e te)(hN:Nm X i x:=by walk_at"nm")
  (M:starEach [e] X.env=(false,eval e X.env)::starEach [] X.env:=by rfl)
  (J:∀{u t},PE X (.Name x y) u->PA X [e] t->PE X (.Call (.Attribute (.Name x y) "extend" z) [e] [] f) (wq X.K "list" (WC X.K) u t):=by intro u t o n;show vS rG DN SX znB o n) :
  PX X (.Expr (.Call (.Attribute (.Name x y) "extend" z) [e] [] f) pos) (ym i te):=by
 let⟨t,p,q⟩:=he;show⟨_,uo (J (lT hN) (lU p lQ M)),λρ σ P O G H D E k h g=>?_⟩;let⟨a,xs,ds,o,n,S,R,A,I,h⟩:=k.gW h;show⟨_,o,.inl ⟨rfl,xs,bS.of n⟩,q ρ σ P O G H _ _ k h λv H' r Q m w j=>?_⟩;let⟨d,w,l,j⟩:=w.F j;let⟨b,zs,T,rfl,N,B,j⟩:=w.L j;have C:=k.ext m;show⟨a,b,xs,zs,rfl,rfl,m.h _ _ n,m.s.cB N,by rw[A.length,B.length];show j.1,?_⟩;show g.nx _ _ Q _ m.g (C.change I o ((A.mono m.g).append B)) j.2
end
end L2
namespace PySem.W
open PySem PySem.Spec PySem.Calls PyProof.Rows Builtin Builtin.ObjectAttr Builtin.Getset_descriptor
end PySem.W
namespace L2
open PySem PySem.Spec PyProof.Rows
section
variable{X:Cx}{e:az}{te:TD}
theorem Xt:∀{c:List Int}{its},Vals (c.map V.int) its->PySem.W.kf_ints its=true/\∀(i:Nat) k,c[i]?\k->∃t,its[i]?\.int k t
 | [],_,r=>by cases r;show⟨rfl,λi k h=>by trivial⟩
 | a::c,_,.cons (b:=u) h r=>by
  let⟨f,e⟩:=Xt r;let⟨t,rfl⟩:=h;show⟨f,λi k d=>?_⟩;cases i with
  | zero=>simp at d;subst d;show⟨t,rfl⟩
  | succ i=>show e i k (by simpa using d)
theorem Xr{α b:Type}(f:α->b):∀(l:List α) j,(l.eraseIdx j).map f=(l.map f).eraseIdx j
 | [],_=>rfl
 | a::l,0=>rfl
 | a::l,j+1=>by rw[JK,bT,bT,JK,Xr f l j]
def V1:V->List V->Hp->VK->Prop:=λx b H Q=>∃(l:ag)(a:List Int)(k:Int),x=.ref l/\b=[.int k]/\H l\.lst (a.map V.int)/\k∈a/\Q .non (upd H l (.lst ((a.erase k).map V.int)))
def zpG:zI X "list.remove" V1:=by
 intro O s σ H x N v us Q I o p h;symm;let⟨l,b,k,rfl,rfl,g,C,q⟩:=h;cases o;symm;let⟨u,rfl,w⟩:=p.one;let⟨z,its,n,r,hl,e⟩:=I.wK g;let⟨E,f⟩:=Xt r;let⟨t,rfl⟩:=w;have D:b.idxOf k<b.length:=List.idxOf_lt_length_of_mem C;rw[aE] at hl z;symm;let⟨t1,i⟩:=f (b.idxOf k) k (by rw[cA D];simp);have A:∀m (hm:m<its.toArray.size),m<b.idxOf k->isInt k its.toArray[m]=false:=λm hm J=>by
  have M:m<b.length:=by cbv
  let⟨j,K⟩:=f m b[m] (cA M);have d:its.toArray[m]=.int b[m] j:=by
   have:its[m]?=some its[m]:=cA (by trivial);rw[this] at K;show iu ‹_›
  rw[d];have:b[m]≠k:=by simpa using List.not_of_lt_findIdx J
  show if_neg ‹_›
 show qd F.slot_list_remove ⟨_,e,rfl⟩ F.entry_list_remove (F.args_list_remove_2 _ _)
  (MeetsSeq.list_remove l its.toArray n (.int k t) (isInt k) (λy B=>PySem.W.kf_eq E y (by simpa using B)) (b.idxOf k) (by rw[eP];cbv) (by
   have:its[b.idxOf k]?=some its[b.idxOf k]:=cA 'g';rw[this] at i;have d:its[b.idxOf k]=.int k t1:=by simpa using i
   simp[d,isInt]) A (by rw[eP];cbv)) ⟨e,?_⟩
 have L:(b.erase k).map V.int=(b.map V.int).eraseIdx (b.idxOf k):=by rw[List.erase_eq_eraseIdx_of_idxOf rfl,Xr]
 rw[L] at q;show⟨.non,_,I.zd (its':=its.eraseIdx (b.idxOf k)) g e ?_ (r.eraseIdx _) ?_,rfl,q⟩
 .rw[List.eraseIdxIfInBounds_toArray]
 have:=XS (b.map V.int) (b.idxOf k);rw[aE] at this;show bK ‹_› ‹_›
def yI(i:Nat)(te:TD):TX:=λD ρ=>gW ρ i λds=>te ρ λr=>∃(a:List Int)(k:Int),ds=a.map .int/\r=.fz (.int k)/\k∈a/\D.nx (ρ.set i (.ow ((a.erase k).map .int)))
theorem Xq{K:ao}:∀{a:List Int}{xs},au K G xs (a.map D.int)->xs=a.map V.int
 | [],xs,r=>by cases xs with
  | nil=>rfl
  | cons x xs=>trivial
 | k::a,xs,r=>by cases xs with
  | nil=>trivial
  | cons x xs=>
   rw[Xq r.2];have:=r.1;rw[this];rfl
def zpH(i)(he:PD X e te)(hN:Nm X i x:=by walk_at"nm")(O:starEach [e] X.env=(false,eval e X.env)::starEach [] X.env:=by rfl)
  (L:∀{s t},PE X (.Name x u) s->PA X [e] t->PE X (.Call (.Attribute (.Name x u) "remove" y) [e] [] d) (wq X.K "list" V1 s t):=by intro s t n j;show vS rG PySem.F.slot_list_remove PySem.F.type_list_remove zpG n j) :
  PX X (.Expr (.Call (.Attribute (.Name x u) "remove" y) [e] [] d) pos) (yI i te):=by
 symm;let⟨t,p,q⟩:=he;show⟨_,uo (L (lT hN) (lU p lQ O)),λρ σ Q P G H D E k h g=>?_⟩;let⟨a,xs,ds,n,j,T,S,N,J,h⟩:=k.gW h;show⟨_,n,.inl ⟨rfl,xs,bS.of j⟩,?_⟩;show q ρ σ Q P G H _ _ k h λv H' r U A B w=>?_
 symm;let⟨f,m,rfl,rfl,hm,w⟩:=w;let⟨z,o,R,c⟩:=B.freeze A;have C:=k.ext o;have ex:=Xq N;subst ex;have ev:v=.int m:=by trivial
 subst ev;show⟨a,f,m,rfl,rfl,o.h _ _ j,hm,?_⟩;have M:au X.K z ((f.erase m).map V.int) ((f.erase m).map L2.D.int):=by
  generalize f.erase m=l;induction l with
  | nil=>show au.nil
  | cons b l I=>show au.cons (by simp![Rep]) I
 show g.nx _ _ z _ o.g (C.change J n M) w
end
structure M1(X:Cx)(o:az)(m:aa)(apos:aR)(e:az)(fj:aR):Prop where
 base:attributeBase o m X.env (eval o X.env)=eval o X.env
 xc:((backTo fj (starEach [e] X.env)).all (λx=>!x.1)&&(backToKw fj (keywordEach [] X.env)).all (λx=>x.1.isSome)
  && decide (([e]:List az).length+([]:List Keyword).length+(if ([]:List Keyword).isEmpty then 0 else 1)<30))=true
 line:(apos.endLine==fj.line)=true
 trees:backTo fj (starEach [e] X.env)=[(false,eval e X.env)]
section
variable{St:Nat->aD->Prop}
def zr4(W:Walks prog w A.in1 I fp wr n P St)(S)(g:∀i v,P i v->∃m t,v=.int m t)(r:S∉fp)(M) :
  ∀m j z best c,n-(j+1)=m->j<n->St (j+1) z.heap->(∃i,P i best)->z.heap.get? S=some { cls:=.type "list",dict:=none,data:=.seq #[best,best] c,slots:=#[] }->
   (∀v h' tk,(∃i,P i v)->(∀b o,b∉wr->b≠S->z.heap.get? b\o->h'.get? b\o)->Rz (.ok (.ret v)) { z with heap:=h',toks:=tk })->
   codeAny (model prog w) A (.builtin "max.loop" ⟨[.ref I,.none,.ref S],M⟩) Rz z:=by
 have K:S∉wr:=λh=>r (W.sub _ h)
 intro m;induction m with
 | zero=>
  intro j z best c em L st pb s fin;have N:j+1=n:=by lia
  show kL DX ?_;show aj (xC s rfl ?_);show aj (xB (W.done z _ _ (N▸st) λJ tk kp=>?_));have q:=kp S _ K s;show aj ?_;show AB q rfl (aj (DG (ay ?_)));show fin best _ tk pb λb o d p e=>(nC _ _ (Ne.symm p)).trans (kp b o d e)
 | succ m H=>
  intro j z best c em L st pb s fin;have B:j+1<n:=by ext
  show kL DX ?_;show aj (xC s rfl ?_);show aj (xB (W.item (j+1) z _ _ B st λv J tk pv E kp=>?_));have q:=kp S _ K s;show wpAny _ A.in1 (tryCatch (holding [v,v] (richCompare .Gt v best >>= _)) _ >>= _) _ _ _;symm;let⟨i0,F⟩:=pb;let⟨a,U,rfl⟩:=g _ _ pv;let⟨Q,T,rfl⟩:=g _ _ F;show aj (xB (gi (aj (aaE (aj (gi (lA (aj (DG (ay ?_))))))))));cases V:decide (a>Q) with
  | true=>
   show aj ?_;show AB q rfl (aj (DG ?_));have R:∀f b o,b∉wr->b≠S->z.heap.get? b\o->(J.update S f).get? b\o:=λf b o d p e=>(nC _ _ (Ne.symm p)).trans (kp b o d e)
   show ay ⟨lE DW _,H (j+1) _ _ _ ⋯ B (W.frame _ _ _ E λb O o e=>?_) ⟨_,pv⟩ (rE _ q rfl) λx y u C D=>?_⟩
   .exact(nC _ _ (λh:S=b=>r (by rw[h];show O))).trans e
   show fin x y u C λb o d p e=>D b o d p (R _ b o d p e)
  | false=>
   show aj (DG ?_);show ay ⟨lE DW _,H (j+1) _ _ c ⋯ B E ⟨_,F⟩ q λx y u C D=>?_⟩;show fin x y u C λb o d p e=>D b o d p (kp b o d e)
def zr5(W:Walks prog w A.in1 I fp wr n P St)(S)(d:∀i v,P i v->∃m t,v=.int m t)(a:S∉fp)(l)(pos:0<n)(st:St 0 z.heap)
  (p:z.heap.get? S=some { cls:=.type "list",dict:=none,data:=.seq #[] c,slots:=#[] })
  (fin:∀v h' tk,(∃i,P i v)->(∀b o,b∉wr->b≠S->z.heap.get? b\o->h'.get? b\o)->Rz (.ok (.ret v)) { z with heap:=h',toks:=tk }) :
  codeAny (model prog w) A (.builtin "max.loop" ⟨[.ref I,.none,.ref S],l⟩) Rz z:=by
 have C:S∉wr:=λh=>a (W.sub _ h)
 show kL DX ?_;show aj (xC p rfl ?_);show aj (xB (W.item 0 z _ _ pos st λv x tk pv s kp=>?_));have k:=kp S _ C p;show wpAny _ A.in1 (updateSeq S (λ_=>#[v,v]) >>= _) _ _ _;show aj ?_;show AB k rfl ?_;have B:∀f b o,b∉wr->b≠S->z.heap.get? b\o->(x.update S f).get? b\o:=λf b o j g e=>(nC _ _ (Ne.symm g)).trans (kp b o j e)
 show ay ⟨lE DW _,zr4 W S d a l _ 0 _ v _ rfl pos (W.frame _ _ _ s λb y o e=>?_) ⟨_,pv⟩ (rE _ k rfl) λr u q D E=>?_⟩
 .exact(nC _ _ (λh:S=b=>a (by rw[h];show y))).trans e
 show fin r u q D λb o j g e=>E b o j g (B _ b o j g e)
end
def zr6(n:A.handled=none)(g:s.heap.IsList l items.toArray)(a:∀v∈items,∃m t,v=.int m t)
  (q:items=[]->∀h' tk,(∀b o,'f' b\o->h'.get? b\o)->Q d { s with heap:=h',toks:=tk })
  (p:∀v∈items,∀h' tk,(∀b o,'f' b\o->h'.get? b\o)->Q v { s with heap:=h',toks:=tk }) :
  ↥(call (.builtin "max") [.ref l] [("default",d)]) Q E s:=by
 show zka F.kind_max F.plain_max F.entry_max (zni _ _) ?_;show aj (An (show aaP "max" ["key","default"] 0 ⟨[],[("default",d)]⟩=pure [none,some d] from rfl) ?_);show aj (ay ?_);show aj (tZ g ?_);show aj (jj ?_);have j:l< *...*:=by let⟨z,e,z⟩:=g;show cf e
 have W:=Al (prog:=prog) (w:=w) (A:=A.in1) n *...* l (cC j) items.toArray;have f:∀b o,'f' b=some o->b∉[*...*]/\b≠(s.heap.push { cls:=.type "list_iterator",data:=.fields #[.ref l,.int 0 0] }).objs.size:=λb o e=>by
  have:=cf e;show⟨λhm=>?_,λh=>?_⟩
  .rcases bE.mp hm with c | hm
   .exact qf _ (c▸this)
   cases hm
  rw[oX] at h;show cC (nK this) h
 show ay ⟨lE DW _,?_⟩;have k:=W.frame 0 _ (((s.heap.push { cls:=.type "list_iterator",data:=.fields #[.ref l,.int 0 0] }).push { cls:=.type "list",dict:=none,data:=.seq #[] 0,slots:=#[] })) (⟨⟨_,cT _ rfl,rfl,rfl⟩,g.push _⟩) λb _ o e=>cy _ e
 have off:(s.heap.push { cls:=.type "list_iterator",data:=.fields #[.ref l,.int 0 0] }).objs.size∉[*...*,l]:=λhm=>by
  rw[oX] at hm;rcases bE.mp hm with c | hm
  .exact Nat.succ_ne_self _ c
  rcases bE.mp hm with c | hm
  .exact cC (nK j) c.symm
  cases hm
 have up:∀b o,'f' b=some o->_:=λb o e=>cy { cls:=.type "list",dict:=none,data:=.seq #[] 0,slots:=#[] } (cy { cls:=.type "list_iterator",data:=.fields #[.ref l,.int 0 0] } e)
 cases he:items with
 | nil=>
  subst he;show zuC W _ off d k (cT _ rfl) λh' tk kp=>q rfl h' tk λb o e=>kp b o (f b o e).1 (up b o e)
 | cons x xs=>
  show zr5 W _ (λi v hv=>a v (dZ (by simpa using hv))) off _ (by rw[he];show gh _) k (cT _ rfl) λv h' tk ⟨i,pv⟩ kp=>?_
  show p v (dZ (by simpa using pv)) h' tk λb o e=>kp b o (f b o e).1 (f b o e).2 (up b o e)
def Fc(K:ao)(x y:V)(H:Hp)(Q:VK):Prop:=∃a ns,x=.ref a/\bS K H a (ns.map V.int)/\(ns=[]->Q y H)/\∀n∈ns,Q (.int n) H
section
variable{pos p kp:aR}{e e2:az}
def zpI(B:X.calm=true){f:St}(I:Inv X m f H s)(p:RelV x u)(o:RelV y d)(h:Fc X.K x y H Q) :
  ⇑(call (.builtin "max") [u] [("default",d)]) (EP X m f Q) X.xe s:=by
 symm;let⟨a,ns,rfl,q,h0,C⟩:=h;cases p;let⟨its,b,pl,hz⟩:=I.list q;have at_:∀v∈its,∃n∈ns,RelV (.int n) v:=λv hv=>by
  let⟨i,j⟩:=iW hv;have D:i<(ns.map V.int).length:=by rw[b.length];show(c7.mp j).1
  let⟨E,g,r⟩:=b.get (cA D);rw[j] at g;cases g;rw[List.getElem_map] at r;show⟨_,gP _,r⟩
 show zr6 (I.ok.hd B) pl.isList (λv hv=>?_) (λhe h' tk kp=>?_) λv hv h' tk kp=>?_
 .let⟨n,l,t,e⟩:=at_ v hv;show⟨n,t,e⟩
 .subst he;have:=b.length;show⟨y,H,I.kept kp,o,h0 (oS (by simpa using this))⟩
 let⟨n,z,r⟩:=at_ v hv;show⟨.int n,H,I.kept kp,r,C n z⟩
def zyz(K:ao)(b a:TE):TE:=λσ H Q=>b σ H λx H1=>a σ H1 λy c=>Fc K x y c Q
def zuL(A:X.calm=true)(C:PE X e j)(B:PE X e2 f)(w:X.mg "max"=none)(z:Gl X "max":=by rfl)(g:starEach [e] X.env=(false,eval e X.env)::starEach [] X.env:=by rfl) :
  PE X (.Call (.Name "max" p) [e] [⟨some "default",e2,kp⟩] pos) (zyz X.K j f):=by
 intro n s σ H Q I h;show vy (qH I z w (u:=.builtin "max") rfl ?_);show callWith_kw ?_ (by rw[g];rfl) (by rw[g];rfl);show aX (lU C lQ g pos n s σ H (EG λx H1=>f σ H1 λy b=>Fc X.K x y b Q) I h) λus s1 i=>?_
 symm;let⟨F,H1,E,r,q⟩:=i;symm;let⟨x,rfl⟩:=VL q;let⟨u,rfl,t⟩:=gI r;show aX (ztS B zv3 pos n s1 σ H1 (EG λy b=>Fc X.K x y b Q) E q) λws s2 i=>?_
 symm;let⟨zs,b,D,o,m⟩:=i;symm;let⟨y,rfl⟩:=VL m;let⟨d,rfl,v⟩:=gI o;show zpI A D t v m
def Ug(b a:TD):TD:=λρ Q=>b ρ λr=>a ρ λc=>∃ns:List Int,r.val=.lst (ns.map .int)/\(ns=[]->Q (.fz c.val))/\∀n∈ns,Q (.fz (.int n))
def zuM(N:X.calm=true)(R:PD X e te)(O:PD X e2 te2)(L:X.mg "max"=none)(M:Gl X "max":=by rfl)(I:starEach [e] X.env=(false,eval e X.env)::starEach [] X.env:=by rfl) :
  PD X (.Call (.Name "max" p) [e] [⟨some "default",e2,kp⟩] pos) (Ug te te2):=by
 symm;let⟨t1,B,y⟩:=R;let⟨W,A,x⟩:=O;show⟨_,zuL N B A L M I,λρ σ m i G H Q P E h k=>y ρ σ m i G H _ _ E h λv H' r G' q u J=>?_⟩;let⟨U,d,f,l⟩:=u.freeze q;show x ρ σ m i U H' _ _ (E.ext d) J λV Y w Z o C T=>?_
 let⟨j,b,D,l⟩:=C.freeze o;let⟨ns,F,h0,S⟩:=T;rw[F] at f;have t:=f.mono b.g;let⟨a,xs,rfl,g1,g2⟩:=t;rw[Xu g2] at g1;show⟨a,ns,rfl,(b.s.cB g1).sq,λz=>k _ _ (.fz w.val) j (d.trans b) D (h0 z),λn K=>k _ _ (.fz (.int n)) j (d.trans b) (dH (by simp![Rep])) (S n K)⟩
end
open Builtin Builtin.ObjectAttr
def Vm(a:List af):List af->Bool
 | []=>a==[]
 | v::r=>(v::r)==a||match v with
  | .ref _=>Vm a r
  | _=>false
abbrev XQ:=aa->aa->R->Prop
end L2
namespace PySem.W
open PySem PySem.Spec PySem.Calls PyProof.Rows Builtin Builtin.ObjectAttr Builtin.Getset_descriptor
end PySem.W
namespace L2
open PySem PySem.Spec PyProof.Rows
end L2
namespace Ts
open PySem PySem.W PyProof.Rows
abbrev Kx:=Sum Int aa
def uN:Kx->Kx->Bool
 | .inl i,.inl j=>decide (i<j)
 | .inl _,.inr _=>true
 | .inr _,.inl _=>false
 | .inr a,.inr b=>decide (a.cps.toList<b.cps.toList)
def N8:Ord uN:=by
 show⟨λa b c e d=>?_,λa=>?_,λa b h=>?_⟩
 .cases a<;>cases b<;>cases c<;>simp only[uN,iG,fZ] at *
  .lia
  show List.lt_trans e d
 .cases a with
  | inl i=>simp[uN]
  | inr a=>simp![uN,j5];show List.lt_irrefl _
 cases a with
 | inl i=>
  cases b with
  | inl j=>
   have:i≠j:=λz=>h (by rw[z])
   simp![uN,iG];lia
  | inr b=>show .inl rfl
 | inr a=>
  cases b with
  | inl j=>show .inr rfl
  | inr b=>
   have h:a≠b:=λz=>h (by rw[z])
   simp![uN,iG];rcases QW (a.cps.toList<b.cps.toList) with z | z
   .exact .inl z
   rcases QW (b.cps.toList<a.cps.toList) with y | y
   .exact .inr y
   show absurd (Lp (List.le_antisymm (QO.mp y) (QO.mp z))) h
def cS:List Kx->List Kx->Bool
 | [],[]=>false
 | [],_::_=>true
 | _::_,[]=>false
 | a::r,b::t=>if a=b then cS r t else uN a b
theorem O7:∀a b c:List Kx,cS a b=true->cS b c=true->cS a c=true
 | [],[],c,e,_=>by cases e
 | _::_,[],c,e,_=>by cases e
 | [],_::_,[],_,d=>by cases d
 | [],_::_,_::_,_,_=>rfl
 | _::_,_::_,[],_,d=>by cases d
 | a::r,b::t,c::u,e,d=>by
  unfold cS at *;by_cases h:a=b
  .subst h;rw[if_pos rfl] at e;by_cases f:a=c
   .rw[if_pos f] at d ⊢;show O7 r t u e d
   rw[if_neg f] at d ⊢;show d
  rw[if_neg h] at e;by_cases f:b=c
  .subst f;rw[if_neg h];show e
  rw[if_neg f] at d;have g:=N8.tr _ _ _ e d;rw[if_neg λz=>by subst z;rw[N8.ir] at g;cases g];show g
theorem O9:∀a:List Kx,cS a a=false
 | []=>rfl
 | a::r=>by unfold cS;rw[if_pos rfl];show O9 r
theorem O8:∀a b:List Kx,a≠b->cS a b=true\/cS b a=true
 | [],[],h=>absurd rfl h
 | [],_::_,_=>.inl rfl
 | _::_,[],_=>.inr rfl
 | a::r,b::t,h=>by
  unfold cS;by_cases e:a=b
  .subst e;rw[if_pos rfl,if_pos rfl];show O8 r t λz=>h (by rw[z])
  rw[if_neg e,if_neg (Ne.symm e)];show N8.y7 _ _ e
theorem tE:Ord cS:=⟨O7,O9,O8⟩
def kv:af->Kx
 | .str x _=>.inr x
 | .int i _=>.inl i
 | _=>.inl 0
def iQ:List Bool->List af->Prop
 | [],[]=>True
 | true::s,.str _ _::r=>iQ s r
 | false::s,.int _ _::r=>iQ s r
 | _,_=>False
theorem iQ.len:∀{sh xs},iQ sh xs->xs.length=sh.length
 | [],[],_=>rfl
 | [],_::_,h=>h.elim
 | b::_,[],h=>by cases b<;>show h.elim
 | b::sh,x::xs,h=>by
  cases b<;>cases x<;>first | show h.elim | (show gy (·+1) (iQ.len (sh:=sh) (xs:=xs) h))
section
variable{w:aH}{s:ai}
def zr8:∀{sh xs ys} i,iQ sh xs->iQ sh ys->Q (cS (xs.map kv) (ys.map kv)) s->KatLex prog w A b false Q (xs.zip ys) i s:=by
 intro sh;induction sh with
 | nil=>
  intro xs ys i d a q;cases xs with
  | nil=>cases ys with
   | nil=>show kat_nil q
   | cons _ _=>show a.elim
  | cons _ _=>show d.elim
 | cons c sh f=>
  intro xs ys i d a q;cases xs with
  | nil=>cases c<;>show d.elim
  | cons x xs=>
   cases ys with
   | nil=>cases c<;>show a.elim
   | cons y ys=>
    rw[bT,bT] at q;unfold cS at q;cases c with
    | true=>
     cases x<;>first | show d.elim | skip
     cases y<;>first | show a.elim | skip
     rename_i x t y u;show kat_cons (D2 ?_);by_cases e:x=y
     .rw[iS e];rw[if_pos (by rw[e];rfl)] at q;show kat_yes (f (i+1) d a q)
     rw[jW e];rw[if_neg (λz=>e (by injection z))] at q;show kat_no ?_;cases (b&&i==0) with
     | true=>show oneLt_str q
     | false=>show kat_one _ _ (R9 q)
    | false=>
     cases x<;>first | show d.elim | skip
     cases y<;>first | show a.elim | skip
     rename_i x t y u;show kat_cons (D3 ?_);by_cases e:x=y
     .simp![beq_iff_eq.mpr e];rw[if_pos (by rw[e];rfl)] at q;show kat_yes (f (i+1) d a q)
     simp![beq_eq_false_iff_ne.mpr e];rw[if_neg (λz=>e (by injection z))] at q;show kat_no ?_;cases (b&&i==0) with
     | true=>show oneLt_int q
     | false=>show kat_one _ _ (R8 q)
def kG(h:aD)(v:af):List Kx:=match v with
 | .ref a=>match h.get? a with
  | some o=>match o.data with
   | .seq xs _=>xs.toList.map kv
   | _=>[]
  | none=>[]
 | _=>[]
def tP(sh:List Bool)(h:aD)(v:af):Prop:=∃a o xs n,v=.ref a/\h.get? a=some o/\o.cls=.type "tuple"/\o.data=.seq xs n/\iQ sh xs.toList/\kG h v=xs.toList.map kv
def Y7(b:Bool):af:=if b then .type "str" else .type "int"
theorem Yv(k:∀b o,h.get? b\o->h'.get? b\o):∀{its},(∀v∈its,tP (c::sh) h v)->∃fs,KatTups h' its fs/\fs.length=its.length/\∀v∈fs,iQ [c] [v]
 | [],_=>⟨[],.nil,rfl,λv hv=>by cases hv⟩
 | v::r,hv=>by
  symm;let⟨fs,p,m,j⟩:=Yv k (its:=r) λx hx=>hv x (cJ _ hx)
  let⟨a,o,xs,n,rfl,g,i,hd,d,z⟩:=hv v et;obtain⟨f,rs,e⟩:∃f rs,xs.toList=f::rs:=by
   cases h:xs.toList with
   | nil=>rw[h] at d;cases c<;>show d.elim
   | cons f rs=>show⟨f,rs,rfl⟩
  rw[e] at d;show⟨_,QX (f:=f) (k _ _ g) i hd (by rw[<-nB,e];rfl) p,by simp[m],λx hx=>?_⟩;symm;rcases bE.mp hx with rfl | hx
  .cases c<;>cases x<;>first | show d.elim | trivial
  show j x hx
def ace(k:∀b o,h.get? b\o->h'.get? b\o)(hv:∀v∈its,tP (c::sh) h v):Ask prog w A E its (λx=>sL cS (its.map (kG h)) (kG h x.1)) 'j':=by
 show⟨λi=>⟨tuples' (Y7 c != oV "tuple"),λJ q=>?_,⟨λx y Q t r q=>?_⟩⟩⟩
 .symm;let⟨fs,d,B,z⟩:=Yv k hv;show kat_kind (s:='j') (T:=Y7 c) d 'a' (λv hv=>?_) (by cases c<;>decide +kernel) q;have:=z v hv;cases c<;>cases v<;>first | show this.elim | show Looks.of_pure rfl
 have e:=Gq t;have u:=Gq r;let⟨a,H,xs,n,D,ga,ca,F,g,p⟩:=hv _ e;let⟨b,ob,ys,m,C,gb,I,db,f,j⟩:=hv _ u;rw[<-KW tE (ml e),p,j] at q;rw[D,C];show kat_lt (k _ _ ga) F (k _ _ gb) db ?_;have:decide (xs.size<ys.size)=false:=by
  have d:=g.len;have i:=f.len;rw[cH] at d i;rw[j5];cbv
 rw[this];show zr8 0 g f q
end
def Hz(a b r t):cS (a::r) (b::t)=if a=b then cS r t else uN a b:=by rw[cS]
section
open PySem.SeqAt
open PySem.AutoSeq1 (wpAny_loadPart')
open PySem.MeetsSeq PySem.MeetsSeq2 PySem.MeetsSeq3
theorem zuN(l b xs ys n n2 N H sl I)(hx:iQ sh xs.toList)(E:iQ sh ys.toList) :
  Meets (Builtin.«tuple.__lt__» ⟨[.ref l,.ref b],[]⟩)
   (λ_ R s=>'f' l=some { cls:=.type "tuple",dict:=N,data:=.seq xs n,slots:=sl }/\'f' b=some { cls:=.type "tuple",dict:=H,data:=.seq ys n2,slots:=I }/\
    R (.ok (.ret (.bool (cS (xs.toList.map kv) (ys.toList.map kv))))) s):=
 .of_wp λprog w A R s h=>by
  let⟨C,g,d,tk,os⟩:=s;let⟨J,K,h⟩:=h;have f2:=SU;wp_walk using lC J,lC K,wpAny_forIn_list _ (λfg b r=>b.1=none/\r=⟨C,g,d,tk,os⟩/\∃i f a,fg=f.zip a/\iQ i f/\iQ i a/\cS (xs.toList.map kv) (ys.toList.map kv)=cS (f.map kv) (a.map kv)) _
  case turn=>
   rintro⟨p,q⟩ fg b r ⟨v,rfl,i,f,a,k,j,m,he⟩;cases f with
   | nil=>cases k
   | cons x f=>
    cases a with
    | nil=>cases k
    | cons y a=>
     rw[R4] at k;injection k with B F
     injection B with O G
     subst O G;cases i with
     | nil=>show j.elim
     | cons c i=>
      rw[bT,bT] at he;rw[Hz] at he;cases c with
      | true=>
       cases p<;>first | show j.elim | skip
       cases q<;>first | show m.elim | skip
       rename_i x t y u;show aj (D2 ?_);by_cases e:x=y
       .rw[iS e];rw[if_pos (by rw[e];rfl)] at he;wp_walk
        show⟨rfl,rfl,i,f,a,F,j,m,he⟩
       rw[jW e];rw[if_neg (λz=>e (by injection z))] at he;have D:=zr2 A.in1 ⟨C,g,d,tk,os⟩ x t y u prog w;wp_walk using D
       show⟨_,rfl,by rw[he] at h;show h⟩
      | false=>
       cases p<;>first | show j.elim | skip
       cases q<;>first | show m.elim | skip
       rename_i x t y u;show aj (D3 ?_);by_cases e:x=y
       .simp![beq_iff_eq.mpr e];rw[if_pos (by rw[e];rfl)] at he;wp_walk
        show⟨rfl,rfl,i,f,a,F,j,m,he⟩
       simp![beq_eq_false_iff_ne.mpr e];rw[if_neg (λz=>e (by injection z))] at he;have D:=zr3 A.in1 ⟨C,g,d,tk,os⟩ x t y u prog w;wp_walk using D
       show⟨_,rfl,by rw[he] at h;show h⟩
  case fin=>
   rintro⟨Q,P⟩ r ⟨v,rfl,i,f,a,k,j,m,he⟩;simp only at v;subst v;have M:cS (f.map kv) (a.map kv)=false:=by
    have l1:=j.len;have o:=m.len;cases f with
    | nil=>
     cases a with
     | nil=>rfl
     | cons _ _=>simp at l1 o;lia
    | cons _ _=>
     cases a with
     | nil=>simp at l1 o;rfl
     | cons _ _=>cases k
   rw[he,M] at h;have L:xs.size=ys.size:=by
    have l1:=hx.len;have o:=E.len;rw[cH] at l1 o;cbv
   wp_walk
   show⟨_,rfl,by simpa[aaW,L] using h⟩
  case h=>show⟨rfl,rfl,sh,_,_,rfl,hx,E,rfl⟩
end
section
variable{w:aH}{s:ai}
open PySem.SeqAt
def nc(h:aD)(v:af):List Kx:=match v with
 | .ref a=>match h.get? a with
  | some o=>match o.data with
   | .seq xs _=>kG h (xs.getD 0 .none)
   | _=>[]
  | none=>[]
 | _=>[]
def aao(sh:List Bool)(h:aD)(v:af):Prop:=∃a o xs n,v=.ref a/\h.get? a=some o/\o.cls=.type "list"/\o.data=.seq xs n/\∃hx:0<xs.size,tP sh h xs[0]/\kG h xs[0]=nc h v
theorem zr9(r:A.units<cLine)(k:∀b o,h.get? b\o->'f' b\o)(hv:tP sh h v)(hw:tP sh h u):KU A s v u (cS (kG h v) (kG h u)):=λprog w E Q q=>by
 symm;obtain⟨a,⟨c1,t,y,sl⟩,xs,n,rfl,g1,g,f,k1,v1⟩:=hv;obtain⟨b,⟨z,j,db,m⟩,ys,n2,rfl,g2,e3,e,p,v2⟩:=hw;simp only at g f e3 e;subst g f e3 e;rw[v1,v2] at q;have d:=k _ _ g1;have i:=k _ _ g2;show richCompare_meets_room (op:=.Lt) ⟨_,d,rfl⟩ ⟨_,i,rfl⟩ PySem.F.slot_tuple_lt PySem.F.entry_tuple_lt (PySem.F.args_tuple_lt_2 _ _) (zuN a b xs ys n n2 t j sl m k1 p)
  ⟨d,i,show Am _≠Value.notImplemented/\Q (.bool _) s from⟨(λx=>nomatch x),q⟩⟩ r
theorem iQ.at:∀{sh xs ys},iQ sh xs->iQ sh ys->∀(j:Nat) x y,xs[j]?\x->ys[j]?\y->EqAt A s x y (decide (kv x=kv y))
 | [],[],_,_,_,j,x,y,e,_=>by cases e
 | [],_::_,_,h,_,_,_,_,_,_=>h.elim
 | c::_,[],_,h,_,_,_,_,_,_=>by cases c<;>show h.elim
 | c::_,_::_,[],_,h,_,_,_,_,_=>by cases c<;>show h.elim
 | c::sh,p::xs,q::ys,f,d,j,x,y,i,g=>by
  cases c with
  | true=>
   cases p<;>first | show f.elim | skip
   cases q<;>first | show d.elim | skip
   cases j with
   | zero=>
    cases i;cases g;intro prog w E Q q;show D2 ?_;simpa[kv] using q
   | succ j=>show iQ.at (sh:=sh) (xs:=xs) (ys:=ys) f d j x y i g
  | false=>
   cases p<;>first | show f.elim | skip
   cases q<;>first | show d.elim | skip
   cases j with
   | zero=>
    cases i;cases g;intro prog w E Q q;show D3 ?_;rename_i a _ b _;have:(a==b)=decide (a=b):=by by_cases z:a=b<;>simp[z]
    rw[this];simpa[kv] using q
   | succ j=>show iQ.at (sh:=sh) (xs:=xs) (ys:=ys) f d j x y i g
def zsa(r:A.units<cLine)(k:∀b o,h.get? b\o->'f' b\o)(hv:tP sh h v)(hw:tP sh h u)(m:kG h v≠kG h u):EqAt A s v u false:=by
 symm;let⟨a,p,xs,n,rfl,g1,x,w,k1,v1⟩:=hv;let⟨b,ob,ys,n2,rfl,g2,e3,t,g,v2⟩:=hw;have y:a≠b:=λz=>m (by rw[z])
 have R:=RcAt.tuples (A:=A) (s:=s) (items:=xs) (items2:=ys) (e:=λj=>decide (kv (xs.getD j .none)=kv (ys.getD j .none))) ⟨p,k _ _ g1,x,_,w⟩ ⟨ob,k _ _ g2,e3,_,t⟩ r λj f d=>by
  have a1:xs.getD j .none=xs[j]:=by simp[Ak,f]
  have a2:ys.getD j .none=ys[j]:=by simp[Ak,d]
  rw[a1,a2];show iQ.at k1 g j _ _ (by rw[nB];show oQ f) (by rw[nB];show oQ d)
 have l1:=k1.len;have q:=g.len;rw[cH] at l1 q;have e:((bA (min xs.size ys.size)).all (λj=>decide (kv (xs.getD j .none)=kv (ys.getD j .none)))&&xs.size==ys.size)=false:=by
  rw[Bool.eq_false_iff];intro z;rw[oZ,Jl] at z;show m ?_;rw[v1,v2];apply AG
  .simp![aE,cH];cbv
  intro i f d;simp![aE,cH] at f d;have:=z.1 i (iT.mpr 'g');simpa[Ak,f,d] using this
 rw[e] at R;show EqAt.of_refs y R
def acd(P:A.units+8<cLine)(k:∀b o,h.get? b\o->h'.get? b\o)(hv:∀v∈its,aao sh h v)(hd:∀v∈its,∀u∈its,nc h v=nc h u->v=u):Ask prog w A E its (λx=>sL cS (its.map (nc h)) (nc h x.1)) 'j':=by
 show⟨λN=>⟨oneType',λU q=>?_,⟨λx y Q H F q=>?_⟩⟩⟩
 .refine kas_kind (s:='j') (T:=.type "list") N (λv hm=>?_) (by rfl) (by rfl) q;let⟨a,o,xs,n,rfl,g1,c1,l⟩:=hv v hm;rw[<-c1];show(Looks.ld (k _ _ g1)).andThen .now
 have m:=Gq H;have r:=Gq F;rw[<-KW tE (ml m)] at q;have K:=hv _ m;have J:=hv _ r;have p:=hd _ m _ r;generalize x.1=v at *;generalize y.1=u at *;symm;obtain⟨a,⟨c1,D,R,sl⟩,xs,n,rfl,g1,B,z,hx,g,j⟩:=K;obtain⟨b,⟨S,I,db,L⟩,ys,n2,rfl,g2,e3,t,M,f,i⟩:=J;simp only at B z e3 t;subst B z e3 t;show aj (wpAny_cRoomFor 'a' ?_);have d:=k _ _ g1;have O:=k _ _ g2;have fin:∀c,c=cS (nc h (.ref a)) (nc h (.ref b))->Q c 'j':=λc e=>e▸q
 by_cases C:nc h (.ref a)=nc h (.ref b)
 .have:=p C;cases this;show aj (Td (T:="list") ⟨_,d,rfl⟩ Eh (qd Eh ⟨_,d,rfl⟩ So (SA _ _) (zkg a xs n D sl) ⟨d,?_⟩));show lA (fin _ (tE.ir _).symm)
 show aj (Td (T:="list") ⟨_,d,rfl⟩ Eh (qd Eh ⟨_,d,rfl⟩ So (SA _ _) (zi2 a b xs ys n n2 D I sl L hx M (cS (kG h xs[0]) (kG h ys[0])))
  ⟨d,O,zsa (by show A.units+1<cLine;lia) k g f (by rw[j,i];show C),zr9 (by show A.units+1<cLine;lia) k g f,?_⟩))
 show lA (fin _ (by rw[j,i]))
end
end Ts
namespace L2
open PySem PySem.Spec PyProof.Rows
abbrev EK:=List Key
def aN(p:EK):D:=.tup (p.map i6)
def lY(p:EK):List Bool:=p.map QN
section
variable{X:Cx}
def Ln(X:Cx)(a:aD->af->EK)(C:Hp->List (V×EK)->Prop):Prop:=∀{c s}{σ:St}{H}(I:Inv X c σ H s){ps its},C H ps->Vals (ps.map (·.1)) its->
 (∀z∈ps.zip its,a s.heap z.2=z.1.2)/\∀h',(∀b o,'f' b\o->h'.get? b\o)->Ts.Ask X.prog X.w X.A.in1.in1 X.xe its (λx=>Ts.sL Ts.cS (its.map (a s.heap)) (a s.heap x.1)) 'j'
def Bc(K:ao)(C:Hp->List (V×EK)->Prop):List V->Hp->VK->Prop:=λxs H Q=>∃p ps,xs=[.ref p]/\bS K H p (ps.map (·.1))/\C H ps/\(2<=ps.length->Ts.qV ps.length)/\
  ∀a:List (V×EK),a.Perm ps->a.Pairwise (λx y=>Ts.cS y.2 x.2=false)->∀l,H l=none->Q (.ref l) (upd H l (.lst (a.map (·.1))))
def MS(hC:Ln X j C):fX X (.builtin "sorted") (Bc X.K C):=by
 intro J' s σ H xs us Q I r h;symm;let⟨p,ps,rfl,Z,hk,Y,q⟩:=h;let⟨u,rfl,T⟩:=gI r;cases T;let⟨its,y,pl,hz⟩:=I.list Z;let⟨kk,ask⟩:=hC I hk y;have hl:ps.length=its.length:=by rw[<-y.length,aE]
 obtain⟨g,v⟩:∃g,g=ps.zip its:=⟨_,rfl⟩
 have A:ps=g.map (·.1):=by rw[v];show(DV 'g').symm
 have m:its=g.map (·.2):=by rw[v];show(DU 'a').symm
 have rel:∀z∈g,RelV z.1.1 z.2:=λz hz=>by
  let⟨i,M⟩:=iW hz;have d:(ps.map (·.1))[i]?\z.1.1:=by rw[A];simp[M]
  let⟨v',E,S⟩:=y.get d;have n:its[i]?\z.2:=by rw[m];simp[M]
  rw[n] at E;cases E;show S
 rw[<-v] at kk;show Ts.aa4 (rk:=λx=>Ts.sL Ts.cS (its.map (j s.heap)) (j s.heap x.1)) pl.isList (by rw[<-hl,<-aE (f:=(·.1))];show hz) (λn=>by rw[<-hl];show Y 'a') ask λB L t=>?_
 have ep:(Sg its).toList=g.map λz=>((z.2,z.2):Keyed):=by
  unfold Sg;rw[m];simp![List.zip_toArray];clear v A m rel kk L t;induction g with
  | nil=>rfl
  | cons a r J=>simp at J ⊢;show J
 let⟨w,d,n⟩:=wa (L.trans (rm ep)) rfl;have D:∀z∈w,RelV z.1.1 z.2:=λz hz=>rel z (d.subset hz)
 have out:((arrOf B).map (·.2)).toList=w.map (·.2):=by
  rw[Array.toList_map,n,bz];rfl
 let⟨en,he⟩:=IE s.heap its ((arrOf B).map (·.2));have hf:H (*...*+1)=none:=I.aU.fresh (iZ _)
 have F:=q (w.map (·.1)) (by rw[A];show d.map _) (by
  rw[gQ];unfold Ts.cv at t;rw[n,gQ] at t;show t.imp_of_mem λ{a b} O N du=>?_
  have R:=kk a (d.subset O);have P:=kk b (d.subset N);rw[<-R,<-P];have W:j s.heap a.2∈its.map (j s.heap):=ml (by rw[m];show ml (d.subset O));have U:j s.heap b.2∈its.map (j s.heap):=ml (by rw[m];show ml (d.subset N))
  show Ts.aa9 Ts.tE W U (by simp only at du;ext)) _ hf
 rw[bz] at F;show⟨.ref (*...*+1),_,I.laid (a:=*...*+1) (o:=.lst (w.map ((·.1)∘(·.1)))) (t':=s.toks) (λb o e=>IS e) (iZ _) ?_,rfl,F⟩;have el:g.length=its.length:=by rw[m,aE]
 show⟨by rw[aE,d.length_eq,el,<-hl,<-aE (f:=(·.1))];show hz,((arrOf B).map (·.2)).toList,en,?_,?_⟩
 .rw[out];show VB D
 show he
theorem Xp:∀{p its},Vals (p.map kV) its->Ts.iQ (lY p) its/\its.map Ts.kv=p
 | [],[],_=>⟨trivial,rfl⟩
 | [],_::_,r=>by cases r
 | k::p,_,r=>by
  cases r with
  | cons a b=>
   let⟨d,c⟩:=Xp b;cases k with
   | inl i=>
    let⟨t,rfl⟩:=a;show⟨d,by rw[bT,c];rfl⟩
   | inr x=>
    let⟨t,rfl⟩:=a;show⟨d,by rw[bT,c];rfl⟩
def Ue{i:St}(I:Inv X n i H s)(h:∃b,v=.ref b/\cY X.K H b (e.map kV))(r:RelV v u):Ts.tP (lY e) s.heap u/\Ts.kG s.heap u=e:=by
 symm;let⟨b,rfl,sq⟩:=h;cases r;symm;let⟨i1,v1,j,z⟩:=I.tuple sq;let⟨o1,g1,c1,n1,g⟩:=j;let⟨m,d⟩:=Xp v1;have f:Ts.kG s.heap (.ref b)=e:=by
  unfold Ts.kG;simp![g1,g];simpa using d
 show⟨⟨b,o1,_,n1,rfl,g1,c1,g,by simpa using m,by rw[f];simpa using d.symm⟩,f⟩
def CEK(K:ao)(c:Bool)(sh:List Bool):Hp->List (V×EK)->Prop:=λH ps=>∀q∈ps,lY q.2=c::sh/\∃b,q.1=.ref b/\cY K H b (q.2.map kV)
theorem zuO:Ln X Ts.kG (CEK X.K c sh):=λ{h s σ H} I {ps its} d r=>by
 have b:ps.length=its.length:=by rw[<-r.length,aE]
 have at_:∀z∈ps.zip its,Ts.tP (c::sh) s.heap z.2/\Ts.kG s.heap z.2=z.1.2:=λz hz=>by
  let⟨g,f⟩:=d _ (jC hz).1;rw[<-g];show Ue I f (L4 r z hz)
 show⟨λz hz=>(at_ z hz).2,λh' k=>Ts.ace (c:=c) (sh:=sh) k λv hv=>?_⟩;let⟨a,e⟩:=Ni b v hv;show(at_ _ e).1
def Vl(C:Nat->Prop):bF:=λds Q=>∃c sh ps,ds=[.lst (ps.map aN)]/\(∀p∈ps,lY p=c::sh)/\C ps.length/\∀a:List EK,a.Perm ps->a.Pairwise (λx y=>Ts.cS y x=false)->Q (.ow (a.map aN))
theorem WB{K:ao}:∀{xs}{p:EK},au K G xs (p.map i6)->xs=p.map kV
 | [],[],_=>rfl
 | v::xs,k::p,r=>by
  rw[bT,<-WB r.2];have a:=r.1;cases k<;>(rw[a];rfl)
 | [],_::_,r=>by rw[bT] at r;simp![au] at r
 | _::_,[],r=>by rw[j8] at r;simp![au] at r
def Fn{K:ao}(r:Rep K G v (aN p)):∃b,v=.ref b/\G b\.tup (p.map kV):=by
 let⟨a,ys,rfl,sq,c⟩:=r;show⟨a,rfl,by rw[<-WB c];show sq⟩
theorem WA{K:ao}:∀{xs ps},au K G xs (ps.map aN)->xs.length=ps.length/\∀q∈xs.zip ps,Rep K G q.1 (aN q.2)
 | [],[],_=>⟨rfl,λq a=>by cases a⟩
 | v::xs,p::ps,r=>by
  let⟨c,b⟩:=WA r.2;show⟨by simp[c],λq a=>?_⟩;rcases bE.mp a with rfl | a
  .exact r.1
  show b q a
 | [],_::_,r=>by rw[bT] at r;simp![au] at r
 | _::_,[],r=>by rw[j8] at r;simp![au] at r
def FV{C:Nat->Prop}(o:∀n,2<=n->C n->Ts.qV n)(_:X.calm=true):jh X (.builtin "sorted") (Vl C):=by
 show⟨λxs H Q=>∃c sh,Bc X.K (CEK X.K c sh) xs H Q,λy s σ H xs us Q I r x=>by let⟨c,sh,h⟩:=x;show MS zuO y s σ H xs us Q I r h,λG H A ds Q P s rs h k=>?_⟩;symm;let⟨c,sh,ps,rfl,i,hl,q⟩:=h;let⟨v,rfl,j⟩:=Ko rs;let⟨a,xs,rfl,t,p⟩:=j;let⟨B,hz⟩:=WA p;have w:(xs.zip ps).map (·.1)=xs:=DV 'g';have u:(xs.zip ps).map (·.2)=ps:=DU 'g';have el:(xs.zip ps).length=ps.length:=by rw[nH];cbv
 show⟨c,sh,a,xs.zip ps,rfl,by rw[w];show(s.cB t).sq,λz d=>⟨i _ (jC d).2,?_⟩,λh=>by rw[el] at h ⊢;show o _ h hl,λg f m=>?_⟩
 .symm;let⟨b,e,sq⟩:=Fn (hz z d);show⟨b,e,s.uF (cY.of sq)⟩
 show sk s (ds:=(g.map (·.2)).map aN) ?_ (q (g.map (·.2)) ((f.map _).trans (rm u)) (by rw[gQ];show m)) k;rw[bz];show FH λq d=>hz q (f.subset d)
end
section
variable{X:Cx}
def EF(K:ao)(sh:List Bool):Hp->List (V×EK)->Prop:=λH ps=>(ps.map (·.2)).Nodup/\∀q∈ps,lY q.2=sh/\∃b c xs,q.1=.ref b/\bS K H b (.ref c::xs)/\cY K H c (q.2.map kV)
theorem Wz(P:X.A.units+64<cLine):Ln X Ts.nc (EF X.K sh):=λ{Q s σ H} I {ps its} w r=>by
 have hl:ps.length=its.length:=by rw[<-r.length,aE]
 have at_:∀z∈ps.zip its,Ts.aao sh s.heap z.2/\Ts.nc s.heap z.2=z.1.2:=λz hz=>by
  symm;let⟨x,b,c,xs,e,sl,st⟩:=w.2 _ (jC hz).1;have h:=L4 r z hz;rw[e] at h;obtain⟨⟨N,q⟩,M⟩:=z;simp only at h st x ⊢;subst x;cases h;obtain⟨it,E,⟨o,n,g,c1,_,d⟩,_⟩:=I.list sl;cases E with
  | @cons _ _ _ ys F O=>
   let⟨L,y⟩:=Ue (e:=q) I ⟨c,rfl,st⟩ F;have t:Ts.nc s.heap (.ref b)=q:=by
    unfold Ts.nc;simp![g,d];show y
   show⟨⟨b,o,_,n,rfl,g,c1,d,by show gh _,L,by rw[t];show y⟩,t⟩
 show⟨λz hz=>(at_ z hz).2,λh' k=>Ts.acd (sh:=sh) (by show X.A.units+1+1+8<cLine;lia) k (λv hv=>?_) λv hv u hw e=>?_⟩
 .let⟨a,J⟩:=Ni hl v hv;show(at_ _ J).1
 let⟨i,p⟩:=iW hv;let⟨j,f⟩:=iW hw;have m:i<ps.length:=by rw[hl];show(c7.mp p).1
 have B:j<ps.length:=by rw[hl];show(c7.mp f).1
 have D:(ps[i],v)∈ps.zip its:=dZ (i:=i) (by rw[oR];show⟨cA m,p⟩);have C:(ps[j],u)∈ps.zip its:=dZ (i:=j) (by rw[oR];show⟨cA B,f⟩);rw[(at_ _ D).2,(at_ _ C).2] at e;have:i=j:=(tX (l:=ps.map (·.2)) (by simpa using m) w.1).mp (by rw[b8,b8,cA m,cA B];show gy some e);subst this;rw[p] at f;show iu f
def bR(g:List EK):EK:=g.headD []
def qI(C:Nat->Prop)(te:TD):TD:=λρ Q=>te ρ λr=>rV r λo=>y4 o λb=>∃sh gss,b=gss.map (λg=>g.map aN)/\(∀g∈gss,∀e∈g,lY e=sh)/\C gss.length/\(∀g∈gss,g≠[])/\(gss.map bR).Nodup/\∀a:List (List EK),a.Perm gss->a.Pairwise (λx y=>Ts.cS (bR y) (bR x)=false)->Q (.ov (.ll (a.map λg=>g.map aN)))
theorem bV.atK{K:ao}:∀{a}{gss:List (List EK)},bV K G H a (gss.map λg=>g.map aN)->∀z∈a.zip gss,∃xs,H z.1\.lst xs/\au K G xs (z.2.map aN)
 | [],[],_,z,hz=>by cases hz
 | q::a,g::gss,h,z,hz=>by
  rcases bE.mp hz with rfl | hz
  .exact h.1
  show bV.atK h.2 z hz
 | [],_::_,h,_,_=>by rw[bT] at h;simp![bV] at h
 | _::_,[],h,_,_=>by rw[j8] at h;simp![bV] at h
theorem Wy{K:ao}:∀{L:List (ag×List EK)},(∀z∈L,∃xs,H z.1\.lst xs/\au K G xs (z.2.map aN))->bV K G H (L.map (·.1)) ((L.map (·.2)).map λg=>g.map aN)
 | [],_=>by trivial
 | z::L,h=>by
  show⟨h z et,Wy λy a=>h y (cJ _ a)⟩
def znD(Z:∀n,2<=n->C n->Ts.qV n){f:R->(R->Prop)->Prop}(W:∀r Q,f r Q->qI C (λ_ K=>K r) [] Q)(q:mf X.K te w):mf X.K (λρ Q=>te ρ λr=>f r Q) (GD (λxs H Q=>∃sh,Bc X.K (EF X.K sh) xs H Q) (λσ H Q=>w σ H λv H1=>Q [v] H1)):=by
 intro ρ σ G0 H0 G H Q P E h k;show q ρ σ G0 H0 G H _ _ E h λv H1 r u i N b=>?_
 replace b:=W _ _ b
 dsimp only[qI] at b;let⟨o,rfl,b⟩:=Ud b;symm;let⟨aP,rfl,sh,gss,rfl,M,L,bD,nd,b⟩:=Fx b;obtain⟨p,fp,rfl,I,⟨U,rl⟩,fr⟩:=N;have hlen:fp.length=gss.length:=by have:=rl.length;simpa using this
 have at_:=rl.atK;have F:(fp.zip gss).map (·.1)=fp:=DV 'g';have D:(fp.zip gss).map (·.2)=gss:=DU 'g';show⟨sh,p,(fp.zip gss).map λz=>(V.ref z.1,bR z.2),rfl,?_,⟨?_,λy T=>?_⟩,λh=>by rw[aE,nH,hlen,Nat.min_self] at h ⊢;show Z _ h L,λic S B l hl=>?_⟩
 .rw[bz];have:((λx:V×EK=>x.1)∘λz:ag×List EK=>(V.ref z.1,bR z.2))=V.ref∘(λz:ag×List EK=>z.1):=rfl;rw[this,<-bz,F];show bS.of U
 .rw[bz];have:((λx:V×EK=>x.2)∘λz:ag×List EK=>(V.ref z.1,bR z.2))=bR∘(λz:ag×List EK=>z.2):=rfl;rw[this,<-bz,D];show nd
 .let⟨z,hz,rfl⟩:=aK.mp T;let⟨xs,g1,g2⟩:=at_ z hz;have m:=bD z.2 (jC hz).2;cases j:z.2 with
  | nil=>show absurd j m
  | cons e g=>
   rw[j,bT] at g2;cases xs with
   | nil=>simp![au] at g2
   | cons y ys=>
    let⟨c,rfl,Y⟩:=Fn g2.1;show⟨M _ (jC hz).2 _ (by rw[j];show et),z.1,c,ys,rfl,bS.of g1,cY.of (i.s _ _ Y)⟩
 let⟨d,f1,rfl⟩:=wa S rfl;have t:(d.map (·.1)).Perm fp:=(f1.map _).trans (rm F);have A:∀q∈fp,q≠l:=λq b z=>rl.here q b (by rw[z];show hl)
 have J:Ext u H1 u (upd H1 l (.lst (d.map λz=>V.ref z.1))):=.own i.s hl;have O:=b (d.map (·.2)) ((f1.map _).trans (rm D)) (by rw[gQ] at B ⊢;show B);have el:((d.map λz:ag×List EK=>(V.ref z.1,bR z.2)).map λx:V×EK=>x.1)=d.map λz=>V.ref z.1:=by rw[bz];rfl
 rw[el];show k _ _ (.ov (.ll ((d.map (·.2)).map λg=>g.map aN))) u (i.trans J) ⟨l,d.map (·.1),rfl,?_,⟨?_,?_⟩,λq b=>?_⟩ O
 .rw[fY] at I ⊢;show⟨λz=>A l (t.subset z) rfl,t.nodup_iff.mpr I.2⟩
 .rw[eV,bz];rfl
 .refine Wy λz hz=>?_
  symm;let⟨xs,g1,g2⟩:=at_ z (f1.subset hz);show⟨xs,?_,g2⟩;rw[bQ (A z.1 (jC (f1.subset hz)).1)];show g1
 symm;rcases bE.mp b with rfl | b
 .exact⟨i.h.free hl,i.s.free hl⟩
 show fr q (cJ _ (t.subset b))
def Yi(i:∀n,2<=n->C n->Ts.qV n){f:R->(R->Prop)->Prop}(g:∀r Q,f r Q->qI C (λ_ K=>K r) [] Q)(b:X.A.units+64<cLine)(c:X.mg "sorted"=none)(h:PD X e te)(d:Gl X "sorted":=by rfl)(a:starEach [e] X.env=(false,eval e X.env)::starEach [] X.env:=by rfl):PD X (.Call (.Name "sorted" p) [e] [] pos) (λρ Q=>te ρ λr=>f r Q):=by
 let⟨tt,pp,q⟩:=h;have:=Bp (pos:=pos) (p:=p) (r:=λxs H Q=>∃sh,Bc X.K (EF X.K sh) xs H Q) (λk s σ H xs us Q I r j=>by let⟨sh,h⟩:=j;show MS (Wz b) k s σ H xs us Q I r h) d c qe (lU pp lQ a) (he:=a);show⟨_,this,znD i g q⟩
theorem znE(d:∀n,2<=n->C n->Ts.qV n)(a:X.A.units+64<cLine)(b:X.mg "sorted"=none)(h:PD X e te)(c:Gl X "sorted":=by rfl)(g:starEach [e] X.env=(false,eval e X.env)::starEach [] X.env:=by rfl):PD X (.Call (.Name "sorted" p) [e] [] pos) (qI C te):=
 Yi d (f:=λr=>qI C (λ_ K=>K r) []) (λ_ _ h=>h) a b h c g
end
section
open PySem.AutoSeq1 (wpAny_loadPart') in
theorem zsb(l:ag)(items:Array af)(n:Nat)(b:ag)(items2:Array af)(n2:Nat)(k a:Option ag)(sl c:Array (Option af))(i:¬items.isEmpty=true)(o:¬items2.isEmpty=true)(e:items.size+items2.size<=sizeLine) :
  Meets (Builtin.«tuple.__add__» ⟨[.ref l,.ref b],[]⟩) (λ_ R s=>'f' l=some { cls:=.type "tuple",dict:=k,data:=.seq items n,slots:=sl }/\'f' b=some { cls:=.type "tuple",dict:=a,data:=.seq items2 n2,slots:=c }/\R (.ok (.ret (fw *...*))) { s with heap:=s.heap.push { cls:=.type "tuple",data:=.seq (items++items2) } }):=
 .of_wp λprog w A R s h=>by
  let⟨m,g,d,tk,os⟩:=s;let⟨f,j,h⟩:=h;have f2:=SU;wp_walk using lC f,lC j
  show⟨_,rfl,h⟩
def uh:O2:=λd e Q=>qN d λxs=>qN e λys=>xs≠[]/\ys≠[]/\xs.length+ys.length<=sizeLine/\Q (.fz (.tup (xs++ys)))
def Vk:gG X (binaryOp .Add) uh:=by
 show⟨λx y H Q=>∃l b xs zs,x=.ref l/\y=.ref b/\cY X.K H l xs/\cY X.K H b zs/\xs≠[]/\zs≠[]/\xs.length+zs.length<=sizeLine/\∀p,H p=none->Q (.ref p) (upd H p (.tup (xs++zs))),λ{J' s σ H x y v u Q} I j i h=>?_,λG H x y d e Q P s j i h k=>?_⟩
 .symm;let⟨l,b,xs,zs,rfl,rfl,U,V,n1,n2,hz,q⟩:=h;cases j;cases i;symm;obtain⟨its,r,⟨⟨c1,Y,da,sl⟩,g1,C,k1,B⟩,z1⟩:=I.tuple U;obtain⟨f,n,⟨⟨c2,J,db,N⟩,g2,e3,O,A⟩,Z⟩:=I.tuple V;simp only at C B e3 A;subst C B e3 A;have hl:=r.length;have E:=n.length;have M:its≠[]:=λz=>n1 (oS (by rw[hl,z];rfl))
  have L:f≠[]:=λz=>n2 (oS (by rw[E,z];rfl))
  show concat_meets ⟨_,g1,rfl⟩ ⟨_,g2,rfl⟩ noFill_tuple_add seq_tuple_add F.slot_tuple_add F.entry_tuple_add (F.args_tuple_add_2 _ _) (zsb l its.toArray k1 b f.toArray O Y J sl N (by simpa using M) (by simpa using L) (by simp;cbv)) ⟨g1,g2,?_⟩;have W:its.toArray++f.toArray=(its++f).toArray:=by simp
  rw[W];show⟨.ref _,_,I.laid (a:=*...*) (o:=.tup (xs++zs)) (t':=s.toks) (λc o e=>cy _ e) (bB _) ⟨by rw[bP];show hz,its++f,r.append n,⟨_,cT _ rfl,rfl,_,rfl⟩⟩,rfl,q _ I.fresh⟩
 unfold uh at h;let⟨a,xs,es,rfl,hx,D,h⟩:=j.T h;let⟨b,ys,fs,rfl,R,w,h⟩:=i.T h;have l1:=D.length;have t:=w.length;show⟨a,b,xs,ys,rfl,rfl,s.uF (cY.of hx),s.uF (cY.of R),λz=>h.1 (oS (by rw[<-l1,z];rfl)),λz=>h.2.1 (oS (by rw[<-t,z];rfl)),by rw[l1,t];show h.2.2.1,λp S=>?_⟩;have m:Ext G H (upd G p (.tup (xs++ys))) (upd H p (.tup (xs++ys))):=.new s S;show k _ _ (.fz (.tup _)) _ m ?_ h.2.2.2;show⟨p,xs++ys,rfl,eV,(D.append w).mono m.g⟩
end
end L2
namespace PySem
open Sem (wp)
section
variable{prog:aI}{w:aH}{K:Type}[DecidableEq K]{knd:KeyKind prog w K}{A:bh}{R:Result->ai->Prop}{I:ag}{fp wr:List ag}{G:Array GenState->Array GenState->Prop}{n:Nat}{P:Nat->af->Prop}{St:Nat->ai->Prop}
abbrev oK(K:Type):=List (List K×ag×af)
def bH(l:oK K):oK K:=l.foldl (λacc p=>storedH acc p.1 p.2.1 p.2.2) []
def zuP{kvs:oK K}{i:Nat}{k:List K}{b:ag}{y:af}(e:kvs[i]?\(k,b,y)):storedH (bH (kvs.take i)) k b y=bH (kvs.take (i+1)):=by
 unfold bH;have a:kvs.take (i+1)=kvs.take i++[(k,b,y)]:=by rw[fG,e];rfl
 rw[a,RS];rfl
def zll(l:oK K)(k:List K)(b:ag)(y:af):(storedH l k b y).length<=l.length+1:=by
 unfold storedH;split<;>simp
def Vj(l:oK K):(bH l).length<=l.length:=by
 have:∀(r acc:oK K),(r.foldl (λacc p=>storedH acc p.1 p.2.1 p.2.2) acc).length<=acc.length+r.length:=by
  intro r;induction r with
  | nil=>intro acc;simp
  | cons p r a=>
   intro acc;have c:=a (storedH acc p.1 p.2.1 p.2.2);have b:=zll acc p.1 p.2.1 p.2.2;rw[xH,cZ];lia
 simpa[bH] using this l []
def zyA(Z:ag->Prop)(l:oK K)(f:∀p∈l,Z p.2.1):∀x∈bH l,Z x.2.1:=by
 have:∀(r acc:oK K),(∀p∈r,Z p.2.1)->(∀p∈acc,Z p.2.1)->∀x∈r.foldl (λacc p=>storedH acc p.1 p.2.1 p.2.2) acc,Z x.2.1:=by
  intro r;induction r with
  | nil=>intro acc _ h;show h
  | cons p r d=>
   intro acc c b;rw[xH];show d _ (λq a=>c q (cJ _ a)) λq a=>?_
   unfold storedH at a;split at a
   .let⟨z,hz,rfl⟩:=aK.mp a;unfold putAt;split<;>show b z hz
   rcases bx.mp a with a | a
   .exact b q a
   rw[cG] at a;subst a;show c p et
 show this l [] f λp e=>by cases e
def IsTupleKey.kept{h h':aD}{k:List K}{a:ag}(x:IsTupleKey knd h k a)(e:∀o,h.get? a\o->h'.get? a\o):IsTupleKey knd h' k a:=by
 let⟨o,its,n,b,r⟩:=x;show⟨o,its,n,e o b,r⟩
def Heap.DictOfH.kept{h h':aD}{d:ag}{xs:oK K}(T:h.DictOfH (tupleKind knd) d xs)(e:∀o,h.get? d\o->h'.get? d\o)(q:∀x∈xs,∀o,h.get? x.2.1\o->h'.get? x.2.1\o):h'.DictOfH (tupleKind knd) d xs:=by
 symm;let⟨o,n,p,m,j,i,g,f,b⟩:=T;show⟨o,n,p,e o m,j,i,g,λx hx=>IsTupleKey.kept (f x hx) (q x hx),b⟩
def zpJ(V:A.units+1<cLine)(W:WalksS prog w A.in1 I fp wr G n P St)(S:ag)(F:S∉fp)(C:aD)(kvs:oK K)(hx:kvs.length=n)(hsz:kvs.length<=sizeLine)(M:∀p∈kvs,p.2.1≠S/\p.2.1∉wr)
  (O:∀i v,P i v->∃k y b a,kvs[i]?\(k,b,y)/\v=.ref a/\IsTupleKey knd C k b/\C.IsTuple a #[.ref b,y]/\a≠S/\a∉wr) :
  ∀(m i:Nat)(s:ai),n-i=m->i<=n->St i s->s.heap.DictOfH (tupleKind knd) S (bH (kvs.take i))->(∀b o,b≠S->b∉wr->C.get? b\o->'f' b\o)->
   (∀d,Moved (S::wr) G s d->d.heap.DictOfH (tupleKind knd) S (bH kvs)->R (.ok (.ret .none)) d)->codeAny (model prog w) A (.builtin "dict.update.loop" ⟨[.ref S,.ref I,rawInt (i:Int),.none],[]⟩) R s:=by
 have N:S∉wr:=λh=>F (W.sub _ h)
 have more:∀b∈wr,b∈S::wr:=λb f=>cJ _ f
 have L:∀i,∀x∈bH (kvs.take i),x.2.1≠S/\x.2.1∉wr:=λi=>zyA (λa=>a≠S/\a∉wr) _ λp X=>M p (rD X)
 intro m;induction m with
 | zero=>
  intro i s Z hi st T i7 q;have e:i=n:=by lia
  subst e;show kL YJ ?_;show aj (W.done s _ _ st λd hm=>?_);have j:=T.kept (h':=d.heap) (λo e=>hm.heap S _ N e) λx hx o e=>hm.heap _ o (L _ x hx).2 e
  rw[<-hx,gk] at j;show aj (ay (ay (q d (hm.mono more) j)))
 | succ m U=>
  intro i s Z hi st T i7 q;have J:i<n:=by ext
  show kL YJ ?_;show aj (W.item i s _ _ J st λv d hP aw hm=>?_);symm;let⟨k,y,b,a,E,rfl,Q,hT,B,g⟩:=O i v hP;let⟨t,r⟩:=M _ (dZ E);have T':=T.kept (h':=d.heap) (λo e=>hm.heap S _ N e) λx hx o e=>hm.heap _ o (L _ x hx).2 e
  have D:IsTupleKey knd d.heap k b:=Q.kept λo e=>hm.heap b o r (i7 b o t r e)
  symm;let⟨o,Y,hc,nn,hd⟩:=hT;have H:d.heap.get? a=some o:=hm.heap a o g (i7 a o B g Y);show aj (gi ?_);show aj (xB ?_);show aj (As (T:="tuple") ⟨o,H,hc⟩ ?_);show aj (xC H hd ?_);show ay ?_;show gi (wpAny_dictSet_heap (knd:=tupleKind knd) (hsz:=by have:=Vj (kvs.take i);rw[cN] at this;lia) (vw V) D T' λh' j u=>?_);rw[zuP E] at j;show ay ⟨lE YI _,U (i+1) _ ⋯ J (W.frame _ d _ _ aw (AH _ _) λb f o e=>?_) j (λb o t r e=>?_) λs2 gO T3=>?_⟩
  .rw[u.2 b (λz:b=S=>F (by rw[<-z];show f))];show e
  .rw[u.2 b t];show hm.heap b o r (i7 b o t r e)
  show q s2 (Moved.trans W.gtrans ((hm.mono more).then_heap (AH _ _) λb o f e=>?_) gO) T3;rw[u.2 b (λz:b=S=>f (by rw[z];show et))];show e
end
section
variable{prog:aI}{w:aH}{K:Type}[DecidableEq K]{knd:KeyKind prog w K}{A:bh}{E:af->ai->Prop}{s:ai}
def zlm{l:ag}{items:List af}{kvs:oK K}{Q:af->ai->Prop}(hu:A.units+8<cLine)(J:A.handled=none)(hl:∃o n,'f' l=some o/\o.cls=.type "list"/\o.dict=none/\o.data=.seq items.toArray n)(hx:kvs.length=items.length)(hsz:kvs.length<=sizeLine)
  (D:∀(i:Nat)(v:af),items[i]?\v->∃k y b a,kvs[i]?\(k,b,y)/\v=.ref a/\IsTupleKey knd s.heap k b/\s.heap.IsTuple a #[.ref b,y])
  (h:∀h' tk,h'.DictOfH (tupleKind knd) *...* (bH kvs)->(∀b o,'f' b\o->h'.get? b\o)->Q (.ref *...*) { s with heap:=h',toks:=tk }) :
  ↥(call (.type "dict") [.ref l]) Q E s:=by
 symm;let⟨ol,nl,C,q,Hr,B⟩:=hl;show callType_codes (Q₁:=λobj O=>obj=.ref *...*/\O={ s with heap:=s.heap.push { cls:=.type "dict",data:=.dict #[] } }) F.kt_called_dict (F.kt_typeCall_dict_1 _) F.entry_dict_init (kt_code_dict_new _ ⟨rfl,rfl⟩) ?_;rintro obj O ⟨rfl,rfl⟩;have z:(s.heap.push { cls:=.type "dict",data:=.dict #[] }).DictOfH (tupleKind knd) *...* []:=aat s.heap;show⟨z.typeIs,F.args_dict_init_2 _ _,?_⟩;have m:(s.heap.push { cls:=.type "dict",data:=.dict #[] }).get? l=some ol:=cy _ C;show aj ?_;show aj (El z.typeIs ?_);show ay ?_;show aj (As (T:="list") ⟨_,m,q⟩ ?_);show aj (zet m q B Hr zj7 (by rfl) (by simpa using J) ?_);intro h' tk e ne;show aj (mB ?_);have kp:∀b o,(s.heap.push { cls:=.type "dict",data:=.dict #[] }).get? b=some o->h'.get? b=some o:=ne.keeps
 have H:h'.IsList l items.toArray:=⟨_,kp _ _ m,q,nl,B⟩
 have g:h'.DictOfH (tupleKind knd) *...* []:=z.kept (λo e=>kp _ _ e) λx hx=>by cases hx
 have R:l< *...*:=cf C;have j:*...*<h'.objs.size:=by
  symm;let⟨o,es,ep,d,r⟩:=g;show cf d
 have P:∀{c},(∃o,'f' c\o)->c≠*...*/\c∉[h'.objs.size]:=λ⟨o,f⟩=>by
  have:=cf f;rw[cG];show⟨cC this,cC (Ap this j)⟩
 show aj (tZ H (ay ⟨lE YI _,?_⟩));have Ot:l≠h'.objs.size:=cC (Ap R j);have W:*...*∉[h'.objs.size,l]:=by
  simp![bE,jX,or_false,not_or];show⟨cC j,rf R⟩
 have t:A.in1.in1.handled=none:=by simpa using J
 show zpJ (by show A.units+1+1<cLine;lia) ((Al t _ l Ot items.toArray).toS) *...* W s.heap kvs (by trivial) hsz (λp X=>?_) (λi v hv=>?_) (items.toArray.size-0) 0 _ rfl (b9 _)
  ⟨⟨_,cT _ rfl,rfl,rfl⟩,(H.push _)⟩ (g.kept (λo e=>cy _ e) λx hx=>by cases hx) (λb o C2 w6 e=>cy _ (kp _ _ (cy _ e))) ?_
 .symm;let⟨i,I⟩:=iW X;have V:i<items.length:=by rw[<-hx];show(c7.mp I).1
  symm;obtain⟨k,y,b,a,d,_,⟨o,_,_,f,_⟩,_⟩:=D i _ (cA V);rw[I] at d;cases d;show P ⟨o,f⟩
 .rw[JF] at hv;symm;let⟨k,y,b,a,d,u,Y,N⟩:=D i v hv;have M:=P (c:=a) (let⟨o,f,_⟩:=N;⟨o,f⟩);show⟨k,y,b,a,d,u,Y,N,M.1,M.2⟩
 intro U hm T;symm;let⟨u,g',d',S,Cu⟩:=U;have eg:g'=s.gens:=hm.gens;have ed:d'=s.drawn:=hm.drawn;have Z:Cu=s.os:=hm.os;subst eg ed Z;show⟨rfl,h u S T λb o e=>?_⟩;have L:b< *...*:=cf e;show hm.heap b o ?_ (cy _ (kp _ _ (cy _ e)));simp![bE,jX,or_false,not_or];show⟨cC L,cC (Ap L j)⟩
end
end PySem
namespace L2
open PySem PySem.Spec PyProof.Rows
abbrev TQ:=ag×ag×List Key×V
def yH(ts:List TQ):List (List Key×V):=ts.foldl (λacc t=>nP acc t.2.2.1 t.2.2.2) []
def Lm(ps:List (EK×D)):List (List Key×D):=ps.foldl (λacc p=>rQ acc p.1 p.2) []
theorem V0{j:St}(I:Inv X C j H s)(sG:aW G H):∀{ts:List TQ}{its},(∀t∈ts,cY X.K H t.1 [.ref t.2.1,t.2.2.2]/\G t.2.1\.tup (t.2.2.1.map kV))->Vals (ts.map λt=>V.ref t.1) its->
  ∃kvs:oK Key,kvs.length=its.length/\(∀(i:Nat) v,its[i]?\v->∃k y b a,kvs[i]?\(k,b,y)/\v=.ref a/\IsTupleKey (jt X.prog X.w) s.heap k b/\s.heap.IsTuple a #[.ref b,y])/\
   ∀f d,KT G f d->KT G (ts.foldl (λacc t=>nP acc t.2.2.1 t.2.2.2) f) (kvs.foldl (λacc p=>storedH acc p.1 p.2.1 p.2.2) d)
 | [],its,_,r=>by
  cases r;show⟨[],rfl,λi v e=>(by cases e),λf d h=>h⟩
 | t::ts,_,h,r=>by
  cases r with
  | @cons _ u _ us a rs=>
   symm;let⟨kvs,B,A,z⟩:=V0 I sG (λx hx=>h x (cJ _ hx)) rs;let⟨st,g⟩:=h t et;let⟨i1,v1,o,l⟩:=I.tuple st;let⟨w1,w2,rfl,n,m⟩:=A7 v1;cases (show u=fw t.1 from a);cases (show w1=fw t.2.1 from n);show⟨(t.2.2.1,t.2.1,w2)::kvs,by rw[cZ,cZ,B],λi v e=>?_,λf d q=>?_⟩
   .cases i with
    | zero=>
     cases e;show⟨_,_,_,_,rfl,rfl,vT I.aU (sG _ _ g),o⟩
    | succ i=>show A i v e
   show z _ _ (q.put t.2.2.1 g m)
def KT.abw:∀{a xs},KT G a xs->fu G a (xs.map λx=>x.2.1):=by
 intro a xs r;induction r with
 | nil=>trivial
 | cons h t b=>show⟨h.2.1,b⟩
def zwP(K:ao):List V->Hp->VK->Prop:=λa H Q=>∃l ts G,a=[V.ref l]/\aW G H/\bS K H l (ts.map λt=>V.ref t.1)/\(∀t∈ts,cY K H t.1 [.ref t.2.1,t.2.2.2]/\G t.2.1\.tup (t.2.2.1.map kV))/\
 ∀p,H p=none->∀bs:List ag×Nat,fu G (yH ts) bs.1->Q (.ref p) (upd H p (.dT (yH ts) bs))
def znF(y:X.calm=true)(R:X.A.units+64<cLine):fX X (.type "dict") (zwP X.K):=by
 intro S s σ H xs us Q I r h;symm;let⟨l,ts,G,rfl,sG,v,t,q⟩:=h;let⟨u,rfl,i⟩:=gI r;cases i;symm;let⟨its,d,pl,hz⟩:=I.list v;let⟨kvs,hlen,j,fold⟩:=V0 I sG t d;let⟨o,n,E,D,C,B⟩:=pl;have g:kvs.length<=sizeLine:=by rw[hlen,<-d.length];show hz
 have kt:KT G (yH ts) (bH kvs):=fold [] [] .nil;show zlm (knd:=jt X.prog X.w) (kvs:=kvs) (items:=its) 'a' (I.ok.hd y) ⟨o,n,E,D,C,B⟩ hlen g j λh' tk J kp=>?_
 have hf:H *...*=none:=I.aU.fresh (bB _);symm;let⟨m,F,f,P,O,N,M,k,L⟩:=J;have p:(yH ts).length=(bH kvs).length:=tS kt;show⟨.ref *...*,_,I.laid (a:=*...*) (o:=.dT (yH ts) ((bH kvs).map λx=>x.2.1,f)) (t':=tk) kp (bB _) ⟨by rw[p];show bK (Vj kvs) g,beq_eq_false_iff_ne.mpr (Ne.symm (cC I.big)),bH kvs,rfl,kt.keeps λb ys e=>?_,m,F,f,P,O,N,M,L,rfl⟩,rfl,q _ hf _ kt.abw⟩;have:=sG _ _ e;rw[bQ (λz=>by rw[z,hf] at this;cases this)];show this
def yt:bF:=λds Q=>∃ps:List (EK×D),ds=[.lst (ps.map λp=>.tup [aN p.1,p.2])]/\Q (.ov (.dq (Lm ps)))
theorem VZ{K:ao}:∀{xs}{ps:List (EK×D)},au K G xs (ps.map λp=>.tup [aN p.1,p.2])->∃ts:List TQ,xs=ts.map (λt=>V.ref t.1)/\(∀t∈ts,G t.1\.tup [.ref t.2.1,t.2.2.2]/\G t.2.1\.tup (t.2.2.1.map kV))/\
  ∀f e,bL K G f e->bL K G (ts.foldl (λacc t=>nP acc t.2.2.1 t.2.2.2) f) (ps.foldl (λacc p=>rQ acc p.1 p.2) e)
 | [],[],_=>⟨[],rfl,λt d=>(by cases d),λf e h=>h⟩
 | v::xs,p::ps,r=>by
  symm;let⟨ts,rfl,u,s⟩:=VZ r.2;have m:=r.1;symm;let⟨a,ys,rfl,q,j⟩:=m;let⟨y,z,rfl,g,i⟩:=T8 j;let⟨b,rfl,o⟩:=Fn g;show⟨(a,b,p.1,z)::ts,rfl,λt d=>?_,λf e n=>?_⟩
  .symm;rcases bE.mp d with rfl | d
   .exact⟨q,o⟩
   show u t d
  show s _ _ (n.put i)
 | [],_::_,r=>by rw[bT] at r;simp![au] at r
 | _::_,[],r=>by rw[j8] at r;simp![au] at r
def zuQ(m:X.calm=true)(i:X.A.units+64<cLine):jh X (.type "dict") yt:=by
 show⟨_,znF m i,λG H u ds Q P s rs h k=>?_⟩;symm;let⟨ps,rfl,q⟩:=h;let⟨v,rfl,g⟩:=Ko rs;let⟨a,xs,rfl,r,o⟩:=g;let⟨ts,rfl,f,n⟩:=VZ o;show⟨a,ts,G,rfl,s,(s.cB r).sq,λt d=>⟨s.uF (cY.of (f t d).1),(f t d).2⟩,λp b bs j=>?_⟩;show k _ _ (.ov (.dq (Lm ps))) G (.own s b) ⟨p,[],rfl,by show jo _ _,⟨rfl,yH ts,bs,eV,j,n [] [] (by simp![bL])⟩,λq e=>?_⟩ q;simp![cG] at e;subst e;show⟨b,s.free b⟩
def eA(g:List EK):D:=.lst (g.map aN)
theorem VY{K:ao}:∀{xs gss},au K G xs (gss.map eA)->xs.length=gss.length/\∀q∈xs.zip gss,Rep K G q.1 (eA q.2)
 | [],[],_=>⟨rfl,λq a=>by cases a⟩
 | v::xs,p::ps,r=>by
  let⟨c,b⟩:=VY r.2;show⟨by simp[c],λq a=>?_⟩;rcases bE.mp a with rfl | a
  .exact r.1
  show b q a
 | [],_::_,r=>by rw[bT] at r;simp![au] at r
 | _::_,[],r=>by rw[j8] at r;simp![au] at r
def zuR(C:Nat->Prop):bF:=λds Q=>∃sh gss,ds=[.lst (gss.map eA)]/\(∀g∈gss,∀e∈g,lY e=sh)/\C gss.length/\(∀g∈gss,g≠[])/\(gss.map bR).Nodup/\
 ∀a:List (List EK),a.Perm gss->a.Pairwise (λx y=>Ts.cS (bR y) (bR x)=false)->Q (.ow (a.map eA))
def zsc(M:∀n,2<=n->C n->Ts.qV n)(E:X.A.units+64<cLine):jh X (.builtin "sorted") (zuR C):=by
 show⟨λxs H Q=>∃sh,Bc X.K (EF X.K sh) xs H Q,λU s σ H xs us Q I r T=>by let⟨sh,h⟩:=T;show MS (Wz E) U s σ H xs us Q I r h,λG H W ds Q P s rs h k=>?_⟩;symm;let⟨sh,gss,rfl,p,hl,S,nd,q⟩:=h;let⟨v,rfl,u⟩:=Ko rs;let⟨a,xs,rfl,O,N⟩:=u;let⟨Z,hz⟩:=VY N;have R:(xs.zip gss).map (·.1)=xs:=DV 'g';have j:(xs.zip gss).map (·.2)=gss:=DU 'g';have el:(xs.zip gss).length=gss.length:=by rw[nH];cbv
 show⟨sh,a,(xs.zip gss).map λz=>(z.1,bR z.2),rfl,?_,⟨?_,λy D=>?_⟩,λh=>?_,λY B i=>?_⟩
 .rw[bz,show((λx:V×EK=>x.1)∘λz:V×List EK=>(z.1,bR z.2))=(·.1) from rfl,R];show(s.cB O).sq
 .rw[bz,show((λx:V×EK=>x.2)∘λz:V×List EK=>(z.1,bR z.2))=bR∘(λz:V×List EK=>z.2) from rfl,<-bz,j];show nd
 .let⟨z,o,rfl⟩:=aK.mp D;have t:=hz z o;have hm:=(jC o).2;let⟨b,ys,e,L,d⟩:=t;cases f:z.2 with
  | nil=>show absurd f (S _ hm)
  | cons e0 g=>
   rw[f,bT] at d;cases ys with
   | nil=>simp![au] at d
   | cons y ys=>
    let⟨c,rfl,J⟩:=Fn d.1;show⟨p _ hm _ (by rw[f];show et),b,c,ys,e,(s.cB L).sq,cY.of (s _ _ J)⟩
 .rw[aE,el] at h ⊢;show M _ h hl
 let⟨m,f1,rfl⟩:=wa B rfl;have w:=q (m.map (·.2)) ((f1.map _).trans (rm j)) (by rw[gQ] at i ⊢;show i);rw[bz,show((λx:V×EK=>x.1)∘λz:V×List EK=>(z.1,bR z.2))=(·.1) from rfl];show sk s (ds:=(m.map (·.2)).map eA) ?_ w k;rw[bz];show FH λq F=>hz q (f1.subset F)
section
variable{X:Cx}
def oG(a:List (List D))(t:Nat):List (List D):=(a.take t).map (λ_=>[])++a.drop t
def Nh(i j:Nat)(tc:eN):TX:=λD ρ=>gV ρ i λo=>y4 o λa=>i≠j/\j<ρ.length/\(∀ds∈a,tc ((ρ.set i .un).set j (.fz (.lst ds))) λb=>b=false)/\D.nx ((ρ.set j .un).set i (.ov (.ll (a.map λ_=>[]))))
def zwQ(h):(oG a t)[t]?=some a[t]:=by
 unfold oG;rw[List.getElem?_append_right (by rw[aE,cN];lia),aE,cN,xP,show t+(t-min t a.length)=t by lia];show cA h
def zuS(h:t<a.length):(oG a t).set t []=oG a (t+1):=by
 unfold oG;rw[Sn _ _ (by rw[aE,cN];lia),aE,cN,show t-min t a.length=0 by lia,qX h,List.set_cons_zero,fG,cA h,bX];simp
def zuT(a):oG a a.length=a.map λ_=>[]:=by
 unfold oG;rw[gk,Jj,eS]
def aS.abp{K:ao}{i t:Nat}{fp:List ag}(E:aS K B A ρ g G H)(J:gt ρ i=.ov (.ll x))(C:g[i]?\some (.ref p))(I:H p\.lst (fp.map V.ref))(l:fp[t]?\q)(hd:x[t]?\ds):aS K B A (ρ.set i .un) g (plus G H [q]) H/\G q=none/\Rep K (plus G H [q]) (.ref q) (.lst ds):=by
 let⟨L,a,b,k⟩:=E.step i;let⟨v,c,n,Q,o,rfl,rfl,d,O⟩:=b _ J nofun;rw[C] at c;cases c;have e:o=fp:=by
  rw[I] at d;injection d with d
  injection d with d
  show((AM λa b h=>by cases h;rfl).mp d).symm
 subst e;let⟨P,xs,c1,N,M⟩:=O.get hd;rw[l] at c1;cases c1;have m:q∈p::o:=cJ _ (dZ l);have w:=(a q m).1;have j:aW G (plus G H [q]):=wb λr F=>by rw[cG.mp F];show w
 show⟨k rfl (λ_ _=>rfl) j (λb u e=>?_) (λb f _=>⟨rfl,λz=>by rw[qJ λy=>f (by rw[cG.mp y];show m)];show z⟩) λ_ z=>(z rfl).elim,w,?_⟩
 .by_cases f:b∈[q]
  .rw[mR f] at e;show e
  rw[qJ f] at e;show E.e.s b u e
 show⟨q,xs,rfl,fq.of (by rw[mR 'c'];show N),M.mono j⟩
def zi5(i j){fg:List cq}(hc:X.calm=true)(hX:X.N.Nodup)
  (hp:PassesOwn (model X.prog X.w) X.A X.env X.xe) (ht:PB X C tc) (hr:∃t,jU X fg t) (hn:∃t,jU X [] t/\∀D σ H,D.nx σ H->t D σ H) (hN:Nm X i c:=by walk_at"nm")
  (Q:Nm X j y:=by walk_at"nm") (hx:Loc X.env.scope y:=by first | show Or.inl rfl | show Or.inr rfl) (hf:X.fn y=true\/X.env.scope.names.lookup y=some .local:=by first | show .inl rfl | show .inr rfl)
  (P:∀{ta},PE X (.Name y M) ta->PE X (.Call (.Attribute (.Name y M) "clear" p6) [] [] p7) (Kf X.K "list" U5 ta):=by intro ta S;show U6 rG PySem.F.slot_list_clear PySem.F.type_list_clear zq1 S)
  (jc:swapsWith (.Call (.Attribute (.Name y M) "clear" p6) [] [] p7) none p8.line X.env=pure false:=by rfl)
  (hs:∀x,foldedSetIterable (.Name c p2) X.env x=pure x:=by intro _;rfl) :
  PX X (.For (.Name y p1) (.Name c p2) [.If C fg [] p4,.Expr (.Call (.Attribute (.Name y M) "clear" p6) [] [] p7) p8] [] pos) (Nh i j tc):=by
 symm;let⟨tt,pt,qt⟩:=ht;let⟨tr,pr⟩:=hr;let⟨tn,pn,qn⟩:=hn;show⟨_,Vc hp hc (ztF (lT hN)) (Wo hX Q.N hx hf) (LP (Uq pt pr pn) (Ly (uo (P (lT Q)) jc))) hs,λρ σ G0 H0 G H D E k h gg=>?_⟩;let⟨o,OE,h⟩:=Uc h;let⟨B,rfl,h⟩:=Fx h;let⟨T,Ho,hT,hD⟩:=h;have pM:i<ρ.length:=KC OE ∅;symm;obtain⟨p,fp,s1,NV,⟨g1,g2⟩,fr⟩:=k.ov i _ OE;have hle:=g2.length;show⟨_,s1,p,rfl,⟨_,bS.of g1⟩,?_⟩;have OY:∀o,gt ((ρ.set j .un).set i (.ov o)) i=.ov o:=λo=>by rw[sg,if_pos ⟨rfl,by rw[mF];show pM⟩]
 show⟨λt m J Y=>m=fp.length-t/\t<=fp.length/\J[i]?\some (.ref p)/\Y p\.lst (fp.map V.ref)/\∃L,aW G L/\aS X.K G0 H0 ((ρ.set j .un).set i (.ov (.ll (oG B t)))) J L Y,
  ⟨_,rfl,b9 _,s1,g1,G,aW.refl _,?_⟩,?_⟩
 .have e0:((ρ.set j .un).set i (.ov (.ll (oG B 0))))=ρ.set j .un:=by
   apply tY;intro n;rw[AI];split
   .rename_i hn;subst hn;rw[if_pos (by rw[mF];show pM),vz (λz=>T z.symm)];have:∀(l:Ev)(n:Nat)(s:Sl),gt l n=s->s≠.un->l[n]?\s:=λl=>by
     induction l with
     | nil=>intro n s e h;show absurd e.symm h
     | cons a l ih=>
      intro n s e h;cases n with
      | zero=>rw[<-e];rfl
      | succ n=>show ih n s e h
    show(this ρ i _ OE ∅).symm
   rfl
  rw[e0];show k.weak (by rw[mF]) λn=>by
   rw[sg];split
   .exact .inl rfl
   show .inr rfl
 rintro t m J Y ⟨rfl,ht,Z,O,L,sG,E1⟩;by_cases f:t<fp.length
 .refine .inr ⟨⟨_,.ref fp[t],bS.of O,by simp[f]⟩,_,λji W hN=>hN,λx W hy=>?_⟩;symm;let⟨rfl,hy⟩:=hy;have ZN:=hy _ (bS.of O);simp![b8,cA f,lG,gw] at ZN;subst ZN;have CT:t<B.length:=by lia
  symm;let⟨EL,hL0,rt⟩:=E1.abp (OY _) Z O (cA f) (zwQ CT);have hL:∀q∈[fp[t]],L q=none:=λq hq=>by rw[cG.mp hq];show hL0
  have EP:=EL.put (i:=j) (v:=.ref fp[t]) (r:=.fz (.lst B[t])) (Ext.refl EL.e.s) rt;have EW:aS X.K G0 H0 ((ρ.set i .un).set j (.fz (.lst B[t]))) (J.set j (some (.ref fp[t]))) (plus L W [fp[t]]) W:=EP.weak ∅ λn=>by
   show .inr ?_;simp only[sg,mF,R.sl];by_cases S:j=n/\n<ρ.length<;>by_cases h2:i=n/\n<ρ.length<;>simp only[S,h2,eG,eC,true_and,and_self]
  show qt _ _ G0 H0 _ W _ _ EW (hT _ (gP CT)) λb H4 G4 x4 P=>?_
  subst P;show qn _ _ _ ?_;have x5:=LU hL x4;have E5:=E1.ext x5;have U:H4 p=some (.lst (fp.map V.ref)):=x5.h _ _ O;symm;obtain⟨M,d,q1,q2,⟨I,q4⟩,_⟩:=E5.ov i _ (OY _);rw[Z] at q1;cases q1;have Pb:d=fp:=by
   rw[U] at I;injection I with I
   injection I with I
   show((AM λa b h=>by cases h;rfl).mp I).symm
  subst Pb;symm;let⟨xs,ZM⟩:=q4.kind d[t] (gP f);have jl':j<J.length:=by rw[E1.len];simp;show Ho
  show⟨.ref d[t],by simp[jl'],.inl ⟨rfl,xs,bS.of ZM⟩,d[t],xs,rfl,rfl,ZM,d.length-(t+1),⋯,rfl,f,?_,?_,_,sG.trans x5.g,?_⟩
  .rw[vz (λz=>T z.symm)];show Z
  .rw[bQ (λz:p=d[t]=>(fY.mp q2).1 (by rw[z];show gP f))];show U
  have E6:=E5.unset (i:=j) (u:=some (.ref d[t]));have g6:gt (((ρ.set j .un).set i (.ov (.ll (oG B t)))).set j .un) i=.ov (.ll (oG B t)):=by
   rw[sg,if_neg (λz=>T z.1.symm)];show OY _
  have E7:=E6.zD (o':=.ll (oG B (t+1))) (p:=p) (H':=upd H4 d[t] (.lst [])) g6 (by rw[vz (λz=>T z.symm)];show Z) λeJ nd ow=>by
   symm;let⟨w1,w2⟩:=ow;have e3:eJ=d:=by
    rw[U] at w1;injection w1 with w1
    injection w1 with w1
    show((AM λa b h=>by cases h;rfl).mp w1).symm
   subst e3;show⟨eJ,nd,⟨?_,?_⟩,λq hq=>.inl hq,λb P _=>bQ λz=>P (by rw[z];show cJ _ (gP f))⟩
   .rw[bQ (λz:p=eJ[t]=>(fY.mp nd).1 (by rw[z];show gP f))];show U
   rw[<-zuS CT];show w2.set au.nil (fY.mp nd).2 (cA f)
  show E7.weak ∅ λn=>.inr ?_
  simp only[sg,mF];by_cases S:i=n/\n<ρ.length<;>by_cases h2:j=n/\n<ρ.length<;>simp only[S,h2,eG,eC,true_and,and_self]
 show .inl ⟨⟨_,bS.of O,by simp;show AF ‹_›⟩,gg.nx _ J L Y sG E1 ?_⟩;rw[show t=B.length by lia,zuT];show hD
end
def jh.imp(h:jh X f o)(i:∀ds Q,o' ds Q->o ds Q):jh X f o':=by
 let⟨r,c,k⟩:=h;show⟨r,c,λG H a ds Q P s rs z=>k G H a ds Q P s rs (i ds Q z)⟩
def eK(p:a9):EK:=[.inr p.1,.inl p.2]
def yr(a b):Ts.cS (eK a) (eK b)=Ts.md a b:=by
 unfold eK Ts.md;rw[Ts.Hz,Ts.Hz];by_cases h:a.1=b.1
 .rw[if_pos (by rw[h]),if_pos h];by_cases c:a.2=b.2
  .rw[if_pos (by rw[c]),c];simp[Ts.cS]
  rw[if_neg (by simpa using c)];rfl
 rw[if_neg (by simpa using h),if_neg h];rfl
def Vi(h:eK a=eK b):a=b:=by
 unfold eK at h;injection h with d c
 injection c with c
 show Ai (Sum.inr.inj d) (Sum.inl.inj c)
theorem C9:Ts.Ord Ts.md:=⟨λa b c e d=>by rw[<-yr] at *;show Ts.O7 _ _ _ e d,λa=>by rw[<-yr];show Ts.O9 _,λa b h=>by rw[<-yr,<-yr];show Ts.O8 _ _ λz=>h (Vi z)⟩
theorem Wx(g:X.calm=true):jh X (.builtin "sorted") zwM:=
 (FV (C:=λn=>n<64) (λ_ a b=>Ts.Zd a b) g).imp λds Q ⟨ps,e,f,q⟩=>⟨true,[false],ps.map eK,by rw[e,bz];rfl,λp d=>by let⟨a,z,rfl⟩:=aK.mp d;rfl,by rw[aE];show f,λj i c=>by
  let⟨L,l1,rfl⟩:=wa i rfl;rw[bz];rw[gQ] at c
  show q L l1 (c.imp λh=>by rw[<-yr];show h)⟩
def zyB(h:g≠[]):bR (g.map eK)=eK (dG g):=by
 cases g with
 | nil=>show absurd rfl h
 | cons=>rfl
theorem Yh(l:X.A.units+64<cLine)(m:X.mg "sorted"=none)(h:PD X e te)(c:Gl X "sorted":=by rfl)(u:starEach [e] X.env=(false,eval e X.env)::starEach [] X.env:=by rfl):PD X (.Call (.Name "sorted" p) [e] [] pos) (Lo te):=
 Yi (C:=λn=>n<64) (λ_ a b=>Ts.Zd a b) (f:=λr=>Lo (λ_ K=>K r) []) (λr Q h=>by
  dsimp only[Lo] at h;let⟨o,rfl,h⟩:=Ud h;let⟨y,rfl,gss,rfl,k,j,nd,q⟩:=Fx h;have hd:∀g∈gss,bR (g.map eK)=eK (dG g):=λg c=>zyB (j g c)
  show⟨[true,false],gss.map (·.map eK),by rw[bz];show t8 λg _=>by rw[Rf,bz];rfl,λg c e he=>?_,by rw[aE];show k,λg c=>?_,?_,λv t i=>?_⟩
  .let⟨a,y,rfl⟩:=aK.mp c;let⟨b,y,rfl⟩:=aK.mp he;rfl
  .let⟨a,d,rfl⟩:=aK.mp c;show λz=>j a d (Jv.mp z)
  .rw[bz,t8 (f:=bR∘λx=>bW eK x) (g:=eK∘dG) hd,<-bz];show aax _ (λa b h z=>h (Vi z)) nd
  .let⟨L,l1,rfl⟩:=wa t rfl
   have:=q L l1 (by
    rw[gQ] at i;show i.imp_of_mem λ{a b} d s h=>?_
    rw[hd a (l1.subset d),hd b (l1.subset s),yr] at h;show h)
   rw[bz,show(λg=>bW cX g)=((λg=>bW aN g)∘λx=>bW eK x) from funext λg=>by rw[Rf,bz];rfl] at *;show this) l m h c u
theorem VX:∀a b:List Int,Ts.cS (a.map nD) (b.map nD)=HT.CF b a
 | [],[]=>rfl
 | [],_::_=>rfl
 | _::_,[]=>rfl
 | x::a,y::b=>by
  rw[bT,bT,Ts.Hz,HT.CF,VX a b];by_cases h:x=y
  .rw[if_pos (by rw[h])];simp[h]
  rw[if_neg (by simpa using h)];show decide (x<y)=_;simp[Ne.symm h]
def zuU:bF:=λds Q=>∃n b,ds=[.lst (b.map λt=>.tup (t.map D.int))]/\(∀t∈b,t.length=n+1)/\
 ∀a:List (List Int),a.Perm b->a.Pairwise (λx y=>HT.CF x y=false)->Q (.ow (a.map λt=>.tup (t.map D.int)))
theorem zsd(g:X.calm=true):jh X (.builtin "sorted") zuU:=
 (FV (C:=λ_=>True) (λn _ _=>Ts.y9 n) g).imp λds Q ⟨n,j,e,f,q⟩=>by
  have dk:∀t:List Int,aN (t.map nD)=.tup (t.map D.int):=λt=>by unfold aN;rw[bz];rfl
  have b:∀L:List (List Int),(L.map λt=>(t.map nD:EK)).map aN=L.map λt=>.tup (t.map D.int):=λL=>by rw[bz];show t8 λt _=>dk t
  show⟨false,xF n false,j.map λt=>t.map nD,by rw[e,b],λp d=>?_,trivial,λk i a=>?_⟩
  .let⟨t,c,rfl⟩:=aK.mp d;have:=f t c;unfold lY;rw[bz,show(QN∘nD:Int->Bool)=λ_=>false from rfl,List.map_const',this];rfl
  let⟨L,l1,rfl⟩:=wa i rfl;rw[b];rw[gQ] at a;show q L l1 (a.imp λh=>by rw[VX] at h;show h)
end L2
section
namespace Wc
open PySem PySem.Spec PyProof.Rows L2
abbrev di(l:List aa):Prop:=l.Nodup
theorem pA{x:aa}:[x].Nodup:=jo _ _
def top(i:Nat):cq:=PySem.Challenge.pw_wirechannel_k73_groups_of_piles.main.body.getD i (.Pass ⟨0,0,0,0⟩)
structure Txt(K:ao)(mg:aa->Option af):Prop where
 b_all:mg "all"=none
 b_any:mg "any"=none
 b_bool:mg "bool"=none
 b_dict:mg "dict"=none
 b_enumerate:mg "enumerate"=none
 b_int:mg "int"=none
 b_isinstance:mg "isinstance"=none
 b_len:mg "len"=none
 b_list:mg "list"=none
 b_max:mg "max"=none
 b_min:mg "min"=none
 b_range:mg "range"=none
 b_set:mg "set"=none
 b_sorted:mg "sorted"=none
 b_sum:mg "sum"=none
 b_tuple:mg "tuple"=none
 b_zip:mg "zip"=none
theorem mN(i)(h:jf X a t):jf X a (vE i t):=Lu i h
def ff(l:List Nat):aa:=⟨l.toArray⟩
def Ll(l):(ff l).cps.toList=l:=by simp[ff]
def kx(l):(ff l).length=l.length:=by rfl
def vZ(a b):ff a++ff b=ff (a++b):=by
 show(⟨(ff a).cps++(ff b).cps⟩:aa)=_;simp[ff]
def abm:ff a=ff b↔a=b:=by
 constructor
 .intro h;have:(ff a).cps.toList=(ff b).cps.toList:=by rw[h]
  simpa[ff] using this
 rintro rfl;rfl
def Vh(w):ff w.cps.toList=w:=by cases w;simp[ff]
theorem uL(c):(⟨#[c]⟩:aa)=ff [c]:=rfl
def nV(f:α->a)(l i):bO (l.map f) i=(bO l i).map f:=by
 unfold bO;rw[aE];cases kX l.length i with
 | none=>rfl
 | some j=>simp
def zwR{α a:Type}{f:α->a}{o:Option α}{p:a->Prop}:(∃d,o.map f\d/\p d)↔∃x,o\x/\p (f x):=by
 cases o with
 | none=>simp
 | some x=>simp
def Vg{l:List α}{p:a->Prop}:(∃d,bO (l.map f) i\d/\p d)↔∃x,bO l i\x/\p (f x):=by rw[nV];show zwR
def v7{l:List α}{i:Int}(b:0<=i)(a:i<l.length):∃h:i.toNat<l.length,bO l i\l[i.toNat]'h:=by
 show⟨by cbv,?_⟩;unfold bO kX;rw[if_pos b,if_pos a];show cA _
def Lk{l:List α}{i:Int}(b:0<=i)(a:i<l.length):∃z,bO l i\z/\z∈l:=by
 let⟨h,e⟩:=v7 b a;show⟨_,e,gP h⟩
theorem Fm{l:List α}(i)(a:n<=l.length)(h:0<n):∃z,bO l (i%(n:Int))\z/\z∈l:=
 Lk (lF _ 'a') (by have:=o7 i (show(0:Int)<n by cbv);lia)
theorem at8{l:List α}(i)(a:l.length=8):∃z,bO l (i%8)\z/\z∈l:=Fm (n:=8) i 'g' 'g'
theorem at5{l:List α}(i)(a:l.length=8):∃z,bO l (i%5)\z/\z∈l:=Fm (n:=5) i 'g' 'g'
theorem at3{l:List α}(i)(a:l.length=8):∃z,bO l (i%3)\z/\z∈l:=Fm (n:=3) i 'g' 'g'
def fE{l:List α}(h:j<l.length):bO l (j:Int)=some l[j]:=by
 let⟨h',e⟩:=v7 (l:=l) (i:=(j:Int)) (by room) 'g';simpa using e
def FU(h:0<=j):HT.bY n d (some j)=min j.toNat n:=by show(if j<0 then _ else _)=_;rw[if_neg 'g']
def yG(l:List α)(h:0<=j):gU l none (some j)=l.take j.toNat:=by
 unfold gU;rw[FU h];show((l.drop 0).take (min j.toNat l.length-0))=_;cbv
def Gp(l:List α)(h:0<=j):gU l (some j) none=l.drop j.toNat:=by
 unfold gU;rw[FU h];show((l.drop (min j.toNat l.length)).take (l.length-_))=_;by_cases a:l.length<=j.toNat
 .simp_all
 rw[mE 'a',p9 ∅]
def zse(l:List α)(c:0<=i)(h:0<=j):gU l (some i) (some j)=(l.drop i.toNat).take (j.toNat-i.toNat):=by
 unfold gU;rw[FU h,FU c];by_cases d:l.length<=i.toNat
 .simp_all
 rw[mE (a:=i.toNat) 'a'];by_cases b:l.length<=j.toNat
 .rw[Nat.min_eq_right b,p9 ∅,p9 (by simp;lia)]
 rw[mE 'a']
def Lj(l)(h:0<=j):pf (ff l) none (some j)=ff (l.take j.toNat):=by unfold pf;rw[Ll,yG _ h];rfl
def zpO(l)(h:0<=j):pf (ff l) (some j) none=ff (l.drop j.toNat):=by unfold pf;rw[Ll,Gp _ h];rfl
def zsf(l)(a:0<=i)(h:0<=j):pf (ff l) (some i) (some j)=ff ((l.drop i.toNat).take (j.toNat-i.toNat)):=by unfold pf;rw[Ll,zse _ a h];rfl
def zsg(f:α->b)(l lo a):gU (l.map f) lo a=(gU l lo a).map f:=by unfold gU;rw[aE,Rc,List.map_drop]
def VW(n i):bN n (.int i)=True:=by cases n<;>show eq_true trivial
def FT(n i):bN n (.str i)=True:=by cases n<;>show eq_true trivial
def zwS(n i):bN n (.bl i)=True:=by cases n<;>show eq_true trivial
def VV(n):bN n .non=True:=by cases n<;>show eq_true trivial
def FR{α:Type}[BEq α][LawfulBEq α][DecidableEq α](a b:α):(a==b)=decide (a=b):=by rw[xJ];simp
def VU(a b):cV (.str a) (.str b)=decide (a=b):=by rfl
def zuV(a b):cV (.int a) (.int b)=decide (a=b):=by rfl
def dn:sizeLine=16777216:=by rfl
abbrev TJ:=Nat->Ev->Prop
def i7(u:TX)(D:DE):Ev->Prop:=(λ_:RJ->Prop=>u D) aaH
theorem zwT(t u D ρ):eT t u D ρ=t { nx:=i7 u D,rt:=D.rt,bk:=D.bk,ct:=D.ct } ρ:=rfl
end Wc
open PySem PyProof.Rows L2 Wc
local macro_rules | `(tactic| walk_at"b")=>`(tactic| first | dsimp only[$[$(qn "zwT kP AY rO Dn fB K3 dC zwz yA zye zyf fN gu uO ZI qN eI vN Ob vR GY fK CI vM g7 AZ rF rW rV gF gW gV y4 Nz NB aM bJ aF bW mG rn List.set gt yb jL oI bg qw vK mJ ue ku mK kh gZ vF eH lM gq ph J7 qv oEq sN fF zC zb yp f7 J8 J9 x9 Pg pj E8 rK dM K9 rN r8 T9 AW vE gE iy rP qA nQ lL Lb Ba Kl EJ EM nR A1 xp Int.reduceAdd Int.reduceSub Int.reduceMul Int.reduceNeg Int.reducePow Int.reduceToNat cZ rj Nat.reduceAdd Ui Ki"):ident],*] | simp only[$[$(qn "zwA zwB p24 p30 Int.reduceLT Int.reduceLE decide_true decide_false true_and and_true and_self or_true true_or VW FT zwS VV Vg fZ eC eG Av IV iG zuV VU zsg yQ yP"):ident],*])
local macro_rules | `(tactic| walk_at"all")=>`(tactic| ((try lk);repeat(dsimp only[i7];try lk)))
local macro_rules | `(tactic| lk)=>`(tactic| (repeat(first | walk_at"b")))
local macro_rules | `(tactic| walk)=>`(tactic| (dsimp only[i7];lk))
local macro_rules | `(tactic| walk_at"nm")=>`(tactic| show⟨rfl,by first | show Or.inl rfl | show Or.inr (Or.inl rfl) | show Or.inr (Or.inr rfl),by decide,by decide⟩)
namespace Wc
open PySem PyProof.Rows L2
def mI(c k:Int):Int:=(c%1000000000000000000000000000000*(k*k+48271)+7919*k*k*k+11)%2147483647/7
theorem zwU(c k):0<=mI c k:=Int.ediv_nonneg (lF _ (by decide)) 'g'
def lW:bF:=λds Q=>∃c k:Int,ds=[.int c,.int k]/\0<=k/\k<=1000000/\Q (.fz (.int (mI c k)))
def Qe:(T:TX) ×' ∀{P w K mg base},Txt K mg->dr P w K mg base 0 "_law_mix" ["_law_cell","_law_k"] (top 40) T:=
 ⟨_,λT nd f c A outer s H E a=>have b:=a.units;
 (aO (cE (aG gJ (aG cK (aG cj (aG cj (aG qB (aG cK (ae 0) (aG A6 av av)) (aG cj (aG qB (ae 1) (ae 1)) av)) (aG qB (aG qB (aG qB av (ae 1)) (ae 1)) (ae 1))) av) av) av)))⟩
def MR:TX:=Qe.1
abbrev cU(n:Nat)(b:bF)(T:TX)(N:Nat):Prop:=∀ds a,ds.length=n->b ds a->T { nx:=λ_=>a (.fz .non),rt:=a } (ds.map Sl.fz++xF (N-ds.length) .un)
def zja:cU 2 lW MR 2:=by
 intro ds f hl h;let⟨c,k,rfl,h0,b,q⟩:=h;show MR _ [.fz (.int c),.fz (.int k)];unfold MR Qe;dsimp only;walk_at"all";have d:k*k<=1000000*1000000:=Int.mul_le_mul b b h0 'g';have e:0<=k*k:=Int.mul_nonneg h0 h0;show⟨.inl ⟨by lia,by room⟩,.inr ⟨by lia,by lia⟩,.inr ⟨by lia,by room⟩,.inr ⟨by lia,by room⟩,?_⟩;show q
def dO:Option aa->D
 | none=>.non
 | some s=>.str s
def dP(l:List (Option aa)):D:=.lst (l.map dO)
def dS(l:List aa):D:=.lst (l.map .str)
def dI(l:List Int):D:=.lst (l.map .int)
def u4(p:aa×Int):D:=.tup [.str p.1,.int p.2]
def qU(p:Int×aa):D:=.tup [.int p.1,.str p.2]
def Df(p:Int×Int×Int):D:=.tup [.int p.1,.int p.2.1,.int p.2.2]
def dW(l:List (aa×Int)):D:=.lst (l.map u4)
def dB(l:List (Int×aa)):D:=.lst (l.map qU)
def dK(l:List (Int×Int×Int)):D:=.lst (l.map Df)
structure ba where
 top:List (Option aa)
 aA:List (Option aa)
 left:List aa
 right:List aa
 wide:List (aa×Int)
 c6:List (Int×aa)
 keeps:List (Int×Int×Int)
def ba.parts(c:ba):List D:=[dP c.top,dP c.aA,dS c.left,dS c.right,dW c.wide,dB c.c6,dK c.keeps]
def ba.obj(c:ba):D:=.obj "Channel" [("top",dP c.top),("bottom",dP c.aA),("left",dS c.left),("right",dS c.right),("wide",dW c.wide),("bends",dB c.c6),("keeps",dK c.keeps)]
def pz(n o):bN n (dO o)=True:=by
 cases o with
 | none=>show VV n
 | some s=>show FT n s
def lR(a b):cV (dO a) (dO b)=decide (a=b):=by
 cases a<;>cases b<;>simp only[dO,cV,FR,gw,reduceCtorEq,decide_true,decide_false]
theorem BF(a b):cV (dO a) (.str b)=decide (a\b):=lR a (some b)
theorem Yg(a b):cV (.str a) (dO b)=decide (some a=b):=lR (some a) b
def yk(w)(l:List aa):inD (.str w) (l.map .str)=decide (w∈l):=by
 unfold inD;rw[qZ];induction l with
 | nil=>rfl
 | cons a r b=>
  rw[rg,b,Ee,VU];by_cases h:a=w
  .subst h;simp
  simp[h,Ne.symm h]
def Kp(w)(l:List (Option aa)):inD (.str w) (l.map dO)=decide (some w∈l):=by
 unfold inD;rw[qZ];induction l with
 | nil=>rfl
 | cons a r b=>
  rw[rg,b,Ee,BF];by_cases h:a\w
  .subst h;simp
  simp[h,Ne.symm h]
def nW(n)(l:List aa):∀e∈l.map D.str,bN n e:=by
 intro e he;rw[aK] at he;let⟨x,z,rfl⟩:=he;rw[FT];trivial
def F5(n)(l:List (Option aa)):∀e∈l.map dO,bN n e:=by
 intro e he;rw[aK] at he;let⟨x,z,rfl⟩:=he;rw[pz];trivial
def ik(ws:List aa)(l:List (Option aa)):Prop:=∀w,some w∈l->w∈ws
def yR{α:Type}{D:DE}(L:List α)(b)(hw:∀f:List L2.D->Prop,f (kO (L.map b))->c ρ f)(a:Nat->Ev->Prop)(h:a 0 ρ)
  (turn:∀i x ρ',L[i]?\x->a i ρ'->g (.tup [.int i,b x]) ρ' λj=>e { D with nx:=a (i+1),ct:=a (i+1),bk:=D.nx } j) (fin:∀ρ',a L.length ρ'->D.nx ρ'):kM c g e D ρ:=by
 show WV (kO (L.map b)) hw a h (λi d ρ' hd iv=>?_) (λρ' iv=>fin ρ' (by simpa[kO] using iv));unfold kO at hd;rw[Jy,b8] at hd;cases hx:L[i]? with
 | none=>rw[hx] at hd;cases hd
 | some x=>rw[hx] at hd;cases hd;show turn i x ρ' hx iv
theorem Xo:∀{a b c},j6 a b=true->j6 b c=true->j6 a c=true
 | [],[],c,h,_=>by simp[j6] at h
 | [],b::bs,[],_,h=>by assumption
 | [],b::bs,c::cs,_,_=>by simp[j6]
 | a::as,[],c,h,_=>by simp[j6] at h
 | a::as,b::bs,[],_,h=>by assumption
 | a::as,b::bs,c::cs,h,h'=>by
  simp![j6,AD,iG,oZ,beq_iff_eq] at h h' ⊢;rcases h with h | ⟨rfl,h⟩
  .rcases h' with h' | ⟨rfl,h'⟩
   .left;lia
   left;cbv
  rcases h' with h' | ⟨rfl,h'⟩
  .left;cbv
  right;show⟨rfl,Xo h h'⟩
theorem VT:∀{a b},j6 a b=false->j6 b a=false->a=b
 | [],[],_,_=>rfl
 | [],b::bs,h,_=>by simp[j6] at h
 | a::as,[],_,h=>by simp[j6] at h
 | a::as,b::bs,h,h'=>by
  simp![j6,Bool.or_eq_false_iff,j5,Bool.and_eq_false_iff,beq_eq_false_iff_ne] at h h';have e:a=b:=by lia
  subst e;rw[VT (h.2.resolve_left λz=>z rfl) (h'.2.resolve_left λz=>z rfl)]
theorem VS:∀a,j6 a a=false
 | []=>rfl
 | a::as=>by simp[j6,VS as]
def ja(a b:aa):Prop:=j6 a.cps.toList b.cps.toList=true
theorem zpU(h:ja a b)(h':ja b c):ja a c:=Xo h h'
def Lp{a b:aa}(h:a.cps.toList=b.cps.toList):a=b:=by rw[<-Vh a,<-Vh b,h]
theorem Xn:∀{p l},risingS p l=true->(p::l).Nodup->(p::l).Pairwise ja
 | p,[],_,_=>by show jo _ _
 | p,x::r,h,nd=>by
  simp![risingS,oZ,lh] at h;rw[fY] at nd;have c:=Xn h.2 nd.2;have f:p≠x:=λz=>nd.1 (by show z▸.head _)
  have d:ja p x:=by
   unfold ja;cases e:j6 p.cps.toList x.cps.toList with
   | true=>rfl
   | false=>show absurd (Lp (VT e h.1)) f
  rw[iV];show⟨λb a=>?_,c⟩;rcases bE.mp a with rfl | a
  .exact d
  show zpU d ((iV.mp c).1 b a)
def Mp(h:sortedS l=true)(nd:l.Nodup):l.Pairwise ja:=by
 cases l with
 | nil=>show .nil
 | cons x r=>show Xn h nd
def EV(g:eR)(b:TX)(D:DE)(ρ:Ev)(ds:List L2.D):Prop:=∃a:Nat->Ev->Prop,a 0 ρ/\
 (∀i d ρ',ds[i]?\d->a i ρ'->g d ρ' λc=>b { D with nx:=a (i+1),ct:=a (i+1),bk:=D.nx } c)/\∀ρ',a ds.length ρ'->D.nx ρ'
theorem LO{D:DE}(P:List L2.D->Prop)(hw:∀c:List L2.D->Prop,(∀ds,P ds->c ds)->a ρ c)(h:∀ds,P ds->EV g b D ρ ds):kM a g b D ρ:=hw _ h
def Yf{α:Type}{D:DE}(L:List α)(b)(a:Nat->Ev->Prop)(e:a 0 ρ)
  (turn:∀i x ρ',L[i]?\x->a i ρ'->g (b x) ρ' λf=>c { D with nx:=a (i+1),ct:=a (i+1),bk:=D.nx } f) (fin:∀ρ',a L.length ρ'->D.nx ρ'):EV g c D ρ (L.map b):=by
 show⟨a,e,λi d ρ' hd iv=>?_,λρ' iv=>fin ρ' (by simpa using iv)⟩;rw[b8] at hd;cases hx:L[i]? with
 | none=>rw[hx] at hd;cases hd
 | some x=>rw[hx] at hd;cases hd;show turn i x ρ' hx iv
def Ye{α:Type}{D:DE}(L:List α)(b)(a:Nat->Ev->Prop)(e:a 0 ρ)
  (turn:∀i x ρ',L[i]?\x->a i ρ'->g (.tup [.int i,b x]) ρ' λf=>c { D with nx:=a (i+1),ct:=a (i+1),bk:=D.nx } f) (fin:∀ρ',a L.length ρ'->D.nx ρ'):EV g c D ρ (kO (L.map b)):=by
 show⟨a,e,λi d ρ' hd iv=>?_,λρ' iv=>fin ρ' (by simpa[kO] using iv)⟩;unfold kO at hd;rw[Jy,b8] at hd;cases hx:L[i]? with
 | none=>rw[hx] at hd;cases hd
 | some x=>rw[hx] at hd;cases hd;show turn i x ρ' hx iv
def VR{α:Type}(f)(l:List α)(h:∀x∈l,bN n (f x)):bN (n+1) (.lst (l.map f)):=by
 intro d hd;rw[aK] at hd;let⟨x,hx,rfl⟩:=hd;show h x hx
def zwV(l):rL (jJ (.tup l)) "tuple"=true:=by show rL "tuple" "tuple"=true;decide
def zwW(l):rL (jJ (.lst l)) "list"=true:=by show rL "list" "list"=true;decide
def Vf(z):rL (jJ (.int z)) "bool"=false:=by rfl
def LN{α:Type}(l:List α)(a):kO (l.map a)=l.zipIdx.map λp=>.tup [.int (p.2:Nat),a p.1]:=by
 unfold kO;apply AG
 .simp
 intro i c b;simp
def dN(n:Nat):D:=.int n
def k5(ns:List Int):Int:=(ns.take 1).sum
def Ww(a)(r:List α):bO (a::r) 0\a:=by
 unfold bO kX;rw[if_pos (by decide),if_pos 'g'];rfl
def zsi(l:List α)(h):bO l (-1)\l.getLast h:=by
 have a:0<l.length:=Ju.mpr h;unfold bO kX;rw[if_neg (by decide),if_pos 'a'];rw[List.getLast_eq_getElem,show(-1+(l.length:Int)).toNat=l.length-1 by lia];show cA _
theorem yj(o):(R.ov o).sl=.ov o:=rfl
theorem vY(o):(R.ov o).val=o.val:=rfl
def yK{α c:Type}(f g)(a:List α)(b:List c):vG (a.map f) (b.map g)=(a.zip b).map λp=>.tup [f p.1,g p.2]:=by
 unfold vG;rw[List.zipWith_map,List.zip,List.map_zipWith]
def LM(L:List (Option aa)):(L.filter λx=>x.isSome).map dO=(L.filterMap id).map D.str:=by
 induction L with
 | nil=>rfl
 | cons a r b=>cases a<;>simp_all[dO]
open PySem.Spec
def Is(t:TD)(ρ:Ev)(d:D):Prop:=∀Q:R->Prop,Q (.fz d)->t ρ Q
def tI(c:eN)(ρ:Ev)(p:Prop):Prop:=∀Q:Bool->Prop,(p->Q true)->(¬p->Q false)->c ρ Q
def Ar(ts:fm)(ρ:Ev)(ds:List D):Prop:=∀Q:List D->Prop,Q ds->ts ρ Q
section
variable{ta tb:TD}{ts:fm}{ρ:Ev}{d a b e:D}{ds:List D}{i j:Int}{c c':eN}{p q:Prop}{t u:TX}{D:DE}
theorem nT{i:Nat}(h:gt ρ i=.fz d):Is (aF i) ρ d:=λQ q=>by unfold aF gF;rw[h];show q
theorem vH:Is (dC d) ρ d:=λ_ q=>q
theorem ug(d:Is ta ρ a)(c:Is tb ρ b)(h:∀Q:R->Prop,Q (.fz e)->o a b Q):Is (bg o ta tb) ρ e:=λQ q=>d _ (c _ (h Q q))
theorem EU(b:Is ta ρ (.lst ds))(a:Is tb ρ (.int i))(h:bO ds i\d):Is (bg fF ta tb) ρ d:=ug b a λ_ q=>⟨d,h,q⟩
theorem zwX(b:Is ta ρ (.tup ds))(a:Is tb ρ (.int i))(h:bO ds i\d):Is (bg fF ta tb) ρ d:=ug b a λ_ q=>⟨d,h,q⟩
theorem Ve(b:Is ta ρ (.int i))(a:Is tb ρ (.int j)):Is (bg qw ta tb) ρ (.int (i+j)):=ug b a λ_ q=>q
theorem vP(b:Is ta ρ (.int i))(a:Is tb ρ (.int j)):Is (bg (jL g) ta tb) ρ (g i j):=ug b a λ_ q=>q
theorem UU:Ar bJ ρ []:=λ_ q=>q
theorem FF(h:Is ta ρ a)(b:Ar ts ρ ds):Ar (aM ta ts) ρ (a::ds):=λ_ q=>h _ (b _ q)
theorem zwY(h:Ar ts ρ [.int i,.int j]):Is (fN rJ ts) ρ (.int (if j>i then j else i)):=λ_ q=>h _ q
theorem zwZ(h:Ar ts ρ [.int i,.int j]):Is (fN qr ts) ρ (.int (if j<i then j else i)):=λ_ q=>h _ q
theorem yq[Decidable p](h:Is ta ρ (.bl (decide p))):tI (fB ta) ρ p:=λQ t f=>h _ (by
 by_cases a:p
 .rw[iS a];show t a
 .rw[jW a];show f a)
theorem Fl(h:tI c ρ p)(h':tI c' ρ q):tI (rO c c') ρ (p/\q):=λQ t f=>h _ (λb=>h' _ (λa=>t ⟨b,a⟩) λa=>f λz=>a z.2) λb=>f λz=>b z.1
theorem zyC(h:tI c ρ p)(h':tI c' ρ q):tI (Dn c c') ρ (p\/q):=λQ t f=>h _ (λb=>t (.inl b)) λb=>h' _ (λa=>t (.inr a)) λa=>f λz=>z.elim b a
theorem xX(h:tI c ρ p)(b:p->t D ρ)(a:¬p->u D ρ):kP c t u D ρ:=h _ (λz=>by rw[if_pos rfl];show b z) λz=>by rw[if_neg nofun];show a z
theorem A5(h:Is ta ρ (.bl k)):tI (fB ta) ρ (k=true):=λQ t f=>h _ (by
 cases k with
 | true=>show t rfl
 | false=>show f nofun)
theorem zw0(b:Is ta ρ a):Is (bg (rP false) ta (dC .non)) ρ (.bl (qA a)):=ug b vH λQ q=>by cases a<;>show q
theorem VQ(b:Is ta ρ a):Is (bg (rP true) ta (dC .non)) ρ (.bl (!qA a)):=ug b vH λQ q=>by cases a<;>show q
theorem zyD(e:Is ta ρ a)(d:Is tb ρ b)(c:bN 9 a)(ob:bN 9 b):Is (bg oEq ta tb) ρ (.bl (cV a b)):=ug e d λQ q=>⟨c,ob,q⟩
theorem Fj(h:Is ta ρ (.obj n fs))(a:fs.lookup f\d):Is (iy f ta) ρ d:=λ_ q=>h _ ⟨d,a,q⟩
theorem UT(h:gt ρ k=.ow ds)(a:Is tb ρ (.int i))(b:bO ds i\d):Is (pj k tb) ρ d:=λQ q=>by
 unfold pj gW;rw[h];show a _ ⟨d,b,q⟩
theorem zyE(e:Is ta ρ a)(d:Is tb ρ b)(c:bN 9 a)(ob:bN 9 b):Is (bg sN ta tb) ρ (.bl (!cV a b)):=ug e d λQ q=>⟨c,ob,q⟩
end
def f6:Nat->Int->List Nat
 | 0,_=>[]
 | n+1,c=>(97+(c%26).toNat)::f6 n (c/26)
def Xm(n c):(f6 n c).length=n:=by
 induction n generalizing c with
 | zero=>rfl
 | succ n a=>simp[f6,a]
def Wv(n c):∀x∈f6 n c,97<=x/\x<=122:=by
 induction n generalizing c with
 | zero=>intro x hx;cases hx
 | succ n a=>
  intro x hx;rcases bE.mp hx with rfl | h
  all_goals grind
def HA:aa:="abcdefghijklmnopqrstuvwxyz"
def zw1:∀k:Fin 26,bO HA.cps.toList (k.val:Int)\(97+k.val):=by decide +kernel
def zuY(c):bO HA.cps.toList (c%26)\(97+(c%26).toNat):=by
 have h0:=lF c (show(26:Int)≠0 by decide);have a:=o7 c (show(0:Int)<26 by decide);have:=zw1 ⟨(c%26).toNat,by cbv⟩;simp only at this;rwa [Ef h0] at this
def Cc:bF:=λds Q=>∃(c:Int)(n:Nat),ds=[.int c,.int n]/\n<=1000/\Q (.fz (.str (ff (f6 n c))))
def P9:(T:TX) ×' ∀{P w K mg base},Txt K mg->dr P w K mg base 0 "_law_stem" ["_law_cell","_law_size","_law_signs","_law_stem_here","_law_k"] (top 38) T:=
 ⟨_,λT nd f c A outer s H E a=>have b:=a.units;
 (aB (bM 2 gA nd)
   (aB (bM 3 gA nd)
   (aB (fe eE rfl (kz T.b_range (ah (ae 1) aq)) (aJ 4 nd)
    (aB (bM 3 (aG cj (ae 3) (aY (ae 2) (aG cK (ae 0) av))) nd)
   (aO (bM 0 (aG gJ (ae 0) av) nd))))
   (aO (cE (ae 3))))))⟩
def Ng:TX:=P9.1
def zhD:cU 2 Cc Ng 5:=by
 intro ds j hl h;let⟨c,n,rfl,f,q⟩:=h;show Ng _ [.fz (.int c),.fz (.int n),.un,.un,.un];unfold Ng P9;dsimp only;walk_at"all";let e:TJ:=λi ρ=>∃(b:Int)(acc:List Nat)(k:Sl),ρ=[.fz (.int b),.fz (.int n),.fz (.str HA),.fz (.str (ff acc)),k]/\acc.length=i/\acc++f6 (n-i) b=f6 n c
 show qK n (λm h=>?_) e ⟨_,[],_,rfl,rfl,rfl⟩ ?_ ?_
 .walk_at"all";show⟨by cbv,by lia,by trivial⟩
 .rintro i ρ g ⟨b,acc,k,rfl,d,he⟩;walk_at"all";show⟨by decide,_,zuY b,?_,_,acc++[97+(b%26).toNat],_,by rw[uL,vZ],by simp[d],?_⟩
  .rw[kx,uL,kx,dn];simp;lia
  rw[<-he,show n-i=(n-(i+1))+1 by grind,f6];simp
 rintro ρ ⟨b,acc,k,rfl,d,he⟩;walk_at"all";rw[QV] at he;simp![f6,eS] at he;rw[he];show q
def sj(c:Int):List (List Nat):=
 if c/64%3=0 then [104,103,102,101,100,99,98,97].map λs=>(f6 6 (c/512)).take (c/8%(c%6+1)).toNat++[s]++((f6 6 (c/512)).drop (c/8%(c%6+1)).toNat).take ((c%6).toNat-(c/8%(c%6+1)).toNat)
 else if c/64%3=1 then(bA 8).map λk=>(f6 6 (c/512)).take (c%6%4).toNat++[if k/4=0 then 109 else 116]++[if k/2%2=0 then 110 else 117]++[if k%2=0 then 111 else 118]
 else(bA 6).map (λk=>(f6 6 (c/512)).take (k+1))++[([if (f6 6 (c/512)).headD 0=97 then 98 else 97]++(f6 6 (c/512)).drop 1).take 1,([if (f6 6 (c/512)).headD 0=97 then 98 else 97]++(f6 6 (c/512)).drop 1).take 3]
def ET(i:Int):Int:=(i%1000000000000000000000000+5)*7046029254386353131%1000000000000000000000007
def mM(i:Int):List aa:=(sj (ET i)).map ff
structure Words(ws:List aa):Prop where
 len:ws.length=8
 sz:∀w∈ws,1<=w.length/\w.length<=6
 HA:∀w∈ws,∀x∈w.cps.toList,97<=x/\x<=122
 nd:ws.Nodup
def Uo(x):∃a b c d e f:Nat,f6 6 x=[a,b,c,d,e,f]/\(97<=a/\a<=122)/\(97<=b/\b<=122)/\(97<=c/\c<=122)/\(97<=d/\d<=122)/\(97<=e/\e<=122)/\(97<=f/\f<=122):=by
 have h:=Wv 6 x;simp![f6,bE,jX,or_false,forall_eq_or_imp,forall_eq] at h;show⟨_,_,_,_,_,_,by rfl,h.1,h.2.1,h.2.2.1,h.2.2.2.1,h.2.2.2.2.1,h.2.2.2.2.2⟩
def Wu{l:List (List Nat)}(h:l.Nodup):(l.map ff).Nodup:=by
 unfold oU at *;rw[gQ];show h.imp λa e=>a (abm.mp e)
def zw3{α a:Type}(f:α->a){l:List α}(h:(l.map f).Nodup):l.Nodup:=by
 unfold oU at *;rw[gQ] at h;show h.imp λn e=>n (gy f e)
def Um{α a b:Type}(f)(g:a->b)(c:∀x y,g x=g y->x=y){l:List α}(h:(l.map f).Nodup):(l.map λx=>g (f x)).Nodup:=by
 unfold oU at *;rw[gQ] at h ⊢;show h.imp λn e=>n (c _ _ e)
def Mo(c):(sj c).length=8/\(sj c).Nodup:=by
 unfold sj;by_cases h0:c/64%3=0
 .rw[if_pos h0];show⟨rfl,Um id _ (λx y e=>(DM (SK (List.append_cancel_right e))).1) (by decide)⟩
 rw[if_neg h0];by_cases i:c/64%3=1
 .rw[if_pos i];show⟨rfl,Um (λk=>((if k/4=0 then 109 else 116:Nat),(if k/2%2=0 then 110 else 117:Nat),(if k%2=0 then 111 else 118:Nat))) (λl=>(f6 6 (c/512)).take (c%6%4).toNat++[l.1]++[l.2.1]++[l.2.2]) (λx y e=>?_) (by decide)⟩;let⟨e,n⟩:=RL e rfl;let⟨e,m⟩:=RL e rfl;show Ai (DM (SK e)).1 (Ai (DM m).1 (DM n).1)
 rw[if_neg i];let⟨a,b,g,d,e,f,j,z⟩:=Uo (c/512);rw[j];have h:¬a=if a=97 then 98 else 97:=by split<;>ext
 show _/\oU [[a],[a,b],[a,b,g],[a,b,g,d],[a,b,g,d,e],[a,b,g,d,e,f],[if a=97 then 98 else 97],[if a=97 then 98 else 97,b,g]];generalize (if a=97 then 98 else 97)=o at h;show⟨rfl,zw3 (λl=>(l.length,decide (l.headD 0=o))) ?_⟩;show oU [(1,decide (a=o)),(2,decide (a=o)),(3,decide (a=o)),(4,decide (a=o)),(5,decide (a=o)),(6,decide (a=o)),(1,decide (o=o)),(3,decide (o=o))];rw[jW h,iS rfl];decide
def zpY(c):(sj c).length=8/\(∀w∈sj c,(1<=w.length/\w.length<=6)/\∀x∈w,97<=x/\x<=122)/\(sj c).Nodup:=by
 show⟨(Mo c).1,?_,(Mo c).2⟩;have d:=Wv 6 (c/512);have f:=Xm 6 (c/512);have s0:0<=c%6:=lF _ (by decide);have s1:c%6<6:=o7 _ (by decide);have ap:∀{l m:List Nat},(∀x∈l,97<=x/\x<=122)->(∀x∈m,97<=x/\x<=122)->∀x∈l++m,97<=x/\x<=122:=λe r x hx=>(bx.mp hx).elim (e x) (r x)
 have tk:∀{l:List Nat}(n:Nat),(∀x∈l,97<=x/\x<=122)->∀x∈l.take n,97<=x/\x<=122:=λn h x hx=>h x (rD hx)
 unfold sj;by_cases h0:c/64%3=0
 .rw[if_pos h0];have t0:0<=c/8%(c%6+1):=lF _ 'a';have t1:c/8%(c%6+1)<c%6+1:=o7 _ (by grind);generalize c/8%(c%6+1)=at' at *;generalize c%6=z at *;generalize f6 6 (c/512)=st at *;let⟨n,rfl⟩:=SJ s0;let⟨m,rfl⟩:=SJ t0;intro w hw;rw[aK] at hw;let⟨s,j,rfl⟩:=hw;show⟨?_,ap (ap (tk _ d) λx hx=>?_) (tk _ λx hx=>d x (ua hx))⟩
  .rw[bP,bP,cN,cN,o4,f];show 1<=min m 6+1+min (n-m) (6-m)/\min m 6+1+min (n-m) (6-m)<=6;lia
  rw[cG.mp hx];show(by decide:∀s∈[104,103,102,101,100,99,98,97],97<=s/\s<=122) s j
 rw[if_neg h0];have on:∀{p:Prop}[Decidable p]{a b:Nat},(97<=a/\a<=122)->(97<=b/\b<=122)->∀x∈[if p then a else b],97<=x/\x<=122:=λq o x hx=>by
  rw[cG.mp hx];split
  .exact q
  show o
 by_cases e:c/64%3=1
 .rw[if_pos e];have t:(c%6%4).toNat<4:=by ext
  generalize (c%6%4).toNat=m at *;generalize f6 6 (c/512)=st at *;intro w hw;rw[aK] at hw;let⟨k,g,rfl⟩:=hw;show⟨?_,ap (ap (ap (tk _ d) (on (by decide) (by decide))) (on (by decide) (by decide))) (on (by decide) (by decide))⟩;rw[bP,bP,bP,cN,f];show 1<=min m 6+1+1+1/\min m 6+1+1+1<=6;lia
 rw[if_neg e];generalize f6 6 (c/512)=st at *;have hd:=ap (on (p:=st.headD 0=97) (a:=98) (b:=97) (by decide) (by decide)) λx hx=>d x (ua (i:=1) hx)
 intro w hw;rcases bx.mp hw with hw | hw
 .let⟨k,g,rfl⟩:=aK.mp hw;show⟨?_,tk _ d⟩;rw[cN,f,mE (by have:=iT.mp g;trivial)];have:=iT.mp g;lia
 rcases bE.mp hw with rfl | hw
 .exact⟨⟨bB 1,(by show gh _:1<=6)⟩,tk _ hd⟩
 rw[cG.mp hw];show⟨?_,tk _ hd⟩;rw[cN,bP,o4,f];show 1<=min 3 (1+5)/\min 3 (1+5)<=6;decide
def zpZ(i):(mM i).length=8/\(mM i).Nodup:=by
 let⟨b,a⟩:=Mo (ET i);show⟨by simp[mM,b],Wu a⟩
def zp0(i):Words (mM i):=by
 let⟨d,b,c⟩:=zpY (ET i);show⟨by simp[mM,d],λw hw=>?_,λw hw=>?_,Wu c⟩
 .unfold mM at hw;rw[aK] at hw;let⟨l,a,rfl⟩:=hw;show(b l a).1
 unfold mM at hw;rw[aK] at hw;let⟨l,a,rfl⟩:=hw;show(b l a).2
def B5:bF:=λds Q=>∃i:Int,ds=[.int i]/\Q (.ow ((mM i).map .str))
def zgD:di ["_law_sign","_law_stem_here","_law_at","_law_size"]:=by decide +kernel
def zgE:di ["_law_k","_law_stem_here","_law_size"]:=by decide +kernel
def zgF:di ["_law_k","_law_stem_here"]:=by decide +kernel
def Qd:(T:TX) ×' ∀{P w K mg base},Txt K mg->~~~1 "_law_stem" 2 Cc->dr P w K mg base 1 "_law_named" ["_law_cell","_law_size","_law_stem_here","_law_at","_law_other"] (top 39) T:=
 ⟨_,λT z6 nd f d A outer s H E c=>have b:=c.units;
 (aB (bM 0 (aG cK (aG qB (aG cj (aG cK (ae 0) (aG A6 av av)) av) av) (aG cj (aG A6 av av) av)) nd)
   (aB (bM 1 (aG cK (ae 0) av) nd)
   (aB (bM 2 (bU z6 c (ah (aG gJ (ae 0) av) (ah av aq))) nd)
   (aB (bM 3 (aG cK (aG gJ (ae 0) av) (aG cj (ae 1) av)) nd)
   (aB (df (bj (ef b) (aG cK (aG gJ (ae 0) av) av) av) (aO (cE (eu rfl (.of (N':=["_law_sign","_law_stem_here","_law_at","_law_size"]) (m:=[none,some 2,some 3,some 1]) 'b') cO (cI gA) (λs3 a ex=>(aJ 0 zgD)) (λs3 a ex=>eY) (λs3 a ex=>(aG cj (aG cj (ju (ae 1) kC (iK (ae 2))) (ae 0)) (ju (ae 1) (iK (ae 2)) (iK (ae 3)))))))) c8)
   (aB (df (bj (ef b) (aG cK (aG gJ (ae 0) av) av) av) (aO (cE (eu rfl (.of (N':=["_law_k","_law_stem_here","_law_size"]) (m:=[none,some 2,some 1]) 'b') cO (kz T.b_range (ah av aq)) (λs3 a ex=>(aJ 0 zgE)) (λs3 a ex=>eY) (λs3 a ex=>(aG cj (aG cj (aG cj (ju (ae 1) kC (iK (aG cK (ae 2) av))) (aY gA (aG gJ (ae 0) av))) (aY gA (aG cK (aG gJ (ae 0) av) av))) (aY gA (aG cK (ae 0) av))))))) c8)
   (aB (bM 4 (aG cj (aY gA (lV Kj T.b_int Ie (ah (qG (ef b) (aY (ae 2) av) gA) aq))) (ju (ae 2) (iK av) kC)) nd)
   (aO (cE (aG cj (eu rfl (.of (N':=["_law_k","_law_stem_here"]) (m:=[none,some 2]) 'b') cO (kz T.b_range (ah av aq)) (λs3 a ex=>(aJ 0 zgF)) (λs3 a ex=>eY) (λs3 a ex=>(ju (ae 1) kC (iK (aG cj (ae 0) av))))) (cQ (ah (ju (ae 4) kC (iK av)) (ah (ju (ae 4) kC (iK av)) aq)))))))))))))⟩
def MX:TX:=Qd.1
def zyF(k:Nat)(h:k<8):bO (fS "mt").cps.toList ((k:Int)/4)=some (if k/4=0 then 109 else 116):=by
 have:∀k:Fin 8,bO (fS "mt").cps.toList ((k.val:Int)/4)=some (if k.val/4=0 then 109 else 116):=by decide +kernel
 show this ⟨k,h⟩
def zyG(k:Nat)(h:k<8):bO (fS "nu").cps.toList ((k:Int)/2%2)=some (if k/2%2=0 then 110 else 117):=by
 have:∀k:Fin 8,bO (fS "nu").cps.toList ((k.val:Int)/2%2)=some (if k.val/2%2=0 then 110 else 117):=by decide +kernel
 show this ⟨k,h⟩
def zyH(k:Nat)(h:k<8):bO (fS "ov").cps.toList ((k:Int)%2)=some (if k%2=0 then 111 else 118):=by
 have:∀k:Fin 8,bO (fS "ov").cps.toList ((k.val:Int)%2)=some (if k.val%2=0 then 111 else 118):=by decide +kernel
 show this ⟨k,h⟩
def zgG:cU 1 B5 MX 5:=by
 intro ds C hl h;let⟨i,rfl,q⟩:=h;show MX _ [.fz (.int i),.un,.un,.un,.un];unfold MX Qd;dsimp only;walk_at"all";unfold mM sj ET at q;generalize (i%1000000000000000000000000+5)*7046029254386353131%1000000000000000000000007=c at q ⊢;have s0:0<=c%6:=lF _ (by decide);show⟨c/512,6,rfl,by decide,by grind,?_⟩;have t0:0<=c/8%(c%6+1):=lF _ 'a';have D:=Xm 6 (c/512);have big:=dn;by_cases h0:c/64%3=0
 .rw[if_pos h0] at q;rw[if_pos h0];show gr [104,103,102,101,100,99,98,97] (λc=>.str ⟨#[c]⟩) (λs=>.str (ff ((f6 6 (c/512)).take (c/8%(c%6+1)).toNat++[s]++((f6 6 (c/512)).drop (c/8%(c%6+1)).toNat).take ((c%6).toNat-(c/8%(c%6+1)).toNat)))) (λr h=>?_) (by decide) (λs g t k=>?_) ?_
  .walk_at"all";show h
  .walk_at"all";rw[Lj _ t0,zsf _ t0 s0,uL,vZ,vZ];show⟨by rw[kx];cbv,?_,by rw[kx];cbv,?_,k⟩
   .simp![kx,cN,cZ,rj];ext
   simp![kx,bP,cN,o4,cZ,rj];lia
  show q
 rw[if_neg h0] at q;rw[if_neg h0];by_cases j:c/64%3=1
 .rw[if_pos j] at q;rw[if_pos j];have v:0<=c%6%4:=lF _ (by decide);show gr (bA 8) (λ(i:Nat)=>.int (0+i)) (λk=>.str (ff ((f6 6 (c/512)).take (c%6%4).toNat++[if k/4=0 then 109 else 116]++[if k/2%2=0 then 110 else 117]++[if k%2=0 then 111 else 118]))) (λr h=>?_) (by decide) (λs g t k=>?_) ?_
  .walk_at"all";show h
  .have o:s<8:=by simpa using g
   rw[xx];walk_at"all";rw[Lj _ v];show⟨by rw[kx];cbv,by decide,_,zyF s o,?_,by decide,_,zyG s o,?_,by decide,_,zyH s o,?_,?_⟩
   .simp![kx,uL,cN,cZ,rj];grind
   .simp![kx,uL,vZ,bP,cN,cZ,rj];grind
   .simp![kx,uL,vZ,bP,cN,cZ,rj];grind
   simp![uL,vZ];show k
  show q
 rw[if_neg j] at q;rw[if_neg j];let⟨a,b,p,d,e,f,g,B,A,y,hd,he,hf⟩:=Uo (c/512);rw[g] at q ⊢;have w:bO (ff [a,b,p,d,e,f]).cps.toList 0\a:=by rfl
 show⟨by rw[kx];simp;trivial,a,w,?_⟩;have x:bO (fS "ab").cps.toList (if (⟨#[a]⟩:aa)=fS "a" then 1 else 0)=some (if a=97 then 98 else 97):=by
  by_cases n:a=97
  .subst n;rfl
  have:¬((⟨#[a]⟩:aa)=fS "a"):=by
   intro z;have m:(⟨#[a]⟩:aa).cps.toList=(fS "a").cps.toList:=by rw[z]
   have u:(fS "a").cps.toList=[97]:=by rfl
   rw[u] at m;simp at m;show n m
  rw[if_neg this,if_neg n];rfl
 show⟨by decide,_,x,?_⟩;walk_at"all";rw[zpO _ 'g',uL,vZ];show⟨by rw[kx];simp;trivial,by simp![kx];simp;trivial,?_⟩;show gr (bA 6) (λ(i:Nat)=>.int (0+i)) (λk=>.str (ff ([a,b,p,d,e,f].take (k+1)))) (λr h=>?_) (by decide) (λs g t k=>?_) ?_
 .walk_at"all";show h
 .walk_at"all";rw[Lj _ (by room),show(0+(s:Int)+1).toNat=s+1 by cbv];show⟨by rw[kx];simp;trivial,k⟩
 walk_at"all";show⟨by rw[kx];simp;trivial,by rw[kx];simp;trivial,by decide,by simp;trivial,?_⟩;show q
def Cb:bF:=λds Q=>∃(ws:List aa)(cells:List Int)(a:Int)(W:Nat),ds=[dS ws,dI cells,.int a,.int W]/\ws.length=8/\W<=40/\
 ∀top aA:List (Option aa),top.length=W->aA.length=W->ik ws top->ik ws aA->Q (.fz (.tup [dP top,dP aA]))
def Qa:(T:TX) ×' ∀{P w K mg base},Txt K mg->~~~1 "_law_mix" 2 lW->dr P w K mg base 1 "_law_pins" ["_law_words","_law_cells","_law_seed","_law_width","_law_top","_law_bottom","_law_c","_law_row","_law_side","_law_k","_law_one"] (top 41) T:=
 ⟨_,λT dR nd f c A outer s H E a=>have b:=a.units;
 (aB (hJ 4 (cQ aq) nd)
   (aB (hJ 5 (cQ aq) nd)
   (aB (fe eE rfl (kz T.b_range (ah (ae 3) aq)) (aJ 6 nd)
    (aB (hJ 7 (cQ aq) nd)
   (aB (fe eE rfl (kz T.b_range (ah av aq)) (aJ 8 nd)
    (aB (bM 9 (aG cj (aG qB av (ae 6)) (ae 8)) nd)
   (aB (bM 10 (bU dR a (ah (ae 2) (ah (ae 9) aq))) nd)
   (aB (df (bj vL (ae 9) (de jG T.b_len iY (ah (ae 1) aq))) (aO (bM 10 (bU dR a (ah (aY (ae 1) (ae 9)) (ah (ae 9) aq))) nd)) c8)
   (aO (iA 7 (aY (cQ (ah (aY (ae 0) (aG cK (ae 10) av)) (ah (aY (ae 0) (aG cK (aG gJ (ae 10) av) av)) (ah (aY (ae 0) (aG cK (aG gJ (ae 10) av) av)) (ah fU aq))))) (aG cK (aG gJ (ae 10) av) av))))))))
   (aB (iA 4 (qF 7 av))
   (aO (iA 5 (qF 7 av)))))))
   (mN 5 (mN 4 (aO (cE (eW (ah (ae 4) (ah (ae 5) aq))))))))))⟩
def Nf:TX:=Qa.1
theorem LK(ws):ik ws []:=λw h=>by cases h
theorem Mn(h:ik ws l)(hx:∀w,x\w->w∈ws):ik ws (l++[x]):=λw hw=>by
 rcases bx.mp hw with a | a
 .exact h w a
 show hx w (cG.mp a).symm
def zhE:cU 4 Cb Nf 11:=by
 intro ds Q hl h;symm;let⟨ws,cells,f,W,rfl,m,P,q⟩:=h;show Nf _ [.fz (dS ws),.fz (dI cells),.fz (.int f),.fz (.int W),.un,.un,.un,.un,.un,.un,.un];unfold Nf Qa;dsimp only;have big:=dn;lk;show⟨by show b9 _,?_⟩;walk;show⟨by show b9 _,?_⟩;walk;let M:TJ:=λi ρ=>∃(top aA:List (Option aa))(a b c d e:Sl),ρ=[.fz (dS ws),.fz (dI cells),.fz (.int f),.fz (.int W),.ow (top.map dO),.ow (aA.map dO),a,b,c,d,e]/\top.length=i/\aA.length=i/\ik ws top/\ik ws aA
 show qK W (λK h=>?_) M ⟨[],[],_,_,_,_,_,rfl,rfl,rfl,LK _,LK _⟩ ?_ ?_
 .lk;show⟨by cbv,by lia,by trivial⟩
 .rintro i ρ O J;symm;let⟨top,aA,a,b,c,d,e,rfl,o,r,pt,pb⟩:=J;lk;show⟨by show b9 _,?_⟩;walk;let L:TJ:=λj ρ=>∃(row:List (Option aa))(c d e:Sl),ρ=[.fz (dS ws),.fz (dI cells),.fz (.int f),.fz (.int W),.ow (top.map dO),.ow (aA.map dO),.fz (.int i),.ow (row.map dO),c,d,e]/\row.length=j/\ik ws row
  show qK 2 (λK h=>?_) L ⟨[],_,_,_,rfl,rfl,LK _⟩ ?_ ?_
  .lk;show h
  .rintro j ρ N ⟨row,c,d,e,rfl,p,pr⟩;lk;walk;have g:(0:Int)<=2*(i:Int)+j:=by show rB _
   have k1:2*(i:Int)+j<=1000000:=by lia
   show⟨f,_,rfl,g,k1,?_⟩;walk;unfold dI;lk;split
   focus
    rename_i A;rw[aE] at A;symm;obtain⟨z,hz,_⟩:=Lk (l:=cells) g A;show⟨z,hz,z,_,rfl,g,k1,?_⟩
   all_goals
    generalize mI _ _=one;walk;unfold dS;lk;symm;let⟨u,I,D⟩:=at8 one m;let⟨t,H,C⟩:=at3 (one/8) m;let⟨s,F,B⟩:=at5 (one/8) m;show⟨u,I,t,H,s,F,⋯,?_⟩;have E:=Fm (l:=[some u,some t,some s,none]) (n:=4) (one/64) ∅ (by decide);symm;let⟨z,hz,v⟩:=E;show⟨dO z,?_,by simp;ext,row++[z],_,_,_,by rw[bX];rfl,by simp[p],Mn pr ?_⟩
    .have:=gy (Ik dO) hz;rw[<-nV] at this;show this
    intro w hw;subst hw;simp![bE,gw,jX,or_false,reduceCtorEq] at v;symm;rcases v with rfl | rfl | rfl
    .exact D
    .exact C
    show B
  rintro ρ ⟨row,c,d,e,rfl,p,pr⟩;obtain⟨x,y,rfl⟩:∃x y,row=[x,y]:=by
   match row,p with
   | [x,y],_=>show⟨x,y,rfl⟩
  walk;show⟨dO x,rfl,by simp;lia,?_⟩;walk;show⟨dO y,rfl,by simp;lia,top++[x],aA++[y],_,_,_,_,_,by rw[bX,bX];rfl,by simp[o],by simp[r],Mn pt λw hw=>pr w (by show hw▸.head _),Mn pb λw hw=>pr w (by show hw▸.tail _ (.head _))⟩
 rintro ρ ⟨top,aA,a,b,c,d,e,rfl,o,r,pt,pb⟩;walk;show⟨by trivial,q top aA o r pt pb⟩
def fO(top aA:List (Option aa))(left right:List aa)(w:aa):Nat:=top.count (some w)+aA.count (some w)+left.count w+right.count w
def yY:bF:=λds Q=>∃top aA left right w,ds=[dP top,dP aA,dS left,dS right,.str w]/\top.length+aA.length+left.length+right.length<=100000/\Q (.fz (.int (fO top aA left right w)))
def Qg:(T:TX) ×' ∀{P w K mg base},Txt K mg->dr P w K mg base 0 "_law_many" ["_law_top","_law_bottom","_law_left","_law_right","_law_word","_law_some"] (top 42) T:=
 ⟨_,λT nd f c A outer s H E b=>have a:=b.units;
 (aB (bM 5 (aG cj (aG cj (aG cj (ae 0) (ae 1)) (ae 2)) (ae 3)) nd)
   (aO (cE (zun (zuo a) (.inl rfl) rG SQ PySem.F.type_list_count (ae 5) (ah (ae 4) aq)))))⟩
def Nd:TX:=Qg.1
def US(w)(l:List (Option aa)):pd (.str w) (l.map dO)=l.count (some w):=by
 unfold pd;rw[RE,QI];congr 1
 funext x
 simp![Ee,BF];rw[FR]
def UR(w)(l:List aa):pd (.str w) (l.map D.str)=l.count w:=by
 unfold pd;rw[RE,QI];congr 1
def LJ(d a b):pd d (a++b)=pd d a+pd d b:=by show List.countP_append
def zhF:cU 5 yY Nd 6:=by
 intro ds b hl h;symm;let⟨top,aA,left,right,w,rfl,hz,q⟩:=h;show Nd _ [.fz (dP top),.fz (dP aA),.fz (dS left),.fz (dS right),.fz (.str w),.un];unfold Nd Qg;dsimp only;have big:=dn;lk;show⟨by simp;lia,by simp;lia,by simp;lia,?_⟩;walk;show⟨rfl,?_,?_⟩
 .intro e he;simp![bx] at he;rcases he with((he | he) | he) | he
  .exact F5 8 top e he
  .exact F5 8 aA e he
  .exact nW 8 left e he
  show nW 8 right e he
 rw[LJ,LJ,LJ,US,US,UR,UR];show q
def EE(l a):l.map D.int++[D.int a]=(l++[a]).map D.int:=by simp
def places(top aA:List (Option aa))(left right:List aa)(w:aa):List Int:=
 (((bA top.length).filter λc=>top[c]?==some (some w)||aA[c]?==some (some w)).map λ(c:Nat)=>(c:Int))++(if w∈left then [-1] else [])++(if w∈right then [(top.length:Int)] else [])
def aap(m:Int)(l:List Int):Prop:=m∈l/\∀a∈l,m<=a
def aaq(m:Int)(l:List Int):Prop:=m∈l/\∀a∈l,a<=m
def BU:bF:=λds Q=>∃top aA left right w,ds=[dP top,dP aA,dS left,dS right,.str w]/\aA.length=top.length/\top.length<=100/\left.length<=100/\right.length<=100/\
 ∀m M,aap m (places top aA left right w++[99])->aaq M (places top aA left right w++[-9])->Q (.fz (.tup [.int m,.int M]))
def ze7:di ["_law_c","_law_word","_law_top","_law_bottom"]:=by decide +kernel
def P8:(T:TX) ×' ∀{P w K mg base},Txt K mg->dr P w K mg base 0 "_law_stretch" ["_law_top","_law_bottom","_law_left","_law_right","_law_word","_law_places"] (top 43) T:=
 ⟨_,λT nd f d A outer s H E c=>have a:=c.units;
 (aB (FN 5 rfl (.of (N':=["_law_c","_law_word","_law_top","_law_bottom"]) (m:=[none,some 4,some 0,some 1]) 'b') cO (kz T.b_range (ah (de jG T.b_len iY (ah (ae 0) aq)) aq)) (λs3 b ex=>(aJ 0 ze7)) (λs3 b ex=>(iC (bj (ki a) (ae 1) (cQ (ah (aY (ae 2) (ae 0)) (ah (aY (ae 3) (ae 0)) aq)))))) (λs3 b ex=>(ae 0)) nd)
   (aB (df (bj (ki a) (ae 4) (ae 2)) (aO (iA 5 (vW av))) c8)
   (aB (df (bj (ki a) (ae 4) (ae 3)) (aO (iA 5 (de jG T.b_len iY (ah (ae 0) aq)))) c8)
   (mN 5 (aO (cE (eW (ah (de (EX rfl) T.b_min Dx (ah (aG cj (ae 5) (cQ (ah av aq))) aq)) (ah (de (A8 rfl) T.b_max Ah (ah (aG cj (ae 5) (cQ (ah (vW av) aq))) aq)) aq)))))))))⟩
def Nt:TX:=P8.1
def ze8:cU 5 BU Nt 6:=by
 intro ds y hl h;symm;let⟨top,aA,left,right,w,rfl,b,v,u,x,q⟩:=h;show Nt _ [.fz (dP top),.fz (dP aA),.fz (dS left),.fz (dS right),.fz (.str w),.un];unfold Nt P8;dsimp only;have big:=dn;unfold dP dS;lk;show kA (bA top.length) (λ(i:Nat)=>.int (0+i)) (λ(i:Nat)=>.int i) (λc=>top[c]?==some (some w)||aA[c]?==some (some w)) (λz h=>?_) (by simp;lia) (λc o A B k1 n=>?_) ?_
 .lk;rw[aE];show⟨by cbv,by lia,by trivial⟩
 .have d:c<top.length:=by simpa using o
  rw[xx];lk;show⟨_,fE d,_,fE (l:=aA) 'g',by trivial,?_,?_⟩
  .intro e he;simp only[bE,jX,or_false] at he;rcases he with rfl | rfl<;>(rw[pz];trivial)
  have r:inD (.str w) [dO top[c],dO aA[c]]=(top[c]?==some (some w)||aA[c]?==some (some w)):=by
   unfold inD;simp![rg,List.any_nil,Rg,BF];rw[cA d,cA (l:=aA) 'g',FR,FR];simp
  rw[r];cases b:(top[c]?==some (some w)||aA[c]?==some (some w)) with
  | true=>show k1 b
  | false=>show n b
 have e:∀L:List Nat,(L.map λ(i:Nat)=>D.int i)=(L.map (λ(c:Nat)=>(c:Int))).map D.int:=λL=>by simp
 rw[e];have hlen:(((bA top.length).filter λc=>top[c]?==some (some w)||aA[c]?==some (some w)).map λ(c:Nat)=>(c:Int)).length<=100:=by
  rw[aE];show bK (jE _ _) ?_;simp;ext
 unfold places at q;generalize (((bA top.length).filter λc=>top[c]?==some (some w)||aA[c]?==some (some w)).map λ(c:Nat)=>(c:Int))=base at q hlen ⊢;walk;show⟨nW 8 left,?_⟩;rw[yk];by_cases g:w∈left<;>by_cases f:w∈right
 all_goals
  simp only[g,f,eG,eC,eS] at q;simp only[g,decide_true,decide_false,eG,fZ,eC];try(with_reducible show⟨by simp;ext,?_⟩)
  walk;show⟨nW 8 right,?_⟩;rw[yk];simp only[f,decide_true,decide_false,eG,fZ,eC];try(with_reducible show⟨by simp;ext,?_⟩)
  try simp only[EE,aE]
  walk;show⟨⋯,by simp;ext,?_⟩;try simp only[EE,qr,rJ,vM,eI,g7,yQ]
  show⟨∅,λm j p=>?_⟩;show⟨⋯,by simp;ext,?_⟩;try simp only[EE,g7,yQ]
  show⟨∅,λM s t=>?_⟩;show⟨⋯,q m M ⟨by simpa using j,by simpa using p⟩ ⟨by simpa using s,by simpa using t⟩⟩
structure Ad(top aA:List (Option aa))(left right ws:List aa)(c6:List (Int×aa)):Prop where
 len:c6.length<=top.length
 up:c6.Pairwise λa b=>a.1<b.1
 at_:∀p∈c6,∃n:Nat,p.1=n/\n<top.length/\p.2∈ws/\(∃m M,aap m (places top aA left right p.2++[99])/\aaq M (places top aA left right p.2++[-9])/\m<p.1/\p.1<M)/\((top[n]?\none/\aA[n]?\none)\/top[n]?\some p.2\/aA[n]?\some p.2)
def B4:bF:=λds Q=>∃top aA left right ws cells a,ds=[.lst [dP top,dP aA,dS left,dS right],dS ws,dI cells,.int a]/\aA.length=top.length/\top.length<=40/\left.length<=100/\right.length<=100/\ws.length=8/\ik ws top/\cells.length<=1000/\
 ∀c6,Ad top aA left right ws c6->Q (.ow (c6.map qU))
def Qn:(T:TX) ×' ∀{P w K mg base},Txt K mg->~~~1 "_law_mix" 2 lW->~~~1 "_law_stretch" 5 BU->dr P w K mg base 1 "_law_bends" ["_law_lists","_law_words","_law_cells","_law_seed","_law_top","_law_bottom","_law_left","_law_right","_law_bends_here","_law_c","_law_one","_law_word","_law_l","_law_r","_law_here"] (top 44) T:=
 ⟨_,λT dR z5 nd f d A outer s H E b=>have a:=b.units;
 (aB (Fv (ae 0) (LC (n:=4) rfl (bI (aJ 4 nd) (bI (aJ 5 nd) (bI (aJ 6 nd) (bI (aJ 7 nd) eU))))))
   (aB (hJ 8 (cQ aq) nd)
   (aB (fe eE rfl (kz T.b_range (ah (de jG T.b_len iY (ah (ae 4) aq)) aq)) (aJ 9 nd)
    (aB (bM 10 (bU dR b (ah (aY (aG cj (ae 2) (cQ (ah (ae 3) aq))) (aG cK (ae 9) (aG cj (de jG T.b_len iY (ah (ae 2) aq)) av))) (ah (aG cj (ae 9) av) aq))) nd)
   (aB (bM 11 (aY (ae 1) (aG cK (ae 10) av)) nd)
   (aB (df (jI (bj (ef a) (aG cK (aG gJ (ae 10) av) av) av) (nX (bj mQ (aY (ae 4) (ae 9)) fU))).pb (aO (bM 11 (aY (ae 4) (ae 9)) nd)) c8)
   (aB (Fv (bU z5 b (ah (ae 4) (ah (ae 5) (ah (ae 6) (ah (ae 7) (ah (ae 11) aq)))))) (fh (n:=2) rfl (bI (aJ 12 nd) (bI (aJ 13 nd) eU))))
   (aB (ur 14 rfl (.of (N':=["_law_x"]) (m:=[none]) 'b') cO (cI (cQ (ah (aY (ae 4) (ae 9)) (ah (aY (ae 5) (ae 9)) aq)))) (λs3 c ex=>(aJ 0 pA)) (λs3 c ex=>(iC (bj mQ (ae 0) fU))) (λs3 c ex=>(ae 0)) nd)
   (aO (df (jI (bj vL (ae 12) (ae 9)) (jI (bj vL (ae 9) (ae 13)) (jI (Bd (bj (ef a) (ae 14) (cQ aq)) (FQ (bj (ki a) (ae 11) (ae 14)))).pb (nX (bj uf (aG cK (aG gJ (ae 10) av) av) av))))).pb (aO (iA 8 (eW (ah (ae 9) (ah (ae 11) aq))))) c8))))))))
   (aO (um 8)))))⟩
def MW:TX:=Qn.1
def zgI:cU 4 B4 MW 15:=by
 intro ds Qr hl h;symm;let⟨top,aA,left,right,ws,cells,o,rfl,A,ht,L,Q,O,pt,pP,q⟩:=h;show MW _ [.fz (.lst [dP top,dP aA,dS left,dS right]),.fz (dS ws),.fz (dI cells),.fz (.int o),.un,.un,.un,.un,.un,.un,.un,.un,.un,.un,.un];unfold MW Qn;dsimp only;have big:=dn;lk;walk;show⟨by show b9 _,?_⟩;walk;let J1:TJ:=λi ρ=>∃(c6:List (Int×aa))(a b c d e f:Sl),ρ=[.fz (.lst [dP top,dP aA,dS left,dS right]),.fz (dS ws),.fz (dI cells),.fz (.int o),.fz (dP top),.fz (dP aA),.fz (dS left),.fz (dS right),.ow (c6.map qU),a,b,c,d,e,f]/\Ad top aA left right ws c6/\(∀p∈c6,p.1<i)/\c6.length<=i
 show qK top.length (λQ' h=>?_) J1 ⟨[],_,_,_,_,_,_,rfl,⟨∅,∅,∅⟩,by trivial,∅⟩ ?_ ?_
 .unfold dP;lk;rw[aE];show⟨by cbv,by lia,by trivial⟩
 .rintro i ρ j ⟨c6,a,b,c,d,e,f,rfl,t,lt,ln⟩;unfold dI;lk;rw[aE];show⟨by show gh _,by lia,by cbv,?_⟩;have m0:0<=(i:Int)%((cells.length:Int)+1):=lF _ 'a';have m1:(i:Int)%((cells.length:Int)+1)<(cells.length:Int)+1:=o7 _ 'g';rw[EE];obtain⟨z,hz,_⟩:=Lk (l:=cells++[o]) m0 (by simp;ext);rw[Vg];show⟨z,hz,z,_,rfl,by show rB _,by lia,?_⟩;generalize mI _ _=one;unfold dS;walk;let⟨r,T,J⟩:=at8 one O;show⟨r,T,?_⟩;unfold dP;walk;have P:top[i]?=some top[i]:=cA j;have W:aA[i]?=some aA[i]:=cA 'g';have key:∃w:aa,w∈ws/\∀K:D->Prop,K (.str w)->(if one/8%3=0 then ∃x,bO top (i:Int)=some x/\(if (!qA (dO x))=true then ∃x,bO top (i:Int)=some x/\K (dO x) else K (.str r)) else K (.str r)):=by
   by_cases v:one/8%3=0
   .cases hx:top[i] with
    | none=>show⟨r,J,λK k=>by rw[if_pos v];show⟨none,by rw[fE j,hx],by trivial⟩⟩
    | some w=>
     show⟨w,pt w (by rw[<-hx];show gP j),λK k=>?_⟩;rw[if_pos v];show⟨some w,by rw[fE j,hx],by show⟨some w,by rw[fE j,hx],k⟩⟩
   show⟨r,J,λK k=>by rw[if_neg v];show k⟩
  let⟨w,hw,kw⟩:=key;show kw (λd=>i7 _ _ [_,_,_,_,_,_,_,_,_,_,_,.fz d,_,_,_]) ?_;walk;show⟨top,aA,left,right,w,rfl,A,by lia,L,Q,λm M hm S=>?_⟩;walk;show kA [top[i],aA[i]] dO dO (λx=>x.isSome) (λQ' h=>?_) (by simp;trivial) (λc v K1 K0 k1 N=>?_) ?_
  .lk;show⟨_,fE j,_,fE (l:=aA) 'g',by trivial,h⟩
  .lk;cases c with
   | none=>show N rfl
   | some x=>show k1 rfl
  walk;have skip:∀(a b c d e f:Sl)(X Y Z:D),∃(g:List (Int×aa))(H F E d' C B:Sl),[Sl.fz (D.lst [D.lst (bW dO top),D.lst (bW dO aA),D.lst (bW D.str left),D.lst (bW D.str right)]),Sl.fz (D.lst (bW D.str ws)),Sl.fz (D.lst (bW D.int cells)),Sl.fz (D.int o),Sl.fz (D.lst (bW dO top)),Sl.fz (D.lst (bW dO aA)),Sl.fz (D.lst (bW D.str left)),Sl.fz (D.lst (bW D.str right)),Sl.ow (bW qU c6),a,b,c,d,e,f]=[Sl.fz (D.lst [D.lst (bW dO top),D.lst (bW dO aA),D.lst (bW D.str left),D.lst (bW D.str right)]),Sl.fz (D.lst (bW D.str ws)),Sl.fz (D.lst (bW D.int cells)),Sl.fz (D.int o),Sl.fz (D.lst (bW dO top)),Sl.fz (D.lst (bW dO aA)),Sl.fz (D.lst (bW D.str left)),Sl.fz (D.lst (bW D.str right)),Sl.ow (bW qU g),H,F,E,d',C,B]/\Ad top aA left right ws g/\(∀p∈g,p.1<((i+1:Nat):Int))/\g.length<=i+1:=
   λa b c d e f _ _ _=>⟨c6,a,b,c,d,e,f,rfl,t,λp s=>by have:=lt p s;lia,by lia⟩
  have I:some w∈[top[i],aA[i]].filter (λx=>x.isSome)↔top[i]\w\/aA[i]\w:=by
   simp![cF,bE,jX,or_false,Ec,and_true];constructor
   .rintro(h | h)
    .exact .inl h.symm
    show .inr h.symm
   rintro(h | h)
   .exact .inl h.symm
   show .inr h.symm
  have u:([top[i],aA[i]].filter (λx=>x.isSome)=[])->top[i]=none/\aA[i]=none:=by
   intro h;rw[ub] at h;show⟨by simpa using h top[i] 'c',by simpa using h aA[i] (by show .tail _ (.head _))⟩
  generalize [top[i],aA[i]].filter (λx=>x.isSome)=here at I u ⊢;split
  .rename_i c1;split
   .rename_i c2;show⟨by show b9 _,bN.mono (n:=1) 'g' (by intro d hd;show F5 0 here d hd),bN.mono (n:=1) 'g' (by intro d hd;cases hd),?_⟩;have fin:(top[i]=none/\aA[i]=none)\/top[i]\w\/aA[i]\w->Ad top aA left right ws (c6++[((i:Int),w)]):=λs=>by
     show⟨by simp;show qh ‹_› ‹_›,?_,?_⟩
     .rw[mn];show⟨t.up,by show jo _ _,λa R b A=>?_⟩;have:b=((i:Int),w):=by simpa using A
      subst this;show lt a R
     intro p y;rcases bx.mp y with h | h
     .exact t.at_ p h
     have:p=((i:Int),w):=by simpa using h
     subst this;show⟨i,rfl,j,hw,⟨m,M,hm,S,c1,c2⟩,?_⟩;rw[P,W];simpa using s
    have put:(top[i]=none/\aA[i]=none)\/top[i]\w\/aA[i]\w->2<=sizeLine/\(bW qU c6).length<sizeLine/\∃(g:List (Int×aa))(H F E d' C B:Sl),[Sl.fz (D.lst [D.lst (bW dO top),D.lst (bW dO aA),D.lst (bW D.str left),D.lst (bW D.str right)]),Sl.fz (D.lst (bW D.str ws)),Sl.fz (D.lst (bW D.int cells)),Sl.fz (D.int o),Sl.fz (D.lst (bW dO top)),Sl.fz (D.lst (bW dO aA)),Sl.fz (D.lst (bW D.str left)),Sl.fz (D.lst (bW D.str right)),Sl.ow (bW qU c6++[D.tup [D.int i,D.str w]]),Sl.fz (D.int i),Sl.fz (D.int one),Sl.fz (D.str w),Sl.fz (D.int m),Sl.fz (D.int M),Sl.fz (D.lst (here.map dO))]=[Sl.fz (D.lst [D.lst (bW dO top),D.lst (bW dO aA),D.lst (bW D.str left),D.lst (bW D.str right)]),Sl.fz (D.lst (bW D.str ws)),Sl.fz (D.lst (bW D.int cells)),Sl.fz (D.int o),Sl.fz (D.lst (bW dO top)),Sl.fz (D.lst (bW dO aA)),Sl.fz (D.lst (bW D.str left)),Sl.fz (D.lst (bW D.str right)),Sl.ow (bW qU g),H,F,E,d',C,B]/\Ad top aA left right ws g/\(∀p∈g,p.1<((i+1:Nat):Int))/\g.length<=i+1:=λs=>by
     show⟨by trivial,by simp;lia,c6++[((i:Int),w)],_,_,_,_,_,_,by rw[bX];rfl,fin s,?_,by simp;ext⟩;intro p y;rcases bx.mp y with h | h
     .have:=lt p h;lia
     have:p=((i:Int),w):=by simpa using h
     subst this;show fA _
    by_cases ce:here=[]
    .simp![ce,j8,cV,kj,eG];split
     .have:=put (.inl (u ce));rw[ce] at this;show this
     have:=skip (.fz (D.int i)) (.fz (D.int one)) (.fz (D.str w)) (.fz (D.int m)) (.fz (D.int M)) (.fz (D.lst [])) .non .non .non;show this
    have V:cV (D.lst (here.map dO)) (D.lst [])=false:=by
     cases here with
     | nil=>show absurd rfl ce
     | cons=>rfl
    simp![V,fZ,eC];show⟨F5 8 here,?_⟩;rw[Kp];simp![iG];split
    .rename_i U;split
     .exact put (.inr (I.mp U))
     show skip _ _ _ _ _ _ .non .non .non
    show skip _ _ _ _ _ _ .non .non .non
   show skip _ _ _ _ _ _ .non .non .non
  show skip _ _ _ _ _ _ .non .non .non
 rintro ρ ⟨c6,a,b,c,d,e,f,rfl,t,lt,ln⟩;walk;show q c6 t
def Qp(W:Nat)(keeps:List (Int×Int×Int)):Prop:=keeps.length<=6/\∀p∈keeps,0<=p.1/\p.1<=p.2.1/\p.2.1<W/\1<=p.2.2/\p.2.2<=3
def B3:bF:=λds Q=>∃(W:Nat)(cells:List Int)(a:Int),ds=[.int W,dI cells,.int a]/\1<=W/\W<=40/\∀keeps,Qp W keeps->Q (.ow (keeps.map Df))
def Qh:(T:TX) ×' ∀{P w K mg base},Txt K mg->~~~1 "_law_mix" 2 lW->dr P w K mg base 1 "_law_keeps" ["_law_width","_law_cells","_law_seed","_law_keeps_here","_law_k","_law_cell","_law_one","_law_first"] (top 45) T:=
 ⟨_,λT dR nd f c A outer s H E a=>have b:=a.units;
 (aB (hJ 3 (cQ aq) nd)
   (aB (fe eE rfl (pD T.b_enumerate (ah (ju (ae 1) kC (iK av)) aq)) (fh (n:=2) rfl (bI (aJ 4 nd) (bI (aJ 5 nd) eU)))
    (aB (bM 6 (bU dR a (ah (aG cj (ae 5) (ae 2)) (ah (aG cj (ae 4) av) aq))) nd)
   (aB (bM 7 (aG cK (ae 6) (ae 0)) nd)
   (aO (df (bj (ef b) (aG cK (aG gJ (ae 6) av) av) av) (aO (iA 3 (eW (ah (ae 7) (ah (aG cj (ae 7) (aG cK (aG gJ (ae 6) av) (aG KH (ae 0) (ae 7)))) (ah (aG cj av (aG cK (aG gJ (ae 6) av) av)) aq)))))) c8)))))
   (aO (um 3))))⟩
def MV:TX:=Qh.1
def zgJ:cU 3 B3 MV 8:=by
 intro ds u hl h;symm;let⟨W,cells,f,rfl,t,n,q⟩:=h;show MV _ [.fz (.int W),.fz (dI cells),.fz (.int f),.un,.un,.un,.un,.un];unfold MV Qh;dsimp only;unfold dI;have big:=dn;lk;show⟨by show b9 _,?_⟩;walk;let r:TJ:=λi ρ=>∃(keeps:List (Int×Int×Int))(a b c d:Sl),ρ=[.fz (.int W),.fz (D.lst (bW D.int cells)),.fz (.int f),.ow (keeps.map Df),a,b,c,d]/\keeps.length<=i/\∀p∈keeps,0<=p.1/\p.1<=p.2.1/\p.2.1<W/\1<=p.2.2/\p.2.2<=3
 show yR (cells.take 6) D.int (λv h=>?_) r ⟨[],_,_,_,_,rfl,∅,∅⟩ ?_ ?_
 .lk;rw[yG _ 'g'];show h
 .rintro i x ρ hx ⟨keeps,a,b,c,d,rfl,g,e⟩;have s:i<6:=by
   have:=(c7.mp hx).1;simp at this;lia
  lk;show⟨x+f,(i:Int)+300,rfl,by show rB _,by lia,?_⟩;have n0:=zwU (x+f) ((i:Int)+300);generalize mI _ _=one at n0 ⊢;walk;have f0:0<=one%(W:Int):=lF _ 'a';have f1:one%(W:Int)<W:=o7 _ 'a';show⟨by lia,?_⟩;generalize one%(W:Int)=fst at f0 f1 ⊢;walk;have o:0<=one/256%((W:Int)-fst):=lF _ 'a';have g1:one/256%((W:Int)-fst)<(W:Int)-fst:=o7 _ 'g';have j:0<=one/1024%3:=lF _ (by trivial);have k1:one/1024%3<3:=o7 _ 'g';generalize one/256%((W:Int)-fst)=sp at o g1 ⊢;generalize one/1024%3=kk at j k1 ⊢;split
  .refine⟨by cbv,by trivial,by simp;lia,keeps++[(fst,fst+sp,1+kk)],_,_,_,_,by rw[bX];rfl,by simp;ext,λp m=>?_⟩;rcases bx.mp m with h | h
   .exact e p h
   have:p=(fst,fst+sp,1+kk):=by simpa using h
   subst this;show⟨f0,?_,?_,?_,?_⟩<;>dsimp only<;>ext
  show⟨keeps,_,_,_,_,rfl,by lia,e⟩
 rintro ρ ⟨keeps,a,b,c,d,rfl,g,e⟩;walk;show q keeps ⟨?_,e⟩;rw[cN] at g;lia
def Ca:bF:=λds Q=>∃ws bits,ds=[dS ws,.int bits]/\ws.length=8/\ws.Nodup/\∀l:List aa,l.length<=8->l.Nodup->(∀w∈l,w∈ws)->sortedS l=true->Q (.ow (l.map .str))
def zhG:di ["_law_k","_law_words","_law_bits"]:=by decide +kernel
def Qc:(T:TX) ×' ∀{P w K mg base},Txt K mg->dr P w K mg base 0 "_law_open" ["_law_words","_law_bits"] (top 46) T:=
 ⟨_,λT nd f d A outer s H E c=>have a:=c.units;
 (aB (df (bj (ef a) (aG cK (aG gJ (ae 1) av) av) av) (aO (cE (cQ aq))) c8)
   (aO (cE (de (WU rfl) T.b_sorted qe (ah (eu rfl (.of (N':=["_law_k","_law_words","_law_bits"]) (m:=[none,some 0,some 1]) 'b') cO (kz T.b_range (ah av aq)) (λs3 b ex=>(aJ 0 zhG)) (λs3 b ex=>(iC (bj (ef a) (aG cK (aG gJ (ae 2) (aY (cQ (ah av (ah av (ah av (ah av (ah av (ah av (ah av (ah av aq))))))))) (ae 0))) av) av))) (λs3 b ex=>(aY (ae 1) (ae 0)))) aq)))))⟩
def MN:TX:=Qc.1
def zuZ(k:Nat)(h:k<8):bO ([1,2,4,8,16,32,64,128]:List Int) (k:Int)\((2:Int) ^ k):=by
 have:∀k:Fin 8,bO ([1,2,4,8,16,32,64,128]:List Int) (k.val:Int)\((2:Int) ^ k.val):=by decide +kernel
 show this ⟨k,h⟩
def zw5(k)(h:k<8):0<(2:Int) ^ k/\(2:Int) ^ k<1073741824:=by
 have:∀k:Fin 8,0<(2:Int) ^ k.val/\(2:Int) ^ k.val<1073741824:=by decide +kernel
 show this ⟨k,h⟩
def znJ{α:Type}(ws)(d:α):(bA ws.length).map (λk=>ws.getD k d)=ws:=by
 apply AG
 .simp
 intro i b a;simp[a]
def zhH:cU 2 Ca MN 2:=by
 intro ds r hl h;let⟨ws,bits,rfl,f,nd,q⟩:=h;show MN _ [.fz (dS ws),.fz (.int bits)];unfold MN Qc;dsimp only;unfold dS;lk;split
 .exact⟨by show b9 _,q [] ∅ ∅ ∅ rfl⟩
 walk;show kA (bA 8) (λ(i:Nat)=>.int (0+i)) (λk=>.str (ws.getD k "")) (λk=>decide (bits/2 ^ k%2=1)) (λs h=>?_) (by simp;trivial) (λc n t u k1 j=>?_) ?_
 .lk;show h
 .have b:c<8:=by simpa using n
  rw[xx];lk;show⟨by trivial,D.int (2 ^ c),?_,?_⟩
  .have:=gy (Ik D.int) (zuZ c b);rw[<-nV] at this;show this
  lk;show⟨zw5 c b,?_⟩;by_cases g:bits/2 ^ c%2=1
  .simp![g,cV,o5,eG];show⟨ws[c],fE 'g',?_⟩;have:=k1 'l';rwa [show ws.getD c ""=ws[c] by simp[show c<ws.length by cbv]] at this
  rw[if_neg g];show j (by show if_neg ‹_›)
 have e:∀L:List Nat,(L.map λk=>D.str (ws.getD k ""))=(L.map λk=>ws.getD k "").map D.str:=λL=>by simp
 show FK [D.lst _] _;rw[e];have sub:IA (((bA 8).filter λk=>decide (bits/2 ^ k%2=1)).map λk=>ws.getD k "") ws:=by
  have:=aas (λk=>ws.getD k "") (rC (p:=λk=>decide (bits/2 ^ k%2=1)) (l:=bA 8));rwa [<-f,znJ,f] at this
 generalize (((bA 8).filter λk=>decide (bits/2 ^ k%2=1)).map λk=>ws.getD k "")=ss at sub ⊢;simp![FK,fK,eI,AZ,yP];have hle:=sub.length_le;show⟨by lia,λo d m=>q o (by rw[d.length_eq];cbv) (d.nodup_iff.mpr (sub.nodup nd)) (λw hw=>sub.subset (d.subset hw)) m⟩
def fI(a:List aa):Option aa->Option aa
 | none=>none
 | some w=>if w∈a then none else some w
def zyI(x:Option aa)(l:List aa):inD (dO x) (l.map .str)=(match x with | none=>false | some w=>decide (w∈l)):=by
 cases x with
 | none=>
  unfold inD;rw[qZ];induction l with
  | nil=>rfl
  | cons a r b=>rw[rg,b];rfl
 | some w=>show yk w l
def YB(b w)(l:List (Option aa)):(l.map (fI b)).count (some w)=if w∈b then 0 else l.count (some w):=by
 induction l with
 | nil=>simp
 | cons a r c=>
  rw[bT,RD,c,RD];cases a with
  | none=>rfl
  | some v=>
   unfold fI;by_cases h:v∈b
   .by_cases hw:w∈b
    .simp[h,hw]
    have:v≠w:=λz=>hw (z▸h)
    simp[h,hw,this]
   by_cases hw:w∈b
   .have:v≠w:=λz=>h (z▸hw)
    simp[h,hw,this]
   simp[h,hw]
def Yd(a:List aa)(w)(l:List aa):(l.filter λx=>decide (x∉a)).count w=if w∈a then 0 else l.count w:=by
 by_cases hw:w∈a
 .rw[if_pos hw,t6];intro h;rw[cF] at h;simpa[hw] using h.2
 rw[if_neg hw,List.count_filter];show if_pos ‹_›
theorem Gw(h:ik ws l):ik ws (l.map (fI a)):=λw hw=>by
 rw[aK] at hw;let⟨x,hx,e⟩:=hw;cases x with
 | none=>cases e
 | some v=>
  by_cases hv:v∈a
  .simp[fI,hv] at e
  simp[fI,hv] at e;subst e;show h _ hx
def zu0{top aA:List (Option aa)}(pt:ik ws top)(pb:ik ws aA)(lf:∀w∈left,w∈ws)(rt:∀w∈right,w∈ws)(h:w∉ws):fO top aA left right w=0:=by
 unfold fO;rw[t6.mpr λz=>h (pt w z),t6.mpr λz=>h (pb w z),t6.mpr λz=>h (lf w z),t6.mpr λz=>h (rt w z)]
def Yc{top aA:List (Option aa)}(pt:ik ws top)(pb:ik ws aA)(lf:∀w∈left,w∈ws)(rt:∀w∈right,w∈ws)(a)(c:a=ws.filter λw=>decide (fO top aA left right w=1))(w) :
  fO (top.map (fI a)) (aA.map (fI a)) (left.filter λx=>decide (x∉a)) (right.filter λx=>decide (x∉a)) w≠1:=by
 have e:fO (top.map (fI a)) (aA.map (fI a)) (left.filter λx=>decide (x∉a)) (right.filter λx=>decide (x∉a)) w=if w∈a then 0 else fO top aA left right w:=by
  unfold fO;rw[YB,YB,Yd,Yd];split<;>simp
 rw[e];by_cases h:w∈a
 .rw[if_pos h];decide
 rw[if_neg h];by_cases b:w∈ws
 .intro z;apply h;rw[c,cF];show⟨b,by simpa using z⟩
 rw[zu0 pt pb lf rt b];decide
structure lg(ws:List aa)(most:Nat)(c:ba):Prop where
 w1:1<=c.top.length
 w2:c.top.length<=most
 bl:c.aA.length=c.top.length
 pt:ik ws c.top
 pb:ik ws c.aA
 ll:c.left.length<=8
 lw:∀w∈c.left,w∈ws
 lo:c.left.Pairwise ja
 rl:c.right.length<=8
 rw_:∀w∈c.right,w∈ws
 ro:c.right.Pairwise ja
 cnt:∀w,fO c.top c.aA c.left c.right w≠1
 wl:c.wide.length<=8
 wo:(c.wide.map (·.1)).Pairwise ja
 ww:∀p∈c.wide,p.1∈ws/\(p.2=2\/p.2=3)/\1<fO c.top c.aA c.left c.right p.1
 be:Ad c.top c.aA c.left c.right ws c.c6
 ke:Qp c.top.length c.keeps
def wF(h:Int)(a:Nat):Nat:=(1+h%1000000000000000000000000000000*40014%2147483563%a).toNat
def BS:bF:=λds Q=>∃(ns:List Int)(most:Nat),ds=[dI ns,.int most]/\ns.length<=1000/\1<=most/\most<=40/\∀c,lg (mM (k5 ns)) most c->c.top.length=wF (k5 ns) most->Q (.ow c.parts)
def FE(b)(l:List (Option aa))(j k ρ Q)(hl:l.length<=100)(n:gt ρ j=.fz (.lst (l.map dO)))(m:gt ρ k=.fz (.lst (b.map .str)))(f:Q (.ow ((l.map (fI b)).map dO))) :
  jH (lL (aF j)) [none,some k] (eH 0) nQ (Pg (fB (bg (qv false) (aF 0) (aF 1))) (dC D.non) (aF 0)) ρ Q:=by
 have big:=dn;show gr l dO (λx=>dO (fI b x)) (λo h=>?_) 'a' (λx hx i k=>?_) ?_
 .simp![lL,aF,gF,n];show h
 .simp![gZ,bT,j8,vF,m];lk;have d:bN 8 (dO x)/\(∀e∈b.map D.str,bN 8 e):=⟨by rw[pz];trivial,nW 8 b⟩
  have g:if inD (dO x) (b.map D.str)=true then i D.non else i (dO x):=by
   rw[zyI];cases x with
   | none=>trivial
   | some v=>
    by_cases hv:v∈b
    .simpa[fI,hv,dO] using k
    simpa[fI,hv,dO] using k
  cases x with
  | none=>show⟨d.1,d.2,g⟩
  | some v=>show⟨d.1,d.2,g⟩
 rw[bz] at f;show f
def F4(b l:List aa)(j k ρ Q)(hl:l.length<=100)(g:gt ρ j=.fz (.lst (l.map .str)))(f:gt ρ k=.fz (.lst (b.map .str)))(e:Q (.ow ((l.filter λx=>decide (x∉b)).map D.str))) :
  jH (lL (aF j)) [none,some k] (eH 0) (fB (bg (qv true) (aF 0) (aF 1))) (aF 0) ρ Q:=by
 have big:=dn;show kA l D.str D.str (λx=>decide (x∉b)) (λi h=>?_) 'a' (λx hx m n k1 d=>?_) e
 .simp![lL,aF,gF,g];show h
 simp![gZ,bT,j8,vF,f];lk;show⟨nW 8 b,?_⟩;rw[yk];by_cases hv:x∈b
 .simpa[hv] using d (by simpa using hv)
 simpa[hv] using k1 'l'
def ze9:di ["_law_word","_law_top","_law_bottom","_law_left","_law_right"]:=by decide +kernel
def zfa:di ["_law_word","_law_lone"]:=by decide +kernel
def zfb:di ["_law_word","_law_lone"]:=by decide +kernel
def zfc:di ["_law_word","_law_lone"]:=by decide +kernel
def zfd:di ["_law_word","_law_lone"]:=by decide +kernel
def Qm:(T:TX) ×' ∀{P w K mg base},Txt K mg->~~~2 "_law_named" 1 B5->~~~2 "_law_pins" 4 Cb->~~~1 "_law_mix" 2 lW->~~~1 "_law_open" 2 Ca->~~~1 "_law_many" 5 yY->~~~2 "_law_bends" 4 B4->~~~2 "_law_keeps" 3 B3->dr P w K mg base 2 "_law_channel" ["_law_script","_law_most","_law_seed","_law_words","_law_width","_law_cells","_law_top","_law_bottom","_law_bits","_law_left","_law_right","_law_lone","_law_wide","_law_k","_law_word","_law_one","_law_bends_here","_law_keeps_here"] (top 47) T:=
 ⟨_,λT z8 z7 dR xo nu Ac z9 nd f d A outer s H E b=>have c:=b.units;
 (aB (bM 2 (aG cK (aG qB (aG cK (de (A9 rfl) T.b_sum Ag (ah (ju (ae 0) kC (iK av)) aq)) (aG A6 av av)) av) av) nd)
   (aB (bM 3 (bU z8 b (ah (de (A9 rfl) T.b_sum Ag (ah (ju (ae 0) kC (iK av)) aq)) aq)) nd)
   (aB (bM 4 (aG cj av (aG cK (ae 2) (ae 1))) nd)
   (aB (bM 5 (ju (ae 0) (iK av) kC) nd)
   (aB (Fv (bU z7 b (ah (ae 3) (ah (ae 5) (ah (ae 2) (ah (ae 4) aq))))) (fh (n:=2) rfl (bI (aJ 6 nd) (bI (aJ 7 nd) eU))))
   (aB (bM 8 (bU dR b (ah (de (A9 rfl) T.b_sum Ag (ah (ju (ae 0) (iK av) (iK av)) aq)) (ah (aG cj av (aG cK (ae 2) av)) aq))) nd)
   (aB (bM 9 (bU xo b (ah (ae 3) (ah (ae 8) aq))) nd)
   (aB (bM 10 (bU xo b (ah (ae 3) (ah (aG gJ (ae 8) av) aq))) nd)
   (aB (bM 11 (eu rfl (.of (N':=["_law_word","_law_top","_law_bottom","_law_left","_law_right"]) (m:=[none,some 6,some 7,some 9,some 10]) 'b') cO (cI (ae 3)) (λs3 a ex=>(aJ 0 ze9)) (λs3 a ex=>(iC (bj (ef c) (bU nu b (ah (ae 1) (ah (ae 2) (ah (ae 3) (ah (ae 4) (ah (ae 0) aq)))))) av))) (λs3 a ex=>(ae 0))) nd)
   (aB (bM 6 (eu rfl (.of (N':=["_law_word","_law_lone"]) (m:=[none,some 11]) 'b') cO (cI (ae 6)) (λs3 a ex=>(aJ 0 zfa)) (λs3 a ex=>eY) (λs3 a ex=>(yM (bj (ki c) (ae 0) (ae 1)) fU (ae 0)))) nd)
   (aB (bM 7 (eu rfl (.of (N':=["_law_word","_law_lone"]) (m:=[none,some 11]) 'b') cO (cI (ae 7)) (λs3 a ex=>(aJ 0 zfb)) (λs3 a ex=>eY) (λs3 a ex=>(yM (bj (ki c) (ae 0) (ae 1)) fU (ae 0)))) nd)
   (aB (bM 9 (eu rfl (.of (N':=["_law_word","_law_lone"]) (m:=[none,some 11]) 'b') cO (cI (ae 9)) (λs3 a ex=>(aJ 0 zfc)) (λs3 a ex=>(iC (bj (yE c) (ae 0) (ae 1)))) (λs3 a ex=>(ae 0))) nd)
   (aB (bM 10 (eu rfl (.of (N':=["_law_word","_law_lone"]) (m:=[none,some 11]) 'b') cO (cI (ae 10)) (λs3 a ex=>(aJ 0 zfd)) (λs3 a ex=>(iC (bj (yE c) (ae 0) (ae 1)))) (λs3 a ex=>(ae 0))) nd)
   (aB (hJ 12 (cQ aq) nd)
   (aB (fe eE rfl (pD T.b_enumerate (ah (de (WU rfl) T.b_sorted qe (ah (ae 3) aq)) aq)) (fh (n:=2) rfl (bI (aJ 13 nd) (bI (aJ 14 nd) eU)))
    (aB (bM 15 (bU dR b (ah (aG cj (ae 2) (ae 13)) (ah av aq))) nd)
   (aO (df (jI (bj (ef c) (aG cK (ae 15) av) av) (nX (bj uf (bU nu b (ah (ae 6) (ah (ae 7) (ah (ae 9) (ah (ae 10) (ah (ae 14) aq)))))) av))).pb (aO (iA 12 (eW (ah (ae 14) (ah (aG cj av (aG cK (aG gJ (ae 15) av) av)) aq))))) c8))))
   (aB (bM 16 (bU Ac b (ah (cQ (ah (ae 6) (ah (ae 7) (ah (ae 9) (ah (ae 10) aq))))) (ah (ae 3) (ah (ae 5) (ah (ae 2) aq))))) nd)
   (aB (bM 17 (cQ aq) nd)
   (aB (df (bj (ef c) (aG cK (aG gJ (ae 2) av) av) av) (aO (bM 17 (bU z9 b (ah (ae 4) (ah (ae 5) (ah (ae 2) aq)))) nd)) c8)
   (mN 12 (aO (cE (cQ (ah (ae 6) (ah (ae 7) (ah (ae 9) (ah (ae 10) (ah (ae 12) (ah (ae 16) (ah (ae 17) aq)))))))))))))))))))))))))))))⟩
def Nr:TX:=Qm.1
def zfe:cU 2 BS Nr 18:=by
 intro ds Qr hl h;let⟨ns,most,rfl,hn,hm,gO,q⟩:=h;show Nr _ [.fz (dI ns),.fz (.int most),.un,.un,.un,.un,.un,.un,.un,.un,.un,.un,.un,.un,.un,.un,.un,.un];unfold Nr Qm;dsimp only;unfold dI;have big:=dn;lk;generalize B:((gU ns none (some 1)).sum%1000000000000000000000000000000*40014)%2147483563=e;have O:k5 ns%1000000000000000000000000000000*40014%2147483563=e:=by rw[<-B,yG _ 'g'];rfl
 walk;show⟨_,rfl,?_⟩;rw[yG _ 'g'];have hw:=zpZ (k5 ns);change i7 _ _ [_,_,_,.fz (.lst ((mM (k5 ns)).map .str)),_,_,_,_,_,_,_,_,_,_,_,_,_,_];generalize mM (k5 ns)=ws at hw q ⊢;walk;show⟨by lia,?_⟩;have m0:0<=e%(most:Int):=lF _ 'a';have m1:e%(most:Int)<most:=o7 _ 'a';obtain⟨W,F⟩:∃W:Nat,1+e%(most:Int)=W:=⟨(1+e%(most:Int)).toNat,by lia⟩
 rw[F];walk;rw[Gp _ 'g'];walk;show⟨ws,ns.drop 1,e,W,rfl,hw.1,by lia,λtop aA Q T pt pb=>?_⟩;lk;walk;show⟨_,_,rfl,by lia,by lia,?_⟩;generalize mI _ _=bits;walk;show⟨ws,bits,rfl,hw.1,hw.2,λleft y v J u=>?_⟩;walk;show⟨ws,_,rfl,hw.1,hw.2,λright t s I r=>?_⟩;walk;show kA ws D.str D.str (λw=>decide (fO top aA left right w=1)) (λQ' h=>?_) 'g' (λw _ K1 K0 k1 N=>?_) ?_
 .lk;show h
 .lk;show⟨top,aA,left,right,w,rfl,by lia,?_⟩;lk;by_cases S:fO top aA left right w=1
  .rw[if_pos 'g'];show k1 'l'
  rw[if_neg 'a'];show N (by show if_neg ‹_›)
 generalize Ox:ws.filter (λw=>decide (fO top aA left right w=1))=d;have Pj:=Yc pt pb J I d Ox.symm;have wR:d.length<=8:=by have:=jE (λw=>decide (fO top aA left right w=1)) ws;cbv
 walk;show FE d top 6 11 _ _ 'a' rfl rfl ?_;walk;show FE d aA 7 11 _ _ 'a' rfl rfl ?_;walk;show F4 d left 9 11 _ _ 'a' rfl rfl ?_;walk;show F4 d right 10 11 _ _ 'a' rfl rfl ?_;have K:ik ws (top.map (fI d)):=Gw pt;have L:ik ws (aA.map (fI d)):=Gw pb;have H:(top.map (fI d)).length=W:=by simpa using Q
 have jz:(aA.map (fI d)).length=W:=by simpa using T
 have N4:(left.filter λx=>decide (x∉d)).Pairwise ja:=(Mp u v).sublist rC;have NR:(right.filter λx=>decide (x∉d)).Pairwise ja:=(Mp r s).sublist rC;have N2:∀w∈(left.filter λx=>decide (x∉d)),w∈ws:=λw h=>J w (cF.mp h).1
 have P:∀w∈(right.filter λx=>decide (x∉d)),w∈ws:=λw h=>I w (cF.mp h).1
 have N5:(left.filter λx=>decide (x∉d)).length<=8:=bK (jE _ _) y;have NS:(right.filter λx=>decide (x∉d)).length<=8:=bK (jE _ _) t;generalize top.map (fI d)=j at *;generalize aA.map (fI d)=f at *;generalize (left.filter λx=>decide (x∉d))=g at *;generalize (right.filter λx=>decide (x∉d))=right' at *;walk;show⟨by show b9 _,?_⟩;walk;show LO (λds=>∃ss:List aa,ss.Perm ws/\sortedS ss=true/\ds=kO (ss.map .str)) (λQ' h=>?_) ?_
 .lk;simp![FK,fK,eI,AZ,yP];show⟨by cbv,λss m A=>?_⟩;lk;show h _ ⟨ss,m,A,rfl⟩
 rintro _ U;symm;let⟨ss,m,A,rfl⟩:=U;have M:ss.length=8:=by rw[m.length_eq];show hw.1
 have o:ss.Pairwise ja:=Mp A (m.nodup_iff.mpr hw.2);let J1:TJ:=λi ρ=>∃(wide:List (aa×Int))(a b c:Sl),ρ=[.fz (D.lst (bW D.int ns)),.fz (D.int most),.fz (D.int e),.fz (D.lst (bW D.str ws)),.fz (D.int W),.fz (D.lst (bW D.int (DB 1 ns))),.fz (D.lst (j.map dO)),.fz (D.lst (f.map dO)),.fz (D.int bits),.fz (D.lst (g.map D.str)),.fz (D.lst (right'.map D.str)),.fz (D.lst (d.map D.str)),.ow (wide.map u4),a,b,c,.un,.un]/\IA (wide.map (·.1)) (ss.take i)/\(∀p∈wide,(p.2=2\/p.2=3)/\1<fO j f g right' p.1)
 show Ye ss D.str J1 ⟨[],_,_,_,rfl,∅,∅⟩ ?_ ?_
 .rintro i x ρ hx ⟨wide,a,b,c,rfl,sub,wo⟩;have tk:ss.take (i+1)=ss.take i++[x]:=by rw[fG,hx];rfl
  have E:wide.length<=8:=by have:=sub.length_le;simp at this;lia
  lk;show⟨_,_,rfl,by cbv,by cbv,?_⟩;generalize mI _ _=one;walk;have skip:∃(C:List (aa×Int))(Z Y V:Sl),[Sl.fz (D.lst (bW D.int ns)),.fz (D.int most),.fz (D.int e),.fz (D.lst (bW D.str ws)),.fz (D.int W),.fz (D.lst (bW D.int (DB 1 ns))),.fz (D.lst (j.map dO)),.fz (D.lst (f.map dO)),.fz (D.int bits),.fz (D.lst (g.map D.str)),.fz (D.lst (right'.map D.str)),.fz (D.lst (d.map D.str)),.ow (wide.map u4),.fz (D.int i),.fz (D.str x),.fz (D.int one),.un,.un]=[Sl.fz (D.lst (bW D.int ns)),.fz (D.int most),.fz (D.int e),.fz (D.lst (bW D.str ws)),.fz (D.int W),.fz (D.lst (bW D.int (DB 1 ns))),.fz (D.lst (j.map dO)),.fz (D.lst (f.map dO)),.fz (D.int bits),.fz (D.lst (g.map D.str)),.fz (D.lst (right'.map D.str)),.fz (D.lst (d.map D.str)),.ow (C.map u4),Z,Y,V,.un,.un]/\IA (C.map (·.1)) (ss.take (i+1))/\(∀p∈C,(p.2=2\/p.2=3)/\1<fO j f g right' p.1):=
   ⟨wide,_,_,_,rfl,by rw[tk];show sub.trans (List.sublist_append_left _ _),wo⟩
  split
  .refine⟨j,f,g,right',x,rfl,by lia,?_⟩;lk;split
   .rename_i S;show⟨by trivial,by simp;lia,wide++[(x,2+one/4%2)],_,_,_,by rw[bX];rfl,?_,λp m=>?_⟩
    .rw[tk,bX];show sub.append (aaw _)
    rcases bx.mp m with h | h
    .exact wo p h
    have:p=(x,2+one/4%2):=by simpa using h
    subst this;show⟨by lia,by lia⟩
   show skip
  show skip
 rintro ρ ⟨wide,a,b,c,rfl,sub,wo⟩;rw[gk] at sub;have E:wide.length<=8:=by have:=sub.length_le;simp at this;cbv
 have n:(wide.map (·.1)).Pairwise ja:=o.sublist sub;have ww:∀p∈wide,p.1∈ws/\(p.2=2\/p.2=3)/\1<fO j f g right' p.1:=λp h=>⟨m.subset (sub.subset (ml h)),wo p h⟩
 walk;show⟨by trivial,j,f,g,right',ws,ns.drop 1,e,rfl,by cbv,by lia,by lia,by lia,hw.1,K,by simp;lia,λc6 X=>?_⟩;walk;show⟨by show b9 _,?_⟩;have fin:∀keeps,Qp W keeps->Qr (R.ow [dP j,dP f,dS g,dS right',dW wide,dB c6,dK keeps]):=λkeeps z=>q ⟨j,f,g,right',wide,c6,keeps⟩ ⟨by lia,by lia,by cbv,K,L,N5,N2,N4,NS,P,NR,Pj,E,n,ww,X,by rw[H];show z⟩ (by unfold wF;rw[O,F,H];show(rq W).symm)
 walk;split
 .refine⟨W,ns.drop 1,e,rfl,by lia,by lia,λkeeps z=>?_⟩;walk;show⟨by trivial,fin keeps z⟩
 walk;show⟨by trivial,fin [] ⟨∅,∅⟩⟩
def BE:bF:=λds Q=>∃a b c d e f g:List D,ds=[.lst a,.lst b,.lst c,.lst d,.lst e,.lst f,.lst g]/\Q (.fz (.obj "Channel" [("top",.lst a),("bottom",.lst b),("left",.lst c),("right",.lst d),("wide",.lst e),("bends",.lst f),("keeps",.lst g)]))
def Gn:u9:=(lK "top" (fN nR (aM (aF 1) bJ)) (lK "bottom" (fN nR (aM (aF 2) bJ)) (lK "left" (fN nR (aM (aF 3) bJ)) (lK "right" (fN nR (aM (aF 4) bJ)) (lK "wide" (fN nR (aM (aF 5) bJ)) (lK "bends" (fN nR (aM (aF 6) bJ)) (lK "keeps" (fN nR (aM (aF 7) bJ)) J6)))))))
def zks(ds i)(j:List (aa×D)->Prop)(k:∀fs:List (aa×D),fs.map (·.1)=(["top","bottom","left","right","wide","bends","keeps"]:List aa)->j fs)(h:BE ds i) :
  Gn (sf ["self","top","bottom","left","right","wide","bends","keeps"] ds) [] λfs=>j fs/\i (.fz (.obj "Channel" fs)):=by
 let⟨a,b,c,d,e,f,g,rfl,q⟩:=h;show Gn [.un,.fz (.lst a),.fz (.lst b),.fz (.lst c),.fz (.lst d),.fz (.lst e),.fz (.lst f),.fz (.lst g)] [] _;unfold Gn;show⟨by cbv,show 1<1000 by decide,show 2<1000 by decide,show 3<1000 by decide,show 4<1000 by decide,show 5<1000 by decide,show 6<1000 by decide,k _ rfl,q⟩
structure Pc where
 n:Option aa
 l:Int
 r:Int
 k:Int
 deriving DecidableEq
def cW(p:Pc):D:=.tup [dO p.n,.int p.l,.int p.r,.int p.k]
def dY(ps:List Pc):D:=.lst (ps.map cW)
def dJ:Option Int->D
 | none=>.non
 | some i=>.int i
def iw(p:Pc)(c:Int):Bool:=decide (p.l<=c)&&decide (c<=p.r)
def A0(p q:Pc):Option Int:=
 if (if q.l>p.l then q.l else p.l)>(if q.r<p.r then q.r else p.r) then none else some (if q.l>p.l then q.l else p.l)
def Mm{α:Type}(L:List α)(b f)(hw:∀e:List D->Prop,e (L.map b)->c ρ e)(n:L.length<=sizeLine)
  (h:∀x∈L,∀j,j (f x)->g (b x) (gZ m ρ) λl=>te l λr=>rW r j) (q:Q (.ov (.ll (L.map f)))):yy c m g nQ te ρ Q:=by
 show hw _ ⟨λi acc=>acc=(L.take i).map f,by rfl,λi d acc hd a=>?_,λacc a=>?_⟩
 .subst a;rw[b8] at hd;cases hx:L[i]? with
  | none=>rw[hx] at hd;cases hd
  | some x=>
   rw[hx] at hd;cases hd;have:=h x (dZ hx) (λk=>((L.take i).map f).length<sizeLine/\(L.take i).map f++[k]=(L.take (i+1)).map f) ⟨by simp;grind,by rw[fG,hx];simp⟩;show this
 subst a;simpa using q
abbrev Tr:=Nat×Nat×Int
def dT(t:Tr):D:=.tup [.int t.1,.int t.2.1,.int t.2.2]
def ni(ts:List Tr):D:=.lst (ts.map dT)
def Kr(n:Nat)(ts:List Tr):Prop:=∀t∈ts,t.1<n/\t.2.1<n
def keys(kv:List (Nat×Int)):List Nat:=kv.map (·.1)
def V6(h:k<n):kX n (k:Int)\k:=by
 unfold kX;rw[if_pos (by room),if_pos 'g'];simp
def zp2{α:Type}(n f u)(v:α):((bA n).map f).set u v=(bA n).map λx=>if x=u then v else f x:=by
 apply tY;grind
def zsl{α:Type}(f:Nat->α)(h:u<n):((bA n).map f)[u]?\f u:=by rw[b8,List.getElem?_range h];rfl
def zp3(f:Nat->α)(h:u<n):bO ((bA n).map f) (u:Int)\f u:=by
 rw[nV,fE (by simpa using h)];simp
def dD(ps:List Pc)(q:Nat):Pc:=ps[q]?.getD ⟨none,0,0,1⟩
def fi(tr:List Int)(q:Nat):Int:=tr[q]?.getD 0
def Fi(h):dD ps q=ps[q]:=by unfold dD;rw[cA h];rfl
def KZ(h):fi tr q=tr[q]:=by unfold fi;rw[cA h];rfl
end Wc
open PySem L2 PyProof.Rows Wc
local macro_rules | `(tactic| lk)=>`(tactic| (repeat(first | walk_at"b" | dsimp only[$[$(qn "yj vY uj yh r8 yx yI vU yg rJ qr rK sN ym yf yd xY yc yJ yn ye vI yw yu qI rS uh yt qu yi"):ident],*] | simp only[lR])))
namespace Wc
open PySem L2 PyProof.Rows
def gM(ts:List Tr)(q:Nat):List Nat:=(ts.filter λt=>decide (t.2.1=q)).map (·.1)
def zsm(ts t q):gM (ts++[t]) q=if q=t.2.1 then gM ts q++[t.1] else gM ts q:=by
 unfold gM;rw[t5,bX];by_cases h:q=t.2.1
 .subst h;simp
 rw[if_neg h,ud (by simpa using λz=>h z.symm)];show eS _
def V5(ts q):(gM ts q).length<=ts.length:=by
 unfold gM;rw[aE];show jE _ _
def abn:p∈gM ts q↔∃t∈ts,t.1=p/\t.2.1=q:=by
 unfold gM;simp![aK,cF,iG];show⟨λd=>by obtain⟨t,⟨c,b⟩,a⟩:=d;show⟨t,c,a,b⟩,λd=>by let⟨t,c,b,a⟩:=d;show⟨t,⟨c,a⟩,b⟩⟩
def Ul(n:Nat)(ts:List Tr):Prop:=∃S:List Nat,S≠[]/\(∀q∈S,q<n)/\∀q∈S,∃t∈ts,t.2.1=q/\t.1∈S
def B0:bF:=λds Q=>∃(n:Nat)(ts:List Tr)(b:Int),ds=[.int n,ni ts,.int b]/\n<=1000/\ts.length<=11000000/\Kr n ts/\(Ul n ts->Q (.fz .non))/\∀a:List Nat,a.Perm (bA n)->Q (.ow (a.map dN))
def u5(ts:List Tr)(n:Nat):List (List D):=(bA n).map λq=>(gM ts q).map dN
def zu2(w:List Nat)(x:Nat):(w.map λ(k:Nat)=>(k:Int)).erase (x:Int)=(w.erase x).map λ(k:Nat)=>(k:Int):=by
 induction w with
 | nil=>rfl
 | cons a r b=>
  rw[bT,RC,RC];by_cases h:a=x
  .subst h;simp
  rw[if_neg 'a',if_neg (by simpa using h),bT,b]
def zyJ(x)(l:List Nat):inD (dN x) (l.map dN)=decide (x∈l):=by
 unfold inD;rw[qZ];induction l with
 | nil=>rfl
 | cons a r b=>
  rw[rg,b];by_cases h:x=a
  .subst h;simp[dN,cV]
  have:¬((a:Int)=(x:Int)):=λz=>h 'a'
  have c:¬((x:Int)=(a:Int)):=λz=>h 'g'
  simp[dN,cV,h,this,c]
theorem zu3(l:List Nat):∀e∈l.map dN,bN 8 e:=λe he=>by
 let⟨k,z,rfl⟩:=aK.mp he;trivial
def zgL:di ["_law_q","_law_waiting","_law_uppers"]:=by decide +kernel
def zgM:di ["_law_p","_law_waiting"]:=by decide +kernel
def P6:(T:TX) ×' ∀{P w K mg base},Txt K mg->~~~1 "_law_mix" 2 lW->dr P w K mg base 1 "_law_turns" ["_law_count","_law_above","_law_seed","_law_uppers","_law_p","_law_q","_law_c","_law_waiting","_law_turns_here","_law_ready"] (top 49) T:=
 ⟨_,λT dR nd f d A outer s H E c=>have b:=c.units;
 (aB (hJ 3 (F6 rfl (.of (N':=["_law_k"]) (m:=[none]) 'b') cO (kz T.b_range (ah (ae 0) aq)) (λs3 a ex=>(aJ 0 pA)) (λs3 a ex=>eY) (λs3 a ex=>(cQ aq))) nd)
   (aB (fe eE rfl (cI (ae 1)) (fh (n:=3) rfl (bI (aJ 4 nd) (bI (aJ 5 nd) (bI (aJ 6 nd) eU))))
    (aO (zuz 3 (ae 5) (ae 4))))
   (aB (hJ 7 (zrQ rfl T.b_list T.b_range (ah (ae 0) aq)) nd)
   (aB (hJ 8 (cQ aq) nd)
   (mN 3 (aB (LW eE (bj uf (Bk 7 T.b_len) av) (aB (zrH 7 9 rfl (.of (N':=["_law_q","_law_waiting","_law_uppers"]) (m:=[none,some 7,some 3]) 'b') cO (cI (ae 7)) (λs3 a ex=>(aJ 0 zgL)) (λs3 a ex=>(iC (Be (vX (de (zyd rfl) T.b_any boot_any (ah (eu rfl (.of (N':=["_law_p","_law_waiting"]) (m:=[none,some 1]) 'b') cO (cI (aY (ae 2) (ae 0))) (λs3 a ex=>(aJ 0 zgM)) (λs3 a ex=>eY) (λs3 a ex=>(qG (ki b) (ae 0) (ae 1)))) aq)))))) (λs3 a ex=>(ae 0)) nd)
   (mN 9 (aB (df (bj (ef b) (de jG T.b_len iY (ah (ae 9) aq)) av) (aO (cE fU)) c8)
   (aB (iA 8 (aY (ae 9) (aG cK (bU dR c (ah (ae 2) (ah (aG cj (Bk 8 T.b_len) av) aq))) (de jG T.b_len iY (ah (ae 9) aq)))))
   (aO (zpH 7 (qF 8 (vW av)))))))))
   (aO (um 8))))))))⟩
def MU:TX:=P6.1
def zgN:cU 3 B0 MU 10:=by
 intro ds Qr hl h;symm;let⟨n,ts,A,rfl,hn,ht,hv,J,I⟩:=h;show MU _ [.fz (.int n),.fz (ni ts),.fz (.int A),.un,.un,.un,.un,.un,.un,.un];unfold MU P6;dsimp only;have big:=dn;lk;show Mm (bA n) dN (λ_=>[]) (λB h=>?_) (by simp;lia) (λd hd T k=>?_) ?_
 .lk;show⟨by cbv,by lia,?_⟩;rw[rq];have Q:(bA n).map (λ(i:Nat)=>D.int (0+(i:Int)))=(bA n).map dN:=t8 λi _=>by rw[xx];rfl
  rw[Q];show h
 .lk;show⟨by show b9 _,k⟩
 walk;let V:TJ:=λi ρ=>∃a b c:Sl,ρ=[.fz (.int n),.fz (ni ts),.fz (.int A),.ov (.ll (u5 (ts.take i) n)),a,b,c,.un,.un,.un]
 show nY ts dT (λB h=>?_) V ⟨_,_,_,rfl⟩ ?_ ?_
 .lk;show h
 .rintro i t ρ E ⟨a,b,c,rfl⟩;have S:t∈ts:=dZ E;let⟨v1,v2⟩:=hv t S;have tk:ts.take (i+1)=ts.take i++[t]:=by rw[fG,E];rfl
  have l1:=V5 (ts.take i) t.2.1;have Y:(ts.take i).length<=ts.length:=by rw[cN];lia
  unfold dT;lk;have hlen:(u5 (ts.take i) n).length=n:=by unfold u5;simp
  show⟨t.2.1,(gM (ts.take i) t.2.1).map dN,by rw[hlen];show V6 v2,zsl (λq=>(gM (ts.take i) q).map dN) v2,by rw[aE];lia,?_⟩;have:(u5 (ts.take i) n).set t.2.1 ((gM (ts.take i) t.2.1).map dN++[.int t.1])=u5 (ts.take (i+1)) n:=by
   unfold u5;rw[zp2,tk];apply t8;intro x _;rw[zsm];by_cases hx:x=t.2.1
   .rw[if_pos hx,if_pos hx,hx,bX];rfl
   rw[if_neg hx,if_neg hx]
  rw[this];show⟨_,_,_,rfl⟩
 rintro ρ ⟨a,b,c,rfl⟩;rw[gk];walk;show⟨by cbv,by lia,?_⟩;walk;show⟨by show b9 _,?_⟩;walk;let U:TJ:=λm ρ=>∃(w e:List Nat)(s:Sl),m=w.length/\(e++w).Perm (bA n)/\ρ=[.fz (.int n),.fz (ni ts),.fz (.int A),.fz (.lst ((u5 ts n).map .lst)),a,b,c,.ow (w.map dN),.ow (e.map dN),s]
 show⟨U,⟨_,bA n,[],_,rfl,∅,rfl⟩,?_⟩;rintro m ρ ⟨w,e,s,rfl,g,rfl⟩;have hlen:=g.length_eq;rw[bP,qg] at hlen;lk;rw[aE];by_cases hw:0<(w.length:Int)
 .rw[if_pos (by trivial)];have F:∀x∈w,x<n:=λx hx=>iT.mp (g.subset (fT _ hx))
  lk;show kA w dN dN (λq=>!(gM ts q).any λp=>decide (p∈w)) (λB h=>?_) 'a' (λx hx T K0 k1 M=>?_) ?_
  .lk;show h
  .have u:bO (u5 ts n) (x:Int)=some ((gM ts x).map dN):=zp3 (λq=>(gM ts q).map dN) (F x hx);rw[show dN x=D.int x from rfl];lk;show gr (gM ts x) dN (λp=>.bl (decide (p∈w))) (λB h=>?_) (by have:=V5 ts x;lia) (λy Z K2 L=>?_) ?_
   .lk;show⟨_,u,h⟩
   .rw[show dN y=D.int y from rfl];lk;have:=zyJ y w;rw[show dN y=D.int y from rfl] at this;show⟨zu3 w,by rw[this];show L⟩
   rw[show((gM ts x).map λp=>D.bl (decide (p∈w)))=((gM ts x).map λp=>decide (p∈w)).map D.bl by rw[bz];rfl];simp![yA,TL,fK,eI,g7,XO];rw[qZ,show(id∘λp=>decide (p∈w))=(λp=>decide (p∈w)) from rfl];cases j:(gM ts x).any λp=>decide (p∈w)
   .exact k1 (by simp[j])
   show M (by simp[j])
  generalize C:w.filter (λq=>!(gM ts q).any λp=>decide (p∈w))=r;have v:∀x∈r,x∈w:=λx hx=>by rw[<-C] at hx;show(cF.mp hx).1
  show⟨by simp[dN,r0],?_⟩;walk;by_cases h0:r=[]
  .subst h0;show J ⟨w,λz=>?_,F,λq O=>?_⟩
   .rw[z] at hw;simp at hw
   have:q∉w.filter (λq=>!(gM ts q).any λp=>decide (p∈w)):=by rw[C];simp
   rw[cF] at this;have P:(gM ts q).any (λp=>decide (p∈w))=true:=by
    cases j:(gM ts q).any λp=>decide (p∈w) with
    | true=>rfl
    | false=>show absurd ⟨O,by rw[j];rfl⟩ this
   let⟨p,W,X⟩:=xO.mp P;let⟨t,t1,H,t3⟩:=abn.mp W;show⟨t,t1,t3,by rw[H];simpa using X⟩
  have N:0<r.length:=Ju.mpr h0;rw[if_neg 'g'];walk;rw[aE,aE];show⟨_,_,rfl,by show rB _,by lia,?_⟩;generalize mI _ _=f;have m0:=lF f (show(r.length:Int)≠0 by cbv);have K:=o7 f (show(0:Int)<r.length by cbv);let⟨R,u⟩:=v7 (l:=r) m0 K;have o:r[(f%r.length).toNat]∈w:=v _ (gP R);show⟨by cbv,r[(f%r.length).toNat],u,by lia,?_⟩;generalize r[(f%r.length).toNat]=x at o;walk;show⟨dN x,by rw[zsi _ ∅];simp,w.map (λ(k:Nat)=>(k:Int)),x,by rw[bz];rfl,rfl,aK.mpr ⟨x,o,rfl⟩,?_⟩;rw[zu2,bz];have hle:=JM o;show⟨(w.erase x).length,by lia,w.erase x,e++[x],_,rfl,?_,by rw[bX];rfl⟩;rw[eF];show(vB e (List.perm_cons_erase o).symm).trans g
 have:w=[]:=oS 'g';subst this;walk;show I e (by simpa using g)
def tN(ps:List Pc)(tr:List Int)(o:Nat)(t:Int)(q:Nat):Prop:=
 0<=fi tr q/\((dD ps q).n=none\/(dD ps q).n≠(dD ps o).n)/\max (dD ps q).l (dD ps o).l<=min (dD ps q).r (dD ps o).r/\fi tr q<t+(dD ps o).k/\t<fi tr q+(dD ps q).k
def BZ:bF:=λds Q=>∃(ps:List Pc)(tr:List Int)(o:Nat)(t:Int),ds=[dY ps,.lst (tr.map .int),.int o,.int t]/\ps.length<=1000/\tr.length=ps.length/\o<ps.length/\
 ((∃q,q<ps.length/\tN ps tr o t q)->Q (.fz (.bl false)))/\((∀q,q<ps.length->¬tN ps tr o t q)->Q (.fz (.bl true)))
def Ql:(T:TX) ×' ∀{P w K mg base},Txt K mg->dr P w K mg base 0 "_law_clear" ["_law_pieces","_law_tracks_here","_law_one","_law_t","_law_q"] (top 50) T:=
 ⟨_,λT nd f c A outer s H E b=>have a:=b.units;
 (aB (fe eE rfl (kz T.b_range (ah (de jG T.b_len iY (ah (ae 0) aq)) aq)) (aJ 4 nd)
    (aO (df (jI (bj zzw (aY (ae 1) (ae 4)) av) (nX (Bd (bj Ke (aY (aY (ae 0) (ae 4)) av) fU) (FQ (bj (EN a) (aY (aY (ae 0) (ae 4)) av) (aY (aY (ae 0) (ae 2)) av)))).pb)).pb (aO (df (bj zzv (de (A8 rfl) T.b_max Ah (ah (aY (aY (ae 0) (ae 4)) av) (ah (aY (aY (ae 0) (ae 2)) av) aq))) (de (EX rfl) T.b_min Dx (ah (aY (aY (ae 0) (ae 4)) av) (ah (aY (aY (ae 0) (ae 2)) av) aq)))) (aO (df (jI (bj vL (aY (ae 1) (ae 4)) (aG cj (ae 3) (aY (aY (ae 0) (ae 2)) av))) (nX (bj vL (ae 3) (aG cj (aY (ae 1) (ae 4)) (aY (aY (ae 0) (ae 4)) av))))).pb (aO (cE Ff)) c8)) c8)) c8)))
   (aO (cE Ff)))⟩
def Nc:TX:=Ql.1
theorem Uk(a b c d:α):bO [a,b,c,d] 0\a:=rfl
theorem zyK(a b c d:α):bO [a,b,c,d] 1\b:=rfl
theorem zyL(a b c d:α):bO [a,b,c,d] 2\c:=rfl
theorem zyM(a b c d:α):bO [a,b,c,d] 3\d:=rfl
def zgO:cU 4 BZ Nc 5:=by
 intro ds M hl h;let⟨ps,tr,o,t,rfl,E,N,K,B,A⟩:=h;show Nc _ [.fz (dY ps),.fz (.lst (tr.map .int)),.fz (.int o),.fz (.int t),.un];unfold Nc Ql;dsimp only;have big:=dn;have v:∀i,i<ps.length->bO (ps.map cW) (i:Int)\cW (dD ps i):=λi g=>by rw[Fi g,nV,fE g];rfl
 lk;show qK ps.length (λP h=>?_) (λi ρ=>∃s:Sl,(∀q,q<i->¬tN ps tr o t q)/\ρ=[.fz (dY ps),.fz (.lst (tr.map .int)),.fz (.int o),.fz (.int t),s]) ⟨_,λq C=>absurd C (DQ _),rfl⟩ ?_ ?_
 .unfold dY;lk;rw[aE];show⟨by cbv,by lia,by trivial⟩
 .rintro i ρ g ⟨s,u,rfl⟩;have f:=v i g;have m:=v o K;have F:bO (tr.map L2.D.int) (i:Int)\.int (fi tr i):=by rw[KZ 'g',nV,fE 'g'];rfl
  have nx:¬tN ps tr o t i->∀q,q<i+1->¬tN ps tr o t q:=λE q C=>by
   by_cases x:q=i
   .rw[x];show E
   show u q 'a'
  have go:tN ps tr o t i->M (.fz (.bl false)):=λh=>B ⟨i,g,h⟩
  generalize L:(∀q,q<i+1->¬tN ps tr o t q)=Inv at nx ⊢;unfold tN at nx go;generalize dD ps i=p at nx go f;generalize dD ps o=po at nx go m;generalize fi tr i=J at nx go F;clear v u B A hl L;have H:(qA (dO p.n)=true\/(!cV (dO p.n) (dO po.n))=true)↔(p.n=none\/p.n≠po.n):=by
   rw[lR,lh,j5];cases p.n<;>simp[dO,qA]
  have e:∀(w:L2.D)(k:Int)(z:Pc)(q:Int){ρ:Ev},gt ρ 0=.fz (dY ps)->∀{j:Nat},gt ρ j=.fz (.int q)->bO (ps.map cW) q\cW z->bO [dO z.n,.int z.l,.int z.r,.int z.k] k\w->Is (bg fF (bg fF (aF 0) (aF j)) (dC (.int k))) ρ w:=
   λw k z q {ρ} a {j} b c d=>zwX (EU (nT a) (nT b) c) vH d
  have y:Is (bg fF (aF 1) (aF 4)) [.fz (dY ps),.fz (.lst (tr.map .int)),.fz (.int o),.fz (.int t),.fz (.int i)] (.int J):=EU (nT rfl) (nT rfl) F;show xX (D:={ nx:=_,rt:=_,bk:=_,ct:=_ }) (ρ:=[.fz (dY ps),.fz (.lst (tr.map .int)),.fz (.int o),.fz (.int t),.fz (.int i)]) (Fl (yq (vP y vH)) (zyC (A5 (zw0 (e _ _ _ _ rfl rfl f rfl))) (A5 (zyE (e _ _ _ _ rfl rfl f rfl) (e _ _ _ _ rfl rfl m rfl) ?_ ?_)))) (λc1=>
   xX (yq (vP (zwY (FF (e _ _ _ _ rfl rfl f rfl) (FF (e _ _ _ _ rfl rfl m rfl) UU))) (zwZ (FF (e _ _ _ _ rfl rfl f rfl) (FF (e _ _ _ _ rfl rfl m rfl) UU))))) (λO=>
    xX (Fl (yq (vP y (Ve (nT rfl) (e _ _ _ _ rfl rfl m rfl)))) (yq (vP (nT rfl) (Ve y (e _ _ _ _ rfl rfl f rfl))))) (λI=>go ⟨c1.1,?_,?_,I.1,I.2⟩) λn=>⟨_,nx λz=>n z.2.2.2,rfl⟩) λn=>⟨_,nx λz=>n ?_,rfl⟩) λn=>⟨_,nx λz=>n ⟨z.1,?_⟩,rfl⟩
  .rw[pz];trivial
  .rw[pz];trivial
  .exact H.mp c1.2
  .omega
  .omega
  show H.mpr z.2.1
 rintro ρ ⟨s,u,rfl⟩;walk;show A u
def xq(ps:List Pc)(tr:List Int)(p q:Nat):Prop:=
 ((dD ps q).n=none\/(dD ps q).n≠(dD ps p).n)/\max (dD ps q).l (dD ps p).l<=min (dD ps q).r (dD ps p).r/\fi tr q<fi tr p+(dD ps p).k/\fi tr p<fi tr q+(dD ps q).k
def xq.symm(h:xq ps tr p q):xq ps tr q p:=by
 let⟨a,d,c,b⟩:=h;show⟨?_,⋯,b,c⟩;rcases a with a | a
 .rw[a];cases (dD ps p).n with
  | none=>show .inl rfl
  | some w=>show .inr (by show Option.some_ne_none _)
 show .inr (Ne.symm a)
structure HC(ps:List Pc)(tr:List Int):Prop where
 len:tr.length=ps.length
 lo:∀q,q<ps.length->0<=fi tr q
 no:∀p q,p<ps.length->q<ps.length->p≠q->¬xq ps tr p q
def BM:bF:=λds Q=>∃(ps:List Pc)(ts:List Tr)(a:List Nat)(b:Int),ds=[dY ps,ni ts,.lst (a.map dN),.int b]/\ps.length<=1000/\Kr ps.length ts/\a.Perm (bA ps.length)/\∀tr,HC ps tr->Q (.ow (tr.map .int))
def zu4(tr o t)(h:o<tr.length)(q):fi (tr.set o t) q=if q=o then t else fi tr q:=by
 unfold fi;rw[AI];by_cases a:q=o
 .subst a;simp[h]
 rw[if_neg (Ne.symm a),if_neg a]
def zw9(f:Nat->Int)(n):∃B:Int,∀q,q<n->f q<=B:=by
 induction n with
 | zero=>show⟨0,λq h=>absurd h (DQ _)⟩
 | succ n a=>
  let⟨B,b⟩:=a;show⟨max B (f n),λq c=>?_⟩;by_cases h:q=n
  .subst h;lia
  have:=b q 'a';lia
structure HB(ps:List Pc)(d:List Nat)(tr:List Int):Prop where
 len:tr.length=ps.length
 lo:∀q,q<ps.length->q∈d->0<=fi tr q
 no:∀p q,p<ps.length->q<ps.length->p∈d->q∈d->p≠q->¬xq ps tr p q
def HB.put(P:HB ps d tr)(x:o<ps.length)(hd:o∉d)(u:0<=t)(s:∀q,q<ps.length->¬tN ps tr o t q):HB ps (d++[o]) (tr.set o t):=by
 have r:=P.len;have e:=λq=>zu4 tr o t 'g' q
 show⟨by simpa using r,λq a hm=>?_,λp q f a i j l b=>?_⟩
 .rw[e];by_cases h:q=o
  .rw[if_pos h];show u
  rw[if_neg h];rcases bx.mp hm with z | z
  .exact P.lo q a z
  simp at z;show absurd z h
 have k:∀q,q<ps.length->q∈d++[o]->q≠o->q∈d:=λq _ hm h=>by
  rcases bx.mp hm with z | z
  .exact z
  simp at z;show absurd z h
 have one:∀q,q<ps.length->q∈d++[o]->q≠o->¬xq ps (tr.set o t) o q:=λq a hm h b=>by
  let⟨w,v,n,m⟩:=b;rw[e,if_neg h,e,if_pos rfl] at n;rw[e,if_pos rfl,e,if_neg h] at m;show s q a ⟨P.lo q a (k q a hm h),w,v,n,m⟩
 by_cases c:p=o
 .subst c;show one q a j (Ne.symm l) b
 by_cases g:q=o
 .subst g;show one p f i c b.symm
 unfold xq at b;rw[e,if_neg g,e,if_neg c] at b;show P.no p q f a (k p f i c) (k q a j g) l b
def P7:(T:TX) ×' ∀{P w K mg base},Txt K mg->~~~1 "_law_mix" 2 lW->~~~1 "_law_clear" 4 BZ->dr P w K mg base 1 "_law_tracks" ["_law_pieces","_law_above","_law_turns_here","_law_seed","_law_tracks_here","_law_k","_law_one","_law_t","_law_p","_law_q","_law_c"] (top 51) T:=
 ⟨_,λT dR Ab nd f d A outer s H E a=>have c:=a.units;
 (aB (FN 4 rfl (.of (N':=["_law_piece"]) (m:=[none]) 'b') cO (cI (ae 0)) (λs3 b ex=>(aJ 0 pA)) (λs3 b ex=>eY) (λs3 b ex=>(vW av)) nd)
   (aB (fe eE rfl (pD T.b_enumerate (ah (ae 2) aq)) (fh (n:=2) rfl (bI (aJ 5 nd) (bI (aJ 6 nd) eU)))
    (aB (bM 7 (aY (cQ (ah av (ah av (ah av (ah av (ah av aq)))))) (aG cK (bU dR a (ah (ae 3) (ah (aG cj (ae 5) av) aq))) av)) nd)
   (aB (fe eE rfl (cI (ae 1)) (fh (n:=3) rfl (bI (aJ 8 nd) (bI (aJ 9 nd) (bI (aJ 10 nd) eU))))
    (aO (df (bj (ef c) (ae 9) (ae 6)) (aO (bM 7 (de (A8 rfl) T.b_max Ah (ah (ae 7) (ah (aG cj (qF 4 (ae 8)) (aY (aY (ae 0) (ae 8)) av)) aq))) nd)) c8)))
   (aB (LW eE (Be (vX (zus 4 (bU Ab a (ah (ae 0) (ah (ae 4) (ah (ae 6) (ah (ae 7) aq)))))))) (aO (bM 7 (aG cj (ae 7) av) nd)))
   (aO (Xf 4 (ae 6) (ae 7)))))))
   (aO (um 4))))⟩
def Nv:TX:=P7.1
def zfF:cU 4 BM Nv 11:=by
 intro ds T hl h;symm;let⟨ps,ts,g,x,rfl,K,hv,r,q⟩:=h;show Nv _ [.fz (dY ps),.fz (ni ts),.fz (.lst (g.map dN)),.fz (.int x),.un,.un,.un,.un,.un,.un,.un];unfold Nv P7;dsimp only;have big:=dn;have J:∀i,i<ps.length->bO ps (i:Int)=some (dD ps i):=λi n=>by rw[Fi n];show fE n
 have N:=r.length_eq;rw[qg] at N;have O:∀o∈g,o<ps.length:=λo h=>iT.mp (r.subset h)
 have hnd:g.Nodup:=r.nodup_iff.mpr Jf;lk;show gr ps cW (λ_=>.int (-1)) (λH h=>?_) 'a' (λp r U k=>?_) ?_
 .lk;show h
 .lk;show k
 rw[show ps.map (λ_=>D.int (-1))=(ps.map λ_=>(-1:Int)).map D.int by rw[bz];rfl];walk;show yR g dN (λH h=>?_) (λi ρ=>∃(tr:List Int)(a b c d e f:Sl),HB ps (g.take i) tr/\ρ=[.fz (dY ps),.fz (ni ts),.fz (.lst (g.map dN)),.fz (.int x),.ow (tr.map .int),a,b,c,d,e,f]) ⟨_,_,_,_,_,_,_,⟨by show aE ..,λq _ v=>by simp at v,λp q _ _ h=>by simp at h⟩,rfl⟩ ?_ ?_
 .lk;show h
 .rintro i o ρ n ⟨tr,a,b,c,d,e,f,P,rfl⟩;have Q:i<g.length:=(c7.mp n).1;have A:=O o (dZ n);have tk:g.take (i+1)=g.take i++[o]:=by rw[fG,n];rfl
  have I:o∉g.take i:=by
   have s:=(AK (i+1) g).nodup hnd;rw[tk,lq] at s;show λz=>s.2.2 o z o 'c' rfl
  rw[tk];lk;show⟨by trivial,_,_,rfl,by show rB _,by lia,?_⟩;generalize mI _ _=u;obtain⟨t0,y,F⟩:∃t0:Int,0<=t0/\bO [D.int 0,D.int 0,D.int 0,D.int 1,D.int 2] (u%5)=some (.int t0):=by
   have:u%5=0\/u%5=1\/u%5=2\/u%5=3\/u%5=4:=by lia
   rcases this with z | z | z | z | z<;>rw[z]
   .exact⟨0,by show fA _,rfl⟩
   .exact⟨0,by show fA _,rfl⟩
   .exact⟨0,by show fA _,rfl⟩
   .exact⟨1,by cbv,rfl⟩
   show⟨2,by cbv,rfl⟩
  show⟨_,F,?_⟩;have E:∀i,i<ps.length->bO tr (i:Int)\fi tr i:=λi n=>by rw[KZ (by rw[P.len];show n)];show fE (by rw[P.len];show n)
  walk;show nY ts dT (λH h=>?_) (λ_ ρ=>∃(t:Int)(d e f:Sl),0<=t/\ρ=[.fz (dY ps),.fz (ni ts),.fz (.lst (g.map dN)),.fz (.int x),.ow (tr.map .int),.fz (.int i),.fz (.int o),.fz (.int t),d,e,f]) ⟨_,_,_,_,y,rfl⟩ ?_ ?_
  .lk;show h
  .rintro j tt ρ L ⟨t,d,e,f,h0,rfl⟩;let⟨v1,v2⟩:=hv tt (dZ L);have s:=J _ v1;have w:=E _ v1;unfold dT dY;lk;simp![s,w,cW,zyM,gw,exists_eq_left'];lk;split
   .exact⟨_,_,_,_,by split<;>ext,rfl⟩
   show⟨_,_,_,_,h0,rfl⟩
  rintro ρ ⟨t,d,e,f,h0,rfl⟩;walk;let⟨B,M⟩:=zw9 (λq=>fi tr q+(dD ps q).k) ps.length;show⟨λm ρ=>∃t:Int,0<=t/\m=(B-t).toNat/\ρ=[.fz (dY ps),.fz (ni ts),.fz (.lst (g.map dN)),.fz (.int x),.ow (tr.map .int),.fz (.int i),.fz (.int o),.fz (.int t),d,e,f],⟨_,_,h0,rfl,rfl⟩,?_⟩;rintro m ρ ⟨t,h0,rfl,rfl⟩;lk;show⟨ps,tr,o,t,rfl,K,P.len,A,λC=>?_,λC=>?_⟩
  .let⟨q,v,h⟩:=C;have S:=M q v;have R:=h.2.2.2.2;lk;show⟨rfl,_,by lia,_,by lia,rfl,rfl⟩
  lk;show⟨rfl,?_⟩;walk;show⟨o,by rw[aE,P.len];show V6 A,?_⟩;rw[<-vj];show⟨tr.set o t,_,_,_,_,_,_,P.put A I h0 C,rfl⟩
 rintro ρ ⟨tr,a,b,c,d,e,f,P,rfl⟩;rw[gk] at P;walk;show q tr ⟨P.len,λq v=>P.lo q v (r.symm.subset (iT.mpr v)),λp q s w=>P.no p q s w (r.symm.subset (iT.mpr s)) (r.symm.subset (iT.mpr w))⟩
inductive Cn{α:Type}(E:List (α×α)):α->α->Prop
 | refl (a:α):Cn E a a
 | step {a b c:α}:Cn E a b->(b,c)∈E\/(c,b)∈E->Cn E a c
section
variable{α β:Type}{E:List (α×α)}
theorem Cn.one(h:(a,b)∈E):Cn E a b:=.step (.refl a) (.inl h)
def Cn.trans(h:Cn E a b)(k:Cn E b c):Cn E a c:=by
 induction k with
 | refl=>show h
 | step _ e d=>show .step d e
def Cn.symm(h:Cn E a b):Cn E b a:=by
 induction h with
 | refl=>show .refl _
 | step _ e c=>show(Cn.step (.refl _) e.symm).trans c
def Cn.to{f:α->β}(h:∀x y,(x,y)∈E->Cn F (f x) (f y))(k:Cn E a b):Cn F (f a) (f b):=by
 induction k with
 | refl=>show .refl _
 | step _ e c=>
  show c.trans ?_;rcases e with e | e
  .exact h _ _ e
  show(h _ _ e).symm
theorem Cn.mono{c:List (α×α)}(h:∀p∈E,p∈c)(k:Cn E a b):Cn c a b:=Cn.to (f:=id) (λx y e=>.one (h _ e)) k
def zxa{lab:α->α}(d:∀x y,(x,y)∈E->lab x=lab y)(c:∀x,Cn E x (lab x)):lab a=lab b↔Cn E a b:=by
 constructor
 .intro h;show(c a).trans ?_;rw[h];show(c b).symm
 intro h;induction h with
 | refl=>rfl
 | step _ e f=>
  rw[f];rcases e with e | e
  .exact d _ _ e
  show(d _ _ e).symm
end
structure fb{κ α:Type}[DecidableEq κ](l:List (κ×α))(kvs:List (κ×List α)):Prop where
 nd:(kvs.map (·.1)).Nodup
 is:∀p∈kvs,p.2=(l.filter λq=>decide (q.1=p.1)).map (·.2)
 all:∀p∈l,∃g,(p.1,g)∈kvs
 ex:∀p∈kvs,∃q∈l,q.1=p.1
section
variable{κ vg α:Type}[DecidableEq κ][DecidableEq vg]{l:List (κ×α)}{kvs:List (κ×List α)}{m:List (vg×α)}{mY:List (vg×List α)}
theorem fb.nil:fb (κ:=κ) (α:=α) [] []:=⟨by show .nil,∅,∅,∅⟩
def Fh{p q:κ×List α}(nd:(kvs.map (·.1)).Nodup)(c:p∈kvs)(b:q∈kvs)(e:p.1=q.1):p=q:=by
 induction kvs with
 | nil=>cases c
 | cons a r d=>
  rw[bT,fY] at nd;rcases bE.mp c with rfl | c
  .rcases bE.mp b with rfl | b
   .rfl
   show absurd (aK.mpr ⟨q,b,e.symm⟩) nd.1
  rcases bE.mp b with z | b
  .exact absurd (aK.mpr ⟨p,c,by rw[e,z]⟩) nd.1
  show d nd.2 c b
def fb.fresh(G:fb l kvs){k:κ}{e:α}(h:∀p∈kvs,p.1≠k):fb (l++[(k,e)]) (kvs++[(k,[e])]):=by
 have f:∀p∈l,p.1≠k:=λp a z=>by
  let⟨g,c⟩:=G.all p a;show h _ c z
 show⟨?_,λp a=>?_,λp a=>?_,λp a=>?_⟩
 .rw[bX,lq];show⟨G.nd,by show jo _ _,λx hx y d z=>?_⟩;let⟨p,a,rfl⟩:=aK.mp hx;simp at d;show h p a (z.trans d)
 .rw[t5,bX];rcases bx.mp a with a | a
  .rw[<-G.is p a];have:decide (k=p.1)=false:=jW λz=>h p a z.symm
   simp[AE,this]
  simp at a;subst a;have:(l.filter λq=>decide (q.1=k))=[]:=ub.mpr λq b=>by simpa using f q b
  simp[this]
 .rcases bx.mp a with a | a
  .let⟨g,c⟩:=G.all p a;show⟨g,jn _ c⟩
  simp at a;subst a;show⟨[e],by show fT _ (.head _)⟩
 rcases bx.mp a with a | a
 .let⟨q,b,i⟩:=G.ex p a;show⟨q,jn _ b,i⟩
 simp at a;subst a;show⟨(k,e),by show fT _ (.head _),rfl⟩
def fb.more(G:fb l kvs){k:κ}{e:α}{n:Nat}{g:List α}(h:kvs[n]?\(k,g)):fb (l++[(k,e)]) (kvs.set n (k,g++[e])):=by
 have j:n<kvs.length:=(c7.mp h).1;have f:(k,g)∈kvs:=dZ h;have keys:(kvs.set n (k,g++[e])).map (·.1)=kvs.map (·.1):=by
  rw[vj];apply tY;intro i;rw[AI];split
  .rename_i z;subst z;rw[if_pos (by simpa using j),b8,h];rfl
  rfl
 have other:∀p∈kvs.set n (k,g++[e]),p=(k,g++[e])\/(p∈kvs/\p.1≠k):=λp a=>by
  let⟨i,b⟩:=iW a;rw[AI] at b;split at b
  .rename_i z;subst z;simp[j] at b;show .inl b.symm
  rename_i z;show .inr ⟨dZ b,λr=>z ?_⟩;have c:(kvs.map (·.1))[i]?\k:=by rw[b8,b];simp[r]
  have o:(kvs.map (·.1))[n]?\k:=by rw[b8,h];rfl
  have t:n<(kvs.map (·.1)).length:=(c7.mp o).1;show(tX t G.nd).mp (by rw[c,o])
 show⟨by rw[keys];show G.nd,λp a=>?_,λp a=>?_,λp a=>?_⟩
 .rw[t5,bX];rcases other p a with rfl | ⟨a,m⟩
  .have:=G.is _ f;simp only at this;simp[<-this]
  rw[<-G.is p a];have:decide (k=p.1)=false:=jW λz=>m z.symm
  simp[AE,this]
 .have:p.1∈(kvs.set n (k,g++[e])).map (·.1):=by
   rw[keys];rcases bx.mp a with a | a
   .let⟨g,s⟩:=G.all p a;show aK.mpr ⟨_,s,rfl⟩
   simp at a;subst a;show aK.mpr ⟨_,f,rfl⟩
  let⟨q,d,c⟩:=aK.mp this;show⟨q.2,by rw[<-c];show d⟩
 rcases other p a with rfl | ⟨a,m⟩
 .exact⟨(k,e),by show fT _ (.head _),rfl⟩
 let⟨q,d,c⟩:=G.ex p a;show⟨q,jn _ d,c⟩
def V4(G:fb l kvs)(M:fb m mY)(n:(l.map (·.2)).Perm (m.map (·.2)))(nd:(l.map (·.2)).Nodup)
  (b:∀p∈l,∀q∈l,∀s∈m,∀d∈m,p.2=s.2->q.2=d.2->(p.1=q.1↔s.1=d.1)) {p:κ×List α} (t:p∈kvs):∃q∈mY,q.2.Perm p.2:=by
 symm;let⟨x,hx,ex⟩:=G.ex p t;let⟨y,o,v⟩:=aK.mp (n.subset (aK.mpr ⟨x,hx,rfl⟩));let⟨g,u⟩:=M.all y o;show⟨_,u,?_⟩;have w:(m.map (·.2)).Nodup:=n.nodup_iff.mp nd;rw[G.is p t,M.is _ u];have n1:((m.filter λq=>decide (q.1=y.1)).map (·.2)).Nodup:=w.sublist ((rC).map _);have n2:((l.filter λq=>decide (q.1=p.1)).map (·.2)).Nodup:=nd.sublist ((rC).map _);show(Ew n1 n2).mpr λe=>?_
 constructor
 .intro h;symm;let⟨d,f,rfl⟩:=aK.mp h;let⟨f,r⟩:=cF.mp f;let⟨q,i,j⟩:=aK.mp (n.symm.subset (aK.mpr ⟨d,f,rfl⟩));show aK.mpr ⟨q,cF.mpr ⟨i,?_⟩,j⟩;have:=(b q i x hx d f y o j v.symm).mpr (by simpa using r);rw[ex] at this;show if_pos ‹_›
 intro h;symm;let⟨q,i,rfl⟩:=aK.mp h;let⟨i,r⟩:=cF.mp i;let⟨d,f,j⟩:=aK.mp (n.subset (aK.mpr ⟨q,i,rfl⟩));show aK.mpr ⟨d,cF.mpr ⟨f,?_⟩,j⟩;have:=(b q i x hx d f y o j.symm v.symm).mp (by rw[ex];simpa using r);show if_pos ‹_›
def zxb(G:fb l kvs)(nd:(l.map (·.2)).Nodup){p q:κ×List α}(b:p∈kvs)(d:q∈kvs)(h:p.2.Perm q.2):p=q:=by
 let⟨x,hx,ex⟩:=G.ex p b;have k:x.2∈p.2:=by rw[G.is p b];show aK.mpr ⟨x,cF.mpr ⟨hx,by show if_pos ‹_›⟩,rfl⟩
 have f:=h.subset k;rw[G.is q d] at f;let⟨y,a,m⟩:=aK.mp f;let⟨a,n⟩:=cF.mp a;have:x=y:=by
  let⟨i,e⟩:=iW hx;let⟨j,c⟩:=iW a;have g:(l.map (·.2))[i]?\x.2:=by rw[b8,e];rfl
  have e3:(l.map (·.2))[j]?\x.2:=by rw[b8,c];simp[m]
  have:i=j:=(tX (c7.mp g).1 nd).mp (by rw[g,e3]);subst this;rw[e] at c;show iu c
 subst this;show Fh G.nd b d (by rw[<-ex];simpa using n)
def zu5(G:fb l kvs)(M:fb m mY)(i:(l.map (·.2)).Perm (m.map (·.2)))(nd:(l.map (·.2)).Nodup)
  (c:∀p∈l,∀q∈l,∀r∈m,∀o∈m,p.2=r.2->q.2=o.2->(p.1=q.1↔r.1=o.1))
  {f:List α->List α} (u:∀g,(f g).Perm g) (t:∀g g',g.Perm g'->f g=f g'):(kvs.map λp=>f p.2).Perm (mY.map λp=>f p.2):=by
 have s:(m.map (·.2)).Nodup:=i.nodup_iff.mp nd;have v:∀{κ:Type}[DecidableEq κ]{l:List (κ×α)}{kvs:List (κ×List α)},fb l kvs->(l.map (·.2)).Nodup->(kvs.map λp=>f p.2).Nodup:=λ{κ} _ {l kvs} G nd=>by
  have y:kvs.Pairwise (·≠·):=by
   have:=G.nd;rw[Eu,gQ] at this;show this.imp λh z=>h (by rw[z])
  rw[Eu,gQ];show y.imp_of_mem λ{a b} k j C z=>C (zxb G nd k j ?_)
  show((u a.2).symm.trans (rm z)).trans (u b.2)
 show(Ew (v G nd) (v M s)).mpr λg=>?_
 constructor
 .intro h;let⟨p,n,rfl⟩:=aK.mp h;let⟨q,d,e⟩:=V4 G M i nd c n;show aK.mpr ⟨q,d,t _ _ e⟩
 intro h;let⟨p,n,rfl⟩:=aK.mp h;let⟨q,d,e⟩:=V4 M G i.symm s (λa k b j E w D x B A=>(c E w D x a k b j B.symm A.symm).symm) n;show aK.mpr ⟨q,d,t _ _ e⟩
end
section
variable{κ:Type}{E:List (κ×κ)}{nb:κ->List κ}{F F0:κ->Option κ}{e7:κ}{wt:List κ}
def Fg(E:List (κ×κ))(nb:κ->List κ)(F:κ->Option κ):Prop:=∀x a,F x\a->Cn E x a/\∀y∈nb x,F y=some a
structure oN(E:List (κ×κ))(nb:κ->List κ)(F0 F:κ->Option κ)(e7:κ)(wt:List κ):Prop where
 old:∀x,F0 x≠none->F x=F0 x
 new:∀x y,F x\y->F0 x=none->y=e7/\Cn E e7 x
 Dc:∀x y,F x≠none->F0 x=none->y∈nb x->F y≠none\/y∈wt
 wait:∀x∈wt,Cn E e7 x
 fst:F e7≠none\/e7∈wt
theorem oN.start:oN E nb F F e7 [e7]:=⟨λ_ _=>rfl,λx y b a=>(by rw[b] at a;cases a),λx y b a=>absurd a b,λx hx=>by
 have:x=e7:=by simpa using hx
 rw[this]
 show .refl _,.inr 'c'⟩
def oN.skip(D:oN E nb F0 F e7 (wt++[x]))(h:F x≠none):oN E nb F0 F e7 wt:=by
 show⟨D.old,D.new,λa b f e d=>?_,λa c=>D.wait a (jn _ c),?_⟩
 .rcases D.Dc a b f e d with z | z
  .exact .inl z
  rcases bx.mp z with z | z
  .exact .inr z
  have:b=x:=by simpa using z
  rw[this];show .inl h
 rcases D.fst with z | z
 .exact .inl z
 rcases bx.mp z with z | z
 .exact .inr z
 have:e7=x:=by simpa using z
 rw[this];show .inl h
def oN.take[DecidableEq κ]{x:κ}(l:∀x y,y∈nb x->(x,y)∈E\/(y,x)∈E)(D:oN E nb F0 F e7 (wt++[x]))(h:F x=none):oN E nb F0 (λy=>if y=x then some e7 else F y) e7 (wt++nb x):=by
 have h0:F0 x=none:=by
  cases e:F0 x with
  | none=>rfl
  | some a=>
   have:=D.old x (by rw[e];show nofun);rw[h,e] at this;cases this
 have k:Cn E e7 x:=D.wait x (by show fT _ (.head _));show⟨λy f=>?_,λy z c g=>?_,λa b c g i=>?_,λa d=>?_,?_⟩
 .have:y≠x:=λz=>by rw[z,h0] at f;show f rfl
  simp![if_neg this];show D.old y f
 .by_cases e:y=x
  .subst e;simp![eG,gw] at c;show⟨c.symm,k⟩
  simp![if_neg e] at c;show D.new y z c g
 .by_cases e:b=x
  .simp![if_pos e];show .inl nofun
  simp![if_neg e];by_cases j:a=x
  .subst j;show .inr (fT _ i)
  simp![if_neg j] at c;rcases D.Dc a b c g i with z | z
  .exact .inl z
  rcases bx.mp z with z | z
  .exact .inr (jn _ z)
  show absurd (by simpa using z) e
 .rcases bx.mp d with d | d
  .exact D.wait a (jn _ d)
  show .step k (l _ _ d)
 by_cases e:e7=x
 .simp![if_pos e];show .inl nofun
 simp![if_neg e];rcases D.fst with z | z
 .exact .inl z
 rcases bx.mp z with z | z
 .exact .inr (jn _ z)
 show absurd (by simpa using z) e
def oN.done(j:∀x y,y∈nb x->x∈nb y)(C:Fg E nb F0)(D:oN E nb F0 F e7 []):Fg E nb F/\F e7≠none/\∀x,F0 x≠none->F x≠none:=by
 show⟨λx a h=>?_,?_,λx h=>by rw[D.old x h];show h⟩
 .cases d:F0 x with
  | some b=>
   have:=D.old x (by rw[d];show nofun);rw[h,d] at this;cases this;let⟨c1,i⟩:=C x a d;show⟨c1,λy e=>?_⟩;rw[D.old y (by rw[i y e];show nofun)];show i y e
  | none=>
   let⟨rfl,k⟩:=D.new x a h d;show⟨k.symm,λy e=>?_⟩;rcases D.Dc x y (by rw[h];show nofun) d e with z | z
   .cases g:F y with
    | none=>show absurd g z
    | some c=>
     cases f:F0 y with
     | none=>rw[(D.new y c g f).1]
     | some b=>
      have:=(C y b f).2 x (j _ _ e);rw[d] at this;cases this
   cases z
 rcases D.fst with z | z
 .exact z
 cases z
def znK(C:Fg E nb F)(d:∀x y,(x,y)∈E->F x≠none/\y∈nb x):((F a).getD a=(F b).getD b)↔Cn E a b:=by
 show zxa (lab:=λx=>(F x).getD x) (λx y h=>?_) λx=>?_
 .let⟨g,f⟩:=d x y h;cases e:F x with
  | none=>show absurd e g
  | some c=>simp![(C x c e).2 y f,Jk]
 cases e:F x with
 | none=>show .refl _
 | some c=>show(C x c e).1
end
def Ml{α:Type}[DecidableEq α]{l ws:List α}(nd:l.Nodup)(h:∀w∈l,w∈ws):l.length<=ws.length:=by
 induction l generalizing ws with
 | nil=>simp
 | cons a r c=>
  rw[fY] at nd;have b:a∈ws:=h a 'c';have:=c (ws:=ws.erase a) nd.2 λw hw=>(Sf λ(z:w=a)=>nd.1 (z▸hw)).mpr (h w 'i')
  rw[JM b] at this;have d:0<ws.length:=Sz b;simp![cZ];lia
section
variable{κ α:Type}[DecidableEq κ]{l:List (κ×α)}{B:List (κ×List α)}{kk:κ->List Key}{dv:α->D}
def fb.len(G:fb l B):B.length<=l.length:=by
 have:=Ml G.nd (ws:=l.map (·.1)) λw hw=>by
  let⟨p,b,rfl⟩:=aK.mp hw;let⟨q,a,e⟩:=G.ex p b;show aK.mpr ⟨q,a,e⟩
 cbv
def fb.aag(G:fb l B){p:κ×List α}(a:p∈B):p.2.length<=l.length:=by
 rw[G.is p a,aE];show jE _ _
def fV(kk:κ->List Key)(dv:α->D)(B:List (κ×List α)):List (List Key×List D):=B.map λp=>(kk p.1,p.2.map dv)
def UQ(inj:∀a b,kk a=kk b->a=b)(x:κ):((fV kk dv B).any λkv=>decide (kv.1=kk x))=B.any λp=>decide (p.1=x):=by
 unfold fV;rw[qZ];congr 1
 funext p
 simp![Ee];by_cases h:p.1=x
 .simp[h]
 rw[jW h,jW λz=>h (inj _ _ z)]
def Li(inj:∀a b,kk a=kk b->a=b)(G:fb l B)(x:κ)(e:α):∃n ds s,(hE (fV kk dv B) (kk x))[n]?\(kk x,ds)/\(∀f<n,∀p,(hE (fV kk dv B) (kk x))[f]?\p->p.1≠kk x)/\
  (hE (fV kk dv B) (kk x)).set n (kk x,ds++[dv e])=fV kk dv s/\fb (l++[(x,e)]) s/\ds.length<=l.length:=by
 by_cases h:∃p∈B,p.1=x
 .obtain⟨⟨y,g⟩,d,rfl⟩:=h;have m:((fV kk dv B).any λkv=>decide (kv.1=kk y))=true:=by
   rw[UQ inj];show xO.mpr ⟨_,d,∅⟩
  let⟨n,k⟩:=iW d;have i:hE (fV kk dv B) (kk y)=fV kk dv B:=by unfold hE;rw[if_pos m]
  rw[i];show⟨n,g.map dv,B.set n (y,g++[e]),?_,λf u p c z=>?_,?_,G.more k,?_⟩
  .unfold fV;rw[b8,k];rfl
  .unfold fV at c;rw[b8] at c;let⟨q,j,rfl⟩:=jZ.mp c;have v:q.1=y:=inj _ _ z;have i1:(B.map (·.1))[f]?\y:=by rw[b8,j];simp[v]
   have t:(B.map (·.1))[n]?\y:=by rw[b8,k];rfl
   have:f=n:=(tX (c7.mp i1).1 G.nd).mp (i1.trans t.symm);cbv
  .unfold fV;rw[vj,bX];rfl
  rw[aE];show G.aag d
 have o:∀p∈B,p.1≠x:=λp d z=>h ⟨p,d,z⟩
 have m:¬((fV kk dv B).any λkv=>decide (kv.1=kk x))=true:=by
  rw[UQ inj,xO];rintro⟨p,d,z⟩;show o p d (by simpa using z)
 have i:hE (fV kk dv B) (kk x)=fV kk dv B++[(kk x,[])]:=by unfold hE;rw[if_neg m]
 have r:(fV kk dv B).length=B.length:=by show aE ..
 rw[i];show⟨B.length,[],B++[(x,[e])],by rw[<-r];simp,λf u p c z=>?_,?_,G.fresh o,b9 _⟩
 .rw[S5 'g'] at c;unfold fV at c;rw[b8] at c;let⟨q,j,rfl⟩:=jZ.mp c;show o q (dZ j) (inj _ _ z)
 rw[<-r,Sn _ _ (bB _),QV];unfold fV;rw[bX];rfl
end
section
variable{κ α:Type}[DecidableEq κ]{F:List (κ×α)}{kk:κ->List Key}{dv:α->D}
def cL(F:List (κ×α))(x:κ):Option α:=(F.find? λp=>decide (p.1=x)).map (·.2)
def fJ(kk:κ->List Key)(dv:α->D)(F:List (κ×α)):List (List Key×D):=F.map λp=>(kk p.1,dv p.2)
def FD(inj:∀a b,kk a=kk b->a=b)(x:κ):lO (fJ kk dv F) (kk x)=(cL F x).map dv:=by
 unfold lO fJ cL;induction F with
 | nil=>rfl
 | cons p r c=>
  rw[bT,oY,oY];by_cases h:p.1=x
  .simp[h]
  rw[jW h,jW λz=>h (inj _ _ z)];show c
def FC(x y:κ)(a:α)(h:cL F x=none):cL (F++[(x,a)]) y=if y=x then some a else cL F y:=by
 unfold cL at h ⊢;rw[RT];by_cases e:y=x
 .subst e;rw[AN] at h;rw[h,if_pos rfl];simp
 rw[if_neg e];have:[(x,a)].find? (λp=>decide (p.1=y))=none:=by simp[Ne.symm e]
 rw[this,Option.or_none]
def Wt(inj:∀a b,kk a=kk b->a=b)(x:κ)(a:α)(h:cL F x=none):rQ (fJ kk dv F) (kk x) (dv a)=fJ kk dv (F++[(x,a)]):=by
 have e:¬((fJ kk dv F).any λkv=>decide (kv.1=kk x))=true:=by
  rw[xO];rintro⟨p,d,z⟩;let⟨q,c,rfl⟩:=aK.mp d;have f:q.1=x:=inj _ _ (by simpa using z);unfold cL at h;rw[AN,Ea] at h;show h q c 'l'
 unfold rQ;rw[if_neg e];unfold fJ;rw[bX];rfl
end
def iz(x y:EK):Bool:=!Ts.cS y x
def Ws(a b c)(f:iz a b=true)(d:iz b c=true):iz a c=true:=by
 unfold iz at *;simp![lh] at *;cases h:Ts.cS c a with
 | false=>rfl
 | true=>
  by_cases e:a=b
  .subst e;rw[d] at h;cases h
  rcases Ts.tE.y7 _ _ e with z | z
  .rw[Ts.tE.tr _ _ _ h z] at d;cases d
  rw[z] at f;cases f
def Xl(a b):(iz a b||iz b a)=true:=by
 unfold iz;cases d:Ts.cS b a<;>cases c:Ts.cS a b<;>simp
 have:=Ts.tE.tr _ _ _ d c;rw[Ts.tE.ir] at this;cases this
def MB(a b)(d:iz a b=true)(c:iz b a=true):a=b:=by
 unfold iz at *;show JP λe=>?_
 rcases Ts.tE.y7 _ _ e with z | z
 .rw[z] at c;cases c
 rw[z] at d;cases d
def sK(g:List EK):List EK:=g.mergeSort iz
theorem lS(g):(sK g).Perm g:=Ed _ _
theorem Bx{α:Type}{le:α->α->Prop}:∀{l m:List α},(∀a∈l,∀b∈l,le a b->le b a->a=b)->l.Perm m->l.Pairwise le->m.Pairwise le->l=m
 | [],m,_,p,_,_=>p.nil_eq
 | a::l,[],_,p,_,_=>absurd p.length_eq 'g'
 | a::l,b::m,an,p,h,g=>by
  have c:b∈a::l:=p.symm.subset et;have f:a∈b::m:=p.subset et;let⟨i,j⟩:=iV.mp h;let⟨k,n⟩:=iV.mp g;have e:a=b:=by
   rcases bE.mp c with z | z
   .exact z.symm
   rcases bE.mp f with y | y
   .exact y
   show an _ et _ c (i _ z) (k _ y)
  subst e;rw[Bx (λx hx y d=>an x (cJ _ hx) y (cJ _ d)) ((Ro a).mp p) j n]
theorem KY(g):(sK g).Pairwise (λx y=>iz x y=true):=Eo Ws Xl g
theorem UP(h:g.Perm g'):sK g=sK g':=Bx (λa _ b _=>MB a b) (((lS g).trans h).trans (lS g').symm) (KY g) (KY g')
theorem Kq(h:s.Perm g)(p:s.Pairwise (λx y=>Ts.cS y x=false)):s=sK g:=
 Bx (le:=λx y=>iz x y=true) (λa _ b _=>MB a b) (h.trans (lS g).symm) (p.imp λh=>by unfold iz;rw[h];rfl) (KY g)
def V3(h:g≠[]):bR (sK g)∈g:=by
 cases e:sK g with
 | nil=>show absurd (IL.mp ((lS g).symm.trans (rm e))) h
 | cons a r=>show(lS g).subset (by rw[e];show et)
def kR(a:List (List EK)):List (List EK):=a.mergeSort λx y=>iz (bR x) (bR y)
theorem uu(g):(kR g).Perm g:=Ed _ _
theorem Lh(g):(kR g).Pairwise (λx y=>iz (bR x) (bR y)=true):=Eo (le:=λx y=>iz (bR x) (bR y)) (λa b c=>Ws (bR a) (bR b) (bR c)) (λa b=>Xl (bR a) (bR b)) g
theorem UO{c:List (List EK)}(nd:(c.map bR).Nodup):∀a∈c,∀b∈c,iz (bR a) (bR b)=true->iz (bR b) (bR a)=true->a=b:=λa k b h m l=>by
 have e:=MB _ _ m l;let⟨i,f⟩:=iW k;let⟨j,d⟩:=iW h;have g:(c.map bR)[i]?\bR a:=by rw[b8,f];rfl
 have n:(c.map bR)[j]?\bR a:=by rw[b8,d,e];rfl
 have:i=j:=(tX (c7.mp g).1 nd).mp (g.trans n.symm);subst this;rw[f] at d;show iu d
def UN(nd:(c.map bR).Nodup)(h:s.Perm c)(p:s.Pairwise (λx y=>Ts.cS (bR y) (bR x)=false)):s=kR c:=by
 show Bx (le:=λx y=>iz (bR x) (bR y)=true) (λa e b d=>UO nd a (h.subset e) b (h.subset d)) (h.trans (uu c).symm) (p.imp λh=>?_) (Lh c);unfold iz;rw[h];rfl
theorem zu7(nd:(c.map bR).Nodup)(h:c.Perm d):kR c=kR d:=
 Bx (λa f b e=>UO nd a ((uu c).subset f) b ((uu c).subset e)) (((uu c).trans h).trans (uu d).symm) (Lh c) (Lh d)
section
variable{κ vg:Type}[DecidableEq κ][DecidableEq vg]{l:List (κ×EK)}{kvs:List (κ×List EK)}{m:List (vg×EK)}{mY:List (vg×List EK)}
def fb.NU(G:fb l kvs){p:κ×List EK}(h:p∈kvs):p.2≠[]:=by
 let⟨q,b,e⟩:=G.ex p h;rw[G.is p h];show R3 (a:=q.2) (aK.mpr ⟨q,cF.mpr ⟨b,by simpa using e⟩,rfl⟩)
def fb.atK(G:fb l kvs)(nd:(l.map (·.2)).Nodup){p q:κ×List EK}(d:p∈kvs)(c:q∈kvs){e:EK}(h:e∈p.2)(g:e∈q.2):p=q:=by
 rw[G.is p d] at h;rw[G.is q c] at g;let⟨x,hx,ex⟩:=aK.mp h;let⟨y,a,k⟩:=aK.mp g;let⟨hx,o⟩:=cF.mp hx;let⟨a,n⟩:=cF.mp a;have:x=y:=by
  let⟨i,f⟩:=iW hx;let⟨j,b⟩:=iW a;have e3:(l.map (·.2))[i]?\e:=by rw[b8,f];simp[ex]
  have m:(l.map (·.2))[j]?\e:=by rw[b8,b];simp[k]
  have:i=j:=(tX (c7.mp e3).1 nd).mp (e3.trans m.symm);subst this;rw[f] at b;show iu b
 subst this;show Fh G.nd d c ?_;have a1:x.1=p.1:=by simpa using o
 have a2:x.1=q.1:=by simpa using n
 rw[<-a1,a2]
def fb.OJ(G:fb l kvs)(nd:(l.map (·.2)).Nodup):((kvs.map λp=>sK p.2).map bR).Nodup:=by
 have e:kvs.Pairwise (·≠·):=by
  have:=G.nd;rw[Eu,gQ] at this;show this.imp λh z=>h (by rw[z])
 rw[bz,Eu,gQ];show e.imp_of_mem λ{a b} d c f z=>f (G.atK nd d c (V3 (G.NU d)) ?_)
 have z:bR (sK a.2)=bR (sK b.2):=z;rw[z];show V3 (G.NU c)
theorem zsn(G:fb l kvs)(M:fb m mY)(d:(l.map (·.2)).Perm (m.map (·.2)))(nd:(l.map (·.2)).Nodup)
  (a:∀p∈l,∀q∈l,∀c∈m,∀b∈m,p.2=c.2->q.2=b.2->(p.1=q.1↔c.1=b.1)):kR (kvs.map λp=>sK p.2)=kR (mY.map λp=>sK p.2):=
 zu7 (G.OJ nd) (zu5 G M d nd a lS λ_ _=>UP)
end
theorem Wr:∀x:EK,kN (x.map i6)\x
 | []=>rfl
 | k::r=>by
  rw[bT];unfold kN;rw[Wr r];cases k<;>rfl
def fD(p:EK×EK):D:=.tup [aN p.1,aN p.2]
def kk(x:EK):List Key:=x
theorem Bn(x):kN (x.map i6)\kk x:=Wr x
theorem si:∀a b:EK,kk a=kk b->a=b:=λ_ _ h=>h
def qp(a:List (EK×EK)):List (EK×EK):=a.flatMap λp=>[(p.1,p.2),(p.2,p.1)]
def pH(a:List (EK×EK))(x:EK):List EK:=((qp a).filter λq=>decide (q.1=x)).map (·.2)
def Zw:(x,y)∈qp a↔(x,y)∈a\/(y,x)∈a:=by
 unfold qp;simp![nI,bE,jX,or_false,QA.injEq];constructor
 .rintro⟨p,b,⟨rfl,rfl⟩ | ⟨rfl,rfl⟩⟩
  .exact .inl b
  show .inr b
 rintro(h | h)
 .exact⟨_,h,.inl ⟨rfl,rfl⟩⟩
 show⟨_,h,.inr ⟨rfl,rfl⟩⟩
def zc:y∈pH c x↔(x,y)∈c\/(y,x)∈c:=by
 rw[<-Zw];unfold pH;rw[aK];constructor
 .rintro⟨⟨a,b⟩,h,rfl⟩;let⟨e,d⟩:=cF.mp h;have:a=x:=by simpa using d
  rw[<-this];show e
 intro h;show⟨(x,y),cF.mpr ⟨h,∅⟩,rfl⟩
def rH(B:List (EK×List EK))(F:List (EK×EK)):Nat:=((B.filter λp=>(cL F p.1).isNone).map λp=>1+p.2.length).sum
theorem Xk(hx:cL F x=none):∀{B},(B.map (·.1)).Nodup->(x,g)∈B->rH B (F++[(x,a)])+(1+g.length)<=rH B F
 | [],_,h=>by cases h
 | p::B,nd,h=>by
  rw[bT,fY] at nd;unfold rH;by_cases c:p.1=x
  .have b:p=(x,g):=by
    rcases bE.mp h with z | z
    .exact z.symm
    show absurd (aK.mpr ⟨_,z,c.symm⟩) nd.1
   subst b;have j:(cL (F++[(x,a)]) x).isNone=false:=by rw[FC _ _ _ hx,if_pos rfl];rfl
   have k:(cL F x).isNone=true:=by rw[hx];rfl
   rw[ud (by simp[j]),uc (by trivial),bT,DL];have:((B.filter λp=>(cL (F++[(x,a)]) p.1).isNone).map λp=>1+p.2.length).sum=((B.filter λp=>(cL F p.1).isNone).map λp=>1+p.2.length).sum:=by
    congr 2
    show List.filter_congr λq i=>?_
    have:q.1≠x:=λz=>nd.1 (aK.mpr ⟨q,i,z⟩)
    rw[FC _ _ _ hx,if_neg this]
   simp only;lia
  have f:=Xk (F:=F) (a:=a) hx nd.2 (by
   rcases bE.mp h with z | z
   .exact absurd (by rw[<-z]) c
   .exact z)
  unfold rH at f;have e:(cL (F++[(x,a)]) p.1).isNone=(cL F p.1).isNone:=by rw[FC _ _ _ hx,if_neg c]
  cases d:(cL F p.1).isNone with
  | true=>
   rw[uc (by rw[e,d]),uc (by trivial),bT,bT,DL,DL];lia
  | false=>
   rw[ud (by rw[e,d];show jk),ud (by rw[d];show jk)];show f
def zu8(h:∀p∈B,p.2.length<=k):rH B F<=B.length*(1+k):=by
 have:∀a:List (EK×List EK),(∀p∈a,p.2.length<=k)->(a.map λp=>1+p.2.length).sum<=a.length*(1+k):=λa=>by
  induction a with
  | nil=>intro _;show b9 _
  | cons p r b=>
   intro h;rw[bT,DL,cZ,tR];have:=b λq c=>h q (cJ _ c)
   have:=h p et;ext
 show bK (this _ λp d=>h p (cF.mp d).1) ?_;show Jx _ (jE _ _)
def V2(b):(qp b).length=2*b.length:=by
 unfold qp;induction b with
 | nil=>rfl
 | cons a r c=>rw[iU,bP,c];simp;lia
def B9:bF:=λds Q=>∃links:List (EK×EK),ds=[.lst (links.map fD)]/\links.length<=1600/\∀F:List (EK×EK),(∀a b,(cL F a).getD a=(cL F b).getD b↔Cn links a b)->F.length<=3200->Q (.ov (.dq (fJ kk aN F)))
def PQ:(T:TX) ×' ∀{P w K mg base},Txt K mg->dr P w K mg base 0 "firsts_of" ["links","beside","one","other","firsts","first","waiting","strand"] (top 28) T:=
 ⟨_,λT nd f c A outer s H E b=>have a:=b.units;
 (aB (hJ 1 WD nd)
   (aB (fe eE rfl (cI (ae 0)) (fh (n:=2) rfl (bI (aJ 2 nd) (bI (aJ 3 nd) eU)))
    (aB (KR a 1 (ae 2) (ae 3))
   (aO (KR a 1 (ae 3) (ae 2)))))
   (aB (hJ 4 zrU nd)
   (mN 1 (aB (fe eE rfl (zr1 (ae 1)) (aJ 5 nd)
    (aB (hJ 6 (cQ (ah (ae 5) aq)) nd)
   (aO (LW eE (bj uf (Bk 6 T.b_len) av) (aB (zpE 7 6 (hnd:=nd))
   (aO (df (Wm 4 (bj (zrT a) (ae 7) (ae 4))) (aB (zuJ a 4 (ae 7) (ae 5))
   (aO (zuK 6 (Lq a (ae 1) (ae 7))))) c8)))))))
   (aO (zuy 4)))))))⟩
def MM:TX:=PQ.1
def zhJ:cU 1 B9 MM 8:=by
 intro ds Qr hl h;let⟨links,rfl,wR,q⟩:=h;show MM _ [.fz (.lst (links.map fD)),.un,.un,.un,.un,.un,.un,.un];unfold MM PQ;dsimp only;have big:=dn;lk;walk;let J1:TJ:=λi ρ=>∃(B:List (EK×List EK))(a c:Sl),fb (qp (links.take i)) B/\ρ=[.fz (.lst (links.map fD)),.ov (.dt (fV kk aN B)),a,c,.un,.un,.un,.un]
 show nY links fD (λQ' h=>?_) J1 ⟨[],_,_,by show .nil,rfl⟩ ?_ ?_
 .lk;show h
 .rintro i ⟨x,y⟩ ρ u ⟨B,a,c,G,rfl⟩;have tk:qp (links.take (i+1))=qp (links.take i)++[(x,y)]++[(y,x)]:=by
   unfold qp;rw[fG,u,qi];simp
  have l1:=V2 (links.take i);have l2:(links.take i).length<=1600:=by rw[cN];lia
  have g1:=G.len;let⟨n1,Pe,X,s1,s2,s3,V,s4⟩:=Li (dv:=aN) si G x y;let⟨n2,M,B2,t1,Y,t3,U,P⟩:=Li (dv:=aN) si V y x;have g2:=V.len;rw[bP] at g2 P;simp![cZ,rj] at g2 P;have k1:(fV kk aN B).length=B.length:=by show aE ..
  have k2:(fV kk aN X).length=X.length:=by show aE ..
  rw[<-tk] at U;rw[show fD (x,y)=.tup [.tup (x.map i6),.tup (y.map i6)] from rfl];lk;show⟨_,n1,Pe,Bn x,by lia,s1,s2,by lia,?_⟩;rw[show D.tup (y.map i6)=aN y from rfl,s3];walk;show⟨_,n2,M,Bn y,by lia,t1,Y,by lia,?_⟩;rw[show D.tup (x.map i6)=aN x from rfl,t3];show⟨B2,_,_,U,rfl⟩
 rintro ρ ⟨B,a,c,G,rfl⟩;rw[gk] at G;have g1:=G.len;have g2:=V2 links;have gl:∀p∈B,p.2.length<=3200:=λp d=>bK (G.aag d) 'a'
 have bs:∀F,rH B F<=3200*3201:=λF=>bK (zu8 gl) (Aw 'a' 'g')
 have N:∀x y,y∈pH links x->x∈pH links y:=λx y h=>zc.mpr (zc.mp h).symm
 have J:∀x y,y∈pH links x->(x,y)∈links\/(y,x)∈links:=λx y h=>zc.mp h
 have Q:∀x y,y∈pH links x->y∈B.map (·.1):=λx y h=>by
  have:(y,x)∈qp links:=Zw.mpr (zc.mp h).symm;let⟨g,s⟩:=G.all _ this;show aK.mpr ⟨_,s,rfl⟩
 have S:∀x∈B.map (·.1),∃g,(x,g)∈B/\g=pH links x:=λx hx=>by
  let⟨p,d,rfl⟩:=aK.mp hx;show⟨p.2,d,G.is p d⟩
 have lB:∀x∈B.map (·.1),lO (fJ kk (λg:List EK=>D.lst (g.map aN)) B) (kk x)=some (.lst ((pH links x).map aN)):=λx hx=>by
  rw[FD si];let⟨g,s,e⟩:=S x hx;have:cL B x\g:=by
   unfold cL;cases hf:B.find? λp=>decide (p.1=x) with
   | none=>show absurd ∅ (Ea.mp hf _ s)
   | some p=>
    have h1:=List.find?_some hf;have h2:=List.mem_of_find?_eq_some hf;rw[Fh G.nd h2 s (by simpa using h1)];rfl
  rw[this,e];rfl
 have eD:(OV.dt (fV kk aN B)).val=.dit (fJ kk (λg:List EK=>D.lst (g.map aN)) B):=by
  show D.dit _=_;unfold fV fJ;rw[bz];rfl
 walk;walk;rw[eD];let J2:TJ:=λi ρ=>∃(F:List (EK×EK))(s5 A j:Sl),Fg links (pH links) (cL F)/\(∀x∈(B.map (·.1)).take i,cL F x≠none)/\(F.map (·.1)).Nodup/\(∀p∈F,p.1∈B.map (·.1))/\ρ=[.fz (.lst (links.map fD)),.fz (.dit (fJ kk (λg:List EK=>D.lst (g.map aN)) B)),a,c,.ov (.dq (fJ kk aN F)),s5,A,j]
 show nY (B.map (·.1)) aN (λQ' h=>?_) J2 ⟨[],_,_,_,λx a h=>(by cases h),λx hx=>by simp at hx,by show .nil,∅,rfl⟩ ?_ ?_
 .lk;unfold fJ;rw[bz];have e:((λp:List Key×D=>JS p.1)∘λp:EK×List EK=>(kk p.1,D.lst (p.2.map aN)))=aN∘(λp:EK×List EK=>p.1):=rfl;rw[e,<-bz];show h
 .rintro i f ρ u ⟨W,s5,A,j,C0,Z8,E,I,rfl⟩;have K:f∈B.map (·.1):=dZ u;lk;show⟨by show gh _,?_⟩;walk;have Z:∀F:List (EK×EK),(F.map (·.1)).Nodup->(∀p∈F,p.1∈B.map (·.1))->F.length<=3200:=λF nd t=>by
   have:=Ml nd (ws:=B.map (·.1)) λw hw=>by
    let⟨p,d,rfl⟩:=aK.mp hw;show t p d
   rw[aE,aE] at this;lia
  let J3:TJ:=λm ρ=>∃(F:List (EK×EK))(o:List EK)(j:Sl),m=rH B F+o.length/\m<=3200*3201+1/\oN links (pH links) (cL W) (cL F) f o/\(F.map (·.1)).Nodup/\(∀p∈F,p.1∈B.map (·.1))/\(∀x∈o,x∈B.map (·.1))/\ρ=[.fz (.lst (links.map fD)),.fz (.dit (fJ kk (λg:List EK=>D.lst (g.map aN)) B)),a,c,.ov (.dq (fJ kk aN F)),.fz (aN f),.ow (o.map aN),j]
  show⟨J3,⟨_,W,[f],j,rfl,by cbv,oN.start,E,I,λx hx=>by rw[cG.mp hx];show K,rfl⟩,?_⟩;rintro m ρ ⟨F,o,j,rfl,hm,v,nd,t,hw,rfl⟩;rcases List.eq_nil_or_concat o with rfl | ⟨wr,x,rfl⟩
  .lk;let⟨d1,d2,d3⟩:=v.done N C0;show⟨F,_,_,_,d1,λx hx=>?_,nd,t,rfl⟩;rw[fG,u] at hx;rcases bx.mp hx with hx | hx
   .exact d3 x (Z8 x hx)
   have:x=f:=by show cG.1 ‹_›
   rw[this];show d2
  rw[List.concat_eq_append] at v hw hm ⊢;have O:x∈B.map (·.1):=hw x (by show fT _ (.head _));have T:∀y∈wr,y∈B.map (·.1):=λy n=>hw y (jn _ n)
  have lw:((wr++[x]).map aN).length=wr.length+1:=by simp
  have dl:((wr++[x]).map aN).dropLast=wr.map aN:=by simp
  have ls:((wr++[x]).map aN)[wr.length+1-1]?\aN x:=by simp
  have lc:rH B F+(wr++[x]).length=rH B F+wr.length+1:=by simp;rfl
  obtain⟨L,he,r⟩:∃L,aN x=.tup L/\kN L\kk x:=⟨_,rfl,Bn x⟩
  lk;rw[lw,if_pos 'g'];show⟨_,ls,?_⟩;rw[dl,he];walk;show⟨_,r,?_⟩;rw[FD si];cases hx:cL F x with
  | some y=>
   show⟨_,?_,F,wr,_,rfl,?_,v.skip (by rw[hx];show nofun),nd,t,T,rfl⟩
   .simp_all
   lia
  | none=>
   lk;have R:=Z F nd t;have kq:(fJ kk aN F).length=F.length:=by show aE ..
   show⟨_,r,by lia,?_⟩;rw[Wt si x f hx];walk;show⟨_,_,r,lB x O,?_⟩;let⟨g,s,rfl⟩:=S x O;have tt:=Xk (a:=f) hx G.nd s;show⟨by simp![aE];lia,?_⟩;show⟨_,?_,F++[(x,f)],wr++pH links x,_,rfl,?_,?_,?_,?_,?_,by rw[bX]⟩
   .simp![bP] at *;lia
   .simp![bP] at *;lia
   .have:=v.take J hx;have e:(λy=>if y=x then some f else cL F y)=cL (F++[(x,f)]):=funext λy=>(FC x y f hx).symm
    rw[<-e];show this
   .rw[bX];show lq.mpr ⟨nd,by show jo _ _,λa ha b hb z=>?_⟩;have jz:b=x:=by show cG.1 ‹_›
    subst jz;subst z;let⟨p,d,e⟩:=aK.mp ha;unfold cL at hx;rw[AN,Ea] at hx;show hx p d (by simpa using e)
   .intro p d;rcases bx.mp d with d | d
    .exact t p d
    have:p=(x,f):=by simpa using d
    rw[this];show O
   intro y n;rcases bx.mp n with n | n
   .exact T y n
   show Q x y n
 rintro ρ ⟨F,s5,A,j,C,r,nd,H,rfl⟩;rw[gk] at r;have R:F.length<=3200:=by
  have:=Ml nd (ws:=B.map (·.1)) λw hw=>by
   let⟨p,d,rfl⟩:=aK.mp hw;show H p d
  rw[aE,aE] at this;lia
 have:=q F (λa b=>znK C λx y h=>⟨r x (Q y x (zc.mpr (.inr h))),zc.mpr (.inl h)⟩) R;show this
end Wc
open PySem L2 PyProof.Rows Wc
local macro_rules | `(tactic| lk)=>`(tactic| (repeat(first | walk_at"b" | dsimp only[$[$(qn "yj vY uj yh r8 yx yI vU yg rJ qr rK sN ym yf yd xY yc yJ yn ye vI Vl yw yu qI rS uh yt qu yi"):ident],*] | simp only[lR])))
namespace Wc
open PySem L2 PyProof.Rows
def znL{α:Type}(L:List α)(b f)(hw:∀e:List D->Prop,e (L.map b)->c ρ e)(n:L.length<=sizeLine)
  (h:∀x∈L,∀j,j (f x)->g (b x) (gZ m ρ) λl=>te l λr=>rW r j) (q:Q (.ov (.ll (L.map f)))):yy c m g nQ te ρ Q:=by
 show hw _ ⟨λi acc=>acc=(L.take i).map f,by rfl,λi d acc hd a=>?_,λacc a=>?_⟩
 .subst a;rw[b8] at hd;cases hx:L[i]? with
  | none=>rw[hx] at hd;cases hd
  | some x=>
   rw[hx] at hd;cases hd;have o:i<L.length:=(c7.mp hx).1;have:=h x (dZ hx) (λk=>((L.take i).map f).length<sizeLine/\(L.take i).map f++[k]=(L.take (i+1)).map f) ⟨by simp;lia,by rw[fG,hx];simp⟩;show this
 subst a;simpa using q
def oF(p:EK×EK):D:=.tup [aN p.1,aN p.2]
def Gd(d:List (EK×EK))(c:List (EK×EK))(gss:List (List EK)):Prop:=∃(lab:EK->EK)(kvs:List (EK×List EK)),(∀a b,lab a=lab b↔Cn c a b)/\fb (d.map λp=>(lab p.1,p.2)) kvs/\gss=kR (kvs.map λp=>sK p.2)
def BD:bF:=λds Q=>∃a sh ends links,ds=[.lst (ends.map oF),.lst (links.map fD)]/\links.length<=1600/\ends.length<=20000/\(∀p∈ends,lY p.2=a::sh)/\(ends.map (·.2)).Nodup/\∀gss,Gd ends links gss->Q (.ov (.ll (gss.map λg=>g.map aN)))
def PN:(T:TX) ×' ∀{P w K mg base},Txt K mg->~~~1 "firsts_of" 1 B9->dr P w K mg base 1 "grouped" ["ends","links","firsts","groups","strand","end"] (top 27) T:=
 ⟨_,λT zU nd f d A outer s H E b=>have a:=b.units;
 (aB (bM 2 (bU zU b (ah (ae 1) aq)) nd)
   (aB (hJ 3 WD nd)
   (aB (fe eE rfl (cI (ae 0)) (fh (n:=2) rfl (bI (aJ 4 nd) (bI (aJ 5 nd) eU)))
    (aO (KR a 3 (zrV a (ae 2) (ae 4) (ae 4)) (ae 5))))
   (mN 3 (aO (cE (znE (C:=(λ_=>True)) (λn _ _=>Ts.y9 n) a T.b_sorted (F6 rfl (.of (N':=["group"]) (m:=[none]) 'b') cO (zpB (ae 3)) (λs3 c ex=>(aJ 0 pA)) (λs3 c ex=>eY) (λs3 c ex=>(de (FV (C:=(λ_=>True)) (λn _ _=>Ts.y9 n) rfl) T.b_sorted qe (ah (ae 0) aq)))))))))))⟩
def Mj:TX:=PN.1
def zkv:cU 2 BD Mj 6:=by
 intro ds T hl h;symm;let⟨r,sh,ends,links,rfl,A,hle,E,nd,q⟩:=h;show Mj _ [.fz (.lst (ends.map oF)),.fz (.lst (links.map fD)),.un,.un,.un,.un];unfold Mj PN;dsimp only;have big:=dn;lk;show⟨links,rfl,A,λF K _=>?_⟩;walk;walk;have s:∀k,(((ends.take k).map λp:EK×EK=>(((cL F p.1).getD p.1,p.2):EK×EK))).length<=20000:=λk=>by
  rw[aE,cN];lia
 let P:TJ:=λi ρ=>∃(B:List (EK×List EK))(a c:Sl),fb ((ends.take i).map λp=>((cL F p.1).getD p.1,p.2)) B/\ρ=[.fz (.lst (ends.map oF)),.fz (.lst (links.map fD)),.fz (.dit (fJ kk aN F)),.ov (.dt (fV kk aN B)),a,c]
 show nY ends oF (λN h=>?_) P ⟨[],_,_,by show .nil,rfl⟩ ?_ ?_
 .lk;show h
 .rintro i ⟨x,f⟩ ρ J ⟨B,a,c,G,rfl⟩;let⟨n1,O,Q,s1,s2,s3,v,s4⟩:=Li (dv:=aN) si G ((cL F x).getD x) f;have g1:=G.len;have g2:=s i;have k1:(fV kk aN B).length=B.length:=by show aE ..
  obtain⟨d,he,I⟩:∃d,aN x=.tup d/\kN d\kk x:=⟨_,rfl,Bn x⟩
  have M:((lO (fJ kk aN F) (kk x)).getD (.tup d))=aN ((cL F x).getD x):=by
   rw[FD si,<-he];cases cL F x<;>rfl
  obtain⟨j,C,w⟩:∃j,aN ((cL F x).getD x)=.tup j/\kN j\kk ((cL F x).getD x):=⟨_,rfl,Bn _⟩
  have tk:(ends.take (i+1)).map (λp=>((cL F p.1).getD p.1,p.2))=(ends.take i).map (λp=>((cL F p.1).getD p.1,p.2))++[((cL F x).getD x,f)]:=by
   rw[fG,J,bX];rfl
  rw[<-tk] at v;rw[show oF (x,f)=.tup [aN x,aN f] from rfl,he];lk;show⟨_,I,?_⟩;rw[M,C];lk;show⟨_,n1,O,w,by lia,s1,s2,by lia,?_⟩;rw[s3];show⟨Q,_,_,v,rfl⟩
 rintro ρ ⟨B,a,c,G,rfl⟩;rw[gk] at G;have g1:=G.len;rw[aE] at g1;have t:((ends.map λp=>((cL F p.1).getD p.1,p.2)).map (·.2)).Nodup:=by
  rw[bz];show nd
 have u:∀p∈B,∀e∈p.2,lY e=r::sh:=λp b e he=>by
  rw[G.is p b] at he;let⟨x,hx,rfl⟩:=aK.mp he;let⟨y,H,rfl⟩:=aK.mp (cF.mp hx).1;show E y H
 have L:(OV.dt (fV kk aN B)).val=.dit (fJ kk (λg:List EK=>D.lst (g.map aN)) B):=by
  show D.dit _=_;unfold fV fJ;rw[bz];rfl
 walk;rw[L];show znL B (λp=>D.lst (p.2.map aN)) (λp=>(sK p.2).map aN) (λN h=>?_) 'a' (λp b U k1=>?_) ?_
 .lk;unfold fJ;rw[bz];show h
 .lk;show⟨r,sh,p.2,rfl,u p b,λR o n=>?_⟩;rw[Kq o n];show k1
 show⟨r::sh,B.map λp=>sK p.2,by rw[bz];rfl,λg m e he=>?_,λg m=>?_,G.OJ t,λS o n=>?_⟩
 .let⟨p,b,rfl⟩:=aK.mp m;show u p b e ((lS p.2).subset he)
 .let⟨p,b,rfl⟩:=aK.mp m;show λz=>G.NU b (IL.mp ((lS p.2).symm.trans (rm z)))
 rw[UN (G.OJ t) o n];show q _ ⟨_,B,K,G,rfl⟩
end Wc
open PySem L2 PyProof.Rows Wc
local macro_rules | `(tactic| lk)=>`(tactic| (repeat(first | walk_at"b" | dsimp only[$[$(qn "yj vY uj yh r8 yx yI vU yg rJ qr rK sN ym yf yd xY yc yJ yn ye vI yw yu qI rS uh yt qu yi"):ident],*] | simp only[lR])))
namespace Wc
open PySem L2 PyProof.Rows
theorem Vz:∀a b:EK,kj (a.map i6) (b.map i6)=decide (a=b)
 | [],[]=>rfl
 | [],_::_=>rfl
 | _::_,[]=>rfl
 | x::a,y::b=>by
  rw[bT,bT,kj,Vz a b];have:cV (i6 x) (i6 y)=decide (x=y):=by
   cases x<;>cases y<;>simp[i6,cV]
   all_goals (rw[xJ];simp)
  rw[this,xJ];simp
def zxc(a b):cV (aN a) (aN b)=decide (a=b):=by
 show Vz a b
def mH(a:EK)(g:List EK):Bool:=g.any λx=>decide (x=a)
def N1:mH a g=true↔a∈g:=by
 unfold mH;rw[xO]
 show⟨λ⟨x,h,e⟩=>by
  have:x=a:=by simpa using e
  show this▸h,λh=>⟨a,h,∅⟩⟩
def UM(a g):inD (aN a) (g.map aN)=mH a g:=by
 unfold inD mH;rw[qZ];congr 1
 funext x
 show zxc x a
def Bb(a n):bN (n+1) (aN a):=by
 intro d hd;let⟨k,z,rfl⟩:=aK.mp hd;cases k<;>(cases n<;>trivial)
theorem ES(g:List EK):∀e∈g.map aN,bN 8 e:=λe he=>by
 let⟨a,z,rfl⟩:=aK.mp he;show Bb a 7
def gn(p:EK×EK)(g:List EK):Bool:=mH p.1 g||mH p.2 g
def eZ(a:List (List EK))(p:EK×EK):List (List EK):=a.filter (λg=>!gn p g)++[sK (a.filter (gn p)).flatten]
structure ip(sh:List Bool)(gs:List (List EK)):Prop where
 nd:gs.flatten.Nodup
 ne:∀g∈gs,g≠[]
 sh:∀g∈gs,∀e∈g,lY e=sh
def znN(b:List (List EK))(p):((b.filter λg=>!p g).flatten++(b.filter p).flatten).Perm b.flatten:=by
 induction b with
 | nil=>show .nil
 | cons g r c=>
  cases a:p g with
  | true=>
   rw[ud (by simp[a]),uc a,jY,jY];show xv.trans ?_ (c.append_left g);rw[<-eF,<-eF];show List.perm_append_comm.append_right _
  | false=>
   rw[uc (by simp[a]),ud (by simp[a]),jY,jY,eF];show c.append_left g
def zsq{a b:List (List EK)}(h:a.Sublist b):a.flatten.length<=b.flatten.length:=by
 induction h with
 | slnil=>show bB _
 | cons x _ c=>rw[jY,bP];lia
 | cons_cons x _ c=>cbv
def F3(a p):(eZ a p).flatten.Perm a.flatten:=by
 unfold eZ;rw[Jt,jY,List.flatten_nil,eS];show((lS _).append_left _).trans (znN a _)
def ip.eZ{sh:List Bool}{c:List (List EK)}(M:ip sh c){p:EK×EK}(h:p.1∈c.flatten):ip sh (eZ c p):=by
 show⟨(F3 c p).nodup_iff.mpr M.nd,λg b=>?_,λg b e he=>?_⟩
 .rcases bx.mp b with b | b
  .exact M.ne g (cF.mp b).1
  rw[cG] at b;subst b;let⟨g,f,d⟩:=lH.mp h;show R3 (a:=p.1) ((lS _).mem_iff.mpr (lH.mpr ⟨g,cF.mpr ⟨f,by unfold gn;rw[N1.mpr d];rfl⟩,d⟩))
 have:e∈c.flatten:=(F3 c p).subset (lH.mpr ⟨g,b,he⟩);let⟨g',f,d⟩:=lH.mp this;show M.sh g' f e d
def ip.all{sh:List Bool}:∀{ps:List (EK×EK)},ip sh c->(∀p∈ps,p.1∈c.flatten)->ip sh (ps.foldl Wc.eZ c)/\(ps.foldl Wc.eZ c).flatten.Perm c.flatten:=by
 intro ps;induction ps generalizing c with
 | nil=>intro M _;show⟨M,.refl _⟩
 | cons p r d=>
  intro M h;have e:=F3 c p;let⟨a,b⟩:=d (M.eZ (h p et)) λq f=>e.mem_iff.mpr (h q (cJ _ f))
  show⟨a,b.trans e⟩
def ip.m9{sh:List Bool}(M:ip sh b):(b.map bR).Nodup:=by
 have hd:∀g∈b,bR g∈g:=λg f=>by
  cases g with
  | nil=>show absurd rfl (M.ne _ f)
  | cons a r=>show et
 have nd:=M.nd;clear M;induction b with
 | nil=>show IY
 | cons g r e=>
  rw[jY,lq] at nd;rw[bT,fY];show⟨λz=>?_,e (λg' c=>hd g' (cJ _ c)) nd.2.1⟩;let⟨g',d,h⟩:=aK.mp z;show nd.2.2 _ (hd g et) _ (lH.mpr ⟨g',d,hd g' (cJ _ d)⟩) h.symm
def ip.len{sh:List Bool}(M:ip sh a):a.length<=a.flatten.length:=by
 have ne:=M.ne;clear M;induction a with
 | nil=>show bB _
 | cons g r b=>
  rw[jY,bP,cZ];have:=b λg' h=>ne g' (cJ _ h)
  have:0<g.length:=Ju.mpr (ne g et);lia
def BL:bF:=λds Q=>∃(b:Bool)(sh:List Bool)(a:List (List EK))(ps:List (EK×EK)),ds=[.lst (a.map eA),.lst (ps.map fD)]/\ip (b::sh) a/\a.flatten.length<=20000/\(∀p∈ps,p.1∈a.flatten)/\Q (.ow ((kR (ps.foldl eZ a)).map eA))
def zfH:di ["_law_group","_law_one","_law_other"]:=by decide +kernel
def Qf:(T:TX) ×' ∀{P w K mg base},Txt K mg->dr P w K mg base 0 "_law_merged" ["_law_groups","_law_pairs","_law_one","_law_other","_law_whole","_law_group"] (top 56) T:=
 ⟨_,λT nd f d A outer s H E c=>have a:=c.units;
 (aB (fe eE rfl (cI (ae 1)) (fh (n:=2) rfl (bI (aJ 2 nd) (bI (aJ 3 nd) eU)))
    (aB (bM 4 (cQ aq) nd)
   (mN 0 (aB (fe eE rfl (cI (ae 0)) (aJ 5 nd)
    (aO (df (Bd (bj (ki a) (ae 2) (ae 5)) (FQ (bj (ki a) (ae 3) (ae 5)))).pb (aO (bM 4 (aG cj (ae 4) (ae 5)) nd)) c8)))
   (aB (FN 0 rfl (.of (N':=["_law_group","_law_one","_law_other"]) (m:=[none,some 2,some 3]) 'b') cO (cI (ae 0)) (λs3 b ex=>(aJ 0 zfH)) (λs3 b ex=>(iC (jI (bj (yE a) (ae 1) (ae 0)) (nX (bj (yE a) (ae 2) (ae 0)))).pb)) (λs3 b ex=>(ae 0)) nd)
   (aO (iA 0 (de (FV (C:=(λ_=>True)) (λn _ _=>Ts.y9 n) rfl) T.b_sorted qe (ah (ae 4) aq)))))))))
   (mN 0 (aO (cE (de (zsc (C:=(λ_=>True)) (λn _ _=>Ts.y9 n) a) T.b_sorted qe (ah (ae 0) aq))))))⟩
def M6:TX:=Qf.1
def zfI:cU 2 BL M6 6:=by
 intro ds N hl h;symm;let⟨u,sh,f,ps,rfl,M,hle,D,q⟩:=h;show M6 _ [.fz (.lst (f.map eA)),.fz (.lst (ps.map fD)),.un,.un,.un,.un];unfold M6 Qf;dsimp only;have big:=dn;have part:∀i,ip (u::sh) ((ps.take i).foldl eZ f)/\((ps.take i).foldl eZ f).flatten.Perm f.flatten:=λi=>ip.all M λp A=>D p (rD A)
 lk;show nY ps fD (λz h=>?_) (λi ρ=>∃s0 a b c d:Sl,(s0=.fz (.lst (((ps.take i).foldl eZ f).map eA))\/s0=.ow (((ps.take i).foldl eZ f).map eA))/\ρ=[s0,.fz (.lst (ps.map fD)),a,b,c,d]) ⟨_,_,_,_,_,.inl rfl,rfl⟩ ?_ ?_
 .lk;show h
 .rintro i p ρ B ⟨s0,a,b,c,d,h0,rfl⟩;let⟨m,w⟩:=part i;have E:(ps.take (i+1)).foldl eZ f=eZ ((ps.take i).foldl eZ f) p:=by rw[fG,B,RS];rfl
  have I:((ps.take i).foldl eZ f).flatten.length<=20000:=by rw[w.length_eq];show hle
  rw[E];generalize (ps.take i).foldl eZ f=cur at *;rw[show fD p=.tup [aN p.1,aN p.2] from rfl];lk;show⟨b9 _,?_⟩;simp only[i7,vE];rw[show gE 0 [s0,.fz (.lst (ps.map fD)),.fz (aN p.1),.fz (aN p.2),.fz (.lst []),d]=[.fz (.lst (cur.map eA)),.fz (.lst (ps.map fD)),.fz (aN p.1),.fz (aN p.2),.fz (.lst []),d] by rcases h0 with rfl | rfl<;>rfl];lk;show nY cur eA (λz h=>?_) (λj ρ=>∃d:Sl,ρ=[.fz (.lst (cur.map eA)),.fz (.lst (ps.map fD)),.fz (aN p.1),.fz (aN p.2),.fz (.lst ((((cur.take j).filter (gn p)).flatten).map aN)),d]) ⟨d,by rfl⟩ ?_ ?_
  .lk;show h
  .rintro j g ρ y ⟨d,rfl⟩;have tk:∀x,gn p g=x->((cur.take (j+1)).filter (gn p)).flatten=((cur.take j).filter (gn p)).flatten++(if x=true then g else []):=λx hx=>by
    rw[fG,y,AL,t5,Jt];cases x with
    | true=>rw[uc hx];simp
    | false=>rw[ud (by rw[hx];show jk)];rfl
   have L:((cur.take j).filter (gn p)).flatten.length<=cur.flatten.length:=zsq ((rC).trans (AK _ _));have K:g.length<=cur.flatten.length:=(S8 (dZ y)).length_le;have yes:gn p g=true->(((cur.take j).filter (gn p)).flatten.map aN).length+(g.map aN).length<=sizeLine/\∃d:Sl,([.fz (.lst (cur.map eA)),.fz (.lst (ps.map fD)),.fz (aN p.1),.fz (aN p.2),.fz (.lst (((cur.take j).filter (gn p)).flatten.map aN++g.map aN)),.fz (.lst (g.map aN))]:Ev) =
     [.fz (.lst (cur.map eA)),.fz (.lst (ps.map fD)),.fz (aN p.1),.fz (aN p.2),.fz (.lst ((((cur.take (j+1)).filter (gn p)).flatten).map aN)),d]:=λh=>by
    show⟨by simp![aE];lia,.fz (.lst (g.map aN)),?_⟩;rw[tk true h,if_pos rfl,bX]
   rw[show eA g=.lst (g.map aN) from rfl];lk;simp![UM];show⟨Bb _ 7,ES g,?_⟩;cases n:mH p.1 g with
   | true=>
    show yes (by unfold gn;rw[n];rfl)
   | false=>
    show⟨Bb _ 7,ES g,?_⟩;cases r:mH p.2 g with
    | true=>
     show yes (by unfold gn;rw[n,r];rfl)
    | false=>
     show⟨.fz (.lst (g.map aN)),?_⟩;rw[tk false (by unfold gn;rw[n,r];rfl),if_neg jk,eS]
  rintro ρ ⟨d,rfl⟩;rw[gk];walk;have cl:=m.len;show kA cur eA eA (λg=>!gn p g) (λz h=>?_) 'a' (λg H O P k1 o=>?_) ?_
  .lk;show h
  .have e:(!gn p g)=(!mH p.1 g&&!mH p.2 g):=by unfold gn;cases mH p.1 g<;>rfl
   rw[e] at k1 o;rw[show eA g=.lst (g.map aN) from rfl] at k1 ⊢;lk;simp![UM];show⟨Bb _ 7,ES g,?_⟩;cases n:mH p.1 g with
   | true=>
    rw[n] at o;show o rfl
   | false=>
    rw[n] at o k1;show⟨Bb _ 7,ES g,?_⟩;cases r:mH p.2 g with
    | true=>
     rw[r] at o;show o rfl
    | false=>
     rw[r] at k1;show k1 rfl
  have v:∀e∈(cur.filter (gn p)).flatten,lY e=u::sh:=λe he=>by
   symm;let⟨g,t,s⟩:=lH.mp he;show m.sh g (cF.mp t).1 e s
  have C:=jE (λg=>!gn p g) cur;walk;show⟨u,sh,_,rfl,v,trivial,λF t s=>?_⟩;rw[Kq t s];show⟨by rw[aE];lia,.ow ((eZ cur p).map eA),.fz (aN p.1),.fz (aN p.2),.fz (.lst ((cur.filter (gn p)).flatten.map aN)),d,.inr rfl,?_⟩;unfold eZ;rw[bX];rfl
 rintro ρ ⟨s0,a,b,c,d,h0,rfl⟩;rw[gk] at h0;let⟨m,w⟩:=part ps.length;rw[gk] at m w;simp only[i7,vE];rw[show gE 0 [s0,.fz (.lst (ps.map fD)),a,b,c,d]=[.fz (.lst ((ps.foldl eZ f).map eA)),.fz (.lst (ps.map fD)),a,b,c,d] by rcases h0 with rfl | rfl<;>rfl];lk;show⟨u::sh,_,rfl,m.sh,trivial,m.ne,m.m9,λJ t s=>?_⟩;rw[UN m.m9 t s];show q
def rel(a:List (List EK))(x y:EK):Prop:=∃g∈a,x∈g/\y∈g
def ON:gn p g=true↔p.1∈g\/p.2∈g:=by
 unfold gn;rw[AD,N1,N1]
def zu9:rel (eZ d p) x y↔rel d x y\/((rel d x p.1\/rel d x p.2)/\(rel d y p.1\/rel d y p.2)):=by
 have one:∀x,x∈sK (d.filter (gn p)).flatten↔(rel d x p.1\/rel d x p.2):=λx=>by
  rw[(lS _).mem_iff,lH];constructor
  .rintro⟨g,a,b⟩;let⟨c,f⟩:=cF.mp a;show(ON.mp f).imp (λz=>⟨g,c,b,z⟩) λz=>⟨g,c,b,z⟩
  rintro(⟨g,a,b,c⟩ | ⟨g,a,b,c⟩)
  .exact⟨g,cF.mpr ⟨a,ON.mpr (.inl c)⟩,b⟩
  show⟨g,cF.mpr ⟨a,ON.mpr (.inr c)⟩,b⟩
 constructor
 .rintro⟨g,a,b,c⟩;rcases bx.mp a with a | a
  .exact .inl ⟨g,(cF.mp a).1,b,c⟩
  rw[cG] at a;subst a;show .inr ⟨(one x).mp b,(one y).mp c⟩
 rintro(⟨g,a,b,c⟩ | ⟨a,b⟩)
 .cases e:gn p g with
  | false=>show⟨g,jn _ (cF.mpr ⟨a,by rw[e];rfl⟩),b,c⟩
  | true=>
   show⟨_,fT _ (cG.mpr rfl),(lS _).mem_iff.mpr (lH.mpr ⟨g,cF.mpr ⟨a,e⟩,b⟩),(lS _).mem_iff.mpr (lH.mpr ⟨g,cF.mpr ⟨a,e⟩,c⟩)⟩
 show⟨_,fT _ (cG.mpr rfl),(one x).mpr a,(one y).mpr b⟩
def zva{a b x y:EK}:Cn (E++[(a,b)]) x y↔Cn E x y\/((Cn E x a\/Cn E x b)/\(Cn E y a\/Cn E y b)):=by
 constructor
 .intro h;induction h with
  | refl=>show .inl (.refl _)
  | step h e c=>
   rename_i u v;have Dc:((u,v)∈E\/(v,u)∈E)\/((u=a/\v=b)\/(v=a/\u=b)):=by
    simp![bx,cG,QA.injEq] at e;rcases e with(e | e) | (e | e)
    .exact .inl (.inl e)
    .exact .inr (.inl e)
    .exact .inl (.inr e)
    show .inr (.inr e)
   rcases Dc with e | e
   .have g:Cn E v u:=(Cn.step (.refl u) e).symm;rcases c with c | ⟨f,d⟩
    .exact .inl (.step c e)
    show .inr ⟨f,d.imp (λz=>g.trans z) λz=>g.trans z⟩
   rcases e with⟨rfl,rfl⟩ | ⟨rfl,rfl⟩
   .exact .inr ⟨c.elim .inl (·.1),.inr (.refl _)⟩
   show .inr ⟨c.elim .inr (·.1),.inl (.refl _)⟩
 have up:∀{u v},Cn E u v->Cn (E++[(a,b)]) u v:=λh=>h.mono λp l=>jn _ l
 have i:Cn (E++[(a,b)]) a b:=.one (by show fT _ (.head _));rintro(h | ⟨f,d⟩)
 .exact up h
 have k:Cn (E++[(a,b)]) x a:=f.elim up λz=>(up z).trans i.symm
 have j:Cn (E++[(a,b)]) y a:=d.elim up λz=>(up z).trans i.symm
 show k.trans j.symm
theorem Vy(P:EK->EK):∀(ps:List (EK×EK)) a E,(∀x∈a.flatten,∀y∈a.flatten,rel a x y↔Cn E (P x) (P y))->(∀p∈ps,p.1∈a.flatten/\p.2∈a.flatten)->
  ∀x∈a.flatten,∀y∈a.flatten,rel (ps.foldl eZ a) x y↔Cn (E++ps.map λp=>(P p.1,P p.2)) (P x) (P y)
 | [],a,E,h,_,x,hx,y,b=>by
  rw[j8,eS];show h x hx y b
 | p::ps,a,E,h,f,x,hx,y,b=>by
  have e:=F3 a p;let⟨d,c⟩:=f p et
  have:=Vy P ps (eZ a p) (E++[(P p.1,P p.2)]) (λx hx y b=>by
   have hx:=e.mem_iff.mp hx;have b:=e.mem_iff.mp b;rw[zu9,zva,h x hx y b,h x hx _ d,h x hx _ c,h y b _ d,h y b _ c]) (λq g=>by
   have:=f q (cJ _ g);show⟨e.mem_iff.mpr this.1,e.mem_iff.mpr this.2⟩) x (e.mem_iff.mpr hx) y (e.mem_iff.mpr b)
  rw[xH,this,bT,eF];rfl
theorem KQ:∀{f:List (List EK)},f.flatten.Nodup->∀{g g' e},g∈f->g'∈f->e∈g->e∈g'->g=g'
 | [],_,g,g',e,h,_,_,_=>by cases h
 | a::r,nd,g,g',e,k,j,d,c=>by
  rw[jY,lq] at nd;rcases bE.mp k with l | k1
  .subst l;rcases bE.mp j with i | b
   .exact i.symm
   show absurd rfl (nd.2.2 e d e (lH.mpr ⟨_,b,c⟩))
  rcases bE.mp j with i | b
  .subst i;show absurd rfl (nd.2.2 e c e (lH.mpr ⟨_,k1,d⟩))
  show KQ nd.2.1 k1 b d c
def mX(a:List (List EK)):List (EK×EK):=a.flatMap λg=>g.map λe=>(bR g,e)
def zvb(a):(mX a).map (·.2)=a.flatten:=by
 unfold mX;induction a with
 | nil=>rfl
 | cons g r b=>rw[iU,bX,b,jY,bz];congr 1;show Iu _
def CG:p∈mX d↔∃g∈d,p.2∈g/\p.1=bR g:=by
 unfold mX;rw[nI];constructor
 .rintro⟨g,c,b⟩;let⟨e,a,rfl⟩:=aK.mp b;show⟨g,c,a,rfl⟩
 rintro⟨g,c,b,a⟩;show⟨g,c,aK.mpr ⟨p.2,b,by rw[<-a]⟩⟩
theorem UL:∀{c},(c.map bR).Nodup->∀g∈c,g=((mX c).filter λq=>decide (q.1=bR g)).map (·.2)
 | [],_,g,h=>by cases h
 | a::r,nd,g,h=>by
  rw[bT,fY] at nd;have sp:mX (a::r)=(a.map λe=>(bR a,e))++mX r:=by unfold mX;rw[iU]
  rw[sp,t5,bX];rcases bE.mp h with rfl | h
  .have d:((g.map λe=>(bR g,e)).filter λq=>decide (q.1=bR g))=g.map λe=>(bR g,e):=by
    rw[R7];intro q b;let⟨e,y,rfl⟩:=aK.mp b;simp
   have j:((mX r).filter λq=>decide (q.1=bR g))=[]:=by
    rw[ub];intro q b z;let⟨g',i,y,f⟩:=CG.mp b;have z:q.1=bR g:=by simpa using z
    show nd.1 (aK.mpr ⟨g',i,by rw[<-f,z]⟩)
   rw[d,j,j8,eS,bz];show(Iu _).symm
  have d:((a.map λe=>(bR a,e)).filter λq=>decide (q.1=bR g))=[]:=by
   rw[ub];intro q b z;let⟨e,y,rfl⟩:=aK.mp b;have z:bR a=bR g:=by simpa using z
   show nd.1 (aK.mpr ⟨g,h,z.symm⟩)
  rw[d,j8,rn];show UL nd.2 g h
def ip.grp{sh:List Bool}(M:ip sh c):fb (mX c) (c.map λg=>(bR g,g)):=by
 show⟨?_,λp a=>?_,λp a=>?_,λp a=>?_⟩
 .rw[bz];show M.m9
 .let⟨g,b,rfl⟩:=aK.mp a;show UL M.m9 g b
 .let⟨g,f,h,d⟩:=CG.mp a;show⟨g,aK.mpr ⟨g,f,by rw[d]⟩⟩
 let⟨g,b,rfl⟩:=aK.mp a;let⟨e,he⟩:=List.exists_mem_of_ne_nil g (M.ne g b);show⟨(bR g,e),CG.mpr ⟨g,b,he,rfl⟩,rfl⟩
def zsr(M:ip sh f)(sF:∀g∈f,sK g=g)(pm:(c.map (·.2)).Perm f.flatten)(nd:(c.map (·.2)).Nodup)
  (e:∀p∈c,∀q∈c,rel f p.2 q.2↔Cn d p.1 q.1) (h:Gd c d gss):gss=kR f:=by
 let⟨lab,kvs,j,G,rfl⟩:=h;have k:(c.map λp=>(lab p.1,p.2)).map (·.2)=c.map (·.2):=by rw[bz];rfl
 have:=zsn G M.grp (by rw[k,zvb];show pm) (by rw[k];show nd) λp t q s C o B r n m=>by
  let⟨a,w,rfl⟩:=aK.mp t;let⟨b,v,rfl⟩:=aK.mp s;let⟨g,g1,g2,g3⟩:=CG.mp o;let⟨g',l,i,A⟩:=CG.mp r;simp only at n m;rw[<-n] at g2;rw[<-m] at i;rw[j,<-e a w b v,g3,A];constructor
  .rintro⟨D,h0,y,x⟩;rw[KQ M.nd g1 h0 g2 y,KQ M.nd l h0 i x]
  intro z;have:g=g':=by
   have:=Fh M.grp.nd (aK.mpr ⟨g,g1,rfl⟩) (aK.mpr ⟨g',l,rfl⟩) z;show gy (·.2) this
  subst this;show⟨g,g1,g2,i⟩
 rw[this,bz];congr 1
 show(t8 λg u=>sF g u).trans (Iu _)
end Wc
open PySem L2 PyProof.Rows Wc
local macro_rules | `(tactic| lk)=>`(tactic| (repeat(first | walk_at"b" | dsimp only[$[$(qn "yj vY uj yh r8 yx yI vU yg rJ qr rK sN ym yf yd xY yc yJ yn ye vI yw yu qI rS uh yt qu yi OV.val"):ident],*] | simp only[lR])))
namespace Wc
open PySem L2 PyProof.Rows
def e3(n:Nat)(e:a9):EK:=[.inl (n:Int),.inr e.1,.inl e.2]
def pk(n pl:Nat):EK:=[.inl (n:Int),.inl (pl:Int)]
def qT(gss:List (List a9)):D:=.lst (gss.map λg=>.lst (g.map cX))
def tF(a:List Bool):D:=.lst (a.map .bl)
def gz(n:Nat):Nat->List (List a9)->List (EK×EK)
 | _,[]=>[]
 | p,g::r=>(g.map λe=>(pk n p,e3 n e))++gz n (p+1) r
def cg:Nat->List (List (List a9))->List (EK×EK)
 | _,[]=>[]
 | n,gss::r=>gz n 0 gss++cg (n+1) r
theorem Mh(n):∀p a b,gz n p (a++b)=gz n p a++gz n (p+a.length) b
 | p,[],b=>rfl
 | p,g::a,b=>by
  rw[mG,gz,gz,Mh n (p+1) a b,eF,cZ,show p+1+a.length=p+(a.length+1) by lia]
theorem Mg:∀n a b,cg n (a++b)=cg n a++cg (n+a.length) b
 | n,[],b=>rfl
 | n,g::a,b=>by
  rw[mG,cg,cg,Mg (n+1) a b,eF,cZ,show n+1+a.length=n+(a.length+1) by lia]
def znO{gss:List (List a9)}(h:gss[i]?\g):gz n 0 (gss.take (i+1))=gz n 0 (gss.take i)++g.map λe=>(pk n i,e3 n e):=by
 have a:=(c7.mp h).1;rw[fG,h,Mh,cN,mE (by show fc ‹_›),lD];simp[gz]
def znP{gsl:List (List (List a9))}(h:gsl[i]?\gss):cg 0 (gsl.take (i+1))=cg 0 (gsl.take i)++gz i 0 gss:=by
 have a:=(c7.mp h).1;rw[fG,h,Mg,cN,mE (by show fc ‹_›),lD];simp[cg]
def zss(i gsl):(cg 0 (gsl.take i)).length<=(cg 0 gsl).length:=by
 have:=Mg 0 (gsl.take i) (gsl.drop i);cbv
def zst(n i gss):(gz n 0 (gss.take i)).length<=(gz n 0 gss).length:=by
 have:=Mh n 0 (gss.take i) (gss.drop i);cbv
def gm(a:List Bool):List Nat:=(a.zipIdx.filter (·.1)).map (·.2)
def g9(P:EK->EK):Nat->List (List Bool)->List (EK×EK)
 | _,[]=>[]
 | n,a::r=>((gm a).map λ(c:Nat)=>(P (e3 n ("bottom",(c:Int))),P (e3 (n+1) ("top",(c:Int)))))++g9 P (n+1) r
theorem MA(P):∀n a b,g9 P n (a++b)=g9 P n a++g9 P (n+a.length) b
 | n,[],b=>rfl
 | n,g::a,b=>by
  rw[mG,g9,g9,MA P (n+1) a b,eF,cZ,show n+1+a.length=n+(a.length+1) by lia]
def zlu{bds:List (List Bool)}(h:bds[i]?=some a):g9 P 0 (bds.take (i+1))=g9 P 0 (bds.take i)++(gm a).map λ(c:Nat)=>(P (e3 i ("bottom",(c:Int))),P (e3 (i+1) ("top",(c:Int)))):=by
 have b:=(c7.mp h).1;rw[fG,h,MA,cN,mE (by show fc ‹_›),lD];simp[g9]
def zqd(P i bds):(g9 P 0 (bds.take i)).length<=(g9 P 0 bds).length:=by
 have:=MA P 0 (bds.take i) (bds.drop i);cbv
def kQ(a:List (EK×EK)):List (EK×EK):=a.map λp=>(p.2,p.1)
def jv(a:List (EK×EK))(e:EK):EK:=(cL (kQ a) e).getD []
theorem Xj:∀r acc,((acc++r).map (·.1)).Nodup->(r.map λp=>(p.1,aN p.2)).foldl (λa p=>rQ a p.1 p.2) (fJ kk aN acc)=fJ kk aN (acc++r)
 | [],acc,_=>by rw[eS];rfl
 | p::r,acc,nd=>by
  have c:cL acc p.1=none:=by
   unfold cL;rw[AN,Ea];intro q b z;have z:q.1=p.1:=by simpa using z
   rw[bX,lq] at nd;show nd.2.2 q.1 (ml b) p.1 'c' z
  rw[bT,xH];have e:=Wt (dv:=aN) si p.1 p.2 c;rw[show rQ (fJ kk aN acc) p.1 (aN p.2)=fJ kk aN (acc++[p]) from e,Xj r (acc++[p]) (by rw[eF];show nd),eF];rfl
def UK(nd:(F.map (·.1)).Nodup){x a:EK}(h:(x,a)∈F):cL F x\a:=by
 induction F with
 | nil=>cases h
 | cons p r b=>
  rw[bT,fY] at nd;unfold cL at *;rw[oY];rcases bE.mp h with e | e
  .subst e;simp
  have:p.1≠x:=λz=>nd.1 (z▸ml (f:=(·.1)) e)
  simp![this,decide_false];show b nd.2 e
def BR:bF:=λds Q=>∃gsl bds,ds=[.lst (gsl.map qT),.lst (bds.map tF)]/\(∀gss∈gsl,∀g∈gss,g.length<=1000)/\(cg 0 gsl).length<=20000/\((cg 0 gsl).map (·.2)).Nodup/\(∀b∈bds,b.length<=1000)/\(g9 (jv (cg 0 gsl)) 0 bds).length<=1600/\
 (∀n b,bds[n]?=some b->∀c∈gm b,(∃a,(a,e3 n ("bottom",(c:Int)))∈cg 0 gsl)/\∃a,(a,e3 (n+1) ("top",(c:Int)))∈cg 0 gsl)/\∀gss,Gd (cg 0 gsl) (g9 (jv (cg 0 gsl)) 0 bds) gss->Q (.ov (.ll (gss.map λg=>g.map aN)))
theorem Lg:∀n gsl,∀p∈cg n gsl,lY p.2=[false,true,false]
 | _,[],p,h=>by cases h
 | n,gss::r,p,h=>by
  rcases bx.mp h with h | h
  .have:∀(k:Nat)(l:List (List a9)),∀p∈gz n k l,lY p.2=[false,true,false]:=λk l=>by
    induction l generalizing k with
    | nil=>intro p h;cases h
    | cons g l a=>
     intro p h;rcases bx.mp h with h | h
     .let⟨e,z,rfl⟩:=aK.mp h;rfl
     show a _ p h
   show this 0 gss p h
  show Lg (n+1) r p h
theorem zxd(h:te ρ λr=>Lb r.val λds=>EV g a b ρ ds):kM (lL te) g a b ρ:=h
def zfh:di ["end","number","place"]:=by decide +kernel
def YT:di ["place","end"]:=by decide +kernel
def YS:di ["column","joined"]:=by decide +kernel
def Pz:(T:TX) ×' ∀{P w K mg base},Txt K mg->~~~2 "grouped" 2 BD->dr P w K mg base 2 "pile_grouped" ["groups","borders","ends","number","layout_groups","place","group","places","links","joints","column"] (top 36) T:=
 ⟨_,λT zT nd f d A outer s H E c=>have b:=c.units;
 (aB (hJ 2 (cQ aq) nd)
   (aB (fe eE rfl (pD T.b_enumerate (ah (ae 0) aq)) (fh (n:=2) rfl (bI (aJ 3 nd) (bI (aJ 4 nd) eU)))
    (aO (fe eE rfl (pD T.b_enumerate (ah (ae 4) aq)) (fh (n:=2) rfl (bI (aJ 5 nd) (bI (aJ 6 nd) eU)))
    (aO (Fz 2 (eu rfl (.of (N':=["end","number","place"]) (m:=[none,some 3,some 5]) 'b') cO (cI (ae 6)) (λs3 a ex=>(aJ 0 zfh)) (λs3 a ex=>eY) (λs3 a ex=>(eW (ah (eW (ah (ae 1) (ah (ae 2) aq))) (ah (aG Vk (eW (ah (ae 1) aq)) (ae 0)) aq))))))))))
   (mN 2 (aB (bM 7 (lV (zuQ rfl b) T.b_dict (by decide +kernel) (ah (eu rfl (.of (N':=["place","end"]) (m:=[none,none]) 'b') nZ (cI (ae 2)) (λs3 a ex=>(fh (n:=2) rfl (bI (aJ 0 YT) (bI (aJ 1 YT) eU)))) (λs3 a ex=>eY) (λs3 a ex=>(eW (ah (ae 1) (ah (ae 0) aq))))) aq)) nd)
   (aB (hJ 8 (cQ aq) nd)
   (aB (fe eE rfl (pD T.b_enumerate (ah (ae 1) aq)) (fh (n:=2) rfl (bI (aJ 3 nd) (bI (aJ 9 nd) eU)))
    (aO (fe eE rfl (cI (eu rfl (.of (N':=["column","joined"]) (m:=[none,none]) 'b') nZ (pD T.b_enumerate (ah (ae 9) aq)) (λs3 a ex=>(fh (n:=2) rfl (bI (aJ 0 YS) (bI (aJ 1 YS) eU)))) (λs3 a ex=>(iC (vX (ae 1)))) (λs3 a ex=>(ae 0)))) (aJ 10 nd)
    (aO (iA 8 (eW (ah (Lq b (ae 7) (eW (ah (ae 3) (ah gA (ah (ae 10) aq))))) (ah (Lq b (ae 7) (eW (ah (aG cj (ae 3) av) (ah gA (ah (ae 10) aq))))) aq))))))))
   (mN 8 (aO (cE (bU zT c (ah (ae 2) (ah (ae 8) aq))))))))))))⟩
def Nq:TX:=Pz.1
def zfi:cU 2 BR Nq 11:=by
 intro ds W hl h;symm;let⟨gsl,bds,rfl,V,hle,nd,H,A,L,q⟩:=h;show Nq _ [.fz (.lst (gsl.map qT)),.fz (.lst (bds.map tF)),.un,.un,.un,.un,.un,.un,.un,.un,.un];unfold Nq Pz;dsimp only;have big:=dn;lk;show⟨b9 _,?_⟩;walk;let S:TJ:=λi ρ=>∃a b c d:Sl,ρ=[.fz (.lst (gsl.map qT)),.fz (.lst (bds.map tF)),.ow ((cg 0 (gsl.take i)).map oF),a,b,c,d,.un,.un,.un,.un]
 show yR gsl qT (λs h=>?_) S ⟨_,_,_,_,rfl⟩ ?_ ?_
 .lk;show h
 .rintro i gss ρ o ⟨a,b,c,d,rfl⟩;have s1:=znP o;have l1:=zss (i+1) gsl;rw[s1,bP] at l1;rw[show qT gss=.lst (gss.map λg=>.lst (g.map cX)) from rfl];lk;let R:TJ:=λj ρ=>∃c d:Sl,ρ=[.fz (.lst (gsl.map qT)),.fz (.lst (bds.map tF)),.ow ((cg 0 (gsl.take i)++gz i 0 (gss.take j)).map oF),.fz (.int (i:Nat)),.fz (.lst (gss.map λg=>.lst (g.map cX))),c,d,.un,.un,.un,.un]
  show yR gss (λg=>.lst (g.map cX)) (λs h=>?_) R ⟨c,d,by simp[gz]⟩ ?_ ?_
  .lk;show h
  .rintro j g ρ T ⟨c,d,rfl⟩;have s2:=znO (n:=i) T;have B:=zst i (j+1) gss;rw[s2,bP,aE] at B;lk;show gr g cX (λe=>oF (pk i j,e3 i e)) (λs h=>?_) 'a' (λe he z k=>?_) ?_
   .lk;show h
   .rw[show cX e=.tup [.str e.1,.int e.2] from rfl];lk;show⟨by trivial,by show gh _,∅,∅,by trivial,by trivial,?_⟩;show k
   show⟨by simp![aE,bP];lia,.fz (.int (j:Nat)),.fz (.lst (g.map cX)),?_⟩;rw[s2,<-eF,bX (l₁:=cg 0 (gsl.take i)++gz i 0 (gss.take j)),bz];rfl
  rintro ρ ⟨c,d,rfl⟩;rw[gk,<-s1];show⟨_,_,_,_,rfl⟩
 rintro ρ ⟨a,b,c,d,rfl⟩;rw[gk];have sh:=Lg 0 gsl;have y:((([]:List (EK×EK))++kQ (cg 0 gsl)).map (·.1)).Nodup:=by
  rw[rn];unfold kQ;rw[bz];show nd
 have N:((kQ (cg 0 gsl)).map (·.1)).Nodup:=y;have at_:∀{x:EK},(∃a,(a,x)∈cg 0 gsl)->cL (kQ (cg 0 gsl)) x\jv (cg 0 gsl) x:=λ{x} ⟨a,I⟩=>by
  have:=UK N (x:=x) (a:=a) (by show aK.mpr ⟨_,I,rfl⟩);unfold jv;rw[this];rfl
 generalize cg 0 gsl=ends at *;walk;show gr ends oF (λp=>.tup [aN p.2,aN p.1]) (λs h=>?_) 'a' (λp E z k=>?_) ?_
 .lk;show h
 .rw[show oF p=.tup [aN p.1,aN p.2] from rfl];lk;show⟨by trivial,k⟩
 show⟨(kQ ends).map λp=>(p.1,aN p.2),by unfold kQ;simp![yA,bz];rfl,?_⟩;rw[show Lm ((kQ ends).map λp=>(p.1,aN p.2))=fJ kk aN (kQ ends) from Xj (kQ ends) [] y];have look:∀{x:EK},(∃a,(a,x)∈ends)->lO (fJ kk aN (kQ ends)) x\aN (jv ends x):=λ{x} h=>by
  have:=FD (dv:=aN) (F:=kQ ends) si x;rw[at_ h] at this;show this
 generalize fJ kk aN (kQ ends)=u at look;walk;show⟨b9 _,?_⟩;walk;let Q:TJ:=λi ρ=>∃s3 t m:Sl,ρ=[.fz (.lst (gsl.map qT)),.fz (.lst (bds.map tF)),.fz (.lst (ends.map oF)),s3,b,c,d,.fz (.dit u),.ow ((g9 (jv ends) 0 (bds.take i)).map fD),t,m]
 show yR bds tF (λs h=>?_) Q ⟨_,_,_,rfl⟩ ?_ ?_
 .lk;show h
 .rintro i f ρ o ⟨s3,t,m,rfl⟩;have s1:=zlu (P:=jv ends) o;have l1:=zqd (jv ends) (i+1) bds;rw[s1,bP,aE] at l1;have U:=H _ (dZ o);rw[show tF f=.lst (f.map .bl) from rfl];lk;show zxd ?_;show kA f.zipIdx (λp=>.tup [.int (p.2:Nat),.bl p.1]) (λp=>.int (p.2:Nat)) (·.1) (λs h=>?_) (by rw[Jr];lia) (λp E z X k1 C=>?_) ?_
  .lk;rw[LN];show h
  .lk;cases w:p.1 with
   | true=>show k1 w
   | false=>show C w
  rw[show((f.zipIdx.filter (·.1)).map λp=>D.int (p.2:Nat))=(gm f).map λ(c:Nat)=>D.int (c:Int) by unfold gm;rw[bz];rfl];let O:TJ:=λj ρ=>∃m:Sl,ρ=[.fz (.lst (gsl.map qT)),.fz (.lst (bds.map tF)),.fz (.lst (ends.map oF)),.fz (.int (i:Nat)),b,c,d,.fz (.dit u),.ow ((g9 (jv ends) 0 (bds.take i)++((gm f).take j).map λ(c:Nat)=>(jv ends (e3 i ("bottom",(c:Int))),jv ends (e3 (i+1) ("top",(c:Int))))).map fD),.fz (.lst (f.map .bl)),m]
  show Yf (gm f) (λ(c:Nat)=>D.int (c:Int)) O ⟨m,∅⟩ ?_ ?_
  .rintro j r ρ v ⟨m,rfl⟩;have M:=dZ v;let⟨K,J⟩:=L i f o r M;lk;show⟨by trivial,e3 i ("bottom",(r:Int)),_,rfl,look K,by trivial,e3 (i+1) ("top",(r:Int)),_,rfl,look J,by trivial,by simp![aE,bP,cN];lia,.fz (.int (r:Nat)),?_⟩;rw[fG,v,AL,bX (l₁:=(gm f).take j),<-eF,bX (l₂:=[r].map _)];rfl
  rintro ρ ⟨m,rfl⟩;rw[gk,<-s1];show⟨_,_,_,rfl⟩
 rintro ρ ⟨s3,t,m,rfl⟩;rw[gk];walk;show⟨_,_,ends,_,rfl,A,hle,sh,nd,q⟩
theorem zvc(g):sK (sK g)=sK g:=UP (lS g)
theorem zvd(h:∀g∈b,sK g=g):∀g∈eZ b p,sK g=g:=λg a=>by
 rcases bx.mp a with a | a
 .exact h g (cF.mp a).1
 rw[cG] at a;rw[a];show zvc _
theorem Vx:∀(ps:List (EK×EK)){a},(∀g∈a,sK g=g)->∀g∈ps.foldl eZ a,sK g=g
 | [],_,h=>h
 | _::ps,_,h=>Vx ps (zvd h)
def cP:Nat->List (List (List a9))->List (List EK)
 | _,[]=>[]
 | n,gss::r=>gss.map (λg=>g.map (e3 n))++cP (n+1) r
theorem Gm(n):∀p gss,(gz n p gss).map (·.2)=(gss.map λg=>g.map (e3 n)).flatten
 | _,[]=>rfl
 | p,g::r=>by
  rw[gz,bX,Gm n (p+1) r,bT,jY,bz];rfl
theorem Mf:∀n gsl,(cg n gsl).map (·.2)=(cP n gsl).flatten
 | _,[]=>rfl
 | n,gss::r=>by rw[cg,bX,Gm,Mf (n+1) r,cP,Jt]
theorem N0:∀{p gss},(a,x)∈gz n p gss↔∃i g e,gss[i]?\g/\e∈g/\a=pk n (p+i)/\x=e3 n e
 | p,[]=>by simp[gz]
 | p,g::r=>by
  rw[gz,bx,N0 (p:=p+1) (gss:=r),aK];constructor
  .rintro(⟨e,he,z⟩ | ⟨i,g',e,f,d,h,b⟩)
   .cases z;show⟨0,g,e,rfl,he,rfl,rfl⟩
   show⟨i+1,g',e,f,d,by congr 1;lia,b⟩
  rintro j;symm;let⟨i,g',e,f,d,h,b⟩:=j;cases i with
  | zero=>
   cases f;show .inl ⟨e,d,by rw[h,b];rfl⟩
  | succ i=>show .inr ⟨i,g',e,f,d,by congr 1;lia,b⟩
theorem wJ:∀{k gsl},(a,x)∈cg k gsl↔∃n gss i g e,gsl[n]?\gss/\gss[i]?\g/\e∈g/\a=pk (k+n) i/\x=e3 (k+n) e
 | k,[]=>by simp[cg]
 | k,gss::r=>by
  rw[cg,bx,wJ (k:=k+1) (gsl:=r),N0];constructor
  .rintro(⟨i,g,e,d,b,h,f⟩ | ⟨n,j,i,g,e,h0,d,b,h,f⟩)
   .exact⟨0,gss,i,g,e,rfl,d,b,by rw[h,lD];rfl,f⟩
   show⟨n+1,j,i,g,e,h0,d,b,by congr 1;lia,by congr 1;lia⟩
  rintro m;symm;let⟨n,j,i,g,e,h0,d,b,h,f⟩:=m;cases n with
  | zero=>
   cases h0;show .inl ⟨i,g,e,d,b,by rw[h,lD];rfl,f⟩
  | succ n=>show .inr ⟨n,j,i,g,e,h0,d,b,by congr 1;lia,by congr 1;lia⟩
theorem CA:∀{k gsl},g'∈cP k gsl↔∃(n:Nat)(gss:List (List a9))(i:Nat)(g:List a9),gsl[n]?\gss/\gss[i]?\g/\g'=g.map (e3 (k+n))
 | k,[]=>by simp[cP]
 | k,gss::r=>by
  rw[cP,bx,CA (k:=k+1) (gsl:=r),aK];constructor
  .rintro(⟨g,h,rfl⟩ | ⟨n,d,i,g,h0,b,e⟩)
   .let⟨i,f⟩:=iW h;show⟨0,gss,i,g,rfl,f,rfl⟩
   show⟨n+1,d,i,g,h0,b,by congr 2;lia⟩
  rintro j;symm;let⟨n,d,i,g,h0,b,e⟩:=j;cases n with
  | zero=>
   cases h0;show .inl ⟨g,dZ b,e.symm⟩
  | succ n=>show .inr ⟨n,d,i,g,h0,b,by congr 2;lia⟩
def zxe(h:pk n i=pk m j):n=m/\i=j:=by
 unfold pk at h;lia
def Vw{c:List (EK×EK)}(nd:(c.map (·.2)).Nodup)(h:(a,x)∈c)(g:(b,x)∈c):a=b:=by
 let⟨i,e⟩:=iW h;let⟨j,d⟩:=iW g;have f:(c.map (·.2))[i]?\x:=by rw[b8,e];rfl
 have k:(c.map (·.2))[j]?\x:=by rw[b8,d];rfl
 have:i=j:=(tX (c7.mp f).1 nd).mp (f.trans k.symm);subst this;rw[e] at d;cases d;rfl
def Ft(nd:(b.map (·.2)).Nodup)(h:(a,x)∈b):jv b x=a:=by
 have c:((kQ b).map (·.1)).Nodup:=by unfold kQ;rw[bz];show nd
 have:=UK c (x:=x) (a:=a) (by show aK.mpr ⟨_,h,rfl⟩);unfold jv;rw[this];rfl
def zqg(nd:((cg 0 gsl).map (·.2)).Nodup)(k:(a,x)∈cg 0 gsl)(h:(b,y)∈cg 0 gsl):rel (cP 0 gsl) x y↔a=b:=by
 constructor
 .rintro⟨g',q,hx,p⟩;let⟨n,gss,i,g,d,c,rfl⟩:=CA.mp q;let⟨e,he,rfl⟩:=aK.mp hx;let⟨l,f,rfl⟩:=aK.mp p;rw[Vw nd k (wJ.mpr ⟨n,gss,i,g,e,d,c,he,rfl,rfl⟩),Vw nd h (wJ.mpr ⟨n,gss,i,g,l,d,c,f,rfl,rfl⟩)]
 rintro rfl;let⟨n,gss,i,g,e,d,c,he,r,rfl⟩:=wJ.mp k;let⟨m,t,j,g',l,f1,f2,f,f4,rfl⟩:=wJ.mp h;let⟨s,o⟩:=zxe (r.symm.trans f4);have:n=m:=by cbv
 subst this o;rw[d] at f1;cases f1;rw[c] at f2;cases f2;show⟨_,CA.mpr ⟨n,gss,i,g,d,c,rfl⟩,ml he,ml f⟩
end Wc
open PySem L2 PyProof.Rows Wc
local macro_rules | `(tactic| lk)=>`(tactic| (repeat(first | walk_at"b" | dsimp only[$[$(qn "qu rS Km"):ident],*] | simp only[$[$(qn "BF Yg lR pz yk Kp"):ident],*])))
namespace Wc
open PySem L2 PyProof.Rows
inductive En where
 | lf | tp (n:Nat) | bt (n:Nat) | rt
def dE:En->D
 | .lf=>.tup [.str "left"]
 | .tp n=>.tup [.str "top",.int n]
 | .bt n=>.tup [.str "bottom",.int n]
 | .rt=>.tup [.str "right"]
def i9(c:ba)(w:aa)(n:Nat):List En:=(if c.top[n]?\some w then [.tp n] else [])++(if c.aA[n]?\some w then [.bt n] else [])
def g8(c:ba)(w:aa):List En:=(if w∈c.left then [.lf] else [])++(bA c.top.length).flatMap (i9 c w)++(if w∈c.right then [.rt] else [])
def znQ(c w n):(i9 c w n).length<=2:=by unfold i9;split<;>split<;>simp
def F2(c w i):((bA i).flatMap (i9 c w)).length<=2*i:=by
 induction i with
 | zero=>show b9 _
 | succ i a=>
  rw[Az,qi,bP];have:=znQ c w i;simp![iU,tV,eS];lia
structure tK(c:ba):Prop where
 w:c.top.length<=40
 b:c.aA.length=c.top.length
 l:c.left.length<=100
 r:c.right.length<=100
def yN:bF:=λds Q=>∃c w,ds=[c.obj,.str w]/\tK c/\Q (.ow ((g8 c w).map dE))
def PR:(T:TX) ×' ∀{P w K mg base},Txt K mg->dr P w K mg base 0 "ends_of" ["channel","name","ends","column"] (top 1) T:=
 ⟨_,λT nd f c A outer s H E b=>have a:=b.units;
 (aB (hJ 2 (cQ aq) nd)
   (aB (df (bj (ki a) (ae 1) (cD (ae 0))) (aO (iA 2 (eW (ah gA aq)))) c8)
   (aB (fe eE rfl (kz T.b_range (ah (de jG T.b_len iY (ah (cD (ae 0)) aq)) aq)) (aJ 3 nd)
    (aB (df (bj (ef a) (aY (cD (ae 0)) (ae 3)) (ae 1)) (aO (iA 2 (eW (ah gA (ah (ae 3) aq))))) c8)
   (aO (df (bj (ef a) (aY (cD (ae 0)) (ae 3)) (ae 1)) (aO (iA 2 (eW (ah gA (ah (ae 3) aq))))) c8))))
   (aB (df (bj (ki a) (ae 1) (cD (ae 0))) (aO (iA 2 (eW (ah gA aq)))) c8)
   (aO (um 2))))))⟩
def Me:TX:=PR.1
def zky:cU 2 yN Me 4:=by
 intro ds o hl h;let⟨c,w,rfl,sh,q⟩:=h;show Me _ [.fz c.obj,.fz (.str w),.un,.un];unfold Me PR;dsimp only;have big:=dn;lk;show⟨by show b9 _,?_⟩;walk;show⟨_,rfl,?_⟩;unfold dS;lk;show⟨nW 8 _,?_⟩;have fg:∀k:Sl,i7 (eT (kM (Ba (aM (fN yb (aM (iy "top" (aF 0)) bJ)) bJ)) (eH 3) (eT (kP (fB (bg oEq (bg fF (iy "top" (aF 0)) (aF 3)) (aF 1))) (rN 2 (kh (aM (dC (.str "top")) (aM (aF 3) bJ)))) mJ)
 (kP (fB (bg oEq (bg fF (iy "bottom" (aF 0)) (aF 3)) (aF 1))) (rN 2 (kh (aM (dC (.str "bottom")) (aM (aF 3) bJ)))) mJ)))
 (eT (kP (fB (bg (qv false) (aF 1) (iy "right" (aF 0)))) (rN 2 (kh (aM (dC (.str "right")) bJ))) mJ)
 (r8 2))) { nx:=λx=>o (R.fz D.non),rt:=o } [.fz c.obj,.fz (.str w),.ow ((if w∈c.left then [En.lf] else []).map dE),k]:=by
  intro k;walk;show qK c.top.length (λr h=>?_) (λi ρ=>∃k:Sl,ρ=[.fz c.obj,.fz (.str w),.ow (((if w∈c.left then [En.lf] else [])++(bA i).flatMap (i9 c w)).map dE),k]) ⟨k,∅⟩ ?_ ?_
  .lk;show⟨_,rfl,?_⟩;unfold dP;lk;rw[aE];have:=sh.w;show⟨by cbv,by lia,by trivial⟩
  .rintro i ρ g ⟨k,rfl⟩;have hle:=F2 c w i;have hw:=sh.w;have m:∀(b:Prop)[Decidable b],(if b then [En.lf] else []).length<=1:=λb _=>by split<;>simp
   have p:=m (w∈c.left);rw[Az,qi,<-eF];generalize f:(if w∈c.left then [En.lf] else [])++(bA i).flatMap (i9 c w)=acc;have j:acc.length<=1000:=by rw[<-f,bP];lia
   simp![iU,tV,eS];have n:i<c.aA.length:=by rw[sh.b];show g
   unfold ba.obj;lk;show⟨_,rfl,?_⟩;unfold dP;lk;show⟨_,fE g,?_⟩;unfold i9;rw[cA g,cA n];simp![gw];split
   focus show⟨by trivial,by simp;lia,?_⟩
   all_goals
    walk;show⟨_,rfl,?_⟩;lk;show⟨_,fE n,?_⟩;split
   .exact⟨by trivial,by simp;lia,_,by simp[dE];rfl⟩
   .exact⟨_,by simp[dE];rfl⟩
   .exact⟨by trivial,by simp;lia,_,by simp[dE];rfl⟩
   show⟨_,by simp;rfl⟩
  rintro ρ ⟨k,rfl⟩;have hle:=F2 c w c.top.length;have hw:=sh.w;have m:∀(b:Prop)[Decidable b],(if b then [En.lf] else []).length<=1:=λb _=>by split<;>simp
  have p:=m (w∈c.left);unfold g8 at q;generalize f:(if w∈c.left then [En.lf] else [])++(bA c.top.length).flatMap (i9 c w)=acc at q ⊢;have j:acc.length<=1000:=by rw[<-f,bP];lia
  walk;show⟨_,rfl,?_⟩;unfold dS;lk;show⟨nW 8 _,?_⟩;by_cases d:w∈c.right
  .rw[if_pos d];rw[if_pos d,bX] at q;show⟨by show gh _,by simp;lia,?_⟩;walk;show q
  rw[if_neg d];rw[if_neg d,eS] at q;walk;show q
 by_cases e:w∈c.left
 .rw[if_pos e];show⟨by show gh _,by show gh _,?_⟩;have:=fg .un;rw[if_pos e] at this;show this
 rw[if_neg e];have:=fg .un;rw[if_neg e] at this;show this
def nO(c:ba):En->Int
 | .lf=>-1
 | .tp n=>n
 | .bt n=>n
 | .rt=>c.top.length
def yX:bF:=λds Q=>∃c e,ds=[c.obj,dE e]/\Q (.fz (.int (nO c e)))
def PZ:(T:TX) ×' ∀{P w K mg base},Txt K mg->dr P w K mg base 0 "column_of" ["channel","end"] (top 4) T:=
 ⟨_,λT nd f c A outer s H E b=>have a:=b.units;
 (aB (df (bj (ef a) (aY (ae 1) av) gA) (aO (cE (vW av))) c8)
   (aB (df (bj (ef a) (aY (ae 1) av) gA) (aO (cE (de jG T.b_len iY (ah (cD (ae 0)) aq)))) c8)
   (aO (cE (aY (ae 1) av)))))⟩
def ML:TX:=PZ.1
def zhK:cU 2 yX ML 2:=by
 intro ds b hl h;let⟨c,e,rfl,q⟩:=h;show ML _ [.fz c.obj,.fz (dE e)];unfold ML PZ;dsimp only;cases e with
 | lf=>
  lk;show⟨_,rfl,?_⟩;lk;show q
 | tp n=>
  lk;show⟨_,rfl,?_⟩;lk;walk;show⟨_,rfl,?_⟩;lk;walk;show⟨_,rfl,q⟩
 | bt n=>
  lk;show⟨_,rfl,?_⟩;lk;walk;show⟨_,rfl,?_⟩;lk;walk;show⟨_,rfl,q⟩
 | rt=>
  lk;show⟨_,rfl,?_⟩;lk;walk;show⟨_,rfl,?_⟩;lk;lk;show⟨_,rfl,?_⟩;unfold dP;lk;rw[aE];show q
def pl(c:ba)(w:aa):List Int:=
 (if w∈c.left then [-1] else [])++(((bA c.top.length).filter λn=>c.top[n]?==some (some w)||c.aA[n]?==some (some w)).map λ(n:Nat)=>(n:Int))++(if w∈c.right then [(c.top.length:Int)] else [])
def ER(c w):(pl c w).Pairwise (·<·):=by
 unfold pl;have g:∀x∈(((bA c.top.length).filter λn=>c.top[n]?==some (some w)||c.aA[n]?==some (some w)).map λ(n:Nat)=>(n:Int)),0<=x/\x<c.top.length:=by
  intro x hx;rw[aK] at hx;let⟨n,i,rfl⟩:=hx;cbv
 have f:(((bA c.top.length).filter λn=>c.top[n]?==some (some w)||c.aA[n]?==some (some w)).map λ(n:Nat)=>(n:Int)).Pairwise (·<·):=by
  rw[gQ];show Rb.imp ?_ (aaG _ List.pairwise_lt_range);intro a b h;cbv
 generalize (((bA c.top.length).filter λn=>c.top[n]?==some (some w)||c.aA[n]?==some (some w)).map λ(n:Nat)=>(n:Int))=mid at g f;rw[mn,mn];show⟨⟨by split<;>simp,f,λa d b e=>?_⟩,by split<;>simp,λa d b e=>?_⟩
 .split at d
  .have:=g b e;simp at d;ext
  cases d
 split at e
 .rcases bx.mp d with d | d
  .split at d
   .simp at d e;lia
   cases d
  simp at e;cbv
 cases e
def zsv(c w k):k∈(g8 c w).map (nO c)↔k∈pl c w:=by
 unfold g8 pl;simp only[bX,bx];have j:k∈(if w∈c.left then [En.lf] else []).map (nO c)↔k∈(if w∈c.left then [(-1:Int)] else []):=by split<;>simp[nO]
 have g:k∈(if w∈c.right then [En.rt] else []).map (nO c)↔k∈(if w∈c.right then [(c.top.length:Int)] else []):=by split<;>simp[nO]
 rw[j,g];have i:k∈((bA c.top.length).flatMap (i9 c w)).map (nO c)↔k∈(((bA c.top.length).filter λn=>c.top[n]?==some (some w)||c.aA[n]?==some (some w)).map λ(n:Nat)=>(n:Int)):=by
  simp![aK,nI,iT,cF,AD,beq_iff_eq];constructor
  .rintro⟨e,⟨n,b,he⟩,rfl⟩;symm;rcases bx.mp he with h | h
   .split at h
    .rename_i d;simp at h;subst h;show⟨n,⟨b,.inl d⟩,rfl⟩
    cases h
   split at h
   .rename_i f;simp at h;subst h;show⟨n,⟨b,.inr f⟩,rfl⟩
   cases h
  rintro⟨n,⟨b,d | f⟩,rfl⟩
  .exact⟨.tp n,⟨n,b,by simp[i9,d]⟩,rfl⟩
  show⟨.bt n,⟨n,b,by simp[i9,f]⟩,rfl⟩
 rw[i]
def AU:List Int->D
 | []=>.non
 | a::r=>if a=(a::r).getLast ∅ then .non else .tup [.int a,.int ((a::r).getLast ∅)]
def BY:bF:=λds Q=>∃c w,ds=[c.obj,.str w]/\tK c/\Q (.fz (AU (pl c w)))
def zgW:di ["end","channel"]:=by decide +kernel
def Pu:(T:TX) ×' ∀{P w K mg base},Txt K mg->~~~1 "ends_of" 2 yN->~~~1 "column_of" 2 yX->dr P w K mg base 1 "stretch_of" ["channel","name","columns"] (top 5) T:=
 ⟨_,λT pY pZ nd f d A outer s H E a=>have c:=a.units;
 (aB (ur 2 rfl (.of (N':=["end","channel"]) (m:=[none,some 0]) 'b') cO (cI (bU pY a (ah (ae 0) (ah (ae 1) aq)))) (λs3 b ex=>(aJ 0 zgW)) (λs3 b ex=>eY) (λs3 b ex=>(bU pZ a (ah (ae 1) (ah (ae 0) aq)))) nd)
   (aB (df (bj vL (XJ rfl T.b_len T.b_set (ah (ae 2) aq)) av) (aO (cE fU)) c8)
   (aO (cE (eW (ah (de (EX rfl) T.b_min Dx (ah (ae 2) aq)) (ah (de (A8 rfl) T.b_max Ah (ah (ae 2) aq)) aq)))))))⟩
def Nb:TX:=Pu.1
def Br{r:List Int}(h:(a::r).Pairwise (·<·)):∀x∈a::r,x<=(a::r).getLast ∅:=by
 induction r generalizing a with
 | nil=>intro x hx;simp at hx;simp[hx]
 | cons b r c=>
  intro x hx;rw[iV] at h;rw[RR ∅];rcases bE.mp hx with rfl | hx
  .have:=h.1 b 'c';have:=c h.2 b 'c';lia
  show c h.2 x hx
def zgX:cU 2 BY Nb 3:=by
 intro ds C hl h;let⟨c,w,rfl,sh,q⟩:=h;show Nb _ [.fz c.obj,.fz (.str w),.un];unfold Nb Pu;dsimp only;have big:=dn;lk;have s:(g8 c w).length<=2*c.top.length+2:=by
  unfold g8;simp only[bP];have:=F2 c w c.top.length;have a:∀(b:Prop)[Decidable b](x:En),(if b then [x] else []).length<=1:=λb _ x=>by split<;>simp
  have a1:=a (w∈c.left) .lf;have a2:=a (w∈c.right) .rt;lia
 have hw:=sh.w;show gr (g8 c w) dE (λe=>.int (nO c e)) (λE h=>?_) 'a' (λe he F k=>?_) ?_
 .lk;show⟨c,w,rfl,sh,h⟩
 .lk;show⟨c,e,rfl,k⟩
 have v:(g8 c w).map (λe=>D.int (nO c e))=((g8 c w).map (nO c)).map D.int:=by simp
 rw[v];have hm:=zsv c w;have d:=ER c w;have hnd:(pl c w).Nodup:=d.imp λh=>by lia
 have n:((g8 c w).map (nO c)).length<=1000:=by rw[aE];lia
 generalize (g8 c w).map (nO c)=gm at hm n ⊢;generalize pl c w=p at hm d hnd q ⊢;walk;simp![LB,fK,eI,g7,yQ];show⟨by lia,λl ln lm=>?_⟩;have j:l.Perm p:=(Ew ln hnd).mpr λk=>by rw[lm,hm]
 have hlen:=j.length_eq;lk;match p,d,hm,hlen,q with
 | [],_,_,hlen,q=>
  rw[if_pos (by rw[hlen];decide)];show q
 | [a],_,_,hlen,q=>
  rw[if_pos (by rw[hlen];show fA _)];simpa[AU] using q
 | a::b::r,d,hm,hlen,q=>
  rw[if_neg (by rw[hlen];nofun)];walk;try simp only[qr,rJ,vM,eI,g7,yQ]
  have i:gm≠[]:=λz=>by have:=(hm a).mpr 'c';rw[z] at this;cases this
  show⟨i,λm o t=>⟨i,λM y A=>⟨by trivial,?_⟩⟩⟩;have em:m=a:=by
   have g:=t a ((hm a).mpr 'c');have f:=(hm m).mp o;rcases bE.mp f with h | h
   .exact h
   have:=(iV.mp d).1 m h;lia
  have u:M=(a::b::r).getLast ∅:=by
   have g:=A _ ((hm _).mpr (DT (by simp:a::b::r≠[])));have f:=Br d M ((hm M).mp y);lia
  have B:a<(a::b::r).getLast ∅:=by
   have g:=(iV.mp d).1 b 'c';have f:=Br d b (by show .tail _ (.head _));lia
  subst em u;simp![AU] at q;rw[if_neg 'a'] at q;show q
def kW(c:ba)(w:aa):Prop:=some w∈c.top\/some w∈c.aA\/w∈c.left\/w∈c.right
def uw:bF:=λds Q=>∃(c:ba)(ws:List aa),ds=[c.obj]/\tK c/\ws.length<=40/\(∀w,kW c w->w∈ws)/\∀l:List aa,l.Nodup->(∀w,w∈l↔kW c w)->sortedS l=true->Q (.ow (l.map D.str))
def PF:(T:TX) ×' ∀{P w K mg base},Txt K mg->dr P w K mg base 0 "nets_of" ["channel","pins"] (top 2) T:=
 ⟨_,λT nd f d A outer s H E b=>have c:=b.units;
 (aB (ur 1 rfl (.of (N':=["name"]) (m:=[none]) 'b') cO (cI (aG cj (cD (ae 0)) (cD (ae 0)))) (λs3 a ex=>(aJ 0 pA)) (λs3 a ex=>(iC (bj mQ (ae 0) fU))) (λs3 a ex=>(ae 0)) nd)
   (aO (cE (MZ rfl T.b_sorted T.b_set (ah (aG cj (aG cj (ae 1) (cD (ae 0))) (cD (ae 0))) aq)))))⟩
def Md:TX:=PF.1
def v8{l ws:List aa}(nd:l.Nodup)(h:∀w∈l,w∈ws):l.length<=ws.length:=by
 induction l generalizing ws with
 | nil=>simp
 | cons a r c=>
  rw[fY] at nd;have b:a∈ws:=h a 'c';have:=c (ws:=ws.erase a) nd.2 λw hw=>(Sf λ(z:w=a)=>nd.1 (z▸hw)).mpr (h w 'i')
  rw[JM b] at this;have d:0<ws.length:=Sz b;simp![cZ];lia
def zkz:cU 1 uw Md 2:=by
 intro ds s hl h;let⟨c,ws,rfl,sh,o,hm,q⟩:=h;show Md _ [.fz c.obj,.un];unfold Md PF;dsimp only;unfold ba.obj;have big:=dn;have hw:=sh.w;have p:=sh.b;lk;show kA (c.top++c.aA) dO dO (λx=>x.isSome) (λt h=>?_) (by simp;lia) (λx hx u v k1 f=>?_) ?_
 .lk;show⟨_,rfl,_,rfl,?_⟩;lk;show⟨by simp;lia,?_⟩;rw[bX] at h;show h
 .lk;cases x with
  | none=>show f rfl
  | some x=>show k1 rfl
 rw[LM];have j:((c.top++c.aA).filterMap id).length<=100:=by
  show bK (xT _ _) ?_;simp;lia
 have e:∀w,w∈(c.top++c.aA).filterMap id↔some w∈c.top\/some w∈c.aA:=by
  intro w;simp[xR]
 generalize (c.top++c.aA).filterMap id=m at j e ⊢;walk;show⟨_,rfl,?_⟩;lk;have n:=sh.l;have i:=sh.r;show⟨by simp;lia,_,rfl,?_⟩;lk;show⟨by simp;lia,?_⟩;rw[<-bX,<-bX];simp![Gu,fK,eI,g7,yP];have d:∀w,w∈m++c.left++c.right↔kW c w:=by
  intro w;simp![bx,e,kW];constructor
  .rintro(((h | h) | h) | h)
   .exact .inl h
   .exact .inr (.inl h)
   .exact .inr (.inr (.inl h))
   show .inr (.inr (.inr h))
  rintro(h | h | h | h)
  .exact .inl (.inl (.inl h))
  .exact .inl (.inl (.inr h))
  .exact .inl (.inr h)
  show .inr h
 show⟨by simp;lia,λl nd h=>?_,λl nd h g=>q l nd (λw=>by rw[h,d]) g⟩;have:=v8 nd λw hw=>hm w ((d w).mp (h w hw))
 lia
def nN:List (aa×Int)->aa->Int
 | [],_=>1
 | p::r,w=>if p.1=w then p.2 else nN r w
def yV:bF:=λds Q=>∃(c:ba)(w:aa),ds=[c.obj,.str w]/\Q (.fz (.int (nN c.wide w)))
def Pt:(T:TX) ×' ∀{P w K mg base},Txt K mg->dr P w K mg base 0 "width_of" ["channel","name","wide_name","width"] (top 3) T:=
 ⟨_,λT nd f c A outer s H E b=>have a:=b.units;
 (aB (fe eE rfl (cI (cD (ae 0))) (fh (n:=2) rfl (bI (aJ 2 nd) (bI (aJ 3 nd) eU)))
    (aO (df (bj (ef a) (ae 2) (ae 1)) (aO (cE (ae 3))) c8)))
   (aO (cE av)))⟩
def Mz:TX:=Pt.1
def zjk:cU 2 yV Mz 4:=by
 intro ds g hl h;let⟨c,w,rfl,q⟩:=h;show Mz _ [.fz c.obj,.fz (.str w),.un,.un];unfold Mz Pt;dsimp only;lk;let f:TJ:=λi ρ=>∃a b:Sl,ρ=[.fz c.obj,.fz (.str w),a,b]/\nN c.wide w=nN (c.wide.drop i) w
 show nY c.wide u4 (λj h=>?_) f ⟨_,_,rfl,rfl⟩ ?_ ?_
 .lk;show⟨_,rfl,h⟩
 .rintro i x ρ hx ⟨a,b,rfl,hd⟩;let⟨e,d⟩:=c7.mp hx;rw[qX e,d] at hd;unfold u4;lk;by_cases hw:x.1=w
  .rw[if_pos hw];simp![nN,if_pos hw] at hd;rw[hd] at q;show q
  rw[if_neg hw];simp![nN,if_neg hw] at hd;show⟨_,_,rfl,hd⟩
 rintro ρ ⟨a,b,rfl,hd⟩;rw[Jj] at hd;rw[hd] at q;walk;show q
def B8:bF:=λds Q=>∃p q:Pc,ds=[cW p,cW q]/\Q (.fz (dJ (A0 p q)))
def PY:(T:TX) ×' ∀{P w K mg base},Txt K mg->dr P w K mg base 0 "common_of" ["one","other","column"] (top 10) T:=
 ⟨_,λT nd f c A outer s H E a=>have b:=a.units;
 (aB (bM 2 (de (A8 rfl) T.b_max Ah (ah (aY (ae 0) av) (ah (aY (ae 1) av) aq))) nd)
   (aB (df (bj uf (ae 2) (de (EX rfl) T.b_min Dx (ah (aY (ae 0) av) (ah (aY (ae 1) av) aq)))) (aO (cE fU)) c8)
   (aO (cE (ae 2)))))⟩
def MK:TX:=PY.1
def zhL:cU 2 B8 MK 3:=by
 intro ds d hl h;let⟨p,q,rfl,Q⟩:=h;show MK _ [.fz (cW p),.fz (cW q),.un];unfold MK PY;dsimp only;unfold cW;lk;show⟨_,rfl,_,rfl,?_⟩;walk;show⟨_,rfl,_,rfl,?_⟩;try unfold qr
 lk;unfold A0 at Q;generalize (if q.l>p.l then q.l else p.l)=a at Q ⊢;generalize (if q.r<p.r then q.r else p.r)=b at Q ⊢;by_cases h:b<a
 .rw[if_pos h] at Q;rw[if_pos h];show Q
 rw[if_neg h] at Q;rw[if_neg h];walk;show Q
def eB(ps:List Pc)(n:Option aa)(c:Int):List Nat:=(ps.zipIdx.filter λp=>decide (p.1.n=n)&&iw p.1 c).map (·.2)
def yW:bF:=λds Q=>∃ps n c,ds=[dY ps,dO n,.int c]/\ps.length<=100000/\Q (.ow ((eB ps n c).map dN))
def YH:di ["number","piece","name","column"]:=by decide +kernel
def PC:(T:TX) ×' ∀{P w K mg base},Txt K mg->dr P w K mg base 0 "pieces_at" ["pieces","name","column"] (top 11) T:=
 ⟨_,λT nd f d A outer s H E c=>have b:=c.units;
 (aO (cE (eu rfl (.of (N':=["number","piece","name","column"]) (m:=[none,none,some 1,some 2]) 'b') nZ (pD T.b_enumerate (ah (ae 0) aq)) (λs3 a ex=>(fh (n:=2) rfl (bI (aJ 0 YH) (bI (aJ 1 YH) eU)))) (λs3 a ex=>(iC (jI (bj (ef b) (aY (ae 1) av) (ae 2)) (nX (zrf KA KA (aY (ae 1) av) (ae 3) (aY (ae 1) av)))).pb)) (λs3 a ex=>(ae 0)))))⟩
def MJ:TX:=PC.1
def zhM:cU 3 yW MJ 3:=by
 intro ds j hl h;let⟨ps,n,c,rfl,i,q⟩:=h;show MJ _ [.fz (dY ps),.fz (dO n),.fz (.int c)];unfold MJ PC;dsimp only;unfold dY;have big:=dn;lk;show kA ps.zipIdx (λp=>.tup [.int (p.2:Nat),cW p.1]) (λp=>dN p.2) (λp=>decide (p.1.n=n)&&iw p.1 c) (λm h=>?_) (by simp;lia) (λp g o s k1 e=>?_) ?_
 .lk;rw[LN];show h
 .lk;show⟨_,rfl,?_⟩;lk;unfold iw at k1 e;by_cases b:p.1.n=n
  .rw[if_pos b];show⟨_,rfl,?_⟩;lk;by_cases d:p.1.l<=c
   .rw[if_pos d];show⟨_,rfl,?_⟩;lk;by_cases f:c<=p.1.r
    .rw[if_pos f];show k1 (by simp[b,d,f])
    rw[if_neg f];show e (by simp[b,d,f])
   rw[if_neg d];show e (by simp[b,d])
  rw[if_neg b];show e (by simp[b])
 unfold eB at q;rw[bz] at q;show q
def qo:List Int->Option (Int×Int)
 | []=>none
 | a::r=>if a=(a::r).getLast ∅ then none else some (a,(a::r).getLast ∅)
def zve(p:List Int):AU p=match qo p with | none=>.non | some q=>.tup [.int q.1,.int q.2]:=by
 cases p with
 | nil=>rfl
 | cons a r=>
  simp![AU,qo];by_cases h:a=(a::r).getLast ∅
  .rw[if_pos h,if_pos h]
  rw[if_neg h,if_neg h]
def i8(c:ba)(w:aa):List Int:=(c.c6.filter λp=>decide (p.2=w)).map (·.1)
def BQ:bF:=λds Q=>∃c w,ds=[c.obj,.str w]/\c.c6.length<=100/\Q (.ow ((i8 c w).map D.int))
def YR:di ["column","bent_name","name"]:=by decide +kernel
def P4:(T:TX) ×' ∀{P w K mg base},Txt K mg->dr P w K mg base 0 "bend_columns" ["channel","name"] (top 9) T:=
 ⟨_,λT nd f d A outer s H E c=>have b:=c.units;
 (aO (cE (eu rfl (.of (N':=["column","bent_name","name"]) (m:=[none,none,some 1]) 'b') nZ (cI (cD (ae 0))) (λs3 a ex=>(fh (n:=2) rfl (bI (aJ 0 YR) (bI (aJ 1 YR) eU)))) (λs3 a ex=>(iC (bj (ef b) (ae 1) (ae 2)))) (λs3 a ex=>(ae 0)))))⟩
def Np:TX:=P4.1
def zfk:cU 2 BQ Np 2:=by
 intro ds g hl h;let⟨c,w,rfl,f,q⟩:=h;show Np _ [.fz c.obj,.fz (.str w)];unfold Np P4;dsimp only;have big:=dn;lk;show kA c.c6 qU (λp=>.int p.1) (λp=>decide (p.2=w)) (λi h=>?_) 'a' (λp e j m k1 d=>?_) ?_
 .lk;show⟨_,rfl,h⟩
 .unfold qU;lk;by_cases b:p.2=w
  .rw[if_pos b];show k1 'l'
  rw[if_neg b];show d (by show if_neg ‹_›)
 unfold i8 at q;rw[bz] at q;show q
def o9(w:aa)(k:Int)(bs:List Int):List Pc:=(bs.zip (bs.drop 1)).map λp=>⟨some w,p.1,p.2,k⟩
def i5(c:ba)(ar:Bool)(w:aa):List Pc:=match qo (pl c w) with
 | none=>[]
 | some p=>o9 w (nN c.wide w) ([p.1]++(if ar then i8 c w else [])++[p.2])
def wc:bF:=λds Q=>∃c w ar,ds=[c.obj,.str w,.bl ar]/\tK c/\c.c6.length<=100/\Q (.ow ((i5 c ar w).map cW))
def YM:di ["first","last","name","width"]:=by decide +kernel
def PH:(T:TX) ×' ∀{P w K mg base},Txt K mg->~~~2 "stretch_of" 2 BY->~~~1 "bend_columns" 2 BQ->~~~1 "width_of" 2 yV->dr P w K mg base 2 "net_pieces" ["channel","name","bent","stretch","cuts","borders","width"] (top 8) T:=
 ⟨_,λT zL zZ zK nd f d A outer s H E a=>have c:=a.units;
 (aB (bM 3 (bU zL a (ah (ae 0) (ah (ae 1) aq))) nd)
   (aB (df (bj Ke (ae 3) fU) (aO (cE (cQ aq))) c8)
   (aB (bM 4 (yM (vX (ae 2)) (bU zZ a (ah (ae 0) (ah (ae 1) aq))) (cQ aq)) nd)
   (aB (bM 5 (aG cj (aG cj (cQ (ah (aY (ae 3) av) aq)) (ae 4)) (cQ (ah (aY (ae 3) av) aq))) nd)
   (aB (bM 6 (bU zK a (ah (ae 0) (ah (ae 1) aq))) nd)
   (aO (cE (eu rfl (.of (N':=["first","last","name","width"]) (m:=[none,none,some 1,some 6]) 'b') nZ (yD T.b_zip (ah (ae 5) (ah (ju (ae 5) (iK av) kC) aq))) (λs3 b ex=>(fh (n:=2) rfl (bI (aJ 0 YM) (bI (aJ 1 YM) eU)))) (λs3 b ex=>eY) (λs3 b ex=>(eW (ah (ae 2) (ah (ae 0) (ah (ae 1) (ah (ae 3) aq))))))))))))))⟩
def Na:TX:=PH.1
def zgZ:cU 3 wc Na 7:=by
 intro ds e hl h;let⟨c,w,ar,rfl,sh,d,q⟩:=h;show Na _ [.fz c.obj,.fz (.str w),.fz (.bl ar),.un,.un,.un,.un];unfold Na PH;dsimp only;have big:=dn;lk;show⟨c,w,rfl,sh,?_⟩;rw[zve];unfold i5 at q;generalize qo (pl c w)=st at q ⊢;cases st with
 | none=>
  walk;show⟨by show b9 _,q⟩
 | some p=>
  walk;have f:(if ar then i8 c w else []).length<=100:=by
   split
   .unfold i8;rw[aE];show bK (jE _ _) d
   simp
  have fin:∀cs:List Int,cs=(if ar then i8 c w else [])->i7 (eT (ku 5 (bg qw (bg qw (mK (aM (bg fF (aF 3) (dC (.int 0))) bJ)) (aF 4)) (mK (aM (bg fF (aF 3) (dC (.int 1))) bJ))))
 (eT (ku 6 (f7 2 yV (aM (aF 0) (aM (aF 1) bJ))))
 (vK (jH (qu (aM (aF 5) (aM (zC (aF 5) (yp (dC (.int 1))) zb) bJ))) [none,none,some 1,some 6] (ph 2 (gq (eH 0) (gq (eH 1) lM))) nQ (kh (aM (aF 2) (aM (aF 0) (aM (aF 1) (aM (aF 3) bJ))))))))) { nx:=λ_=>e (.fz .non),rt:=e } [.fz c.obj,.fz (.str w),.fz (.bl ar),.fz (.tup [.int p.1,.int p.2]),.fz (.lst (cs.map D.int)),.un,.un]:=by
   intro cs i;rw[<-i] at q f;walk;show⟨.int p.1,rfl,by show gh _,by simp;lia,.int p.2,rfl,by show gh _,by simp;lia,?_⟩;walk;show⟨c,w,rfl,?_⟩;walk;have g:(D.int p.1::(bW D.int cs++[D.int p.2]))=([p.1]++cs++[p.2]).map D.int:=by simp
   simp![g];have b:([p.1]++cs++[p.2]).length<=102:=by simp;ext
   dsimp only at q;generalize [p.1]++cs++[p.2]=bs at q b ⊢;show gr (bs.zip (bs.drop 1)) (λp=>.tup [.int p.1,.int p.2]) (λp=>cW ⟨some w,p.1,p.2,nN c.wide w⟩) (λj h=>?_) (by simp;lia) (λx hx m k=>?_) ?_
   .lk;rw[Gp _ 'g'];rw[yK];show h
   .lk;show⟨by trivial,k⟩
   unfold o9 at q;rw[bz] at q;show q
  cases ar with
  | true=>
   walk;show⟨c,w,rfl,d,?_⟩;show fin _ rfl
  | false=>
   walk;show⟨by show b9 _,fin [] rfl⟩
structure nq(c:ba)(l:List aa):Prop where
 nd:l.Nodup
 mem:∀w,w∈l↔kW c w
 sF:sortedS l=true
def rZ(c:ba):List Pc:=c.keeps.map λk=>⟨none,k.1,k.2.1,k.2.2⟩
def bG(c:ba)(ar:Bool)(l:List aa):List Pc:=rZ c++l.flatMap (i5 c ar)
def FY(c ar w):(i5 c ar w).length<=c.c6.length+1:=by
 unfold i5;split
 .simp
 unfold o9;have:(i8 c w).length<=c.c6.length:=by unfold i8;rw[aE];show jE _ _
 have:(if ar then i8 c w else []).length<=c.c6.length:=by split<;>simp[*]
 simp;ext
def LI{α b:Type}(f:α->List b)(k)(h:∀a,(f a).length<=k):∀l:List α,(l.flatMap f).length<=l.length*k:=by
 intro l;induction l with
 | nil=>show b9 _
 | cons a r c=>
  rw[iU,bP,cZ,tR];have:=h a;lia
def BC:bF:=λds Q=>∃(c:ba)(ar:Bool)(ws:List aa),ds=[c.obj,.bl ar]/\tK c/\c.c6.length<=100/\c.keeps.length<=100/\ws.length<=40/\(∀w,kW c w->w∈ws)/\∀l,nq c l->Q (.ow ('h'.map cW))
def Gr:TX:=(eT (ue 2 (jH (lL (iy "keeps" (aF 0))) [none,none,none] (ph 3 (gq (eH 0) (gq (eH 1) (gq (eH 2) lM)))) nQ (kh (aM (dC .non) (aM (aF 0) (aM (aF 1) (aM (aF 2) bJ)))))))
 (eT (kM (lL (f7 1 uw (aM (aF 0) bJ))) (eH 3) (rS 2 (f7 3 wc (aM (aF 0) (aM (aF 3) (aM (aF 1) bJ))))))
 (r8 2)))
def zhN:cU 2 BC Gr 4:=by
 intro ds s hl h;symm;let⟨c,ar,ws,rfl,sh,e,d,b,hm,q⟩:=h;show Gr _ [.fz c.obj,.fz (.bl ar),.un,.un];unfold Gr;have big:=dn;lk;show gr c.keeps Df (λk=>cW ⟨none,k.1,k.2.1,k.2.2⟩) (λg h=>?_) 'a' (λx hx t k=>?_) ?_
 .lk;show⟨_,rfl,h⟩
 .unfold Df;lk;show⟨by trivial,k⟩
 have f:c.keeps.map (λk=>cW ⟨none,k.1,k.2.1,k.2.2⟩)=(rZ c).map cW:=by unfold rZ;rw[bz];rfl
 rw[f];walk;show LO (λds=>∃l,nq c l/\ds=l.map D.str) (λg h=>?_) ?_
 .lk;show⟨c,ws,rfl,sh,b,hm,λl nd mem sF=>h _ ⟨l,⟨nd,mem,sF⟩,rfl⟩⟩
 rintro _ ⟨l,hN,rfl⟩;have m:l.length<=40:=bK (v8 hN.nd λw hw=>hm w ((hN.mem w).mp hw)) b;let j:TJ:=λi ρ=>∃a:Sl,ρ=[.fz c.obj,.fz (.bl ar),.ow ((rZ c++(l.take i).flatMap (i5 c ar)).map cW),a]
 show Yf l D.str j ⟨.un,∅⟩ ?_ ?_
 .rintro i x ρ hx ⟨a,rfl⟩;lk;show⟨c,x,ar,rfl,sh,e,?_⟩;have r:=LI (i5 c ar) 101 (λw=>by have:=FY c ar w;lia) (l.take i);have p:=FY c ar x;have o:(rZ c).length<=100:=by unfold rZ;rw[aE];show d
  have n:(l.take i).length<=40:=by rw[cN];lia
  show⟨by simp![bP,aE];lia,.fz (.str x),?_⟩;rw[fG,hx];simp[qi]
 rintro ρ ⟨a,rfl⟩;walk;rw[gk];show q l hN
def vO(p:Pc)(ps:List Pc):List (Nat×Option Int):=(ps.zipIdx.filter λq=>q.1.n.isSome).map λq=>(q.2,A0 p q.1)
def xW(p:Pc)(ps:List Pc):List (Nat×Int):=(vO p ps).filterMap λx=>x.2.map λc=>(x.1,c)
def BP:bF:=λds Q=>∃p ps,ds=[cW p,dY ps]/\ps.length<=1000/\Q (.ow ((xW p ps).map λx=>.tup [dN x.1,.int x.2]))
def YQ:di ["number","piece","keep"]:=by decide +kernel
def YO:di ["number","column"]:=by decide +kernel
def P2:(T:TX) ×' ∀{P w K mg base},Txt K mg->~~~1 "common_of" 2 B8->dr P w K mg base 1 "beneath_keep" ["keep","pieces","commons"] (top 16) T:=
 ⟨_,λT zW nd f d A outer s H E b=>have c:=b.units;
 (aB (ur 2 rfl (.of (N':=["number","piece","keep"]) (m:=[none,none,some 0]) 'b') nZ (pD T.b_enumerate (ah (ae 1) aq)) (λs3 a ex=>(fh (n:=2) rfl (bI (aJ 0 YQ) (bI (aJ 1 YQ) eU)))) (λs3 a ex=>(iC (bj mQ (aY (ae 1) av) fU))) (λs3 a ex=>(eW (ah (ae 0) (ah (bU zW b (ah (ae 2) (ah (ae 1) aq))) aq)))) nd)
   (aO (cE (eu rfl (.of (N':=["number","column"]) (m:=[none,none]) 'b') nZ (cI (ae 2)) (λs3 a ex=>(fh (n:=2) rfl (bI (aJ 0 YO) (bI (aJ 1 YO) eU)))) (λs3 a ex=>(iC (bj mQ (ae 1) fU))) (λs3 a ex=>(eW (ah (ae 0) (ah (ae 1) aq))))))))⟩
def Nn:TX:=P2.1
def zfl:cU 2 BP Nn 3:=by
 intro ds u hl h;let⟨p,ps,rfl,i,q⟩:=h;show Nn _ [.fz (cW p),.fz (dY ps),.un];unfold Nn P2;dsimp only;have big:=dn;lk;show kA ps.zipIdx (λp=>.tup [.int (p.2:Nat),cW p.1]) (λq=>.tup [dN q.2,dJ (A0 p q.1)]) (λq=>q.1.n.isSome) (λo h=>?_) (by simp;lia) (λx hx s t k1 d=>?_) ?_
 .unfold dY;lk;rw[LN];show h
 .lk;have f:cW x.1=.tup [dO x.1.n,.int x.1.l,.int x.1.r,.int x.1.k]:=rfl;simp![f];show⟨_,rfl,?_⟩;cases b:x.1.n with
  | none=>lk;show d (by rw[b];rfl)
  | some w=>
   simp![dO];lk;have j:D.tup [D.str w,D.int x.1.l,D.int x.1.r,D.int x.1.k]=cW x.1:=by rw[f,b];rfl
   rw[j];show⟨p,x.1,rfl,?_⟩;show⟨by trivial,k1 (by rw[b];rfl)⟩
 have m:(ps.zipIdx.filter λq=>q.1.n.isSome).map (λq=>D.tup [dN q.2,dJ (A0 p q.1)])=(vO p ps).map λx=>.tup [dN x.1,dJ x.2]:=by unfold vO;rw[bz];rfl
 rw[m];have g:(vO p ps).length<=1000:=by
  unfold vO;rw[aE];show bK (jE _ _) ?_;simpa using i
 unfold xW at q;generalize vO p ps=cs at q g ⊢;walk;show FL cs (λx=>.tup [dN x.1,dJ x.2]) (λx=>(x.2.map λc=>(x.1,c)).map λx=>.tup [dN x.1,.int x.2]) (λo h=>?_) 'a' (λx hx s t k1 d=>?_) ?_
 .lk;show h
 .lk;cases e:x.2 with
  | none=>lk;show d (by rw[e];rfl)
  | some c=>
   lk;show⟨by trivial,k1 _ (by rw[e];rfl)⟩
 rw[R1] at q;show q
def Vv(p ps):(xW p ps).length<=ps.length:=by
 unfold xW vO;show bK (xT _ _) ?_;rw[aE];show bK (jE _ _) ?_;simp
def qD(ps:List Pc)(p:Pc×Nat):List Tr:=if p.1.n=none then(xW p.1 ps).map λx=>(p.2,x.1,x.2) else []
def uM(ps:List Pc):List Tr:=ps.zipIdx.flatMap (qD ps)
def Yb(ps p):(qD ps p).length<=ps.length:=by
 unfold qD;split
 .rw[aE];show Vv _ _
 simp
def yU{α b:Type}(f:α->List b)(k)(h:∀a,(f a).length<=k):∀l:List α,(l.flatMap f).length<=l.length*k:=by
 intro l;induction l with
 | nil=>show b9 _
 | cons a r c=>
  rw[iU,bP,cZ,tR];have:=h a;lia
def BO:bF:=λds Q=>∃ps:List Pc,ds=[dY ps]/\ps.length<=1000/\Q (.ow ((uM ps).map dT))
def YU:di ["lower","column","upper"]:=by decide +kernel
def PL:(T:TX) ×' ∀{P w K mg base},Txt K mg->~~~2 "beneath_keep" 2 BP->dr P w K mg base 2 "keep_triples" ["pieces","triples","upper","keep"] (top 15) T:=
 ⟨_,λT zY nd f d A outer s H E a=>have c:=a.units;
 (aB (hJ 1 (cQ aq) nd)
   (aB (fe eE rfl (pD T.b_enumerate (ah (ae 0) aq)) (fh (n:=2) rfl (bI (aJ 2 nd) (bI (aJ 3 nd) eU)))
    (aO (df (bj Ke (aY (ae 3) av) fU) (aO (Fz 1 (eu rfl (.of (N':=["lower","column","upper"]) (m:=[none,none,some 2]) 'b') nZ (cI (bU zY a (ah (ae 3) (ah (ae 0) aq)))) (λs3 b ex=>(fh (n:=2) rfl (bI (aJ 0 YU) (bI (aJ 1 YU) eU)))) (λs3 b ex=>eY) (λs3 b ex=>(eW (ah (ae 2) (ah (ae 0) (ah (ae 1) aq)))))))) c8)))
   (aO (um 1))))⟩
def Nl:TX:=PL.1
def zfm:cU 1 BO Nl 4:=by
 intro ds s hl h;let⟨ps,rfl,f,q⟩:=h;show Nl _ [.fz (dY ps),.un,.un,.un];unfold Nl PL;dsimp only;have big:=dn;lk;show⟨by show b9 _,?_⟩;walk;show yR ps cW (λj h=>?_) (λi ρ=>∃a b:Sl,ρ=[.fz (dY ps),.ow ((((ps.zipIdx.take i).flatMap (qD ps))).map dT),a,b]) ⟨.un,.un,by rfl⟩ ?_ ?_
 .lk;show h
 .rintro i x ρ hx ⟨a,b,rfl⟩;have p:i<ps.length:=(c7.mp hx).1;have hz:ps.zipIdx[i]?\(x,i):=by rw[List.getElem?_zipIdx,hx];simp
  have tk:ps.zipIdx.take (i+1)=ps.zipIdx.take i++[(x,i)]:=by rw[fG,hz];rfl
  have len:=yU (qD ps) 1000 (λa=>bK (Yb ps a) f) (ps.zipIdx.take i);have m:(ps.zipIdx.take i).length<=1000:=by rw[cN];lia
  rw[tk,qi,iU,tV,eS];generalize (ps.zipIdx.take i).flatMap (qD ps)=acc at len ⊢;have e:cW x=.tup [dO x.n,.int x.l,.int x.r,.int x.k]:=rfl;lk;simp![e];show⟨_,rfl,?_⟩;cases d:x.n with
  | some w=>
   simp![dO];lk;show⟨.fz (.int i),.fz (cW x),?_⟩;unfold qD;rw[if_neg (by rw[d];show λz=>nomatch z),eS,e,d];rfl
  | none=>
   simp![dO];lk;have g:D.tup [D.non,D.int x.l,D.int x.r,D.int x.k]=cW x:=by rw[e,d];rfl
   rw[g];have bl:=Vv x ps;show gr (xW x ps) (λy=>.tup [dN y.1,.int y.2]) (λy=>dT (i,y.1,y.2)) (λj h=>?_) 'a' (λy o t k=>?_) ?_
   .lk;show⟨x,ps,rfl,f,h⟩
   .lk;show⟨by trivial,k⟩
   show⟨by simp![aE];lia,.fz (.int i),.fz (cW x),?_⟩;unfold qD;rw[if_pos (by show d),bX,bz];rfl
 rintro ρ ⟨a,b,rfl⟩;walk;rw[show ps.length=ps.zipIdx.length by simp,gk];show q
def pw(c:ba)(ps:List Pc)(n:Nat):List Tr:=match c.top[n]?,c.aA[n]? with
 | some (some u),some (some v)=>if u=v then [] else(eB ps (some u) n).flatMap λa=>(eB ps (some v) n).map λb=>(a,b,(n:Int))
 | _,_=>[]
def uH(c:ba)(ps:List Pc):List Tr:=(bA c.top.length).flatMap (pw c ps)
def FA(ps n c):(eB ps n c).length<=ps.length:=by
 unfold eB;rw[aE];show bK (jE _ _) ?_;simp
def XI(c ps n):(pw c ps n).length<=ps.length*ps.length:=by
 unfold pw;split
 .split
  .simp
  rename_i u v _ _ _;show bK (yU _ ps.length (λa=>by rw[aE];show FA _ _ _) _) ?_;show Jx _ (FA _ _ _)
 simp
def BK:bF:=λds Q=>∃c ps,ds=[c.obj,dY ps]/\tK c/\ps.length<=500/\Q (.ow ((uH c ps).map dT))
def zfK:di ["lower","upper","column"]:=by decide +kernel
def Pw:(T:TX) ×' ∀{P w K mg base},Txt K mg->~~~1 "pieces_at" 3 yW->dr P w K mg base 1 "pin_triples" ["channel","pieces","triples","column","upper_name","lower_name","lowers","upper"] (top 14) T:=
 ⟨_,λT oO nd f d A outer s H E a=>have c:=a.units;
 (aB (hJ 2 (cQ aq) nd)
   (aB (fe eE rfl (kz T.b_range (ah (de jG T.b_len iY (ah (cD (ae 0)) aq)) aq)) (aJ 3 nd)
    (aB (bM 4 (aY (cD (ae 0)) (ae 3)) nd)
   (aB (bM 5 (aY (cD (ae 0)) (ae 3)) nd)
   (aO (df (jI (bj mQ (ae 4) fU) (jI (bj mQ (ae 5) fU) (nX (bj (EN c) (ae 4) (ae 5))))).pb (aB (bM 6 (bU oO a (ah (ae 1) (ah (ae 5) (ah (ae 3) aq)))) nd)
   (aO (fe eE rfl (cI (bU oO a (ah (ae 1) (ah (ae 4) (ah (ae 3) aq))))) (aJ 7 nd)
    (aO (Fz 2 (eu rfl (.of (N':=["lower","upper","column"]) (m:=[none,some 7,some 3]) 'b') cO (cI (ae 6)) (λs3 b ex=>(aJ 0 zfK)) (λs3 b ex=>eY) (λs3 b ex=>(eW (ah (ae 1) (ah (ae 0) (ah (ae 2) aq))))))))))) c8)))))
   (aO (um 2))))⟩
def M5:TX:=Pw.1
def zfL:cU 2 BK M5 8:=by
 intro ds F hl h;let⟨c,ps,rfl,sh,r,q⟩:=h;show M5 _ [.fz c.obj,.fz (dY ps),.un,.un,.un,.un,.un,.un];unfold M5 Pw;dsimp only;have big:=dn;have hw:=sh.w;lk;show⟨by show b9 _,?_⟩;walk;show qK c.top.length (λt h=>?_) (λi ρ=>∃a b d e f:Sl,ρ=[.fz c.obj,.fz (dY ps),.ow (((bA i).flatMap (pw c ps)).map dT),a,b,d,e,f]) ⟨.un,.un,.un,.un,.un,by rfl⟩ ?_ ?_
 .lk;show⟨_,rfl,?_⟩;unfold dP;lk;rw[aE];show⟨by cbv,by lia,by trivial⟩
 .rintro i ρ n ⟨a,b,d,e,f,rfl⟩;have o:i<c.aA.length:=by rw[sh.b];show n
  have sq:ps.length*ps.length<=250000:=Aw r r;have len:=yU (pw c ps) 250000 (λa=>bK (XI c ps a) sq) (bA i);rw[qg] at len;rw[Az,qi,iU,tV,eS];generalize (bA i).flatMap (pw c ps)=acc at len ⊢;lk;unfold ba.obj;lk;show⟨_,rfl,?_⟩;unfold dP;lk;show⟨_,fE n,?_⟩;walk;show⟨_,rfl,?_⟩;lk;show⟨_,fE o,?_⟩;have obj:D.obj (fS "Channel") [(fS "top",D.lst (c.top.map dO)),(fS "bottom",D.lst (c.aA.map dO)),(fS "left",dS c.left),(fS "right",dS c.right),(fS "wide",dW c.wide),(fS "bends",dB c.c6),(fS "keeps",dK c.keeps)]=c.obj:=rfl;rw[obj];have m:pw c ps i=match c.top[i],c.aA[i] with | some u,some v=>(if u=v then [] else(eB ps (some u) i).flatMap λa=>(eB ps (some v) i).map λb=>(a,b,(i:Int))) | _,_=>[]:=by
   unfold pw;rw[cA n,cA o];cases c.top[i]<;>cases c.aA[i]<;>rfl
  generalize c.top[i]=x at m ⊢;generalize c.aA[i]=y at m ⊢;generalize pw c ps i=new at m ⊢;subst m;cases x with
  | none=>
   walk;show⟨_,_,_,_,_,by rw[eS]⟩
  | some u=>
   cases y with
   | none=>
    walk;show⟨_,_,_,_,_,by rw[eS]⟩
   | some v=>
    simp![dO];walk;by_cases s:u=v
    .simp![s,decide_true,Av,fZ,eC,eG];show⟨_,_,_,_,_,by rw[eS]⟩
    simp![s,decide_false,IV,eC,eG];show⟨ps,some v,i,rfl,by lia,?_⟩;walk;have l1:=FA ps (some u) i;have A:=FA ps (some v) i;have p:=yU (λa=>(eB ps (some v) i).map λb=>((a,b,(i:Int)):Tr)) 500 (λa=>by rw[aE];show bK ‹_› ‹_›);generalize eB ps (some v) i=g at A p ⊢;show nY (eB ps (some u) i) dN (λt h=>?_) (λj ρ=>∃f:Sl,ρ=[.fz c.obj,.fz (dY ps),.ow ((acc++((eB ps (some u) i).take j).flatMap λa=>g.map λb=>(a,b,(i:Int))).map dT),.fz (.int i),.fz (.str u),.fz (.str v),.fz (.lst (g.map dN)),f]) ⟨_,by rw[I0,tV,eS]⟩ ?_ ?_
    .lk;show⟨ps,some u,i,rfl,by lia,h⟩
    .rintro j x ρ hx ⟨f,rfl⟩;have z:=p ((eB ps (some u) i).take j);have C:((eB ps (some u) i).take j).length<=500:=by rw[cN];lia
     rw[fG,hx,qi];generalize ((eB ps (some u) i).take j).flatMap (λa=>g.map λb=>((a,b,(i:Int)):Tr))=B at z ⊢;unfold dN;lk;show gr g dN (λb=>dT (x,b,(i:Int))) (λt h=>?_) 'a' (λb E H k=>?_) ?_
     .lk;show h
     .lk;show⟨by trivial,k⟩
     show⟨by simp![aE,bP];lia,.fz (.int x),?_⟩;simp
    rintro ρ ⟨f,rfl⟩;show⟨_,_,_,_,_,by rw[gk]⟩
 rintro ρ ⟨a,b,d,e,f,rfl⟩;walk;show q
def kT(t:Tr):List Int:=[(t.1:Int),(t.2.1:Int),t.2.2]
structure Above(c:ba)(ps:List Pc)(ts:List Tr):Prop where
 pm:ts.Perm (uH c ps++uM ps)
 sF:ts.Pairwise λx y=>HT.CF (kT x) (kT y)=false
def Bw:bF:=λds Q=>∃c ps,ds=[c.obj,dY ps]/\tK c/\ps.length<=500/\∀ts,Above c ps ts->Q (.ow (ts.map dT))
def P5:(T:TX) ×' ∀{P w K mg base},Txt K mg->~~~2 "pin_triples" 2 BK->~~~3 "keep_triples" 1 BO->dr P w K mg base 3 "above_of" ["channel","pieces"] (top 13) T:=
 ⟨_,λT zM zR nd f c A outer s H E a=>have b:=a.units;
 (aO (cE (de (zsd rfl) T.b_sorted qe (ah (aG cj (bU zM a (ah (ae 0) (ah (ae 1) aq))) (bU zR a (ah (ae 1) aq))) aq))))⟩
def My:TX:=P5.1
def WR(c ps)(sh:tK c)(b:ps.length<=500):(uH c ps).length<=10000000:=by
 have sq:ps.length*ps.length<=250000:=Aw b b;have:=yU (pw c ps) 250000 (λa=>bK (XI c ps a) sq) (bA c.top.length);rw[qg] at this;have:=sh.w;unfold uH;lia
def XH(ps)(b:ps.length<=500):(uM ps).length<=250000:=by
 have:=yU (qD ps) 500 (λa=>bK (Yb ps a) b) ps.zipIdx;rw[Jr] at this;unfold uM;lia
def zjp:cU 2 Bw My 2:=by
 intro ds m hl h;let⟨c,ps,rfl,sh,b,q⟩:=h;show My _ [.fz c.obj,.fz (dY ps)];unfold My P5;dsimp only;have big:=dn;have l1:=WR c ps sh b;have j:=XH ps b;lk;show⟨c,ps,rfl,sh,b,?_⟩;lk;show⟨ps,rfl,by lia,?_⟩;lk;show⟨by simp![bP,aE];lia,?_⟩;rw[<-bX];have e:((uH c ps++uM ps).map dT)=(uH c ps++uM ps).map λa=>D.tup ((kT a).map D.int):=rfl
 rw[e];show⟨2,(uH c ps++uM ps).map kT,by rw[bz];rfl,λt f=>?_,λn g d=>?_⟩
 .let⟨a,z,rfl⟩:=aK.mp f;rfl
 let⟨ts,i,rfl⟩:=wa g rfl;rw[bz];show q ts ⟨i,by rw[gQ] at d;show d⟩
theorem Lf(g:lg ws a c)(b:a<=40):tK c:=⟨bK g.w2 b,g.bl,bK g.ll (by decide),bK g.rl (by decide)⟩
def Bq(g:lg ws a c)(w)(h:kW c w):w∈ws:=by
 rcases h with h | h | h | h
 .exact g.pt w h
 .exact g.pb w h
 .exact g.lw w h
 show g.rw_ w h
theorem UJ{l:List aa}(h:l.Pairwise ja):l.Nodup:=Rb.imp (S:=(·≠·)) (λ{a b} h e=>by
 rw[e] at h;unfold ja at h;rw[VS] at h;cases h) h
def Vu{α:Type}[DecidableEq α]{l:List α}(nd:l.Nodup)(w:α):l.count w=if w∈l then 1 else 0:=by
 by_cases h:w∈l
 .rw[if_pos h];have b:=(List.nodup_iff_count.mp nd) w;have a:=List.count_pos_iff.mpr h;show Nat.le_antisymm ‹_› ‹_›
 rw[if_neg h,t6.mpr h]
def XG(c w k):k∈pl c w↔k∈places c.top c.aA c.left c.right w:=by
 unfold pl places;simp![bx];constructor
 .rintro((h | h) | h)
  .exact .inl (.inr h)
  .exact .inl (.inl h)
  show .inr h
 rintro((h | h) | h)
 .exact .inl (.inr h)
 .exact .inl (.inl h)
 show .inr h
def zxg(h:k∈pl c w):kW c w:=by
 rcases bx.mp h with h | h
 .rcases bx.mp h with h | h
  .split at h
   .rename_i a;show .inr (.inr (.inl a))
   cases h
  obtain⟨n,b,_⟩:=aK.mp h;have:=(cF.mp b).2;simp![AD,beq_iff_eq] at this;rcases this with h | h
  .exact .inl (dZ h)
  show .inr (.inl (dZ h))
 split at h
 .rename_i a;show .inr (.inr (.inr a))
 cases h
def zvf(g:lg ws d c)(v:d<=40)(o:p∈c.c6):kW c p.2/\∃a b,qo (pl c p.2)\(a,b)/\a<p.1/\p.1<b:=by
 symm;obtain⟨n,u,w,_,⟨m,M,⟨i1,t⟩,⟨j,s⟩,i,f⟩,_⟩:=g.be.at_ p o;have hw:=g.w2;have e:m∈pl c p.2:=by
  rw[XG];symm;rcases bx.mp i1 with h | h
  .exact h
  simp at h;lia
 have M1:M∈pl c p.2:=by
  rw[XG];symm;rcases bx.mp j with h | h
  .exact h
  simp at h;lia
 show⟨zxg e,?_⟩;have up:=ER c p.2;generalize pl c p.2=l at e M1 up;cases l with
 | nil=>cases e
 | cons a r=>
  have l1:=Br up M M1;have q:a<=m:=by
   rcases bE.mp e with h | h
   .simp_all
   have:=(iV.mp up).1 m h;show kd ‹_›
  show⟨a,(a::r).getLast ∅,?_,by lia,by lia⟩;simp![qo];rw[if_neg 'a']
def KP(c:ba):Prop:=∀(n:Nat) u v,c.top[n]?\some u->c.aA[n]?\some v->False
def rY(p:Option aa×Option aa):Option aa:=match p.1 with
 | none=>p.2
 | some _=>none
def BX:bF:=λds Q=>∃ws most c,ds=[.lst c.parts]/\ws.length<=40/\most<=40/\lg ws most c/\∀a,lg ws most a->a.c6=[]->KP a->a.top.length=c.top.length->Q (.ow a.parts)
def YL:di ["_law_above","_law_below"]:=by decide +kernel
def zg1:di ["_law_word","_law_top","_law_bottom","_law_left","_law_right"]:=by decide +kernel
def zg2:di ["_law_word","_law_lone"]:=by decide +kernel
def zg3:di ["_law_word","_law_lone"]:=by decide +kernel
def zg4:di ["_law_word","_law_lone"]:=by decide +kernel
def zg5:di ["_law_word","_law_lone"]:=by decide +kernel
def zg6:di ["_law_pair","_law_top","_law_bottom","_law_left","_law_right"]:=by decide +kernel
def Qj:(T:TX) ×' ∀{P w K mg base},Txt K mg->~~~1 "_law_many" 5 yY->dr P w K mg base 1 "_law_eased" ["_law_lists","_law_top","_law_bottom","_law_left","_law_right","_law_wide","_law_bends_here","_law_keeps_here","_law_some","_law_lone"] (top 48) T:=
 ⟨_,λT nu nd f d A outer s H E c=>have b:=c.units;
 (aB (Fv (ae 0) (LC (n:=7) rfl (bI (aJ 1 nd) (bI (aJ 2 nd) (bI (aJ 3 nd) (bI (aJ 4 nd) (bI (aJ 5 nd) (bI (aJ 6 nd) (bI (aJ 7 nd) eU)))))))))
   (aB (bM 2 (eu rfl (.of (N':=["_law_above","_law_below"]) (m:=[none,none]) 'b') nZ (yD T.b_zip (ah (ae 1) (ah (ae 2) aq))) (λs3 a ex=>(fh (n:=2) rfl (bI (aJ 0 YL) (bI (aJ 1 YL) eU)))) (λs3 a ex=>eY) (λs3 a ex=>(yM (bj mQ (ae 0) fU) fU (ae 1)))) nd)
   (aB (bM 8 (MZ rfl T.b_sorted T.b_set (ah (eu rfl (.of (N':=["_law_word"]) (m:=[none]) 'b') cO (cI (aG cj (aG cj (aG cj (ae 1) (ae 2)) (ae 3)) (ae 4))) (λs3 a ex=>(aJ 0 pA)) (λs3 a ex=>(iC (bj mQ (ae 0) fU))) (λs3 a ex=>(ae 0))) aq)) nd)
   (aB (bM 9 (eu rfl (.of (N':=["_law_word","_law_top","_law_bottom","_law_left","_law_right"]) (m:=[none,some 1,some 2,some 3,some 4]) 'b') cO (cI (ae 8)) (λs3 a ex=>(aJ 0 zg1)) (λs3 a ex=>(iC (bj (ef b) (bU nu c (ah (ae 1) (ah (ae 2) (ah (ae 3) (ah (ae 4) (ah (ae 0) aq)))))) av))) (λs3 a ex=>(ae 0))) nd)
   (aB (bM 1 (eu rfl (.of (N':=["_law_word","_law_lone"]) (m:=[none,some 9]) 'b') cO (cI (ae 1)) (λs3 a ex=>(aJ 0 zg2)) (λs3 a ex=>eY) (λs3 a ex=>(yM (bj (ki b) (ae 0) (ae 1)) fU (ae 0)))) nd)
   (aB (bM 2 (eu rfl (.of (N':=["_law_word","_law_lone"]) (m:=[none,some 9]) 'b') cO (cI (ae 2)) (λs3 a ex=>(aJ 0 zg3)) (λs3 a ex=>eY) (λs3 a ex=>(yM (bj (ki b) (ae 0) (ae 1)) fU (ae 0)))) nd)
   (aB (bM 3 (eu rfl (.of (N':=["_law_word","_law_lone"]) (m:=[none,some 9]) 'b') cO (cI (ae 3)) (λs3 a ex=>(aJ 0 zg4)) (λs3 a ex=>(iC (bj (yE b) (ae 0) (ae 1)))) (λs3 a ex=>(ae 0))) nd)
   (aB (bM 4 (eu rfl (.of (N':=["_law_word","_law_lone"]) (m:=[none,some 9]) 'b') cO (cI (ae 4)) (λs3 a ex=>(aJ 0 zg5)) (λs3 a ex=>(iC (bj (yE b) (ae 0) (ae 1)))) (λs3 a ex=>(ae 0))) nd)
   (aB (ur 5 rfl (.of (N':=["_law_pair","_law_top","_law_bottom","_law_left","_law_right"]) (m:=[none,some 1,some 2,some 3,some 4]) 'b') cO (cI (ae 5)) (λs3 a ex=>(aJ 0 zg6)) (λs3 a ex=>(iC (bj uf (bU nu c (ah (ae 1) (ah (ae 2) (ah (ae 3) (ah (ae 4) (ah (aY (ae 0) av) aq)))))) av))) (λs3 a ex=>(ae 0)) nd)
   (aO (cE (cQ (ah (ae 1) (ah (ae 2) (ah (ae 3) (ah (ae 4) (ah (ae 5) (ah (cQ aq) (ah (ae 7) aq)))))))))))))))))))⟩
def M9:TX:=Qj.1
def zg7:cU 1 BX M9 10:=by
 intro ds Qr hl h;symm;let⟨ws,most,c,rfl,jx,hm,g,q⟩:=h;show M9 _ [.fz (.lst c.parts),.un,.un,.un,.un,.un,.un,.un,.un,.un];unfold M9 Qj;dsimp only;have big:=dn;have w2:=g.w2;have bl:=g.bl;unfold ba.parts;lk;unfold dP;walk;show gr (c.top.zip c.aA) (λp=>.tup [dO p.1,dO p.2]) (λp=>dO (rY p)) (λy h=>?_) (by simp;lia) (λp r A k=>?_) ?_
 .lk;rw[yK];show h
 .lk;unfold rY at k;cases d:p.1 with
  | none=>rw[d] at k;show k
  | some u=>rw[d] at k;show k
 rw[show(c.top.zip c.aA).map (λp=>dO (rY p))=((c.top.zip c.aA).map rY).map dO by rw[bz];rfl];have pb:ik ws ((c.top.zip c.aA).map rY):=λw hw=>by
  let⟨p,r,e⟩:=aK.mp hw;have:=(jC r).2;unfold rY at e;cases d:p.1 with
  | none=>rw[d] at e;show g.pb w (by rw[<-e];show this)
  | some u=>rw[d] at e;cases e
 have nb:∀(n:Nat)(u v:aa),c.top[n]?\some u->((c.top.zip c.aA).map rY)[n]?\some v->False:=λn u v d m=>by
  rw[b8] at m;let⟨p,r,e⟩:=jZ.mp m;let⟨p1,p2⟩:=p;let⟨B,z2⟩:=oR.mp r;rw[d] at B;cases B;trivial
 have C:((c.top.zip c.aA).map rY).length=c.top.length:=by simp;cbv
 generalize (c.top.zip c.aA).map rY=bot at pb nb C ⊢;walk;have ll:=g.ll;have rl:=g.rl;show kA (c.top++bot++c.left.map some++c.right.map some) dO dO (λx=>x.isSome) (λy h=>?_) (by simp;lia) (λx hx A K k1 s=>?_) ?_
 .lk;show⟨by simp;lia,by simp;lia,by simp;lia,?_⟩;rw[bX,bX,bX,bz,bz] at h;show h
 .lk;cases x with
  | none=>show s rfl
  | some x=>show k1 rfl
 rw[LM];have o:∀w,w∈(c.top++bot++c.left.map some++c.right.map some).filterMap id↔some w∈c.top\/some w∈bot\/w∈c.left\/w∈c.right:=by
  intro w;simp[xR,or_assoc]
 have Q:((c.top++bot++c.left.map some++c.right.map some).filterMap id).length<=200:=by
  show bK (xT _ _) ?_;simp;lia
 generalize (c.top++bot++c.left.map some++c.right.map some).filterMap id=all at o Q ⊢;have F:∀w,w∈all->w∈ws:=λw hw=>by
  rcases(o w).mp hw with h | h | h | h
  .exact g.pt w h
  .exact pb w h
  .exact g.lw w h
  show g.rw_ w h
 simp![yA,Gu,fK,eI,g7,yP];show⟨by lia,λl nd h=>?_,λl nd h hs=>?_⟩
 .have:=v8 nd λw hw=>F w (h w hw);lia
 have wR:l.length<=40:=by have:=v8 nd λw hw=>F w ((h w).mp hw);show bK ‹_› ‹_›
 walk;show kA l D.str D.str (λw=>decide (fO c.top bot c.left c.right w=1)) (λy h=>?_) 'a' (λw _ A K k1 s=>?_) ?_
 .lk;show h
 .lk;show⟨c.top,bot,c.left,c.right,w,rfl,by lia,?_⟩;lk;by_cases P:fO c.top bot c.left c.right w=1
  .rw[if_pos 'g'];show k1 'l'
  rw[if_neg 'a'];show s (by show if_neg ‹_›)
 generalize S:l.filter (λw=>decide (fO c.top bot c.left c.right w=1))=b;have R:=Yc (ws:=l) (λw z=>(h w).mpr ((o w).mpr (.inl z))) (λw z=>(h w).mpr ((o w).mpr (.inr (.inl z)))) (λw z=>(h w).mpr ((o w).mpr (.inr (.inr (.inl z))))) (λw z=>(h w).mpr ((o w).mpr (.inr (.inr (.inr z))))) b S.symm;walk;show FE b c.top 1 9 _ _ 'a' rfl rfl ?_;walk;show FE b bot 2 9 _ _ 'a' rfl rfl ?_;walk;show F4 b c.left 3 9 _ _ 'a' rfl rfl ?_;walk;show F4 b c.right 4 9 _ _ 'a' rfl rfl ?_;have Y:ik ws (c.top.map (fI b)):=Gw g.pt;have M:ik ws (bot.map (fI b)):=Gw pb;have W:(c.left.filter λx=>decide (x∉b)).Pairwise ja:=g.lo.sublist rC;have U:(c.right.filter λx=>decide (x∉b)).Pairwise ja:=g.ro.sublist rC;have X:∀w∈(c.left.filter λx=>decide (x∉b)),w∈ws:=λw h=>g.lw w (cF.mp h).1
 have O:∀w∈(c.right.filter λx=>decide (x∉b)),w∈ws:=λw h=>g.rw_ w (cF.mp h).1
 have V:(c.left.filter λx=>decide (x∉b)).length<=8:=bK (jE _ _) ll;have T:(c.right.filter λx=>decide (x∉b)).length<=8:=bK (jE _ _) rl;have E:(c.top.map (fI b)).length=c.top.length:=by show aE ..
 have jz:(bot.map (fI b)).length=c.top.length:=by simpa using C
 have N:∀(n:Nat)(u v:aa),(c.top.map (fI b))[n]?\some u->(bot.map (fI b))[n]?\some v->False:=λn u v d m=>by
  have un:∀(l:List (Option aa))(u:aa),(l.map (fI b))[n]?\some u->∃t,l[n]?\some t:=λl u h=>by
   rw[b8] at h;let⟨x,hx,e⟩:=jZ.mp h;cases x with
   | none=>cases e
   | some x=>show⟨x,hx⟩
  let⟨t,d⟩:=un _ _ d;let⟨L,m⟩:=un _ _ m;show nb n t L d m
 generalize c.top.map (fI b)=j at *;generalize bot.map (fI b)=f at *;generalize (c.left.filter λx=>decide (x∉b))=i at *;generalize (c.right.filter λx=>decide (x∉b))=right' at *;walk;have wl:=g.wl;show kA c.wide u4 u4 (λp=>decide (1<fO j f i right' p.1)) (λy h=>?_) 'a' (λp _ A K k1 s=>?_) ?_
 .lk;show h
 .lk;show⟨_,rfl,j,f,i,right',p.1,rfl,by lia,?_⟩;lk;by_cases P:1<fO j f i right' p.1
  .rw[if_pos 'a'];show k1 'l'
  rw[if_neg 'a'];show s (by show if_neg ‹_›)
 have H:(c.wide.filter λp=>decide (1<fO j f i right' p.1)).length<=8:=bK (jE _ _) wl;have I:((c.wide.filter λp=>decide (1<fO j f i right' p.1)).map (·.1)).Pairwise ja:=g.wo.sublist (List.filter_sublist.map _);have J:∀p∈(c.wide.filter λp=>decide (1<fO j f i right' p.1)),p.1∈ws/\(p.2=2\/p.2=3)/\1<fO j f i right' p.1:=λp r=>by
  let⟨d,m⟩:=cF.mp r;show⟨(g.ww p d).1,(g.ww p d).2.1,by simpa using m⟩
 generalize (c.wide.filter λp=>decide (1<fO j f i right' p.1))=Z at H I J ⊢;walk;have ke:=g.ke;have w1:=g.w1;show⟨by show b9 _,by trivial,q ⟨j,f,i,right',Z,[],c.keeps⟩ ⟨by cbv,by cbv,by cbv,Y,M,V,X,W,T,O,U,R,H,I,J,⟨∅,∅,∅⟩,by rw[E];show ke⟩ rfl N E⟩
def WQ(w k a x r):o9 w k (a::x::r)=⟨some w,a,x,k⟩::o9 w k (x::r):=by
 rfl
theorem KO(w k):∀bs,bs.Pairwise (·<·)->∀p∈o9 w k bs,p.n\w/\p.k=k/\p.l<p.r/\p.l∈bs/\p.r∈bs
 | [],_,p,h=>by show absurd ‹_› jX
 | [a],_,p,h=>by show absurd ‹_› jX
 | a::x::r,u,p,h=>by
  rcases bE.mp h with rfl | h
  .exact⟨rfl,rfl,(iV.mp u).1 x 'c',by show .head _,by show .tail _ (.head _)⟩
  let⟨f,e,d,c,b⟩:=KO w k (x::r) (iV.mp u).2 p h;show⟨f,e,d,cJ _ c,cJ _ b⟩
def zxh(w k a x r)(u:(a::x::r).Pairwise (·<·)):(o9 w k (a::x::r)).filter (λp=>iw p a)=[⟨some w,a,x,k⟩]:=by
 have b:=iV.mp u;rw[WQ,uc (by have:=b.1 x 'c';simp[iw];show kd ‹_›)];congr 1
 rw[ub];intro p c;let⟨z,z,z,d,z⟩:=KO w k (x::r) b.2 p c;have:=b.1 p.l d;simp[iw];lia
theorem UI(w k):∀a x r,(a::x::r).Pairwise (·<·)->((o9 w k (a::x::r)).filter (λp=>iw p ((x::r).getLast ∅))).length=1
 | a,x,[],u=>by
  have:=(iV.mp u).1 x 'c';have d:iw ⟨some w,a,x,k⟩ x=true:=by
   show(decide (a<=x)&&decide (x<=x))=true;rw[iS (show a<=x by show kd ‹_›),iS (fA x)];rfl
  show(DF (λp=>iw p x) (⟨some w,a,x,k⟩::o9 w k [x])).length=1;rw[uc (p:=λp=>iw p x) d];rfl
 | a,x,y::r,u=>by
  have b:=iV.mp u;have f:=iV.mp b.2;have c:=UI w k x y r b.2;have e:(x::y::r).getLast ∅=(y::r).getLast ∅:=RR ∅;have hx:x<(y::r).getLast ∅:=f.1 _ (DT _);rw[WQ,e,ud (by simp[iw];cbv)];show c
def Vt(g:lg ws most c)(h:w∈c.left\/w∈c.right):∃a∈pl c w,∃b∈pl c w,a<b:=by
 have j:=g.cnt w;have nl:=Vu (UJ g.lo) w;have m:=Vu (UJ g.ro) w;have top:∀n:Nat,c.top[n]?\some w->(n:Int)∈pl c w/\n<c.top.length:=λn d=>by
  have i:=(c7.mp d).1;show⟨?_,i⟩;show jn _ (fT _ (aK.mpr ⟨n,cF.mpr ⟨iT.mpr i,by simp[d]⟩,rfl⟩))
 have bot:∀n:Nat,c.aA[n]?\some w->(n:Int)∈pl c w/\n<c.top.length:=λn d=>by
  have i:n<c.top.length:=by rw[<-g.bl];show(c7.mp d).1
  show⟨?_,i⟩;show jn _ (fT _ (aK.mpr ⟨n,cF.mpr ⟨iT.mpr i,by simp[d]⟩,rfl⟩))
 have lf:w∈c.left->(-1:Int)∈pl c w:=λh=>by unfold pl;simp[h]
 have rt:w∈c.right->(c.top.length:Int)∈pl c w:=λh=>by unfold pl;simp[h]
 have mid:(∃n:Nat,(n:Int)∈pl c w/\n<c.top.length)->∃a∈pl c w,∃b∈pl c w,a<b:=λ⟨n,f,l⟩=>by
  rcases h with h | h
  .exact⟨_,lf h,_,f,by show rB _⟩
  show⟨_,f,_,rt h,by cbv⟩
 by_cases f:some w∈c.top
 .let⟨n,d⟩:=Ek.mp f;show mid ⟨n,top n d⟩
 by_cases l:some w∈c.aA
 .let⟨n,d⟩:=Ek.mp l;show mid ⟨n,bot n d⟩
 unfold fO at j;rw[t6.mpr f,t6.mpr l,nl,m] at j;by_cases k:w∈c.left
 .by_cases e:w∈c.right
  .exact⟨_,lf k,_,rt e,by show rB _⟩
  simp[k,e] at j
 by_cases e:w∈c.right
 .simp[k,e] at j
 rcases h with h | h
 .exact absurd h k
 show absurd h e
def LH(h:∃a∈pl c w,∃b∈pl c w,a<b):∃a b,qo (pl c w)\(a,b)/\a<b/\(∀k∈pl c w,a<=k/\k<=b)/\a∈pl c w/\b∈pl c w:=by
 let⟨x,hx,y,e,i⟩:=h;have up:=ER c w;generalize pl c w=l at hx e up;cases l with
 | nil=>cases hx
 | cons a r=>
  have lm:=Br up;have lo:∀k∈a::r,a<=k:=λk d=>by
   rcases bE.mp d with rfl | d
   .exact fA _
   have:=(iV.mp up).1 k d;show kd ‹_›
  have g:=lo x hx;have f:=lm y e;show⟨a,(a::r).getLast ∅,?_,by lia,λk d=>⟨lo k d,lm k d⟩,by show .head _,DT _⟩;simp![qo];rw[if_neg 'a']
def Gj(k)(h:k∈pl c w):-1<=k/\k<=c.top.length:=by
 rcases bx.mp h with h | h
 .rcases bx.mp h with h | h
  .split at h
   .simp at h;cbv
   cases h
  let⟨n,a,rfl⟩:=aK.mp h;have:=iT.mp (cF.mp a).1;lia
 split at h
 .simp at h;cbv
 cases h
def Mx(g:lg ws most c)(i:most<=40)(ar:Bool)(h:qo (pl c w)\(a,b))(n:a<b):([a]++(if ar then i8 c w else [])++[b]).Pairwise (·<·):=by
 have bi:∀x∈(if ar then i8 c w else []),a<x/\x<b:=λx hx=>by
  cases ar with
  | false=>show absurd ‹_› jX
  | true=>
   symm;let⟨p,f,rfl⟩:=aK.mp hx;let⟨q,r⟩:=cF.mp f;let⟨z,t,s,e,m,j⟩:=zvf g i q;rw[show p.2=w by simpa using r,h] at e;cases e;show⟨m,j⟩
 have o:(if ar then i8 c w else []).Pairwise (·<·):=by
  cases ar with
  | false=>show .nil
  | true=>
   simp![eG];unfold i8;rw[gQ];show g.be.up.sublist rC
 rw[mn];show⟨?_,by show jo _ _,λx hx y d=>?_⟩
 .rw[mn];show⟨by show jo _ _,o,λx hx y d=>by simp at hx;subst hx;show(bi y d).1⟩
 simp at d;subst d;rcases bx.mp hx with hx | hx
 .simp at hx;subst hx;show n
 show(bi x hx).2
def Vs(g:lg ws most c)(y:most<=40)(ar)(h:p∈i5 c ar w):p.n\w/\p.k=nN c.wide w/\p.l<p.r/\-1<=p.l/\p.r<=c.top.length:=by
 unfold i5 at h;split at h
 .cases h
 rename_i q e;symm;let⟨a,b⟩:=q;have m:a<b/\(∀k∈pl c w,a<=k/\k<=b)/\a∈pl c w/\b∈pl c w:=by
  have:∃a∈pl c w,∃b∈pl c w,a<b:=by
   have up:=ER c w;generalize pl c w=l at e up;cases l with
   | nil=>cases e
   | cons x r=>
    simp![qo] at e;split at e
    .cases e
    rename_i B
    show⟨x,by show .head _,_,DT ∅,by
     have:=Br up x 'c';lia⟩
  symm;let⟨F,E,s,j,i,f,d⟩:=LH this;rw[e] at s;cases s;show⟨j,i,f,d⟩
 have t:=Mx g y ar e m.1;symm;let⟨j,i,f,d,z⟩:=KO w _ _ t p h;have lo:∀x∈[a]++(if ar then i8 c w else [])++[b],a<=x/\x<=b:=λx hx=>by
  have v:=t;have o:=iV.mp v;have u:=(mn.mp o.2).2.2;symm;rcases bE.mp hx with rfl | hx
  .exact⟨by show fA _,by cbv⟩
  show⟨by have:=o.1 x hx;show kd ‹_›,?_⟩;rcases bx.mp hx with hx | hx
  .have:=u x hx b 'c';show kd ‹_›
  simp at hx;cbv
 have D:=Gj a m.2.2.1;have C:=Gj b m.2.2.2;have l1:=lo _ d;have A:=lo _ z;show⟨j,i,f,by lia,by lia⟩
def Mr(ar)(h:p∈i5 c ar w):p.n\w:=by
 unfold i5 at h;split at h
 .cases h
 let⟨z,z,rfl⟩:=aK.mp h;rfl
def MG(ar)(nd:l.Nodup)(hw:w∈l):'h'.filter (λp=>decide (p.n\w))=i5 c ar w:=by
 unfold bG
 rw[t5,show(rZ c).filter (λp=>decide (p.n\w))=[] by
  rw[ub];intro p a;let⟨v,v,rfl⟩:=aK.mp a;show jk,rn]
 induction l with
 | nil=>cases hw
 | cons x r b=>
  rw[fY] at nd;rw[iU,t5];by_cases h:x=w
  .subst h;rw[R7.mpr λp a=>by simp[Mr ar a]];have:(r.flatMap (i5 c ar)).filter (λp=>decide (p.n\x))=[]:=by
    rw[ub];intro p a;let⟨y,d,a⟩:=nI.mp a;rw[Mr ar a];simp![gw,iG];show λz=>nd.1 (z▸d)
   rw[this,eS]
  have:(i5 c ar x).filter (λp=>decide (p.n\w))=[]:=by
   rw[ub];intro p a;rw[Mr ar a];simpa using h
  rw[this,rn];show b nd.2 (by rcases bE.mp hw with z | z;show absurd z.symm h;show z)
def YN(ar)(nd:l.Nodup)(hw:w∈l)(h:p∈bG c ar l)(a:p.n\w):p∈i5 c ar w:=by
 rw[<-MG ar nd hw];show cF.mpr ⟨h,by show if_pos ‹_›⟩
def UH(ps k):(eB ps (some w) k).length=((ps.filter λp=>decide (p.n\w)).filter λp=>iw p k).length:=by
 unfold eB;rw[aE,List.filter_filter];have:∀(n:Nat),(DF (λp=>decide (p.1.n\w)&&iw p.1 k) (ps.zipIdx n)).length=(ps.filter λa=>iw a k&&decide (a.n\w)).length:=by
  induction ps with
  | nil=>intro n;rfl
  | cons p r b=>
   intro n;rw[Jh,AE,AE,Bool.and_comm];split
   .simp[b]
   show b _
 show this 0
def Le(h:w∈c.left\/w∈c.right):kW c w:=by
 rcases h with h | h
 .exact .inr (.inr (.inl h))
 show .inr (.inr (.inr h))
def WO(g:lg ws most c)(i:most<=40)(ar)(N:nq c l)(h:w∈c.left):(eB 'h' (some w) (-1)).length=1:=by
 rw[UH,MG ar N.nd ((N.mem w).mpr (Le (.inl h)))];let⟨a,b,e,m,j,k,z⟩:=LH (Vt g (.inl h));have a1:a=-1:=by
  have o:=(j (-1) (by unfold pl;simp[h])).1;have n:=(Gj a k).1;lia
 subst a1;have d:=Mx g i ar e m;unfold i5;rw[e];show(DF _ (o9 w _ ([-1]++(if ar then i8 c w else [])++[b]))).length=1;rw[eF,JB] at d ⊢;cases f:(if ar then i8 c w else [])++[b] with
 | nil=>simp at f
 | cons x r=>
  rw[f] at d;rw[zxh _ _ _ _ _ d];rfl
def XF(g:lg ws most c)(k:most<=40)(ar)(N:nq c l)(h:w∈c.right):(eB 'h' (some w) c.top.length).length=1:=by
 rw[UH,MG ar N.nd ((N.mem w).mpr (Le (.inr h)))];let⟨a,b,e,n,m,z,j⟩:=LH (Vt g (.inr h));have o:b=c.top.length:=by
  have q:=(m c.top.length (by unfold pl;simp[h])).2;have p:=(Gj b j).2;lia
 subst o;have f:=Mx g k ar e n;unfold i5;rw[e];show(DF _ (o9 w _ ([a]++(if ar then i8 c w else [])++[(c.top.length:Int)]))).length=1;rw[eF,JB] at f ⊢;cases d:(if ar then i8 c w else [])++[(c.top.length:Int)] with
 | nil=>simp at d
 | cons x r=>
  rw[d] at f;have i:(x::r).getLast ∅=(c.top.length:Int):=by
   have:((if ar then i8 c w else [])++[(c.top.length:Int)]).getLast ∅=(c.top.length:Int):=by simp
   rw[<-this];congr 1
   show d.symm
  have:=UI w (nN c.wide w) a x r f;rw[i] at this;show this
def gT(x y:a9):Bool:=!Ts.md y x
def Vr(a b c)(f:gT a b=true)(d:gT b c=true):gT a c=true:=by
 unfold gT at *;simp![lh] at *;cases h:Ts.md c a with
 | false=>rfl
 | true=>
  by_cases e:a=b
  .subst e;rw[d] at h;cases h
  rcases C9.y7 _ _ e with z | z
  .rw[C9.tr _ _ _ h z] at d;cases d
  rw[z] at f;cases f
def WN(a b):(gT a b||gT b a)=true:=by
 unfold gT;cases d:Ts.md b a<;>cases c:Ts.md a b<;>simp
 have:=C9.tr _ _ _ d c;rw[C9.ir] at this;cases this
def Mq(a b)(d:gT a b=true)(c:gT b a=true):a=b:=by
 unfold gT at *;show JP λe=>?_
 rcases C9.y7 _ _ e with z | z
 .rw[z] at c;cases c
 rw[z] at d;cases d
def sE(g:List a9):List a9:=g.mergeSort gT
theorem mO(g):(sE g).Perm g:=Ed _ _
theorem BI{α:Type}{le:α->α->Prop}:∀{l m:List α},(∀a∈l,∀b∈l,le a b->le b a->a=b)->l.Perm m->l.Pairwise le->m.Pairwise le->l=m
 | [],m,_,p,_,_=>p.nil_eq
 | a::l,[],_,p,_,_=>absurd p.length_eq 'g'
 | a::l,b::m,an,p,h,g=>by
  have c:b∈a::l:=p.symm.subset et;have f:a∈b::m:=p.subset et;let⟨i,j⟩:=iV.mp h;let⟨k,n⟩:=iV.mp g;have e:a=b:=by
   rcases bE.mp c with z | z
   .exact z.symm
   rcases bE.mp f with y | y
   .exact y
   show an _ et _ c (i _ z) (k _ y)
  subst e;rw[BI (λx hx y d=>an x (cJ _ hx) y (cJ _ d)) ((Ro a).mp p) j n]
theorem Fs(g):(sE g).Pairwise (λx y=>gT x y=true):=Eo Vr WN g
theorem zxi(h:g.Perm g'):sE g=sE g':=BI (λa _ b _=>Mq a b) (((mO g).trans h).trans (mO g').symm) (Fs g) (Fs g')
theorem T4(h:s.Perm g)(p:s.Pairwise (λx y=>Ts.md y x=false)):s=sE g:=
 BI (le:=λx y=>gT x y=true) (λa _ b _=>Mq a b) (h.trans (mO g).symm) (p.imp λh=>by unfold gT;rw[h];rfl) (Fs g)
def zxk(h:g≠[]):dG (sE g)∈g:=by
 cases e:sE g with
 | nil=>show absurd (IL.mp ((mO g).symm.trans (rm e))) h
 | cons a r=>show(mO g).subset (by rw[e];show et)
def sG(a:List (List a9)):List (List a9):=a.mergeSort λx y=>gT (dG x) (dG y)
theorem nU(g):(sG g).Perm g:=Ed _ _
theorem KN(g):(sG g).Pairwise (λx y=>gT (dG x) (dG y)=true):=Eo (le:=λx y=>gT (dG x) (dG y)) (λa b c=>Vr (dG a) (dG b) (dG c)) (λa b=>WN (dG a) (dG b)) g
theorem TZ{c:List (List a9)}(nd:(c.map dG).Nodup):∀a∈c,∀b∈c,gT (dG a) (dG b)=true->gT (dG b) (dG a)=true->a=b:=λa k b h m l=>by
 have e:=Mq _ _ m l;let⟨i,f⟩:=iW k;let⟨j,d⟩:=iW h;have g:(c.map dG)[i]?\dG a:=by rw[b8,f];rfl
 have n:(c.map dG)[j]?\dG a:=by rw[b8,d,e];rfl
 have:i=j:=(tX (c7.mp g).1 nd).mp (g.trans n.symm);subst this;rw[f] at d;show iu d
def zyN(nd:(c.map dG).Nodup)(h:s.Perm c)(p:s.Pairwise (λx y=>Ts.md (dG y) (dG x)=false)):s=sG c:=by
 show BI (le:=λx y=>gT (dG x) (dG y)=true) (λa e b d=>TZ nd a (h.subset e) b (h.subset d)) (h.trans (nU c).symm) (p.imp λh=>?_) (KN c);unfold gT;rw[h];rfl
theorem zxm(nd:(c.map dG).Nodup)(h:c.Perm d):sG c=sG d:=
 BI (λa f b e=>TZ nd a ((nU c).subset f) b ((nU c).subset e)) (((nU c).trans h).trans (nU d).symm) (KN c) (KN d)
def lJ(c:ba)(w:aa)(n:Nat):List a9:=(if c.top[n]?=some (some w) then [(("top":aa),(n:Int))] else [])++(if c.aA[n]?=some (some w) then [(("bottom":aa),(n:Int))] else [])
def sC(c:ba)(w:aa):List a9:=(bA c.top.length).flatMap (lJ c w)
def CD(c:ba)(ps:List Pc)(tr:List Int)(w:aa):List a9:=if w∈c.left then(eB ps (some w) (-1)).map λj=>("left",fi tr j) else []
def Cr(c:ba)(ps:List Pc)(tr:List Int)(w:aa):List a9:=if w∈c.right then(eB ps (some w) c.top.length).map λj=>("right",fi tr j) else []
def ij(c:ba)(ps:List Pc)(tr:List Int)(w:aa):List a9:=CD c ps tr w++sC c w++Cr c ps tr w
def zB(c:ba)(ps:List Pc)(tr:List Int)(w:aa):En->a9
 | .lf=>("left",fi tr ((eB ps (some w) (-1)).headD 0))
 | .tp n=>("top",n)
 | .bt n=>("bottom",n)
 | .rt=>("right",fi tr ((eB ps (some w) c.top.length).headD 0))
structure gH(c:ba)(ar:Bool)(l:List aa)(tr:List Int):Prop where
 good:∃(ws:List aa)(most:Nat),ws.length<=40/\most<=16/\lg ws most c
 kS:nq c l
 sA:HC 'h' tr
def UG{α b:Type}(f:α->b)(d){l:List α}(h:l.length=1):l.map f=[f (l.headD d)]:=by
 match l,h with
 | [a],_=>rfl
def A2(L:gH c ar l tr)(w):(g8 c w).map (zB c 'h' tr w)=ij c 'h' tr w:=by
 obtain⟨ws,most,_,hm,g⟩:=L.good;unfold g8 ij;rw[bX,bX];congr 1
 .congr 1
  .unfold CD;split
   .rename_i h;rw[UG _ 0 (WO g 'a' ar L.kS h)];rfl
   rfl
  rw[List.map_flatMap];congr 1
  funext n
  unfold i9 lJ;by_cases b:c.top[n]?\some w<;>by_cases a:c.aA[n]?\some w<;>simp only[b,a,eG,eC]<;>rfl
 unfold Cr;split
 .rename_i h;rw[UG _ 0 (XF g 'a' ar L.kS h)];rfl
 rfl
def zxn(h:e∈sC c w):∃n:Nat,e.2=n/\((e.1="top"/\c.top[n]?=some (some w))\/(e.1="bottom"/\c.aA[n]?=some (some w))):=by
 symm;obtain⟨n,_,h⟩:=nI.mp h;rcases bx.mp h with h | h
 .split at h
  .rename_i z;simp at h;subst h;show⟨n,rfl,.inl ⟨rfl,z⟩⟩
  cases h
 split at h
 .rename_i z;simp at h;subst h;show⟨n,rfl,.inr ⟨rfl,z⟩⟩
 cases h
def Bj(h:j∈eB ps n k):j<ps.length/\(dD ps j).n=n/\(dD ps j).l<=k/\k<=(dD ps j).r:=by
 let⟨p,d,rfl⟩:=aK.mp h;let⟨f,a⟩:=cF.mp d;have c:=List.mem_zipIdx f;let⟨z,c,g⟩:=c;have b:p.2<ps.length:=by cbv
 have e:dD ps p.2=p.1:=by
  rw[Fi b];show .symm ‹_›
 rw[e];simp![iw,oZ,iG] at a;show⟨b,a.1,a.2.1,a.2.2⟩
def zvg(g:lg ws a c)(w):1<=nN c.wide w:=by
 have h:=λp e=>(g.ww p e).2.1
 generalize c.wide=l at h;induction l with
 | nil=>show fA 1
 | cons p r b=>
  unfold nN;split
  .have:=h p 'c';lia
  show b λq d=>h q (cJ _ d)
def WM(L:gH c ar l tr)(m:w≠v)(hw:w∈l)(hv:v∈l)(s:i∈eB 'h' (some w) k)(r:j∈eB 'h' (some v) k):fi tr i≠fi tr j:=by
 symm;let⟨ws,most,a,hm,g⟩:=L.good;let⟨i1,b,C,B⟩:=Bj s;let⟨f,d,A,y⟩:=Bj r;intro e;have kk:∀(q:Nat)(u:aa),q<'h'.length->u∈l->(dD 'h' q).n=some u->1<=(dD 'h' q).k:=λq u h o p=>by
  have t:dD 'h' q∈bG c ar l:=by rw[Fi h];show gP h
  rw[(Vs g 'a' ar (YN ar L.kS.nd o t p)).2.1];show zvg g u
 have k1:=kk i w i1 hw b;have x:=kk j v f hv d;show L.sA.no i j i1 f (λz=>m ?_) ⟨.inr ?_,by lia,by lia,by lia⟩
 .rw[z,d] at b;show(iu b).symm
 rw[b,d];show λz=>m (iu z).symm
def Vq(L:gH c ar l tr)(hw:w∈l)(hv:v∈l)(s:e∈ij c 'h' tr w)(p:e∈ij c 'h' tr v):w=v:=by
 show JP λf=>?_
 have parts:∀u,e∈ij c 'h' tr u->(e.1="left"/\∃j∈eB 'h' (some u) (-1),e.2=fi tr j)\/(e.1="right"/\∃j∈eB 'h' (some u) c.top.length,e.2=fi tr j)\/∃n:Nat,e.2=n/\((e.1="top"/\c.top[n]?=some (some u))\/(e.1="bottom"/\c.aA[n]?=some (some u))):=λu h=>by
  symm;rcases bx.mp h with h | h
  .rcases bx.mp h with h | h
   .unfold CD at h;split at h
    .let⟨j,b,rfl⟩:=aK.mp h;show .inl ⟨rfl,j,b,rfl⟩
    cases h
   show .inr (.inr (zxn h))
  unfold Cr at h;split at h
  .let⟨j,b,rfl⟩:=aK.mp h;show .inr (.inl ⟨rfl,j,b,rfl⟩)
  cases h
 rcases parts w s with⟨s1,i,o,r⟩ | ⟨s1,i,o,r⟩ | ⟨n,t,g⟩
 .rcases parts v p with⟨s2,j,b,q⟩ | ⟨s2,_⟩ | ⟨m,em,hm⟩
  .exact WM L f hw hv o b (r.symm.trans q)
  .rw[s1] at s2;show absurd s2 (by decide)
  rcases hm with⟨s2,_⟩ | ⟨s2,_⟩<;>(rw[s1] at s2;show absurd s2 (by decide))
 .rcases parts v p with⟨s2,_⟩ | ⟨s2,j,b,q⟩ | ⟨m,em,hm⟩
  .rw[s1] at s2;show absurd s2 (by decide)
  .exact WM L f hw hv o b (r.symm.trans q)
  rcases hm with⟨s2,_⟩ | ⟨s2,_⟩<;>(rw[s1] at s2;show absurd s2 (by decide))
 rcases parts v p with⟨s2,_⟩ | ⟨s2,_⟩ | ⟨m,em,hm⟩
 .rcases g with⟨s1,_⟩ | ⟨s1,_⟩<;>(rw[s1] at s2;show absurd s2 (by decide))
 .rcases g with⟨s1,_⟩ | ⟨s1,_⟩<;>(rw[s1] at s2;show absurd s2 (by decide))
 have:n=m:=by lia
 subst this;rcases g with⟨s1,t1⟩ | ⟨s1,t1⟩<;>rcases hm with⟨s2,d⟩ | ⟨s2,d⟩
 .rw[t1] at d;show f (iu (iu d))
 .rw[s1] at s2;show absurd s2 (by decide)
 .rw[s1] at s2;show absurd s2 (by decide)
 rw[t1] at d;show f (iu (iu d))
section
variable{c:ba}{ar:Bool}{l l':List aa}{tr:List Int}
def zvh(h:kW c w)(e:c.aA.length=c.top.length):g8 c w≠[]:=by
 have key:∀n:Nat,n<c.top.length->i9 c w n≠[]->g8 c w≠[]:=λn a f z=>by
  let⟨d,y⟩:=Sy.mp z;let⟨y,b⟩:=Sy.mp d;show f (JI.mp b n (iT.mpr a))
 rcases h with h | h | h | h
 .let⟨n,a⟩:=Ek.mp h;show key n (c7.mp a).1 (by unfold i9;simp[a])
 .let⟨n,a⟩:=Ek.mp h;show key n (by rw[<-e];show(c7.mp a).1) (by unfold i9;simp[a])
 .unfold g8;simp[h]
 unfold g8;simp[h]
def nM(c:ba)(ps:List Pc)(tr:List Int)(l:List aa):List (List a9):=l.map λw=>sE (ij c ps tr w)
def TY(L:gH c ar l tr)(h:kW c w):ij c 'h' tr w≠[]:=by
 let⟨ws,most,y,hm,g⟩:=L.good;rw[<-A2 L w];show λz=>zvh h g.bl (Jv.mp z)
def KL(L:gH c ar l tr)(w):(ij c 'h' tr w).length<=34:=by
 let⟨ws,most,z,hm,g⟩:=L.good;have h:=F2 c w c.top.length;have w2:=g.w2;rw[<-A2 L w,aE];unfold g8;rw[bP,bP];split<;>split<;>simp only[cZ,rj]<;>ext
theorem KJ(L:gH c ar l tr)(N:nq c l'):∀g∈nM c 'h' tr l',g≠[]:=λg a=>by
 let⟨w,hw,rfl⟩:=aK.mp a;intro z;have:=(mO (ij c 'h' tr w)).length_eq;rw[z] at this;show TY L ((N.mem w).mp hw) (oS this.symm)
def Fq(L:gH c ar l tr)(N:nq c l'):((nM c 'h' tr l').map dG).Nodup:=by
 have key:∀w∈l',dG (sE (ij c 'h' tr w))∈ij c 'h' tr w:=λw hw=>zxk (TY L ((N.mem w).mp hw))
 unfold nM;rw[bz];unfold oU;rw[gQ];show SS (λ{w v} hw hv f e=>f ?_) N.nd;have a:=key w hw;have b:=key v hv;have d:dG (sE (ij c 'h' tr w))=dG (sE (ij c 'h' tr v)):=e;rw[d] at a;show Vq L ((L.kS.mem w).mpr ((N.mem w).mp hw)) ((L.kS.mem v).mpr ((N.mem v).mp hv)) a b
def iq(c:ba)(ar:Bool)(l:List aa)(tr:List Int):List (List a9):=sG (nM c 'h' tr l)
theorem zqu(N:nq c l)(N':nq c l'):l'.Perm l:=
 (Ew N'.nd N.nd).mpr λw=>(N'.mem w).trans (N.mem w).symm
def UE(L:gH c ar l tr)(N:nq c l')(h:s.Perm (nM c 'h' tr l'))(p:s.Pairwise (λx y=>Ts.md (dG y) (dG x)=false)):s=iq c ar l tr:=by
 rw[zyN (Fq L N) h p];show zxm (Fq L N) ((zqu L.kS N).map _)
def FX(L:gH c ar l tr)(N:nq c l'):l'.length<=40:=by
 let⟨ws,most,hw,hm,g⟩:=L.good;have:=v8 N.nd λw hw=>Bq g w ((N.mem w).mp hw)
 show bK ‹_› ‹_›
end
def kg(c:ba)(ar:Bool)(ps:List Pc)(ts:List Tr)(tr:List Int)(n:Int):D:=.obj "Layout" [("channel",c.obj),("bent",.bl ar),("pieces",dY ps),("above",ni ts),("tracks",.lst (tr.map .int)),("count",.int n)]
def BB:bF:=λds Q=>∃c ar ps ts tr n w e,ds=[kg c ar ps ts tr n,.str w,dE e]/\ps.length<=100000/\tr.length=ps.length/\
 (e=.lf->eB ps (some w) (-1)≠[])/\(e=.rt->eB ps (some w) c.top.length≠[])/\Q (.fz (cX (zB c ps tr w e)))
def PU:(T:TX) ×' ∀{P w K mg base},Txt K mg->~~~1 "pieces_at" 3 yW->~~~1 "column_of" 2 yX->dr P w K mg base 1 "drawn_end" ["layout","name","end","number"] (top 31) T:=
 ⟨_,λT oO pZ nd f c A outer s H E a=>have b:=a.units;
 (aB (df (bj (ki b) (aY (ae 2) av) (eW (ah gA (ah gA aq)))) (aO (cE (ae 2))) c8)
   (aB (bM 3 (aY (bU oO a (ah (cD (ae 0)) (ah (ae 1) (ah (bU pZ a (ah (cD (ae 0)) (ah (ae 2) aq))) aq)))) av) nd)
   (aO (cE (eW (ah (aY (ae 2) av) (ah (aY (cD (ae 0)) (ae 3)) aq)))))))⟩
def MF:TX:=PU.1
def zhO:cU 3 BB MF 4:=by
 intro ds u hl h;symm;let⟨c,ar,ps,ts,tr,n,w,e,rfl,o,v,t,p,q⟩:=h;show MF _ [.fz (kg c ar ps ts tr n),.fz (.str w),.fz (dE e),.un];unfold MF PU;dsimp only;have fin:∀(k:Int)(s:aa),eB ps (some w) k≠[]->cX (s,fi tr ((eB ps (some w) k).headD 0))=cX (zB c ps tr w e)->∀j r,eB ps (some w) k=j::r->∃x,bO tr (j:Int)=some x/\u (.fz (.tup [.str s,.int x])):=λk s d he j r b=>by
  have hm:=Bj (show j∈eB ps (some w) k by rw[b];show .head _);show⟨_,by rw[fE (show j<tr.length by cbv)],?_⟩;rw[b,List.headD_cons] at he;rw[<-KZ (show j<tr.length by cbv)];rw[<-he] at q;show q
 have f:∀e∈[D.str "top",D.str "bottom"],bN 8 e:=nW 8 [("top":aa),"bottom"]
 have side:∀s:aa,bN 8 (.str s):=λs=>nW 8 [s] _ 'c'
 cases e with
 | tp m=>
  lk;show⟨_,rfl,by trivial,side _,f,?_⟩;rw[if_pos (by rfl)];show q
 | bt m=>
  lk;show⟨_,rfl,by trivial,side _,f,?_⟩;rw[if_pos (by rfl)];show q
 | lf=>
  have d:=t rfl;lk;show⟨_,rfl,by trivial,side _,f,?_⟩;rw[if_neg (by show jk)];walk;show⟨_,rfl,_,rfl,?_⟩;show⟨c,.lf,rfl,?_⟩;lk;show⟨ps,some w,-1,rfl,o,?_⟩;cases b:eB ps (some w) (-1) with
  | nil=>show absurd b d
  | cons j r=>
   lk;show⟨_,Ww _ _,?_⟩;walk;symm;let⟨x,i,g⟩:=fin (-1) "left" d rfl j r b;show⟨_,rfl,_,rfl,.int x,by rw[nV,i];rfl,by trivial,g⟩
 | rt=>
  have d:=p rfl;lk;show⟨_,rfl,by trivial,side _,f,?_⟩;rw[if_neg (by show jk)];walk;show⟨_,rfl,_,rfl,?_⟩;show⟨c,.rt,rfl,?_⟩;lk;show⟨ps,some w,c.top.length,rfl,o,?_⟩;cases b:eB ps (some w) c.top.length with
  | nil=>show absurd b d
  | cons j r=>
   lk;show⟨_,Ww _ _,?_⟩;walk;symm;let⟨x,i,g⟩:=fin c.top.length "right" d rfl j r b;show⟨_,rfl,_,rfl,.int x,by rw[nV,i];rfl,by trivial,g⟩
def BA:bF:=λds Q=>∃c ar l ts tr n w,ds=[kg c ar 'h' ts tr n,.str w]/\gH c ar l tr/\Q (.ow ((sE (ij c 'h' tr w)).map cX))
def gH.xc(L:gH c ar l tr):'h'.length<=1000:=by
 let⟨ws,most,hw,hm,g⟩:=L.good;have a:=FX L L.kS;have f:=LI (i5 c ar) (c.c6.length+1) (FY c ar) l;have e:=g.be.len;have d:=g.w2;have b:=g.ke.1;unfold bG;rw[bP,show(rZ c).length=c.keeps.length from aE _];have:l.length*(c.c6.length+1)<=40*17:=Aw a 'a';lia
def zhP:di ["end","layout","name"]:=by decide +kernel
def PJ:(T:TX) ×' ∀{P w K mg base},Txt K mg->~~~1 "ends_of" 2 yN->~~~2 "drawn_end" 3 BB->dr P w K mg base 2 "net_group" ["layout","name"] (top 30) T:=
 ⟨_,λT pY zV nd f d A outer s H E a=>have c:=a.units;
 (aO (cE (de (Wx rfl) T.b_sorted qe (ah (eu rfl (.of (N':=["end","layout","name"]) (m:=[none,some 0,some 1]) 'b') cO (cI (bU pY a (ah (cD (ae 0)) (ah (ae 1) aq)))) (λs3 b ex=>(aJ 0 zhP)) (λs3 b ex=>eY) (λs3 b ex=>(bU zV a (ah (ae 1) (ah (ae 2) (ah (ae 0) aq)))))) aq))))⟩
def ME:TX:=PJ.1
def zhQ:cU 2 BA ME 2:=by
 intro ds j hl h;symm;let⟨c,ar,l,ts,tr,n,w,rfl,L,q⟩:=h;show ME _ [.fz (kg c ar 'h' ts tr n),.fz (.str w)];unfold ME PJ;dsimp only;have big:=dn;let⟨ws,most,hw,hm,g⟩:=L.good;have f:=KL L w;lk;show gr (g8 c w) dE (λe=>cX (zB c 'h' tr w e)) (λo h=>?_) (by rw[<-A2 L w,aE] at f;lia) (λe he p k=>?_) ?_
 .lk;show⟨_,rfl,c,w,rfl,Lf g 'a',h⟩
 .lk;have inl:e=.lf->w∈c.left:=λz=>by
   subst z;rcases bx.mp he with he | he
   .rcases bx.mp he with he | he
    .split at he
     .assumption
     cases he
    let⟨m,x,he⟩:=nI.mp he;rcases bx.mp he with he | he<;>(split at he<;>simp at he)
   split at he<;>simp at he
  have inr:e=.rt->w∈c.right:=λz=>by
   subst z;rcases bx.mp he with he | he
   .rcases bx.mp he with he | he
    .split at he<;>simp at he
    let⟨m,x,he⟩:=nI.mp he;rcases bx.mp he with he | he<;>(split at he<;>simp at he)
   split at he
   .assumption
   cases he
  show⟨c,ar,bG c ar l,ts,tr,n,w,e,rfl,by have:=L.xc;lia,L.sA.len,λz y=>?_,λz y=>?_,k⟩
  .have:=WO g 'a' ar L.kS (inl z);rw[y] at this;cases this
  have:=XF g 'a' ar L.kS (inr z);rw[y] at this;cases this
 have e:(g8 c w).map (λe=>cX (zB c 'h' tr w e))=(ij c 'h' tr w).map cX:=by rw[<-A2 L w,bz];rfl
 rw[e];show⟨_,rfl,by lia,λi d b=>?_⟩;rw[T4 d b];show q
def Bz:bF:=λds Q=>∃c ar l ts tr n,ds=[kg c ar 'h' ts tr n]/\gH c ar l tr/\Q (.ov (.ll ((iq c ar l tr).map λg=>g.map cX)))
def XD(P:List D->Prop)(hw:∀a:List D->Prop,(∀ds,P ds->a ds)->b ρ a)(h:∀ds,P ds->yy (λ_ a=>a ds) m g tc te ρ Q):yy b m g tc te ρ Q:=by
 show hw _ λds c=>h ds c
def zhR:di ["name","layout"]:=by decide +kernel
def PM:(T:TX) ×' ∀{P w K mg base},Txt K mg->~~~1 "nets_of" 1 uw->~~~3 "net_group" 2 BA->dr P w K mg base 3 "groups_of" ["layout"] (top 29) T:=
 ⟨_,λT pX zQ nd f d A outer s H E a=>have c:=a.units;
 (aO (cE (Yh c T.b_sorted (F6 rfl (.of (N':=["name","layout"]) (m:=[none,some 0]) 'b') cO (cI (bU pX a (ah (cD (ae 0)) aq))) (λs3 b ex=>(aJ 0 zhR)) (λs3 b ex=>eY) (λs3 b ex=>(bU zQ a (ah (ae 1) (ah (ae 0) aq))))))))⟩
def MD:TX:=PM.1
def zhS:cU 1 Bz MD 1:=by
 intro ds j hl h;symm;let⟨c,ar,l,ts,tr,n,rfl,L,q⟩:=h;show MD _ [.fz (kg c ar 'h' ts tr n)];unfold MD PM;dsimp only;have big:=dn;let⟨ws,most,hw,hm,g⟩:=L.good;lk;show XD (λds=>∃b,nq c b/\ds=b.map .str) (λf h=>?_) ?_
 .lk;show⟨_,rfl,c,ws,rfl,Lf g 'a',hw,Bq g,λb nd mem sF=>h _ ⟨b,⟨nd,mem,sF⟩,rfl⟩⟩
 rintro _ ⟨b,N,rfl⟩;have m:=FX L N;show Mm b D.str (λw=>(sE (ij c 'h' tr w)).map cX) (λf h=>h) 'a' (λw hw o k=>?_) ?_
 .lk;show⟨c,ar,l,ts,tr,n,w,rfl,L,k⟩
 show⟨nM c 'h' tr b,by unfold nM;rw[bz];rfl,by unfold nM;rw[aE];lia,KJ L N,Fq L N,λi e d=>?_⟩;rw[UE L N e d];show q
def yZ:bF:=λds Q=>∃ps tr,ds=[dY ps,dI tr]/\ps.length<=1000/\(ps.zip tr=[]->Q (.fz (.int 0)))/\∀p∈ps.zip tr,Q (.fz (.int (p.2+p.1.k)))
def YF:di ["piece","track"]:=by decide +kernel
def PV:(T:TX) ×' ∀{P w K mg base},Txt K mg->dr P w K mg base 0 "count_of" ["pieces","tracks"] (top 23) T:=
 ⟨_,λT nd f d A outer s H E b=>have c:=b.units;
 (aO (cE (zuM rfl (eu rfl (.of (N':=["piece","track"]) (m:=[none,none]) 'b') nZ (yD T.b_zip (ah (ae 0) (ah (ae 1) aq))) (λs3 a ex=>(fh (n:=2) rfl (bI (aJ 0 YF) (bI (aJ 1 YF) eU)))) (λs3 a ex=>eY) (λs3 a ex=>(aG cj (ae 1) (aY (ae 0) av)))) av T.b_max)))⟩
def Mu:TX:=PV.1
def zjs:cU 2 yZ Mu 2:=by
 intro ds i hl h;let⟨ps,tr,rfl,b,f,d⟩:=h;show Mu _ [.fz (dY ps),.fz (dI tr)];unfold Mu PV;dsimp only;have big:=dn;show Ug _ _ _ _;show gr (ps.zip tr) (λp=>.tup [cW p.1,.int p.2]) (λp=>.int (p.2+p.1.k)) (λj h=>?_) (by rw[nH];lia) (λp b m k1=>?_) ?_
 .unfold dY dI;lk;rw[yK];show h
 .lk;show⟨_,rfl,k1⟩
 show⟨(ps.zip tr).map λp=>p.2+p.1.k,by rw[bz];rfl,λe=>f (by simpa using e),λn g=>?_⟩;let⟨p,b,rfl⟩:=aK.mp g;show d p b
theorem WL{α b:Type}(f g:α->List b):∀l:List α,(l.flatMap λx=>f x++g x).Perm (l.flatMap f++l.flatMap g)
 | []=>.nil
 | a::l=>by
  rw[iU,iU,iU,eF,eF];show vB _ ?_;show(vB _ (WL f g l)).trans ?_;rw[<-eF,<-eF];show JH _ vA
theorem Mt{α b:Type}{f g:α->List b}:∀{l:List α},(∀x∈l,f x=g x)->l.flatMap f=l.flatMap g
 | [],_=>rfl
 | a::l,h=>by rw[iU,iU,h a 'c',Mt λx hx=>h x (cJ _ hx)]
theorem KI{b:Type}(f:Pc->Bool)(s:Int->b):∀(ps:List Pc) tr pre,tr.length=ps.length->((ps.zip tr).flatMap λx=>if f x.1=true then [s x.2] else [])=(((ps.zipIdx pre.length).filter λp=>f p.1).map (·.2)).map λj=>s (fi (pre++tr) j)
 | [],tr,pre,_=>by show rn _
 | p::ps,[],pre,h=>by show if_pos ‹_›
 | p::ps,t::tr,pre,h=>by
  have a:=KI f s ps tr (pre++[t]) (by simpa using h);rw[bP,JG,eF,JB] at a;rw[R4,iU,a,Jh,AE];split
  .rw[bT,bT];have:fi (pre++t::tr) pre.length=t:=by unfold fi;simp
   rw[this];rfl
  rfl
def o8(c:ba)(w:aa)(x:Pc×Int):List a9:=(if x.1.n=some w/\w∈c.left/\x.1.l=-1 then [(("left":aa),x.2)] else [])++(if x.1.n=some w/\w∈c.right/\x.1.r=(c.top.length:Int) then [(("right":aa),x.2)] else [])
def zvi(L:gH c ar l tr)(w):(sC c w++('h'.zip tr).flatMap (o8 c w)).Perm (ij c 'h' tr w):=by
 symm;let⟨ws,most,y,hm,g⟩:=L.good;have i:(w∈c.left\/w∈c.right)->∀p∈bG c ar l,p.n=some w->p.l<p.r/\-1<=p.l/\p.r<=c.top.length:=λh p q b=>
  (Vs g 'a' ar (YN ar L.kS.nd ((L.kS.mem w).mpr (Le h)) q b)).2.2
 have lf:('h'.zip tr).flatMap (λx=>if x.1.n=some w/\w∈c.left/\x.1.l=-1 then [(("left":aa),x.2)] else [])=CD c 'h' tr w:=by
  unfold CD;by_cases h:w∈c.left
  .rw[if_pos h];have:=KI (λp=>decide (p.n=some w)&&iw p (-1)) (λt=>(("left":aa),t)) 'h' tr [] L.sA.len;show Eq.trans ?_ this;show Mt λx hx=>?_
   have e:=(jC (show(x.1,x.2)∈'h'.zip tr from hx)).1;by_cases b:x.1.n=some w
   .let⟨o,m,j⟩:=i (.inl h) x.1 e b;have:(x.1.n\w/\w∈c.left/\x.1.l=-1)↔(decide (x.1.n\w)&&iw x.1 (-1))=true:=by
     simp![b,h,iw,decide_true,Ra,true_and,oZ,iG];ext
    by_cases d:x.1.n\w/\w∈c.left/\x.1.l=-1
    .rw[if_pos d,if_pos (this.mp d)]
    rw[if_neg d,if_neg λz=>d (this.mpr z)]
   rw[if_neg λz=>b z.1,if_neg (by simp[b])]
  rw[if_neg h,JI];intro x _;rw[if_neg λz=>h z.2.1]
 have rt:('h'.zip tr).flatMap (λx=>if x.1.n=some w/\w∈c.right/\x.1.r=(c.top.length:Int) then [(("right":aa),x.2)] else [])=Cr c 'h' tr w:=by
  unfold Cr;by_cases h:w∈c.right
  .rw[if_pos h];have:=KI (λp=>decide (p.n=some w)&&iw p c.top.length) (λt=>(("right":aa),t)) 'h' tr [] L.sA.len;show Eq.trans ?_ this;show Mt λx hx=>?_
   have e:=(jC (show(x.1,x.2)∈'h'.zip tr from hx)).1;by_cases b:x.1.n=some w
   .let⟨o,m,j⟩:=i (.inr h) x.1 e b;have:(x.1.n\w/\w∈c.right/\x.1.r=(c.top.length:Int))↔(decide (x.1.n\w)&&iw x.1 c.top.length)=true:=by
     simp![b,h,iw,decide_true,Ra,true_and,oZ,iG];ext
    by_cases d:x.1.n\w/\w∈c.right/\x.1.r=(c.top.length:Int)
    .rw[if_pos d,if_pos (this.mp d)]
    rw[if_neg d,if_neg λz=>d (this.mpr z)]
   rw[if_neg λz=>b z.1,if_neg (by simp[b])]
  rw[if_neg h,JI];intro x _;rw[if_neg λz=>h z.2.1]
 have f:=WL (λx:Pc×Int=>if x.1.n=some w/\w∈c.left/\x.1.l=-1 then [(("left":aa),x.2)] else []) (λx=>if x.1.n=some w/\w∈c.right/\x.1.r=(c.top.length:Int) then [(("right":aa),x.2)] else []) ('h'.zip tr);rw[lf,rt] at f;show(vB _ f).trans ?_;rw[<-eF];show JH _ vA
def By:bF:=λds Q=>∃c ar l ts tr n w,ds=[kg c ar 'h' ts tr n,.str w]/\gH c ar l tr/\Q (.ow ((sE (ij c 'h' tr w)).map cX))
def zsw(c w n):(lJ c w n).length<=2:=by unfold lJ;split<;>split<;>simp
def UD(c w i):((bA i).flatMap (lJ c w)).length<=2*i:=by
 induction i with
 | zero=>show b9 _
 | succ i a=>
  rw[Az,qi,bP];have:=zsw c w i;simp![iU,tV,eS];lia
def zsx(c w x):(o8 c w x).length<=2:=by unfold o8;split<;>split<;>simp
def zxp(c w)(l:List (Pc×Int)):(l.flatMap (o8 c w)).length<=2*l.length:=by
 induction l with
 | nil=>show bB _
 | cons a r b=>
  rw[iU,bP,cZ];have:=zsx c w a;lia
def zqx{c:ba}{D:DE}(acc:List a9)(hl:acc.length<=3000)(h:D.nx [A,.fz (.str w),.fz c.obj,.ow ((acc++(if p.n=some w/\w∈c.left/\p.l=-1 then [(("left":aa),t)] else [])).map cX),B,.fz (cW p),.fz (.int t)]) :
  (kP (rO (fB (bg oEq (bg fF (aF 5) (dC (.int 0))) (aF 1))) (rO (fB (bg (qv false) (aF 1) (iy "left" (aF 2)))) (fB (bg oEq (bg fF (aF 5) (dC (.int 1))) (rK (dC (.int 1))))))) (rN 3 (kh (aM (dC (.str "left")) (aM (aF 6) bJ)))) mJ) D [A,.fz (.str w),.fz c.obj,.ow (acc.map cX),B,.fz (cW p),.fz (.int t)]:=by
 have big:=dn;have h0:¬(p.n\w/\w∈c.left/\p.l=-1)->D.nx [A,.fz (.str w),.fz c.obj,.ow (acc.map cX),B,.fz (cW p),.fz (.int t)]:=λz=>by rw[if_neg z,eS] at h;show h
 have f:(p.n=some w/\w∈c.left/\p.l=-1)->D.nx [A,.fz (.str w),.fz c.obj,.ow (acc.map cX++[cX (("left":aa),t)]),B,.fz (cW p),.fz (.int t)]:=λz=>by rw[if_pos z,bX] at h;show h
 unfold ba.obj cW dS at *;lk;simp![Uk,zyK,gw,exists_eq_left'];lk;by_cases d:p.n=some w
 .rw[if_pos d];show⟨_,rfl,?_⟩;lk;show⟨nW 8 _,?_⟩;by_cases e:w∈c.left
  .rw[if_pos (by simpa using e)];by_cases b:p.l=-1
   .rw[if_pos b];show⟨by trivial,by rw[aE];lia,f ⟨d,e,b⟩⟩
   rw[if_neg b];show h0 λz=>b z.2.2
  rw[if_neg (by simpa using e)];show h0 λz=>e z.2.1
 rw[if_neg d];show h0 λz=>d z.1
def znR{c:ba}{D:DE}(acc:List a9)(hl:acc.length<=3001)(h:D.nx [A,.fz (.str w),.fz c.obj,.ow ((acc++(if p.n=some w/\w∈c.right/\p.r=(c.top.length:Int) then [(("right":aa),t)] else [])).map cX),B,.fz (cW p),.fz (.int t)]) :
  (kP (rO (fB (bg oEq (bg fF (aF 5) (dC (.int 0))) (aF 1))) (rO (fB (bg (qv false) (aF 1) (iy "right" (aF 2)))) (fB (bg oEq (bg fF (aF 5) (dC (.int 2))) (fN yb (aM (iy "top" (aF 2)) bJ)))))) (rN 3 (kh (aM (dC (.str "right")) (aM (aF 6) bJ)))) mJ) D [A,.fz (.str w),.fz c.obj,.ow (acc.map cX),B,.fz (cW p),.fz (.int t)]:=by
 have big:=dn;have h0:¬(p.n\w/\w∈c.right/\p.r=(c.top.length:Int))->D.nx [A,.fz (.str w),.fz c.obj,.ow (acc.map cX),B,.fz (cW p),.fz (.int t)]:=λz=>by rw[if_neg z,eS] at h;show h
 have f:(p.n=some w/\w∈c.right/\p.r=(c.top.length:Int))->D.nx [A,.fz (.str w),.fz c.obj,.ow (acc.map cX++[cX (("right":aa),t)]),B,.fz (cW p),.fz (.int t)]:=λz=>by rw[if_pos z,bX] at h;show h
 unfold ba.obj cW dS dP at *;lk;simp![Uk,zyL,gw,exists_eq_left'];lk;by_cases d:p.n=some w
 .rw[if_pos d];show⟨_,rfl,?_⟩;lk;show⟨nW 8 _,?_⟩;by_cases e:w∈c.right
  .rw[if_pos (by simpa using e)];show⟨_,rfl,?_⟩;lk;rw[aE];by_cases b:p.r=(c.top.length:Int)
   .rw[if_pos b];show⟨by trivial,by rw[aE];lia,f ⟨d,e,b⟩⟩
   rw[if_neg b];show h0 λz=>b z.2.2
  rw[if_neg (by simpa using e)];show h0 λz=>e z.2.1
 rw[if_neg d];show h0 λz=>d z.1
def Qi:(T:TX) ×' ∀{P w K mg base},Txt K mg->dr P w K mg base 0 "_law_ends" ["_law_layout_here","_law_word","_law_channel_here","_law_ends_here","_law_c","_law_piece","_law_t"] (top 53) T:=
 ⟨_,λT nd f c A outer s H E b=>have a:=b.units;
 (aB (bM 2 (cD (ae 0)) nd)
   (aB (hJ 3 (cQ aq) nd)
   (aB (fe eE rfl (kz T.b_range (ah (de jG T.b_len iY (ah (cD (ae 2)) aq)) aq)) (aJ 4 nd)
    (aB (df (bj (ef a) (aY (cD (ae 2)) (ae 4)) (ae 1)) (aO (iA 3 (eW (ah gA (ah (ae 4) aq))))) c8)
   (aO (df (bj (ef a) (aY (cD (ae 2)) (ae 4)) (ae 1)) (aO (iA 3 (eW (ah gA (ah (ae 4) aq))))) c8))))
   (aB (fe eE rfl (yD T.b_zip (ah (cD (ae 0)) (ah (cD (ae 0)) aq))) (fh (n:=2) rfl (bI (aJ 5 nd) (bI (aJ 6 nd) eU)))
    (aB (df (jI (bj (ef a) (aY (ae 5) av) (ae 1)) (jI (bj (ki a) (ae 1) (cD (ae 2))) (nX (bj (ef a) (aY (ae 5) av) (vW av))))).pb (aO (iA 3 (eW (ah gA (ah (ae 6) aq))))) c8)
   (aO (df (jI (bj (ef a) (aY (ae 5) av) (ae 1)) (jI (bj (ki a) (ae 1) (cD (ae 2))) (nX (bj (ef a) (aY (ae 5) av) (de jG T.b_len iY (ah (cD (ae 2)) aq)))))).pb (aO (iA 3 (eW (ah gA (ah (ae 6) aq))))) c8))))
   (mN 3 (aO (cE (de (Wx rfl) T.b_sorted qe (ah (ae 3) aq)))))))))⟩
def MC:TX:=Qi.1
def zhT:cU 2 By MC 7:=by
 intro ds B hl h;symm;let⟨c,ar,l,ts,tr,n,w,rfl,L,q⟩:=h;show MC _ [.fz (kg c ar 'h' ts tr n),.fz (.str w),.un,.un,.un,.un,.un];unfold MC Qi;dsimp only;have big:=dn;have xc:=L.xc;have o:=zvi L w;have gl:=KL L w;let⟨ws,most,hw,hm,g⟩:=L.good;have w2:=g.w2;generalize A:bG c ar l=ps at *;lk;show⟨_,rfl,?_⟩;walk;show⟨by show b9 _,?_⟩;walk;show qK c.top.length (λt h=>?_) (λi ρ=>∃k:Sl,ρ=[.fz (kg c ar ps ts tr n),.fz (.str w),.fz c.obj,.ow (((bA i).flatMap (lJ c w)).map cX),k,.un,.un]) ⟨_,rfl⟩ ?_ ?_
 .lk;show⟨_,rfl,?_⟩;unfold dP;lk;rw[aE];show⟨by cbv,by lia,by trivial⟩
 .rintro i ρ e ⟨k,rfl⟩;have m:i<c.aA.length:=by rw[g.bl];show e
  have a1:bO c.top (i:Int)=some c.top[i]:=fE e;have a2:bO c.aA (i:Int)=some c.aA[i]:=fE m;have j:=UD c w i;rw[Az,qi];simp![iU,tV,eS];generalize (bA i).flatMap (lJ c w)=acc at j ⊢;unfold lJ;rw[cA e,cA m];simp![gw];generalize c.top[i]=u at a1 ⊢;generalize c.aA[i]=v at a2 ⊢;unfold ba.obj dP;lk;show⟨_,rfl,?_⟩;lk;show⟨_,a1,?_⟩;split
  focus show⟨by trivial,by simp;lia,?_⟩
  all_goals
   walk;show⟨_,rfl,?_⟩;lk;show⟨_,a2,?_⟩;split
  .exact⟨by trivial,by simp;lia,_,by simp[cX];rfl⟩
  .exact⟨_,by simp[cX];rfl⟩
  .exact⟨by trivial,by simp;lia,_,by simp[cX];rfl⟩
  show⟨_,by simp;rfl⟩
 rintro ρ ⟨k,rfl⟩;have j:=UD c w c.top.length;rw[show(bA c.top.length).flatMap (lJ c w)=sC c w from rfl] at j ⊢;walk;show nY (ps.zip tr) (λp=>.tup [cW p.1,.int p.2]) (λt h=>?_) (λi ρ=>∃a b d:Sl,ρ=[.fz (kg c ar ps ts tr n),.fz (.str w),.fz c.obj,.ow ((sC c w++((ps.zip tr).take i).flatMap (o8 c w)).map cX),a,b,d]) ⟨_,_,_,by rw[I0,tV,eS]⟩ ?_ ?_
 .lk;show⟨_,rfl,_,rfl,?_⟩;unfold dY;lk;rw[yK];show h
 .rintro i x ρ e ⟨a,b,d,rfl⟩;have tk:((ps.zip tr).take (i+1)).flatMap (o8 c w)=((ps.zip tr).take i).flatMap (o8 c w)++o8 c w x:=by rw[fG,e,qi];simp
  have sl:=zxp c w ((ps.zip tr).take i);have z:((ps.zip tr).take i).length<=1000:=by rw[cN,nH] ;lia
  rw[tk,<-eF];have f:(sC c w++((ps.zip tr).take i).flatMap (o8 c w)).length<=3000:=by rw[bP];lia
  generalize sC c w++((ps.zip tr).take i).flatMap (o8 c w)=acc at f ⊢;unfold o8;rw[<-eF];show⟨rfl,?_⟩;show zqx acc f ?_;show znR _ (by split<;>simp<;>ext) ?_;show⟨_,_,_,rfl⟩
 rintro ρ ⟨a,b,d,rfl⟩;rw[gk];walk;show⟨_,rfl,by rw[o.length_eq];lia,λy s r=>?_⟩;rw[T4 (s.trans o) r];show q
def Bv:bF:=λds Q=>∃c ar l ts tr n,ds=[kg c ar 'h' ts tr n]/\gH c ar l tr/\Q (.ov (.ll ((iq c ar l tr).map λg=>g.map cX)))
def zjt:di ["_law_word","_law_layout_here"]:=by decide +kernel
def Qk:(T:TX) ×' ∀{P w K mg base},Txt K mg->~~~1 "_law_ends" 2 By->dr P w K mg base 1 "_law_due" ["_law_layout_here","_law_channel_here","_law_some"] (top 54) T:=
 ⟨_,λT Aa nd f d A outer s H E b=>have c:=b.units;
 (aB (bM 1 (cD (ae 0)) nd)
   (aB (bM 2 (aG cj (aG cj (aG cj (cD (ae 1)) (cD (ae 1))) (cD (ae 1))) (cD (ae 1))) nd)
   (aB (ur 2 rfl (.of (N':=["_law_word"]) (m:=[none]) 'b') cO (cI (ae 2)) (λs3 a ex=>(aJ 0 pA)) (λs3 a ex=>(iC (bj mQ (ae 0) fU))) (λs3 a ex=>(ae 0)) nd)
   (aO (cE (Yh c T.b_sorted (F6 rfl (.of (N':=["_law_word","_law_layout_here"]) (m:=[none,some 0]) 'b') cO (cI (MZ rfl T.b_sorted T.b_set (ah (ae 2) aq))) (λs3 a ex=>(aJ 0 zjt)) (λs3 a ex=>eY) (λs3 a ex=>(bU Aa b (ah (ae 1) (ah (ae 0) aq)))))))))))⟩
def Ms:TX:=Qk.1
def zju:cU 1 Bv Ms 3:=by
 intro ds s hl h;symm;let⟨c,ar,l,ts,tr,n,rfl,L,q⟩:=h;show Ms _ [.fz (kg c ar 'h' ts tr n),.un,.un];unfold Ms Qk;dsimp only;have big:=dn;symm;let⟨ws,most,hw,hm,g⟩:=L.good;have w2:=g.w2;have bl:=g.bl;have ll:=g.ll;have rl:=g.rl;lk;show⟨_,rfl,?_⟩;walk;show⟨_,rfl,_,rfl,?_⟩;lk;show⟨by simp;lia,_,rfl,?_⟩;lk;show⟨by simp;lia,_,rfl,?_⟩;lk;show⟨by simp;lia,?_⟩;rw[show c.left.map D.str=(c.left.map some).map dO by rw[bz];rfl,show c.right.map D.str=(c.right.map some).map dO by rw[bz];rfl,<-bX,<-bX,<-bX];have d:∀w,w∈(c.top++c.aA++c.left.map some++c.right.map some).filterMap id↔kW c w:=by
  intro w;simp[xR,kW,or_assoc]
 have f:(c.top++c.aA++c.left.map some++c.right.map some).length<=200:=by simp;lia
 generalize c.top++c.aA++c.left.map some++c.right.map some=all at d f ⊢;have o:(all.filterMap id).length<=200:=bK (xT _ _) f;walk;show kA all dO dO (λx=>x.isSome) (λi h=>?_) 'a' (λx hx p u k1 j=>?_) ?_
 .lk;show h
 .lk;cases x with
  | none=>show j rfl
  | some x=>show k1 rfl
 rw[LM];walk;show XD (λds=>∃b,nq c b/\ds=b.map .str) (λi h=>?_) ?_
 .lk;simp![Gu,fK,eI,g7,yP];show⟨by lia,λl nd h=>?_,λb nd h' e=>h _ ⟨b,⟨nd,λw=>(h' w).trans (d w),e⟩,rfl⟩⟩;have:=v8 nd λw hw=>Bq g w ((d w).mp (h w hw))
  lia
 rintro _ ⟨b,N,rfl⟩;have t:=FX L N;show Mm b D.str (λw=>(sE (ij c 'h' tr w)).map cX) (λi h=>h) 'a' (λw hw p k=>?_) ?_
 .lk;show⟨c,ar,l,ts,tr,n,w,rfl,L,k⟩
 show⟨nM c 'h' tr b,by unfold nM;rw[bz];rfl,by unfold nM;rw[aE];lia,KJ L N,Fq L N,λr m e=>?_⟩;rw[UE L N m e];show q
def Bu:bF:=λds Q=>∃c ar ps ts tr,ds=[c.obj,.bl ar,dY ps,ni ts,.lst (tr.map .int)]/\ps.length<=1000/\∀n,Q (.fz (kg c ar ps ts tr n))
def FW:u9:=(lK "channel" (aF 1) (lK "bent" (aF 2) (lK "pieces" (fN nR (aM (aF 3) bJ)) (lK "above" (fN nR (aM (aF 4) bJ)) (lK "tracks" (fN nR (aM (aF 5) bJ)) (lK "count" (f7 2 yZ (aM (aF 3) (aM (aF 5) bJ))) J6))))))
def zlz(ds d)(e:List (aa×D)->Prop)(b:∀fs:List (aa×D),fs.map (·.1)=(["channel","bent","pieces","above","tracks","count"]:List aa)->e fs)(h:Bu ds d) :
  FW (sf ["self","channel","bent","pieces","above","tracks"] ds) [] λfs=>e fs/\d (.fz (.obj "Layout" fs)):=by
 symm;let⟨c,ar,ps,ts,tr,rfl,f,q⟩:=h;show FW [.un,.fz c.obj,.fz (.bl ar),.fz (dY ps),.fz (ni ts),.fz (.lst (tr.map .int))] [] _;unfold FW;show⟨by cbv,show 1<1000 by decide,show 2<1000 by decide,show 3<1000 by decide,show 4<1000 by decide,?_⟩;show⟨rfl,ps,tr,rfl,f,λ_=>⟨show 5<1000 by decide,b _ rfl,q _⟩,λ_ _=>⟨show 5<1000 by decide,b _ rfl,q _⟩⟩
theorem UC{ps:List Pc}(h:p∈ps.zipIdx):p.2<ps.length:=(c7.mp (Ex.mp h)).1
def UB(h:p∈ps.zipIdx):dD ps p.2=p.1:=by
 unfold dD;rw[Ex.mp h];rfl
def UA(h:t∈uH c ps):(t.1<ps.length/\t.2.1<ps.length)/\∃(n:Nat)(u v:aa),c.top[n]?\some u/\c.aA[n]?\some v:=by
 symm;obtain⟨n,_,d⟩:=nI.mp h;unfold pw at d;split at d
 .rename_i u v i g;split at d
  .cases d
  symm;let⟨a,f,d⟩:=nI.mp d;let⟨b,e,rfl⟩:=aK.mp d;show⟨⟨(Bj f).1,(Bj e).1⟩,n,u,v,i,g⟩
 cases d
def Vp(h:t∈uM ps):(t.1<ps.length/\t.2.1<ps.length)/\(dD ps t.1).n=none/\(dD ps t.2.1).n≠none:=by
 symm;let⟨p,g,b⟩:=nI.mp h;unfold qD at b;split at b
 .rename_i m;symm;let⟨x,hx,rfl⟩:=aK.mp b;let⟨y,j,e⟩:=xR.mp hx;let⟨z,hz,rfl⟩:=aK.mp j;obtain⟨o,_,rfl⟩:=jZ.mp e;let⟨f,d⟩:=cF.mp hz;show⟨⟨UC g,UC f⟩,by rw[UB g];show m,?_⟩;rw[UB f];intro i;rw[i] at d;cases d
 cases b
theorem zsy(h:Above c ps ts):Kr ps.length ts:=λt a=>by
 rcases bx.mp (h.pm.mem_iff.mp a) with a | a
 .exact(UA a).1
 show(Vp a).1
theorem zsz(h:Above c ps ts)(g:KP c):¬Ul ps.length ts:=λ⟨S,p,_,f⟩=>by
 have key:∀t∈ts,(dD ps t.1).n=none/\(dD ps t.2.1).n≠none:=λt b=>by
  symm;rcases bx.mp (h.pm.mem_iff.mp b) with b | b
  .let⟨z,n,u,v,m,j⟩:=UA b;show(g n u v m j).elim
  show(Vp b).2
 cases S with
 | nil=>show p rfl
 | cons q S=>
  let⟨t,b,z,i⟩:=f q 'c';let⟨t',o,e,z⟩:=f t.1 i;have k1:=(key t b).1;have d:=(key t' o).2;rw[e] at d;show d k1
def BJ:bF:=λds Q=>∃ws most c b,ds=[.lst c.parts,.int b]/\ws.length<=8/\most<=16/\lg ws most c/\∀a ar l ts tr n,gH a ar l tr->a.top.length=c.top.length->Q (.fz (kg a ar (bG a ar l) ts tr n))
def M4:TX:=(eT (ku 2 (mK (aM (mK (aM (aF 0) (aM (bg oEq (bg (oI (λ_ j=>0<j) λi j=>.int (i%j)) (aF 1) (dC (.int 2))) (dC (.int 1))) bJ))) (aM (mK (aM (aF 0) (aM (bg oEq (bg (oI (λ_ j=>0<j) λi j=>.int (i%j)) (aF 1) (dC (.int 2))) (dC (.int 0))) bJ))) (aM (mK (aM (f7 1 BX (aM (aF 0) bJ)) (aM (bg oEq (bg (oI (λ_ j=>0<j) λi j=>.int (i%j)) (aF 1) (dC (.int 4))) (dC (.int 1))) bJ))) bJ)))))
 (eT (kM (lL (aF 2)) (J7 2 (gq (eH 3) (gq (eH 4) lM))) (eT (ku 5 (f7 7 BE (aM (bg fF (aF 3) (dC (.int 0))) (aM (bg fF (aF 3) (dC (.int 1))) (aM (bg fF (aF 3) (dC (.int 2))) (aM (bg fF (aF 3) (dC (.int 3))) (aM (bg fF (aF 3) (dC (.int 4))) (aM (bg fF (aF 3) (dC (.int 5))) (aM (bg fF (aF 3) (dC (.int 6))) bJ)))))))))
 (eT (ku 6 (f7 2 BC (aM (aF 5) (aM (aF 4) bJ))))
 (eT (ku 7 (f7 2 Bw (aM (aF 5) (aM (aF 6) bJ))))
 (eT (ku 8 (f7 3 B0 (aM (fN yb (aM (aF 6) bJ)) (aM (aF 7) (aM (aF 1) bJ)))))
 (kP (fB (bg (rP true) (aF 8) (dC .non))) (vK (f7 5 Bu (aM (aF 5) (aM (aF 4) (aM (aF 6) (aM (aF 7) (aM (f7 4 BM (aM (aF 6) (aM (aF 7) (aM (aF 8) (aM (aF 1) bJ))))) bJ))))))) mJ))))))
 (vK (dC .non))))
def zfM:cU 2 BJ M4 9:=by
 intro ds P hl h;symm;let⟨ws,most,m,j,rfl,S,hm,u,q⟩:=h;show M4 _ [.fz (.lst m.parts),.fz (.int j),.un,.un,.un,.un,.un,.un,.un];unfold M4;lk;show⟨by trivial,by trivial,ws,most,m,rfl,by lia,by lia,u,λc1 g1 W nb t=>⟨by trivial,by trivial,?_⟩⟩;obtain⟨L,y,M⟩:∃L:List (ba×Bool),L=[(m,decide (j%2=1)),(m,decide (j%2=0)),(c1,decide (j%4=1))]/\D.lst [D.lst [D.lst m.parts,D.bl (decide (j%2=1))],D.lst [D.lst m.parts,D.bl (decide (j%2=0))],D.lst [(R.ow c1.parts).val,D.bl (decide (j%4=1))]]=.lst (L.map λx=>.lst [.lst x.1.parts,.bl x.2]):=⟨_,rfl,rfl⟩
 rw[M];walk;show nY L (λx=>.lst [.lst x.1.parts,.bl x.2]) (λU h=>?_) (λi ρ=>i<=2/\∃a b d e f k:Sl,ρ=[.fz (.lst m.parts),.fz (.int j),.fz (.lst (L.map λx=>.lst [.lst x.1.parts,.bl x.2])),a,b,d,e,f,k]) ⟨by cbv,_,_,_,_,_,_,rfl⟩ ?_ ?_
 .lk;show h
 .rintro i ⟨c,ar⟩ ρ o ⟨B,a,b,d,e,f,k,rfl⟩;have H:lg ws most c/\(i=2->KP c)/\c.top.length=m.top.length:=by
   rw[y] at o;match i,o,B with
   | 0,o,_=>cases o;show⟨u,λz=>by trivial,rfl⟩
   | 1,o,_=>cases o;show⟨u,λz=>by trivial,rfl⟩
   | 2,o,_=>cases o;show⟨g1,λ_=>nb,t⟩
  let⟨g,r,s⟩:=H;have sh:=Lf g 'a';have be:=g.be.len;have w2:=g.w2;have ke:=g.ke.1;generalize T:(λx:ba×Bool=>D.lst [D.lst x.1.parts,D.bl x.2])=F at *;generalize I:m.parts=V at *;lk;show⟨_,rfl,_,rfl,_,rfl,_,rfl,_,rfl,_,rfl,_,rfl,_,_,_,_,_,_,_,rfl,?_⟩;walk;show⟨c,ar,ws,rfl,sh,by lia,by lia,by lia,Bq g,λl N=>?_⟩;have p:'h'.length<=500:=by
   have K:=v8 N.nd λw hw=>Bq g w ((N.mem w).mp hw)
   have J:=LI (i5 c ar) (c.c6.length+1) (FY c ar) l;have A:l.length*(c.c6.length+1)<=8*17:=Aw (by show bK ‹_› ‹_›) 'a';unfold bG;rw[bP,show(rZ c).length=c.keeps.length from aE _];lia
  have lay:∀tr,HC 'h' tr->gH c ar l tr:=λtr ok=>⟨⟨ws,most,by lia,hm,g⟩,N,ok⟩
  have fin:∀ts tr n,HC 'h' tr->P (R.fz (kg c ar 'h' ts tr n)):=λts tr n ok=>q c ar l ts tr n (lay tr ok) s
  generalize bG c ar l=ps at p fin ⊢;have O:D.lst (ps.map cW)=dY ps:=rfl;simp![yA];rw[O];walk;show⟨c,ps,rfl,sh,p,λts v=>?_⟩;have hv:=zsy v;have Q:ts.length<=11000000:=by
   have K:=WR c ps sh p;have J:=XH ps p;have A:=v.pm.length_eq;rw[bP] at A;lia
  rw[show Sl.fz (dY ps)=Sl.fz (.lst (ps.map cW)) from rfl];walk;rw[aE];show⟨ps.length,ts,j,rfl,by lia,Q,hv,λst=>?_,λC E=>?_⟩
  .walk;show⟨?_,_,_,_,_,_,_,rfl⟩;have:i≠2:=λz=>zsz v (r z) st
   lia
  walk;show⟨ps,ts,C,j,rfl,by lia,hv,E,λtr ok=>?_⟩;show⟨c,ar,ps,ts,tr,rfl,by lia,λn=>fin ts tr n ok⟩
 rintro ρ ⟨h,_⟩;rw[y] at h;show absurd h ∅
def zxq(n a b):Ts.cS (e3 n a) (e3 n b)=Ts.md a b:=by
 unfold e3 Ts.cS;rw[if_pos rfl];unfold Ts.cS;unfold Ts.md;by_cases h:a.1=b.1
 .rw[if_pos (by rw[h]),if_pos h];unfold Ts.cS;by_cases e:a.2=b.2
  .rw[if_pos (by rw[e]),e];simp[Ts.cS]
  rw[if_neg (λz=>e (by injection z))];rfl
 rw[if_neg (λz=>h (by injection z)),if_neg h];rfl
def zyO(h:sE g=g):sK (g.map (e3 n))=g.map (e3 n):=by
 show(Kq (.refl _) ?_).symm;rw[gQ];have:=Fs g;rw[h] at this;show this.imp λ{a b} c=>?_
 rw[zxq];unfold gT at c;simpa using c
def Uz(h:e3 n a=e3 m b):n=m/\a=b:=by
 unfold e3 at h;simp![tQ.injEq,nD.injEq,xu.injEq,and_true] at h;show⟨by lia,Ai h.2.1 h.2.2⟩
theorem Vo:∀k gsl,(∀gss∈gsl,gss.flatten.Nodup)->((cg k gsl).map (·.2)).Nodup
 | _,[],_=>by show .nil
 | k,gss::r,h=>by
  rw[cg,bX,lq];show⟨?_,Vo (k+1) r λg l=>h g (cJ _ l),λx hx y c z=>?_⟩
  .rw[Gm];have:(gss.map λg=>g.map (e3 k)).flatten=gss.flatten.map (e3 k):=by rw[RK]
   rw[this];unfold oU;rw[gQ];show(h gss et).imp λ{a b} s z=>s (Uz z).2
  subst z;let⟨p,f,rfl⟩:=aK.mp hx;let⟨q,d,e⟩:=aK.mp c;let⟨i,g,a,w,w,w,o⟩:=N0.mp (show(p.1,p.2)∈gz k 0 gss from f);let⟨n,t,j,g',b,w,w,w,w,m⟩:=wJ.mp (show(q.1,q.2)∈cg (k+1) r from d);rw[o,m] at e;have:=(Uz e).1;lia
def zzA(w):(sC c w).Nodup:=by
 unfold sC oU;rw[JA];show⟨λn _=>?_,?_⟩
 .unfold lJ;split<;>split<;>simp
  decide +kernel
 show(Jf (n:=c.top.length)).imp λ{a b} e x hx y d z=>e ?_
 have at_:∀{n:Nat}{x:a9},x∈lJ c w n->x.2=n:=λ{n x} h=>by
  rcases bx.mp h with h | h
  .split at h
   .rw[cG] at h;rw[h]
   cases h
  split at h
  .rw[cG] at h;rw[h]
  cases h
 have g:=at_ hx;have f:=at_ d;lia
def zxr(w):(g8 c w).Nodup:=by
 have mid:((bA c.top.length).flatMap (i9 c w)).Nodup:=by
  unfold oU;rw[JA];have at_:∀{n:Nat}{x:En},x∈i9 c w n->x=.tp n\/x=.bt n:=λ{n x} h=>by
   rcases bx.mp h with h | h
   .split at h
    .exact .inl (cG.mp h)
    cases h
   split at h
   .exact .inr (cG.mp h)
   cases h
  show⟨λn _=>?_,(Jf (n:=c.top.length)).imp λ{a b} g x hx y d z=>g ?_⟩
  .unfold i9;split<;>split<;>simp
  subst z;rcases at_ hx with rfl | rfl<;>rcases at_ d with e | e<;>cases e<;>rfl
 have f:∀x∈(bA c.top.length).flatMap (i9 c w),x≠.lf/\x≠.rt:=λx hx=>by
  let⟨n,v,h⟩:=nI.mp hx;rcases bx.mp h with h | h<;>(split at h<;>first | (rw[cG] at h;subst h;show⟨nofun,nofun⟩) | cases h)
 unfold g8;rw[lq,lq];show⟨⟨by split<;>simp,mid,λx hx y d z=>?_⟩,by split<;>simp,λx hx y d z=>?_⟩
 .split at hx
  .rw[cG] at hx;show(f y d).1 (z▸hx)
  cases hx
 split at d
 .rw[cG] at d;rcases bx.mp hx with hx | hx
  .split at hx
   .rw[cG] at hx;rw[hx,d] at z;cases z
   cases hx
  show(f x hx).2 (z.trans d)
 cases d
def zyP(L:gH c ar l tr)(w):(ij c 'h' tr w).Nodup:=by
 rw[<-A2 L w];unfold oU;rw[gQ];show(zxr w).imp λ{x y} d z=>d ?_
 have n1:¬("left":aa)="top":=by decide +kernel
 have n2:¬("left":aa)="bottom":=by decide +kernel
 have n3:¬("left":aa)="right":=by decide +kernel
 have n4:¬("top":aa)="right":=by decide +kernel
 have n5:¬("bottom":aa)="right":=by decide +kernel
 have n6:¬("top":aa)="bottom":=by decide +kernel
 have a:=gy QC z;have b:=gy QB z;cases x<;>cases y<;>simp only[zB] at a b<;>first | rfl | show absurd a (by assumption) | show absurd a.symm (by assumption) | (congr 1;ext)
def zxs(L:gH c ar l tr):e∈(iq c ar l tr).flatten↔∃w∈l,e∈ij c 'h' tr w:=by
 rw[lH];constructor
 .rintro⟨g,b,a⟩;let⟨w,hw,rfl⟩:=aK.mp ((nU _).mem_iff.mp b);show⟨w,hw,(mO _).mem_iff.mp a⟩
 rintro⟨w,hw,h⟩;show⟨_,(nU _).mem_iff.mpr (aK.mpr ⟨w,hw,rfl⟩),(mO _).mem_iff.mpr h⟩
def zyQ(L:gH c ar l tr):(iq c ar l tr).flatten.Nodup:=by
 have pm:(iq c ar l tr).flatten.Perm (l.flatMap λw=>sE (ij c 'h' tr w)):=by
  show(nU _).flatten
 rw[pm.nodup_iff];unfold oU;rw[JA];show⟨λw _=>(mO _).nodup_iff.mpr (zyP L w),SS (λ{w v} hw hv b x hx y a z=>b ?_) L.kS.nd⟩;subst z;show Vq L hw hv ((mO _).mem_iff.mp hx) ((mO _).mem_iff.mp a)
def zxt(h:g∈iq c ar l tr):sE g=g:=by
 let⟨w,z,rfl⟩:=aK.mp ((nU _).mem_iff.mp h);show zxi (mO _)
theorem zyR(L:gH c ar l tr)(h:g∈iq c ar l tr):g≠[]:=KJ L L.kS g ((nU _).mem_iff.mp h)
def Uy(L:gH c ar l tr){n:Nat}:(c.top[n]?=some (some w)->(("top":aa),(n:Int))∈(iq c ar l tr).flatten)/\(c.aA[n]?=some (some w)->(("bottom":aa),(n:Int))∈(iq c ar l tr).flatten):=by
 symm;let⟨ws,most,z,z,g⟩:=L.good;have bl:=g.bl
 have key:∀{e:a9},kW c w->n<c.top.length->e∈lJ c w n->e∈(iq c ar l tr).flatten:=λ{e} hm b he=>(zxs L).mpr ⟨w,(L.kS.mem w).mpr hm,by
  show jn _ (fT _ (nI.mpr ⟨n,iT.mpr b,he⟩))⟩
 show⟨λh=>key (.inl (dZ h)) (c7.mp h).1 (by unfold lJ;rw[if_pos h];show .head _),λh=>key (.inr (.inl (dZ h))) (by rw[<-bl];show(c7.mp h).1) (by unfold lJ;rw[if_pos h];show fT _ (.head _))⟩
end Wc
open PySem L2 PyProof.Rows Wc
local macro_rules | `(tactic| lk)=>`(tactic| (repeat(first | walk_at"b" | dsimp only[qu] | simp only[$[$(qn "lR pz gw exists_eq_left'"):ident],*])))
namespace Wc
open PySem L2 PyProof.Rows
structure Lay where
 c:ba
 ar:Bool
 l:List aa
 ts:List Tr
 tr:List Int
 n:Int
def Lay.ok(L:Lay):Prop:=gH L.c L.ar L.l L.tr
def Lay.d(L:Lay):D:=kg L.c L.ar (bG L.c L.ar L.l) L.ts L.tr L.n
structure jB(Ls:List Lay)(W:Nat):Prop where
 ne:Ls≠[]
 len:Ls.length<=10
 ok:∀L∈Ls,L.ok
 Cf:∀L∈Ls,L.c.top.length=W
 w:W<=16
def Dd(Ls:List Lay):D:=.lst (Ls.map Lay.d)
def BN:bF:=λds Q=>∃Ls W,ds=[Dd Ls]/\jB Ls W/\Q (.fz (.bl true))
def P1:(T:TX) ×' ∀{P w K mg base},Txt K mg->dr P w K mg base 0 "checked_pile" ["layouts","widths"] (top 33) T:=
 ⟨_,λT nd f d A outer s H E c=>have b:=c.units;
 (aB (ur 1 rfl (.of (N':=["layout"]) (m:=[none]) 'b') cO (cI (ae 0)) (λs3 a ex=>(aJ 0 pA)) (λs3 a ex=>eY) (λs3 a ex=>(de jG T.b_len iY (ah (cD (cD (ae 0))) aq))) nd)
   (aB (df (bj (EN b) (XJ rfl T.b_len T.b_set (ah (ae 1) aq)) av) (aO zrE) c8)
   (aO (cE Ff))))⟩
def Nk:TX:=P1.1
def zfs:cU 1 BN Nk 2:=by
 intro ds n hl h;let⟨Ls,W,rfl,P,q⟩:=h;show Nk _ [.fz (Dd Ls),.un];unfold Nk P1;dsimp only;have big:=dn;have pl:=P.len;lk;show gr Ls Lay.d (λ_=>.int W) (λo h=>?_) 'a' (λL j m k=>?_) ?_
 .lk;show h
 .lk;show⟨_,rfl,_,rfl,?_⟩;show m (.int ((L.c.top.map dO).length:Nat));rw[aE,P.Cf L j];show k
 walk;simp![LB,fK,eI];rw[show(Ls.map λ_=>D.int W)=(Ls.map λ_=>(W:Int)).map D.int by rw[bz];rfl,yQ];show⟨by rw[aE];lia,λl nd hm=>?_⟩;have e:l=[(W:Int)]:=by
  have f:∀k∈l,k=W:=λk i=>by
   let⟨z,z,e⟩:=aK.mp ((hm k).mp i);show e.symm
  have g:(W:Int)∈l:=(hm W).mpr (by
   let⟨L,r,e⟩:=List.exists_cons_of_ne_nil P.ne;rw[e];show .head _)
  match l,nd,f,g with
  | [],_,_,g=>cases g
  | [a],_,f,_=>rw[f a 'c']
  | a::b::r,nd,f,_=>
   exfalso
   have:=f a 'c';have:=f b (by show .tail _ (.head _));simp![fY,bE,not_or] at nd;show nd.1.1 'a'
 rw[e];lk;walk;show q
def pI(p:Option aa×Option aa):Bool:=p.1.isSome&&decide (p.1=p.2)
def jN(L M:Lay):List Bool:=(L.c.aA.zip M.c.top).map pI
def BW:bF:=λds Q=>∃L M,ds=[L.d,M.d]/\L.ok/\Q (.ow ((jN L M).map .bl))
def YK:di ["one","other"]:=by decide +kernel
def Px:(T:TX) ×' ∀{P w K mg base},Txt K mg->dr P w K mg base 0 "pin_joints" ["upper","lower"] (top 34) T:=
 ⟨_,λT nd f d A outer s H E c=>have b:=c.units;
 (aO (cE (eu rfl (.of (N':=["one","other"]) (m:=[none,none]) 'b') nZ (yD T.b_zip (ah (cD (cD (ae 0))) (ah (cD (cD (ae 1))) aq))) (λs3 a ex=>(fh (n:=2) rfl (bI (aJ 0 YK) (bI (aJ 1 YK) eU)))) (λs3 a ex=>eY) (λs3 a ex=>(U1 (qG mQ (ae 0) fU) (U2 (qG (ef b) (ae 0) (ae 1))))))))⟩
def M8:TX:=Px.1
def zhb:cU 2 BW M8 2:=by
 intro ds m hl h;let⟨L,M,rfl,o,q⟩:=h;show M8 _ [.fz L.d,.fz M.d];unfold M8 Px;dsimp only;have big:=dn;let⟨ws,most,z,hm,g⟩:=o.good;have f:=g.w2;have j:=g.bl;lk;show gr (L.c.aA.zip M.c.top) (λp=>.tup [dO p.1,dO p.2]) (λp=>.bl (pI p)) (λe h=>?_) (by rw[nH];lia) (λp i n k=>?_) ?_
 .lk;show⟨_,rfl,_,rfl,_,rfl,_,rfl,?_⟩;show e (vG (L.c.aA.map dO) (M.c.top.map dO));rw[yK];show h
 .let⟨a,b⟩:=p;lk;cases a with
  | none=>show k
  | some u=>show k
 rw[show(L.c.aA.zip M.c.top).map (λp=>D.bl (pI p))=(jN L M).map D.bl by unfold jN;rw[bz];rfl];show q
end Wc
open PySem L2 PyProof.Rows Wc
local macro_rules | `(tactic| lk)=>`(tactic| (repeat(first | walk_at"b" | dsimp only[$[$(qn "yj vY uj yh r8 yx yI vU yg rJ qr rK sN ym yf yd xY yc yJ yn ye vI yw yu qI rS uh yt qu yi OV.val"):ident],*] | simp only[lR])))
namespace Wc
open PySem L2 PyProof.Rows
def dj(Ls:List Lay):List (List (List a9)):=Ls.map λL=>iq L.c L.ar L.l L.tr
def dU(Ls:List Lay):List (List Bool):=(Ls.zip (Ls.drop 1)).map λp=>jN p.1 p.2
theorem XC:∀k gsl,(∀gss∈gsl,gss.flatten.length<=B)->(cg k gsl).length<=gsl.length*B
 | _,[],_=>by show b9 _
 | k,gss::r,h=>by
  have b:=XC (k+1) r λg a=>h g (cJ _ a)
  have h0:=h gss et;have e:(gz k 0 gss).length=gss.flatten.length:=by
   have:=gy Ao (Gm k 0 gss);rw[aE] at this;rw[this,<-RK,aE]
  rw[cg,bP,cZ,tR,e];lia
theorem XB:∀{gss:List (List a9)},(∀g∈gss,g.length<=m)->gss.flatten.length<=gss.length*m
 | [],_=>by show b9 _
 | g::r,h=>by
  have a:=XB (gss:=r) λx hx=>h x (cJ _ hx)
  have:=h g et;rw[jY,bP,cZ,tR];lia
def ab6:c∈gm a↔a[c]?\true:=by
 unfold gm;rw[aK];constructor
 .rintro⟨⟨b,i⟩,h,rfl⟩;let⟨e,d⟩:=cF.mp h;have:=Ex.mp e;simp only at d this;rw[d] at this;show this
 intro h;show⟨(true,c),cF.mpr ⟨Ex.mpr h,rfl⟩,rfl⟩
def LG(a):(gm a).length<=a.length:=by
 unfold gm;rw[aE];show bK (jE _ _) (by rw[Jr];show bB _)
theorem Ya:∀k bds,(∀a∈bds,a.length<=m)->(g9 P k bds).length<=bds.length*m
 | _,[],_=>by show b9 _
 | k,a::r,h=>by
  have b:=Ya (P:=P) (k+1) r λx hx=>h x (cJ _ hx)
  have h0:=h a et;have:=LG a;rw[g9,bP,aE,cZ,tR];lia
def zxu{c:Nat}(h:(jN L M)[c]?\true):∃w,L.c.aA[c]?\some w/\M.c.top[c]?\some w:=by
 unfold jN at h;rw[b8,jZ] at h;symm;obtain⟨⟨a,b⟩,e,d⟩:=h;rw[oR] at e;unfold pI at d;rw[oZ,iG] at d;let⟨d,f⟩:=d;simp only at e d f;let⟨w,rfl⟩:=S0.mp d;subst f;show⟨w,e.1,e.2⟩
def Ux(h:gsl[n]?\gss)(he:e∈gss.flatten):∃a,(a,e3 n e)∈cg 0 gsl:=by
 let⟨g,d,c⟩:=lH.mp he;let⟨i,b⟩:=iW d;show⟨pk (0+n) i,wJ.mpr ⟨n,gss,i,g,e,h,b,c,rfl,by rw[lD]⟩⟩
theorem Kh(P:jB Ls W):∀gss∈dj Ls,∀g∈gss,g.length<=34:=λgss b g a=>by
 let⟨L,c,rfl⟩:=aK.mp b;let⟨w,z,rfl⟩:=aK.mp ((nU _).mem_iff.mp a);rw[(mO _).length_eq];show KL (P.ok L c) w
theorem Kg(P:jB Ls W):∀gss∈dj Ls,gss.length<=40:=λgss b=>by
 let⟨L,a,rfl⟩:=aK.mp b;have:=FX (P.ok L a) (P.ok L a).kS;unfold iq nM;rw[(nU _).length_eq,aE];show this
def Uw(P:jB Ls W):(cg 0 (dj Ls)).length<=13600:=by
 have el:=XC (B:=1360) 0 (dj Ls) λgss a=>bK (XB (Kh P gss a)) (Jx 34 (Kg P gss a))
 have gl:(dj Ls).length=Ls.length:=by unfold dj;rw[aE]
 have:=P.len;lia
theorem TV(P:jB Ls W):((cg 0 (dj Ls)).map (·.2)).Nodup:=Vo 0 _ λgss a=>by
 let⟨L,b,rfl⟩:=aK.mp a;show zyQ (P.ok L b)
theorem TU(P:jB Ls W):∀n d,(dU Ls)[n]?=some d->∀c∈gm d,(∃a,(a,e3 n ("bottom",(c:Int)))∈cg 0 (dj Ls))/\∃a,(a,e3 (n+1) ("top",(c:Int)))∈cg 0 (dj Ls):=λn d e h g=>by
 unfold dU at e;rw[b8,jZ] at e;symm;obtain⟨⟨L,M⟩,b,rfl⟩:=e;rw[oR,xP] at b;let⟨b,f⟩:=b;rw[ID] at f;let⟨w,w1,w2⟩:=zxu (ab6.mp g);show⟨Ux (by unfold dj;rw[b8,b];rfl) ((Uy (P.ok L (dZ b))).2 w1),Ux (by unfold dj;rw[b8,f];rfl) ((Uy (P.ok M (dZ f))).1 w2)⟩
def y3:bF:=λds Q=>∃Ls W,ds=[Dd Ls]/\jB Ls W/\∀gss,Gd (cg 0 (dj Ls)) (g9 (jv (cg 0 (dj Ls))) 0 (dU Ls)) gss->Q (.ov (.ll (gss.map λg=>g.map aN)))
def YG:di ["upper","lower"]:=by decide +kernel
def Py:(T:TX) ×' ∀{P w K mg base},Txt K mg->~~~1 "checked_pile" 1 BN->~~~1 "pin_joints" 2 BW->~~~3 "pile_grouped" 2 BR->~~~4 "groups_of" 1 Bz->dr P w K mg base 4 "pile_groups" ["layouts","borders"] (top 35) T:=
 ⟨_,λT zX zN zO zS nd f d A outer s H E a=>have c:=a.units;
 (aB (zua (bU zX a (ah (ae 0) aq)))
   (aB (ur 1 rfl (.of (N':=["upper","lower"]) (m:=[none,none]) 'b') nZ (yD T.b_zip (ah (ae 0) (ah (ju (ae 0) (iK av) kC) aq))) (λs3 b ex=>(fh (n:=2) rfl (bI (aJ 0 YG) (bI (aJ 1 YG) eU)))) (λs3 b ex=>eY) (λs3 b ex=>(bU zN a (ah (ae 0) (ah (ae 1) aq)))) nd)
   (aO (cE (bU zO a (ah (eu rfl (.of (N':=["layout"]) (m:=[none]) 'b') cO (cI (ae 0)) (λs3 b ex=>(aJ 0 pA)) (λs3 b ex=>eY) (λs3 b ex=>(bU zS a (ah (ae 0) aq)))) (ah (ae 1) aq)))))))⟩
def M3:TX:=Py.1
def zfN:cU 1 y3 M3 2:=by
 intro ds x hl h;let⟨Ls,W,rfl,P,q⟩:=h;show M3 _ [.fz (Dd Ls),.un];unfold M3 Py;dsimp only;have big:=dn;have pl:=P.len;have u:=Kh P;have el:=Uw P;have j:∀b∈dU Ls,b.length<=16:=λb i=>by
  let⟨p,f,rfl⟩:=aK.mp i;have v:=P.Cf p.2 (ua (jC f).2);have:=P.w;unfold jN;rw[aE,nH];lia
 have bl:(dU Ls).length<=10:=by unfold dU;rw[aE,nH];lia
 have ll:=Ya (P:=jv (cg 0 (dj Ls))) 0 (dU Ls) j;lk;show⟨Ls,W,rfl,P,?_⟩;walk;show gr (Ls.zip (Ls.drop 1)) (λp=>.tup [p.1.d,p.2.d]) (λp=>tF (jN p.1 p.2)) (λs h=>?_) (by rw[nH];lia) (λp f t k=>?_) ?_
 .unfold Dd;lk;rw[yK,Gp _ 'g'];show h
 .lk;show⟨p.1,p.2,rfl,P.ok _ (jC f).1,k⟩
 walk;show gr Ls Lay.d (λL=>qT (iq L.c L.ar L.l L.tr)) (λs h=>?_) 'a' (λL r t k=>?_) ?_
 .lk;show h
 .lk;show⟨L.c,L.ar,L.l,L.ts,L.tr,L.n,rfl,P.ok L r,?_⟩;have e:(OV.ll ((iq L.c L.ar L.l L.tr).map λg=>g.map cX)).val=qT (iq L.c L.ar L.l L.tr):=by
   show D.lst (((iq L.c L.ar L.l L.tr).map λg=>g.map cX).map .lst)=_;rw[bz];rfl
  simp![vY];rw[e];show k
 show⟨dj Ls,dU Ls,by unfold dj dU;simp![yA,bz];rfl,λgss o g m=>by have:=u gss o g m;lia,by lia,TV P,λb i=>by have:=j b i;lia,by lia,TU P,q⟩
def eQ:Nat->List (List Bool)->List (EK×EK)
 | _,[]=>[]
 | n,a::r=>((gm a).map λ(c:Nat)=>(e3 n ("bottom",(c:Int)),e3 (n+1) ("top",(c:Int))))++eQ (n+1) r
theorem Ym(P):∀k bds,g9 P k bds=(eQ k bds).map λp=>(P p.1,P p.2)
 | _,[]=>rfl
 | k,a::r=>by
  rw[g9,eQ,bX,Ym P (k+1) r,bz];rfl
theorem X9:∀{k bds},p∈eQ k bds->∃n b c,bds[n]?=some b/\c∈gm b/\p=(e3 (k+n) ("bottom",(c:Int)),e3 (k+n+1) ("top",(c:Int)))
 | _,[],h=>by cases h
 | k,b::r,h=>by
  symm;rcases bx.mp h with h | h
  .let⟨c,e,rfl⟩:=aK.mp h;show⟨0,b,c,rfl,e,rfl⟩
  let⟨n,d,c,i,g,f⟩:=X9 h;show⟨n+1,d,c,i,g,by rw[f,show k+1+n=k+(n+1) by lia]⟩
def zxx:Cn ([]:List (EK×EK)) a b↔a=b:=by
 constructor
 .intro h;induction h with
  | refl=>rfl
  | step _ e _=>rcases e with e | e<;>cases e
 rintro rfl;show .refl _
def zqA(nd:((cg 0 gsl).map (·.2)).Nodup)(ne:∀j∈gsl,∀g∈j,g≠[])(sF:∀j∈gsl,∀g∈j,sE g=g)
  (E:∀n m,bds[n]?=some m->∀c∈gm m,(∃a,(a,e3 n ("bottom",(c:Int)))∈cg 0 gsl)/\∃a,(a,e3 (n+1) ("top",(c:Int)))∈cg 0 gsl) :
  ip [false,true,false] (cP 0 gsl)/\(∀p∈eQ 0 bds,p.1∈(cP 0 gsl).flatten)/\∀gss,Gd (cg 0 gsl) (g9 (jv (cg 0 gsl)) 0 bds) gss->gss=kR ((eQ 0 bds).foldl eZ (cP 0 gsl)):=by
 have r:=Mf 0 gsl;have d:∀{x:EK},(∃a,(a,x)∈cg 0 gsl)↔x∈(cP 0 gsl).flatten:=λ{x}=>by
  rw[<-r,aK];show⟨λF=>by let⟨a,k⟩:=F;show⟨(a,x),k,rfl⟩,λ⟨p,f,e⟩=>⟨p.1,by rw[<-e];show f⟩⟩
 have M:ip [false,true,false] (cP 0 gsl):=by
  show⟨by rw[<-r];show nd,λg' l=>?_,λg' l e he=>?_⟩
  .let⟨n,j,i,g,t,s,rfl⟩:=CA.mp l;intro z;show ne j (dZ t) g (dZ s) (Jv.mp z)
  let⟨a,k⟩:=d.mpr (lH.mpr ⟨g',l,he⟩);show Lg 0 gsl _ k
 have f:∀p∈eQ 0 bds,p.1∈(cP 0 gsl).flatten/\p.2∈(cP 0 gsl).flatten:=λp f=>by
  let⟨n,m,c,D,C,rfl⟩:=X9 f;let⟨B,A⟩:=E n m D c C;rw[lD];show⟨d.mp B,d.mp A⟩
 let⟨G,pm⟩:=ip.all M λp h=>(f p h).1
 show⟨M,λp h=>(f p h).1,λgss h=>zsr G (Vx _ λg' l=>?_) (by rw[r];show pm.symm) nd (λp u q v=>?_) h⟩
 .let⟨n,j,i,g,t,s,rfl⟩:=CA.mp l;show zyO (sF j (dZ t) g (dZ s))
 have hx:p.2∈(cP 0 gsl).flatten:=d.mp ⟨p.1,u⟩;have o:q.2∈(cP 0 gsl).flatten:=d.mp ⟨q.1,v⟩
 have:=Vy (jv (cg 0 gsl)) (eQ 0 bds) (cP 0 gsl) [] (λx hx y o=>by
  let⟨a,k⟩:=d.mpr hx;let⟨b,w⟩:=d.mpr o;rw[zqg nd k w,zxx,Ft nd k,Ft nd w]) f p.2 hx q.2 o
 rw[this,rn,<-Ym,Ft nd (show(p.1,p.2)∈_ from u),Ft nd (show(q.1,q.2)∈_ from v)]
end Wc
open PySem L2 PyProof.Rows Wc
local macro_rules | `(tactic| lk)=>`(tactic| (repeat(first | walk_at"b" | dsimp only[$[$(qn "qu rS Km"):ident],*] | simp only[$[$(qn "BF Yg lR pz yk Kp"):ident],*])))
namespace Wc
open PySem L2 PyProof.Rows
def rX(ns:List Int)(a k:Nat):List Int:=ns.take 1++(bA (ns.length-1)).filterMap λj=>if (1+j)%a=k then ns[1+j]? else none
def zvl(ns b k):k5 (rX ns b k)=k5 ns:=by
 cases ns with
 | nil=>rfl
 | cons a r=>rfl
def WK(ns a k):(rX ns a k).length<=1+ns.length:=by
 unfold rX;have:=xT (λj=>if (1+j)%a=k then ns[1+j]? else none) (bA (ns.length-1));rw[qg] at this;simp![bP,cN];ext
def BV:bF:=λds Q=>∃(ns:List Int)(many:Nat),ds=[dI ns,.int many]/\ns.length<=63/\1<=many/\many<=8/\Q (.ow ((bA many).map λk=>dI (rX ns many k)))
def zhd:di ["_law_k","_law_script","_law_many_here"]:=by decide +kernel
def zhe:di ["_law_j","_law_script","_law_k","_law_many_here"]:=by decide +kernel
def Qb:(T:TX) ×' ∀{P w K mg base},Txt K mg->dr P w K mg base 0 "_law_parts" ["_law_script","_law_many_here"] (top 55) T:=
 ⟨_,λT nd f d A outer s H E c=>have b:=c.units;
 (aO (cE (eu rfl (.of (N':=["_law_k","_law_script","_law_many_here"]) (m:=[none,some 0,some 1]) 'b') cO (kz T.b_range (ah (ae 1) aq)) (λs3 a ex=>(aJ 0 zhd)) (λs3 a ex=>eY) (λs3 a ex=>(aG cj (ju (ae 1) kC (iK av)) (eu rfl (.of (N':=["_law_j","_law_script","_law_k","_law_many_here"]) (m:=[none,some 1,some 0,some 2]) 'b') cO (zm1 T.b_range (ah av (ah (de jG T.b_len iY (ah (ae 1) aq)) aq))) (λs3 a ex=>(aJ 0 zhe)) (λs3 a ex=>(iC (bj (ef b) (aG cK (ae 0) (ae 3)) (ae 2)))) (λs3 a ex=>(aY (ae 1) (ae 0)))))))))⟩
def M7:TX:=Qb.1
def zhf:cU 2 BV M7 2:=by
 intro ds t hl h;symm;let⟨ns,many,rfl,r,p,o,q⟩:=h;show M7 _ [.fz (dI ns),.fz (.int many)];unfold M7 Qb;dsimp only;have big:=dn;unfold dI at q ⊢;lk;show gr (bA many) (λ(k:Nat)=>.int (0+k)) (λk=>.lst ((rX ns many k).map .int)) (λn h=>?_) (by simp;lia) (λk s v kk=>?_) q
 .lk;show⟨by cbv,by lia,by trivial⟩
 rw[xx];lk;rw[yG _ 'g'];show FL (bA (ns.length-1)) (λ(j:Nat)=>.int (1+j)) (λj=>(if (1+j)%many=k then ns[1+j]? else none).map .int) (λn h=>?_) (by simp;lia) (λj m u w g i=>?_) ?_
 .lk;rw[aE,show((ns.length:Int)-1).toNat=ns.length-1 by cbv];show⟨⟨by cbv,by lia⟩,h⟩
 .have x:=iT.mp m;have f:1+j<ns.length:=by ext
  lk;show⟨by lia,?_⟩;by_cases b:(1+j)%many=k
  .have d:((1:Int)+j)%many=k:=by
    have:(((1+j)%many:Nat):Int)=(k:Int):=by rw[b]
    simpa using this
   rw[if_pos d];show⟨ns[1+j],?_,g _ ?_⟩
   .have:=fE f;simpa using this
   rw[if_pos b,cA f];rfl
  have d:¬((1:Int)+j)%many=k:=λz=>b (by
   lia)
  rw[if_neg d];show i (by rw[if_neg b];rfl)
 have pl:=WK ns many k;unfold rX at pl kk;have e:(bA (ns.length-1)).filterMap (λj=>(if (1+j)%many=k then ns[1+j]? else none).map D.int)=((bA (ns.length-1)).filterMap λj=>if (1+j)%many=k then ns[1+j]? else none).map D.int:=by
  rw[R1]
 rw[e];rw[bX] at kk;rw[bP] at pl;show⟨?_,kk⟩;simp![aE,cN] at pl ⊢;lia
theorem XA:∀n a b,cP n (a++b)=cP n a++cP (n+a.length) b
 | n,[],b=>by simp[cP]
 | n,x::a,b=>by rw[mG,cP,cP,XA (n+1) a b,eF,cZ,show n+1+a.length=n+(a.length+1) by lia]
theorem X8:∀n a b,eQ n (a++b)=eQ n a++eQ (n+a.length) b
 | n,[],b=>by simp[eQ]
 | n,x::a,b=>by rw[mG,eQ,eQ,X8 (n+1) a b,eF,cZ,show n+1+a.length=n+(a.length+1) by lia]
def zqB(a b):gm (a++[b])=gm a++if b=true then [a.length] else []:=by
 unfold gm;rw[List.zipIdx_append,t5,bX];cases b<;>simp
def GW(k c:Nat):EK×EK:=(e3 k ("bottom",(c:Int)),e3 (k+1) ("top",(c:Int)))
def zqC{Ls:List Lay}(h:Ls[k]?\L):cP 0 (dj (Ls.take (k+1)))=cP 0 (dj (Ls.take k))++(iq L.c L.ar L.l L.tr).map λg=>g.map (e3 k):=by
 have a:=(c7.mp h).1;unfold dj;rw[fG,h,bX,XA];simp![AL,bT,j8,cP,eS,aE,cN,lD];rw[mE (by show fc ‹_›)]
def WJ:dU (Ls.take (j+1))=(dU Ls).take j:=by
 unfold dU;rw[<-Rc];congr 1
 apply tY;intro n;rw[vx];apply Option.ext;rintro⟨x,y⟩;by_cases a:n<j
 .rw[if_pos a,oR,oR,xP,xP,vx,vx,if_pos 'a',if_pos 'a']
 rw[if_neg a,oR,xP,vx,vx,if_neg (show ¬1+n<j+1 by lia)];simp
def zsA{Ls:List Lay}(c:Ls[j]?\M)(a:Ls[j+1]?\L):eQ 0 (dU (Ls.take (j+2)))=eQ 0 (dU (Ls.take (j+1)))++(gm (jN M L)).map (GW j):=by
 have e:=(c7.mp a).1;have b:(dU Ls)[j]?\jN M L:=by
  unfold dU;rw[b8,jZ];show⟨(M,L),by rw[oR,xP,ID];show⟨c,a⟩,rfl⟩
 have d:(dU Ls).length=Ls.length-1:=by
  unfold dU;cbv
 rw[WJ,WJ,fG,b,X8];simp![AL,eQ,eS,cN,lD];rw[mE ⋯];rfl
def zvm{c:Nat}(b:M.c.aA[c]?\x)(a:L.c.top[c]?\y):(jN M L)[c]?\pI (x,y):=by
 unfold jN;rw[b8,jZ];show⟨(x,y),by rw[oR];show⟨b,a⟩,rfl⟩
def znS:(jN M L).length=min M.c.aA.length L.c.top.length:=by unfold jN;rw[aE,nH]
def zqD{a:List Bool}(h:a[c]?\b):gm (a.take (c+1))=gm (a.take c)++if b=true then [c] else []:=by
 have d:=(c7.mp h).1;rw[fG,h,AL,zqB,cN,mE (by show fc ‹_›)]
theorem WI:∀k gsl,(∀gss∈gsl,gss.length<=40)->(cP k gsl).length<=gsl.length*40
 | _,[],_=>by show bB _
 | k,gss::r,h=>by
  have b:=WI (k+1) r λg a=>h g (cJ _ a)
  have h0:=h gss et;rw[cP,bP,aE,cZ,tR];lia
def jB.grl(P:jB Ls W)(k):(cP 0 (dj (Ls.take k))).length<=400:=by
 have d:=WI 0 (dj (Ls.take k)) λgss a=>Kg P gss (by
  let⟨L,b,rfl⟩:=aK.mp a;show aK.mpr ⟨L,rD b,rfl⟩)
 have c:(dj (Ls.take k)).length<=10:=by
  unfold dj;rw[aE,cN];have:=P.len;lia
 lia
theorem Xz:∀k bds,(∀a∈bds,a.length<=m)->(eQ k bds).length<=bds.length*m
 | _,[],_=>by show b9 _
 | k,a::r,h=>by
  have b:=Xz (k+1) r λx hx=>h x (cJ _ hx)
  have h0:=h a et;have:=LG a;rw[eQ,bP,aE,cZ,tR];lia
def jB.Zh(P:jB Ls W)(k):(eQ 0 (dU (Ls.take k))).length<=160:=by
 have pl:=P.len;have e:=Xz (m:=16) 0 (dU (Ls.take k)) λd b=>by
  let⟨p,a,rfl⟩:=aK.mp b;have c:=P.Cf p.2 (rD (ua (jC a).2));have:=P.w;unfold jN;rw[aE,nH];lia
 have c:(dU (Ls.take k)).length<=10:=by unfold dU;rw[aE,nH,cN];lia
 lia
def jB.Pd(P:jB Ls W):ip [false,true,false] (cP 0 (dj Ls))/\(cP 0 (dj Ls)).flatten.length<=20000/\(∀p∈eQ 0 (dU Ls),p.1∈(cP 0 (dj Ls)).flatten)/\
  ∀gss,Gd (cg 0 (dj Ls)) (g9 (jv (cg 0 (dj Ls))) 0 (dU Ls)) gss->gss=kR ((eQ 0 (dU Ls)).foldl eZ (cP 0 (dj Ls))):=by
 let⟨f,e,d⟩:=zqA (bds:=dU Ls) (TV P) (λh b g a=>by
  let⟨L,c,rfl⟩:=aK.mp b;show zyR (P.ok L c) a) (λh b g a=>by
  let⟨L,c,rfl⟩:=aK.mp b;show zxt a) (TU P)
 show⟨f,?_,e,d⟩;have:=Uw P;rw[<-Mf,aE];lia
def zyS(h)(b:1<=a):wF h a<=a:=by
 unfold wF;have:=o7 (h%1000000000000000000000000000000*40014%2147483563) (show(0:Int)<a by lia);lia
def mZ(Ls:List Lay):Nat->Nat->List (EK×EK)
 | 0,_=>[]
 | j+1,c=>match Ls[j]?,Ls[j+1]? with
  | some M,some L=>(gm ((jN M L).take c)).map (GW j)
  | _,_=>[]
def zsB(Ls k):mZ Ls k 0=[]:=by
 cases k with
 | zero=>rfl
 | succ j=>
  simp only[mZ];split<;>rfl
def zvn(h:Ls[k]?\L):eQ 0 (dU (Ls.take k))++mZ Ls k L.c.top.length=eQ 0 (dU (Ls.take (k+1))):=by
 cases k with
 | zero=>
  cases Ls with
  | nil=>rfl
  | cons a r=>rfl
 | succ j=>
  have d:=(c7.mp h).1;have b:Ls[j]?=some Ls[j]:=cA (by show fc ‹_›);rw[zsA b h];simp![mZ,b,h];rw[p9 (l:=jN Ls[j] L) (by rw[znS];lia)]
def zsC(d:Ls[j]?\M)(b:Ls[j+1]?\L)(hx:M.c.aA[c]?\x)(a:L.c.top[c]?\y):mZ Ls (j+1) (c+1)=mZ Ls (j+1) c++if pI (x,y)=true then [GW j c] else []:=by
 simp only[mZ,d,b];rw[zqD (zvm hx a),bX];split<;>rfl
def Tz(L:Lay):List (aa×D):=[("channel",L.c.obj),("bent",.bl L.ar),("pieces",dY (bG L.c L.ar L.l)),("above",ni L.ts),("tracks",.lst (L.tr.map .int)),("count",.int L.n)]
def Pn(c:ba):List (aa×D):=[("top",dP c.top),("bottom",dP c.aA),("left",dS c.left),("right",dS c.right),("wide",dW c.wide),("bends",dB c.c6),("keeps",dK c.keeps)]
theorem Uv(L:Lay):L.d=.obj "Layout" (Tz L):=rfl
theorem zyT(c:ba):c.obj=.obj "Channel" (Pn c):=rfl
theorem zkC(L):DI ("channel":aa) (Tz L)=some L.c.obj:=rfl
theorem zkT(c):DI ("top":aa) (Pn c)=some (.lst (c.top.map dO)):=rfl
theorem zkO(c):DI ("bottom":aa) (Pn c)=some (.lst (c.aA.map dO)):=rfl
theorem yC(n)(gss:List (List EK)):bN (n+3) (.lst (gss.map eA)):=VR eA gss λg _=>VR aN g λe _=>by
 intro d hd;let⟨k,z,rfl⟩:=aK.mp hd;cases k with
 | inl i=>show bN n (.int i);rw[VW];trivial
 | inr x=>show bN n (.str x);rw[FT];trivial
def jB.shp(P:jB Ls W)(a:g∈kR ((eQ 0 (dU Ls)).foldl eZ (cP 0 (dj Ls))))(he:e∈g):∃(i:Int)(r:EK),e=.inl i::r:=by
 let⟨c,z,b,z⟩:=P.Pd;have:=(ip.all c b).1.sh g ((uu _).mem_iff.mp a) e he;match e,this with
 | .inl i::r,_=>show⟨i,r,rfl⟩
def Uu{α:Type}(l:List α)(h:Q (.fz (.bl true))):AV [.lst (l.map λ_=>D.bl true)] Q:=by
 unfold AV;dsimp only[fK,eI];have e:EZ (l.map λ_=>D.bl true)=some (l.map λ_=>true):=by rw[<-XO,bz];rfl
 rw[e];dsimp only[g7];rw[show(l.map λ_=>true).all id=true by simp];show h
def jB.gln(P:jB Ls W):(kR ((eQ 0 (dU Ls)).foldl eZ (cP 0 (dj Ls)))).flatten.length<=20000/\(kR ((eQ 0 (dU Ls)).foldl eZ (cP 0 (dj Ls)))).length<=20000:=by
 let⟨d,i,c,z⟩:=P.Pd;let⟨b,a⟩:=ip.all d c;have h:=(uu ((eQ 0 (dU Ls)).foldl eZ (cP 0 (dj Ls)))).flatten.length_eq;have g:=(uu ((eQ 0 (dU Ls)).foldl eZ (cP 0 (dj Ls)))).length_eq;have f:=b.len;have e:=a.length_eq;lia
end Wc
open PySem L2 PyProof.Rows Wc
local macro_rules | `(tactic| lk)=>`(tactic| (repeat(first | walk_at"b" | dsimp only[$[$(qn "uj r0 Nh yj vY OV.val Uv zyT zkC zkT zkO"):ident],*] | simp only[$[$(qn "lR pz zwV Vf zwW gw exists_eq_left'"):ident],*])))
namespace Wc
open PySem L2 PyProof.Rows
def pq(a:Int)(m:Nat):Nat:=if m<4 then(if a/64%8=0 then 14 else 8) else 5
def zvo(c)(m:Nat):∃d,bO [D.int 8,D.int 14] (if c/64%8=0 then 1 else 0)\d/\bO [D.int 5,d] (if (m:Int)<4 then 1 else 0)\.int (pq c m):=by
 unfold pq;by_cases a:c/64%8=0<;>by_cases b:m<4
 .exact⟨.int 14,by rw[if_pos a];rfl,by rw[if_pos 'a',if_pos b,if_pos a];rfl⟩
 .exact⟨.int 14,by rw[if_pos a];rfl,by rw[if_neg 'a',if_neg b];rfl⟩
 .exact⟨.int 8,by rw[if_neg a];rfl,by rw[if_pos 'a',if_pos b,if_neg a];rfl⟩
 show⟨.int 8,by rw[if_neg a];rfl,by rw[if_neg ⋯,if_neg b];rfl⟩
def A3:TX:=(eT (ku 1 (bg (oI (λ_ j=>0<j) λi j=>.int (i%j)) (bg (oI xp λi j=>.int (i*j)) (bg (oI (λ_ j=>0<j) λi j=>.int (i%j)) (fN EJ (aM (zC (aF 0) zb (yp (dC (.int 1)))) bJ)) (bg (oI vJ λi j=>.int (i ^ j.toNat)) (dC (.int 10)) (dC (.int 30)))) (dC (.int 40692))) (dC (.int 2147483399))))
 (eT (ue 2 (mK bJ))
 (eT (AW (kh (aM (dC (.int 3)) (aM (bg qw (dC (.int 1)) (bg (oI (λ_ j=>0<j) λi j=>.int (i%j)) (f7 2 lW (aM (fN EJ (aM (zC (aF 0) zb (yp (dC (.int 1)))) bJ)) (aM (dC (.int 17)) bJ))) (dC (.int 3)))) bJ))) (ph 2 (gq (eH 3) (gq (eH 4) lM))))
 (eT (kP (fB (bg oEq (bg (oI (λ_ j=>0<j) λi j=>.int (i%j)) (f7 2 lW (aM (aF 1) (aM (dC (.int 21)) bJ))) (dC (.int 8))) (dC (.int 1)))) (AW (kh (aM (dC (.int 8)) (aM (bg qw (dC (.int 4)) (bg (oI (λ_ j=>0<j) λi j=>.int (i%j)) (f7 2 lW (aM (aF 1) (aM (dC (.int 22)) bJ))) (dC (.int 5)))) bJ))) (ph 2 (gq (eH 3) (gq (eH 4) lM)))) mJ)
 (eT (kM (Kl (aM (zC (f7 2 BV (aM (aF 0) (aM (aF 3) bJ))) zb (yp (aF 4))) bJ)) (ph 2 (gq (eH 5) (gq (eH 6) lM))) (eT (ku 7 (bg fF (mK (aM (dC (.int 5)) (aM (bg fF (mK (aM (dC (.int 8)) (aM (dC (.int 14)) bJ))) (fN EM (aM (bg oEq (bg (oI (λ_ j=>0<j) λi j=>.int (i%j)) (bg (oI A1 λi j=>.int (i/j)) (aF 1) (dC (.int 64))) (dC (.int 8))) (dC (.int 0))) bJ))) bJ))) (fN EM (aM (bg (jL λi j=>.bl (decide (i<j))) (aF 4) (dC (.int 4))) bJ))))
 (rN 2 (f7 2 BJ (aM (f7 2 BS (aM (aF 6) (aM (aF 7) bJ))) (aM (bg qw (bg (oI A1 λi j=>.int (i/j)) (aF 1) (dC (.int 3))) (bg (oI xp λi j=>.int (i*j)) (dC (.int 31)) (aF 5))) bJ))))))
 (eT (kP (rO (fB (bg (jL λi j=>.bl (decide (j<i))) (E8 2) (dC (.int 1)))) (fB (bg oEq (bg (oI (λ_ j=>0<j) λi j=>.int (i%j)) (f7 2 lW (aM (aF 1) (aM (dC (.int 18)) bJ))) (dC (.int 4))) (dC (.int 1))))) (uj 2 (rK (dC (.int 1))) (pj 2 (dC (.int 0)))) mJ)
 (eT (ku 8 (mK bJ))
 (eT (ue 9 (mK bJ))
 (eT (kM (Ba (aM (E8 2) bJ)) (eH 5) (eT (ku 8 (bg qw (aF 8) (jH (lL (f7 1 Bv (aM (pj 2 (aF 5)) bJ))) [none,some 5] (eH 0) nQ (jH (lL (aF 0)) [none,some 1] (eH 0) nQ (bg uh (kh (aM (aF 1) bJ)) (aF 0))))))
 (kM (Ba (aM (fN yb (aM (iy "top" (iy "channel" (pj 2 (aF 5)))) bJ)) bJ)) (eH 10) (kP (rO (fB (bg (jL λi j=>.bl (decide (j<i))) (aF 5) (dC (.int 0)))) (fB (bg (rP true) (bg fF (iy "top" (iy "channel" (pj 2 (aF 5)))) (aF 10)) (dC .non)))) (kP (fB (bg oEq (bg fF (iy "bottom" (iy "channel" (pj 2 (bg (jL λi j=>.int (i-j)) (aF 5) (dC (.int 1)))))) (aF 10)) (bg fF (iy "top" (iy "channel" (pj 2 (aF 5)))) (aF 10)))) (rN 9 (kh (aM (kh (aM (bg (jL λi j=>.int (i-j)) (aF 5) (dC (.int 1))) (aM (dC (.str "bottom")) (aM (aF 10) bJ)))) (aM (kh (aM (aF 5) (aM (dC (.str "top")) (aM (aF 10) bJ)))) bJ)))) mJ) mJ))))
 (vE 9 (eT (ku 11 (f7 2 BL (aM (aF 8) (aM (aF 9) bJ))))
 (vE 2 (eT (ue 12 (f7 1 y3 (aM (aF 2) bJ)))
 (eT (kP (Ki 12 (Dn (AY (fB (x9 "list" (aF 12)))) (Dn (AY (fB (fN AV (aM (jH (lL (aF 12)) [none] (eH 0) nQ (x9 "list" (aF 0))) bJ)))) (fB (bg sN (aF 12) (aF 11)))))) (vK (dC (.bl false))) mJ)
 (eT (Nh 12 13 (AY (fB (fN AV (aM (jH (lL (aF 13)) [none] (eH 0) nQ (J8 (x9 "tuple" (aF 0)) (J9 (x9 "bool" (bg fF (aF 0) (dC (.int 0))))))) bJ)))))
 (vK (bg oEq (f7 1 y3 (aM (aF 2) bJ)) (aF 11))))))))))))))))))
def zsD:cU 1 (Kk 63) A3 14:=by
 intro ds Qr hl h;symm;let⟨ns,rfl,hn,q⟩:=h;show A3 _ [.fz (dI ns),.un,.un,.un,.un,.un,.un,.un,.un,.un,.un,.un,.un,.un];unfold A3 dI;have big:=dn;lk;generalize (gU ns none (some 1)).sum%1000000000000000000000000000000*40692%2147483399=A;walk;show⟨by show b9 _,?_⟩;walk;show⟨_,_,rfl,by cbv,by decide,?_⟩;generalize mI _ _=z;lk;walk;show⟨by trivial,_,_,rfl,by cbv,by decide,?_⟩;generalize mI _ _=y;lk;generalize Q:i7 (eT (kM _ _ _) _) _=Kc;have fin:∀sh m:Nat,1<=m->m<=sh->sh<=8->Kc [.fz (.lst (ns.map .int)),.fz (.int A),.ow [],.fz (.int sh),.fz (.int m),.un,.un,.un,.un,.un,.un,.un,.un,.un]:=by
  rw[<-Q];clear Q;intro sh m m1 m2 s8;have Z5:1<=pq A m/\pq A m<=14:=by unfold pq;split<;>(try split)<;>ext
  have jx:=(zp0 (k5 ns)).len;walk;generalize hT:i7 (eT (kP _ _ _) _) _=Kt;show LO (λes=>es=kO (((bA m).map λk=>rX ns sh k).map dI)) (λH h=>?_) ?_
  .lk;show⟨ns,sh,rfl,hn,by show bK ‹_› ‹_›,⋯,?_⟩;lk;rw[yG _ 'g',rq,List.take_range,mE m2];show h _ (by rw[bz];rfl)
  rintro _ rfl;let J1:TJ:=λi ρ=>∃(Ls:List Lay)(a b c:Sl),Ls.length=i/\(∀L∈Ls,L.ok/\L.c.top.length=wF (k5 ns) (pq A m))/\ρ=[.fz (.lst (ns.map .int)),.fz (.int A),.ow (Ls.map Lay.d),.fz (.int sh),.fz (.int m),a,b,c,.un,.un,.un,.un,.un,.un]
  show Ye ((bA m).map λk=>rX ns sh k) dI J1 ⟨[],.un,.un,.un,rfl,∅,rfl⟩ ?_ ?_
  .rintro i p ρ Z ⟨Ls,a,b,c,B,t,rfl⟩;rw[b8] at Z;let⟨k,C,rfl⟩:=jZ.mp Z;have N:=(c7.mp C).1;rw[qg] at N;have pl:=WK ns sh k;have hd:=zvl ns sh k;generalize rX ns sh k=ps at pl hd ⊢;lk;let⟨d8,h8,M⟩:=zvo A m;show⟨by trivial,d8,h8,by trivial,_,M,?_⟩;walk;show⟨ps,pq A m,rfl,by lia,Z5.1,by lia,λc0 K X=>?_⟩;rw[hd] at K X;lk;show⟨mM (k5 ns),pq A m,c0,_,rfl,by cbv,by lia,K,λc ar l ts tr n L hw=>?_⟩;show⟨by simp;lia,Ls++[⟨c,ar,l,ts,tr,n⟩],_,_,_,by simp[B],λL' O=>?_,by rw[bX];rfl⟩;symm;rcases bx.mp O with z | z
   .exact t L' z
   cases cG.mp z;show⟨L,hw.trans X⟩
  rintro ρ ⟨Ls,a,b,c,B,t,rfl⟩;rw[aE,qg] at B;rw[<-hT];clear hT;walk;generalize hU:i7 (eT (ku 8 _) _) _=Ku;have fin2:∀(Ls:List Lay)(s0 s1 s3 s4 a b c:Sl),Ls.length=m->(∀L∈Ls,L.ok/\L.c.top.length=wF (k5 ns) (pq A m))->Ku [s0,s1,.ow (Ls.map Lay.d),s3,s4,a,b,c,.un,.un,.un,.un,.un,.un]:=by
   clear B t Ls a b c;rw[<-hU];clear hU;intro Ls s0 s1 s3 s4 a b c B t;have P:jB Ls (wF (k5 ns) (pq A m)):=by
    have bD:Ls≠[]:=λz=>by rw[z] at B;simp at B;lia
    show⟨bD,by lia,λL E=>(t L E).1,λL E=>(t L E).2,?_⟩;have:=zyS (k5 ns) Z5.1;lia
   generalize wF (k5 ns) (pq A m)=W at P;clear t;walk;show⟨by show b9 _,?_⟩;walk;show⟨by show b9 _,?_⟩;walk;generalize hV:i7 (vE 9 _) _=Kv;let J2:TJ:=λk ρ=>∃a b c d:Sl,ρ=[s0,s1,.ow (Ls.map Lay.d),s3,s4,a,b,c,.fz (.lst ((cP 0 (dj (Ls.take k))).map eA)),.ow ((eQ 0 (dU (Ls.take k))).map fD),d,.un,.un,.un]
   show qK Ls.length (λH h=>?_) J2 ⟨_,_,_,_,rfl⟩ ?_ ?_
   .lk;rw[aE];show⟨by show rB _,by lia,by trivial⟩
   .rintro k ρ C ⟨a,b,c,d,rfl⟩;have E:Ls[k]?=some Ls[k]:=cA C;have gl:=P.grl k;have T:=P.grl (k+1);have pl1:=P.Zh (k+1);have o:=P.ok _ (gP C);have Hv:=Kh P (iq Ls[k].c Ls[k].ar Ls[k].l Ls[k].tr) (aK.mpr ⟨_,gP C,rfl⟩);have U:=Kg P (iq Ls[k].c Ls[k].ar Ls[k].l Ls[k].tr) (aK.mpr ⟨_,gP C,rfl⟩);have gs:=zqC E;lk;generalize hW:i7 (kM _ _ _) _=Kw;show gr (iq Ls[k].c Ls[k].ar Ls[k].l Ls[k].tr) (λg=>.lst (g.map cX)) (λg=>eA (g.map (e3 k))) (λH h=>?_) 'a' (λg F K1 kk=>?_) ?_
    .lk;show⟨Ls[k],fE C,?_⟩;show⟨_,_,_,_,_,_,rfl,o,?_⟩;lk;rw[bz];show h
    .lk;show gr g cX (λe=>aN (e3 k e)) (λH h=>?_) (by have:=Hv g F;lia) (λe he K2 k2=>?_) ?_
     .lk;show h
     .rw[show cX e=D.tup [.str e.1,.int e.2] from rfl];lk;show⟨by show gh _,nofun,nofun,by simp![cZ,rj];trivial,k2⟩
     lk;unfold eA at kk;rw[bz] at kk;show kk
    lk;have V:(cP 0 (dj (Ls.take k))).map eA++(iq Ls[k].c Ls[k].ar Ls[k].l Ls[k].tr).map (λg=>eA (g.map (e3 k)))=(cP 0 (dj (Ls.take (k+1)))).map eA:=by
     rw[gs,bX,bz];rfl
    rw[V,<-bP,V,aE];show⟨by lia,?_⟩;rw[<-hW];clear hW V gs Hv U gl T;have ia:=zvn E;have tw:=P.Cf _ (gP C);have w16:=P.w;walk;let J3:TJ:=λs ρ=>∃d:Sl,ρ=[s0,s1,.ow (Ls.map Lay.d),s3,s4,.fz (.int k),b,c,.fz (.lst ((cP 0 (dj (Ls.take (k+1)))).map eA)),.ow ((eQ 0 (dU (Ls.take k))++mZ Ls k s).map fD),d,.un,.un,.un]
    show qK Ls[k].c.top.length (λH h=>?_) J3 ⟨_,by rw[zsB,eS]⟩ ?_ ?_
    .lk;show⟨Ls[k],fE C,?_⟩;lk;rw[aE];show⟨by show rB _,by lia,by trivial⟩
    .rintro s ρ J ⟨d,rfl⟩;have a0:bO (Ls.map Lay.d) (k:Int)=some Ls[k].d:=by rw[nV,fE C];rfl
     have t1:bO (Ls[k].c.top.map dO) (s:Int)\dO Ls[k].c.top[s]:=by rw[nV,fE J];rfl
     have tp:Is (bg fF (iy "top" (iy "channel" (pj 2 (aF 5)))) (aF 10)) [s0,s1,.ow (Ls.map Lay.d),s3,s4,.fz (.int k),b,c,.fz (.lst ((cP 0 (dj (Ls.take (k+1)))).map eA)),.ow ((eQ 0 (dU (Ls.take k))++mZ Ls k s).map fD),.fz (.int s),.un,.un,.un] (dO Ls[k].c.top[s]):=EU (Fj (Fj (UT rfl (nT rfl) a0) rfl) rfl) (nT rfl) t1;cases k with
     | zero=>show xX (Fl (yq (vP (nT rfl) vH)) (A5 (VQ tp))) (λz=>absurd z.1 (by decide)) λ_=>⟨_,rfl⟩
     | succ j=>
      have Y:Ls[j]?=some Ls[j]:=cA (by show fc ‹_›);have wj:=P.Cf _ (gP (show j<Ls.length by show fc ‹_›));symm;obtain⟨_,_,_,_,gj⟩:=(P.ok _ (gP (show j<Ls.length by show fc ‹_›))).good;have hb:=gj.bl;have I:s<Ls[j].c.aA.length:=by rw[hb,wj,<-tw];show J
      have st:=zsC Y E (cA I) (cA J);have il:(mZ Ls (j+1) s).length<=16:=by
       simp![mZ,Y,E];rw[aE];show bK (LG _) ?_;rw[cN];lia
      have pl0:=P.Zh (j+1);have e1:(((j+1:Nat):Int)-1)=(j:Int):=by simp
      have a2:bO (Ls.map Lay.d) (((j+1:Nat):Int)-1)=some Ls[j].d:=by rw[e1,nV,fE (by show fc ‹_›)];rfl
      have b1:bO (Ls[j].c.aA.map dO) (s:Int)\dO Ls[j].c.aA[s]:=by rw[nV,fE I];rfl
      have bt:=λ{ρ:Ev} (h2:gt ρ 2=.ow (Ls.map Lay.d)) (h5:gt ρ 5=.fz (.int (j+1:Nat))) (S:gt ρ 10=.fz (.int s))=>(EU (Fj (Fj (UT (k:=2) (ρ:=ρ) h2 (vP (g:=λi j=>.int (i-j)) (nT h5) vH) a2) (f:="channel") rfl) (f:="bottom") rfl) (nT S) b1)
      generalize Ls[j].c.aA[s]=u at st bt;generalize Ls[j+1].c.top[s]=v at st tp;have no:pI (u,v)=false->∃d:Sl,[s0,s1,.ow (Ls.map Lay.d),s3,s4,.fz (.int (j+1:Nat)),b,c,.fz (.lst ((cP 0 (dj (Ls.take (j+1+1)))).map eA)),.ow ((eQ 0 (dU (Ls.take (j+1)))++mZ Ls (j+1) s).map fD),.fz (.int s),.un,.un,.un]=[s0,s1,.ow (Ls.map Lay.d),s3,s4,.fz (.int (j+1:Nat)),b,c,.fz (.lst ((cP 0 (dj (Ls.take (j+1+1)))).map eA)),.ow ((eQ 0 (dU (Ls.take (j+1)))++mZ Ls (j+1) (s+1)).map fD),d,.un,.un,.un]:=λz=>by
       rw[st,z,if_neg jk,eS];show⟨_,rfl⟩
      show xX (Fl (yq (vP (nT rfl) vH)) (A5 (VQ tp))) (λz=>xX (A5 (zyD (bt rfl rfl rfl) tp (by rw[pz];trivial) (by rw[pz];trivial))) (λy=>?_) λn=>no ?_) λn=>no ?_
      .rw[lR] at y;have y:=nJ y;subst y;have w:pI (u,u)=true:=by cases u<;>simp_all[pI,qA,dO]
       lk;show⟨by trivial,by trivial,by trivial,by rw[aE,bP];lia,.fz (.int s),?_⟩;rw[st,w,if_pos rfl,<-eF,bX (l₂:=[GW j s]),e1];rfl
      .rw[lR,iG] at n;cases u<;>simp_all[pI]
      cases v with
      | none=>cases u<;>simp[pI]
      | some w=>show absurd ⟨by lia,by rfl⟩ n
    rintro ρ ⟨d,rfl⟩;rw[ia];show⟨_,_,_,_,rfl⟩
   rintro ρ ⟨a,b,c,d,rfl⟩;rw[<-hV,gk];clear hV;let⟨d1,d2,d3,d4⟩:=P.Pd;walk;show⟨false,[true,false],_,_,rfl,d1,d2,d3,?_⟩;walk;show⟨Ls,W,rfl,P,λgss hG=>?_⟩;have e:=d4 gss hG;have sp:∀g∈gss,∀e∈g,∃(i:Int)(r:EK),e=.inl i::r:=λg F e' he=>P.shp (by rw[<-e];show F) he
   let⟨fl,K⟩:=P.gln;rw[<-e] at fl K ⊢;have eg:(gss.map λg=>g.map aN).map D.lst=gss.map eA:=by rw[bz];rfl
   clear hG;walk;rw[eg];show⟨rfl,?_⟩;show gr gss eA (λ_=>.bl true) (λH h=>?_) 'a' (λg F K1 kk=>?_) (Uu gss ?_)
   .lk;show h
   .unfold eA;lk;show⟨rfl,kk⟩
   dsimp only;rw[Av,if_neg jk];show⟨yC 6 _,yC 6 _,?_⟩;simp![Ga 9 _ (yC 6 gss),Av,fZ,eC];walk;show⟨by decide,by show bB _,λds m9=>?_,?_⟩
   .symm;let⟨g,F,rfl⟩:=aK.mp m9;lk;show gr g aN (λ_=>.bl true) (λH h=>?_) (by have:=(S8 F).length_le;lia) (λe' he K1 kk=>?_) (Uu g ?_)
    .lk;show h
    .let⟨i,r,rfl⟩:=sp g F e' he;rw[show aN (.inl i::r)=D.tup (.int i::r.map i6) from rfl];lk;show⟨rfl,.int i,?_,rfl,?_⟩
     .have:=fE (l:=D.int i::r.map i6) (j:=0) (by show gh _);show this
     rw[Vf];show kk
    rfl
   walk;show⟨Ls,W,rfl,P,λf9 R=>?_⟩;rw[d4 f9 R,<-e];lk;rw[eg];show⟨yC 6 _,yC 6 _,?_⟩;rw[Ga 9 _ (yC 6 _)];show q
  split
  .rename_i J;rw[aE] at J;show⟨_,_,rfl,by cbv,by decide,?_⟩;generalize mI _ _=z;lk;split
   .have h0:0<Ls.length:=by lia
    show⟨Ls[0],fE (j:=0) h0,Ls.length-1,?_,?_⟩
    .rw[aE];unfold kX;rw[if_neg (by decide),if_pos 'a'];congr 1
     lia
    rw[<-Uv,<-vj];show fin2 _ _ _ _ _ _ _ _ (by rw[mF];show B) λL E=>?_
    rcases List.mem_or_eq_of_mem_set E with z | z
    .exact t L z
    rw[z];show t _ (gP h0)
   show fin2 _ _ _ _ _ _ _ _ B t
  show fin2 _ _ _ _ _ _ _ _ B t
 clear Q;split
 .refine⟨_,_,rfl,by cbv,by decide,?_⟩;generalize mI _ _=x;lk;have:=fin 8 (4+x%5).toNat 'a' 'a' 'g';rw[Ef 'a'] at this;show⟨by trivial,this⟩
 have:=fin 3 (1+z%3).toNat 'a' 'a' 'g';rw[Ef 'a'] at this;show this
open PySem.Spec
local macro_rules | `(tactic| walk_at"sc")=>`(tactic| show⟨rfl,rfl,rfl,by decide +kernel,rfl,by decide +kernel,by decide +kernel⟩)
local macro_rules | `(tactic| walk_at"bn")=>`(tactic| (intro _ _ _ _ _ _ us hl;first | (obtain⟨_,rfl⟩:=JY hl;show rfl) | (obtain⟨_,_,rfl⟩:=JX hl;show rfl) | (obtain⟨_,_,_,rfl⟩:=TK hl;show rfl) | (obtain⟨_,_,_,_,rfl⟩:=TH hl;show rfl) | (obtain⟨_,_,_,_,_,rfl⟩:=TF hl;show rfl) | (obtain⟨_,_,_,_,_,_,_,rfl⟩:=TC hl;show rfl)))
section
variable{P:aI}{w:aH}{K:ao}{mg:aa->Option af}{base:aD}
abbrev GL:cq:=Wa (top 21) 0
def znT:oM ["self","top","bottom","left","right","wide","bends","keeps"] ("self"::["top","bottom","left","right","wide","bends","keeps"]) (dQ GL):=by walk_at"sc"
def zjx(A:xr K mg "Channel" "Channel.__init__" GL ["top","bottom","left","right","wide","bends","keeps"])(T:Txt K mg) :xm P w K mg base 1 "Channel" 7 BE:=by
 let⟨C,f,fd,a,M,F,hm,na⟩:=A.ex;show⟨C,f,fd,_,M,X7 (T:=Gn) F znT a (λj A outer s H E b=>?_) (λds g _ h=>zks ds g _ (λfs e p c=>na.all _ (by rw[<-e];show ml c)) h),hm,F.binds λ_ _ _ _ _ _ us d=>by let⟨z,z,z,z,z,z,z,z,rfl⟩:=TB d;show rfl⟩;have i:=b.units;show(mP a.cls na.1 (lV qE T.b_list mq (ah (ae 1) aq))
  (mP a.cls na.2.1 (lV qE T.b_list mq (ah (ae 2) aq))
  (mP a.cls na.2.2.1 (lV qE T.b_list mq (ah (ae 3) aq))
  (mP a.cls na.2.2.2.1 (lV qE T.b_list mq (ah (ae 4) aq))
  (mP a.cls na.2.2.2.2.1 (lV qE T.b_list mq (ah (ae 5) aq))
  (mP a.cls na.2.2.2.2.2.1 (lV qE T.b_list mq (ah (ae 6) aq))
  (mP a.cls na.2.2.2.2.2.2.1 (lV qE T.b_list mq (ah (ae 7) aq))
  Wn)))))))
abbrev GK:cq:=Wa (top 25) 0
def zqF:oM ["self","channel","bent","pieces","above","tracks"] ("self"::["channel","bent","pieces","above","tracks"]) (dQ GK):=by walk_at"sc"
def zkJ(A:xr K mg "Layout" "Layout.__init__" GK ["channel","bent","pieces","above","tracks","count"])(T:Txt K mg)(i: ~~~1 "count_of" 2 yZ):xm P w K mg base 2 "Layout" 5 Bu:=by
 let⟨C,f,fd,a,M,F,hm,na⟩:=A.ex;show⟨C,f,fd,_,M,X7 (T:=FW) F zqF a (λk A outer s H E b=>?_) (λds g _ h=>zlz ds g _ (λfs e p c=>na.all _ (by rw[<-e];show ml c)) h),hm,F.binds λ_ _ _ _ _ _ us d=>by let⟨z,z,z,z,z,z,rfl⟩:=JW d;show rfl⟩;have j:=b.units;show(mP a.cls na.1 (ae 1)
  (mP a.cls na.2.1 (ae 2)
  (mP a.cls na.2.2.1 (lV qE T.b_list mq (ah (ae 3) aq))
  (mP a.cls na.2.2.2.1 (lV qE T.b_list mq (ah (ae 4) aq))
  (mP a.cls na.2.2.2.2.1 (lV qE T.b_list mq (ah (ae 5) aq))
  (mP a.cls na.2.2.2.2.2.1 (bU i b (ah (ae 3) (ah (ae 5) aq)))
  Wn))))))
abbrev wz:cq:=top 7
def NL:oM ["channel","bent","pieces","name"] ["channel","bent"] (dQ wz):=by walk_at"sc"
def Nj:di ["first","last","tracks"]:=by decide +kernel
def Zb:oM ["_law_script","_law_seed","_law_layouts","_law_share","_law_many_here","_law_k","_law_part","_law_most","_law_groups","_law_pairs","_law_c","_law_due_here","_law_found","_law_group"] ["_law_script"] (dQ (top 57)):=by walk_at"sc"
def zsE:di ["_law_group","_law_k"]:=by decide +kernel
def zsF:di ["_law_end","_law_k"]:=by decide +kernel
variable(T:Txt K mg)
variable(HZ:xm P w K mg base 1 "Channel" 7 BE)
variable(HY:xm P w K mg base 2 "Layout" 5 Bu)
include T in
theorem zhU(A:At K mg "_law_mix" (top 40)): ~~~1 "_law_mix" 2 lW:=c9 (spec:=zja) 0 A (Qe.2 T)
variable(dR: ~~~1 "_law_mix" 2 lW)
include T in
theorem zfO(A:At K mg "_law_parts" (top 55)): ~~~1 "_law_parts" 2 BV:=c9 (spec:=zhf) 0 A (Qb.2 T)
variable(HR: ~~~1 "_law_parts" 2 BV)
include T in
theorem zhh(A:At K mg "_law_many" (top 42)): ~~~1 "_law_many" 5 yY:=c9 (spec:=zhF) 0 A (Qg.2 T)
variable(nu: ~~~1 "_law_many" 5 yY)
include T nu in
theorem zfP(A:At K mg "_law_eased" (top 48)): ~~~2 "_law_eased" 1 BX:=c9 (spec:=zg7) 1 A (Qj.2 T nu)
variable(HV: ~~~2 "_law_eased" 1 BX)
include T in
theorem zjy(A:At K mg "nets_of" (top 2)): ~~~1 "nets_of" 1 uw:=c9 (spec:=zkz) 0 A (PF.2 T)
variable(pX: ~~~1 "nets_of" 1 uw)
include T in
theorem zjz(A:At K mg "ends_of" (top 1)): ~~~1 "ends_of" 2 yN:=c9 (spec:=zky) 0 A (PR.2 T)
variable(pY: ~~~1 "ends_of" 2 yN)
include T in
theorem zhi(A:At K mg "column_of" (top 4)): ~~~1 "column_of" 2 yX:=c9 (spec:=zhK) 0 A (PZ.2 T)
variable(pZ: ~~~1 "column_of" 2 yX)
include T pY pZ in
theorem zfQ(A:At K mg "stretch_of" (top 5)): ~~~2 "stretch_of" 2 BY:=c9 (spec:=zgX) 1 A (Pu.2 T pY pZ)
variable(zL: ~~~2 "stretch_of" 2 BY)
include T in
theorem zeL(A:At K mg "bend_columns" (top 9)): ~~~1 "bend_columns" 2 BQ:=c9 (spec:=zfk) 0 A (P4.2 T)
variable(zZ: ~~~1 "bend_columns" 2 BQ)
include T in
theorem zhV(A:At K mg "width_of" (top 3)): ~~~1 "width_of" 2 yV:=c9 (spec:=zjk) 0 A (Pt.2 T)
variable(zK: ~~~1 "width_of" 2 yV)
include T zL zZ zK in
theorem zfR(A:At K mg "net_pieces" (top 8)): ~~~3 "net_pieces" 3 wc:=c9 (spec:=zgZ) 2 A (PH.2 T zL zZ zK)
variable(zP: ~~~3 "net_pieces" 3 wc)
def zkK(T:Txt K mg)(pX: ~~~1 "nets_of" 1 uw)(zP: ~~~3 "net_pieces" 3 wc)(b A outer s H E)(a:eX 3 (A.deeper (envOfC "pieces_of" (dQ wz) *...* f b))) :
  jf (lN iR P w K mg base ["channel","bent","pieces","name"] "pieces_of" (dQ wz) f b A outer s H E).oj (iO wz) Gr:=by
 have d:=a.units
 show(aB (FN 2 rfl (.of (N':=["first","last","tracks"]) (m:=[none,none,none]) 'b') zk1 (cI (cD (ae 0))) (λs3 c ex=>(fh rfl (bI (aJ 0 Nj) (bI (aJ 1 Nj) (bI (aJ 2 Nj) eU))))) (λs3 c ex=>eY) (λs3 c ex=>(eW (ah fU (ah (ae 0) (ah (ae 1) (ah (ae 2) aq)))))) NL.nd)
   (aB (fe eE rfl (cI (bU pX a (ah (ae 0) aq))) (aJ 3 NL.nd)
    (aO (Fz 2 (bU zP a (ah (ae 0) (ah (ae 3) (ah (ae 1) aq)))))))
   (aO (um 2))))
def zhj(A:Ic K mg "pieces_of" wz [.bool false])(T:Txt K mg)(pX: ~~~1 "nets_of" 1 uw)(zP: ~~~3 "net_pieces" 3 wc):Dt P w K mg base 4 "pieces_of" 2 BC false:=by
 let⟨z,f,fd,z,z,F,hm,lk,hd⟩:=A.ex;show⟨f,fd,["channel","bent"],LF F NL (zkK T pX zP) zhN,hm,F.kp,F.aak 2 lk hd (λ_ _ _ _ _ _ us a=>by let⟨z,z,rfl⟩:=JX a;show⟨_,rfl,rfl⟩),F.aak 1 lk hd (λ_ _ _ _ _ _ us a=>by let⟨z,rfl⟩:=JY a;show⟨_,rfl,rfl⟩)⟩
variable(HL:Dt P w K mg base 4 "pieces_of" 2 BC false)
include T in
theorem zhk(A:At K mg "pieces_at" (top 11)): ~~~1 "pieces_at" 3 yW:=c9 (spec:=zhM) 0 A (PC.2 T)
variable(oO: ~~~1 "pieces_at" 3 yW)
include T oO in
theorem zfu(A:At K mg "pin_triples" (top 14)): ~~~2 "pin_triples" 2 BK:=c9 (spec:=zfL) 1 A (Pw.2 T oO)
variable(zM: ~~~2 "pin_triples" 2 BK)
include T in
theorem zhl(A:At K mg "common_of" (top 10)): ~~~1 "common_of" 2 B8:=c9 (spec:=zhL) 0 A (PY.2 T)
variable(zW: ~~~1 "common_of" 2 B8)
include T zW in
theorem zeM(A:At K mg "beneath_keep" (top 16)): ~~~2 "beneath_keep" 2 BP:=c9 (spec:=zfl) 1 A (P2.2 T zW)
variable(zY: ~~~2 "beneath_keep" 2 BP)
include T zY in
theorem zeN(A:At K mg "keep_triples" (top 15)): ~~~3 "keep_triples" 1 BO:=c9 (spec:=zfm) 2 A (PL.2 T zY)
variable(zR: ~~~3 "keep_triples" 1 BO)
include T zM zR in
theorem zhW(A:At K mg "above_of" (top 13)): ~~~4 "above_of" 2 Bw:=c9 (spec:=zjp) 3 A (P5.2 T zM zR)
variable(HN: ~~~4 "above_of" 2 Bw)
include T dR in
theorem zfS(A:At K mg "_law_turns" (top 49)): ~~~2 "_law_turns" 3 B0:=c9 (spec:=zgN) 1 A (P6.2 T dR)
variable(HP: ~~~2 "_law_turns" 3 B0)
include T in
theorem zhX(A:At K mg "count_of" (top 23)): ~~~1 "count_of" 2 yZ:=c9 (spec:=zjs) 0 A (PV.2 T)
variable(HM: ~~~1 "count_of" 2 yZ)
include T in
theorem zfT(A:At K mg "_law_clear" (top 50)): ~~~1 "_law_clear" 4 BZ:=c9 (spec:=zgO) 0 A (Ql.2 T)
variable(Ab: ~~~1 "_law_clear" 4 BZ)
include T dR Ab in
theorem zfv(A:At K mg "_law_tracks" (top 51)): ~~~2 "_law_tracks" 4 BM:=c9 (spec:=zfF) 1 A (P7.2 T dR Ab)
variable(HQ: ~~~2 "_law_tracks" 4 BM)
include T HZ HY HV HL HN HP HQ in
theorem zfw(A:At K mg "_law_layout" (top 52)): ~~~5 "_law_layout" 2 BJ:=c9 (N:=["_law_lists","_law_seed","_law_some","_law_row","_law_bent","_law_channel_here","_law_pieces","_law_above","_law_turns_here"]) (spec:=zfM) 4 A (λnd f c A outer s H E a=>have b:=a.units
 (aB (bM 2 (cQ (ah (cQ (ah (ae 0) (ah (qG (ef b) (aG cK (ae 1) av) av) aq))) (ah (cQ (ah (ae 0) (ah (qG (ef b) (aG cK (ae 1) av) av) aq))) (ah (cQ (ah (bU HV a (ah (ae 0) aq)) (ah (qG (ef b) (aG cK (ae 1) av) av) aq))) aq)))) nd)
   (aB (fe eE rfl (cI (ae 2)) (LC rfl (bI (aJ 3 nd) (bI (aJ 4 nd) eU)))
    (aB (bM 5 (WS HZ a (ah (aY (ae 3) av) (ah (aY (ae 3) av) (ah (aY (ae 3) av) (ah (aY (ae 3) av) (ah (aY (ae 3) av) (ah (aY (ae 3) av) (ah (aY (ae 3) av) aq)))))))) nd)
   (aB (bM 6 (bU HL.all a (ah (ae 5) (ah (ae 4) aq))) nd)
   (aB (bM 7 (bU HN a (ah (ae 5) (ah (ae 6) aq))) nd)
   (aB (bM 8 (bU HP a (ah (de jG T.b_len iY (ah (ae 6) aq)) (ah (ae 7) (ah (ae 1) aq)))) nd)
   (aO (df (bj mQ (ae 8) fU) (aO (cE (WS HY a (ah (ae 5) (ah (ae 4) (ah (ae 6) (ah (ae 7) (ah (bU HQ a (ah (ae 6) (ah (ae 7) (ah (ae 8) (ah (ae 1) aq))))) aq)))))))) c8)))))))
   (aO (cE fU)))))
variable(HU: ~~~5 "_law_layout" 2 BJ)
include T in
theorem zhm(A:At K mg "_law_stem" (top 38)): ~~~1 "_law_stem" 2 Cc:=c9 (spec:=zhD) 0 A (P9.2 T)
variable(z6: ~~~1 "_law_stem" 2 Cc)
include T z6 in
theorem zfU(A:At K mg "_law_named" (top 39)): ~~~2 "_law_named" 1 B5:=c9 (spec:=zgG) 1 A (Qd.2 T z6)
variable(z8: ~~~2 "_law_named" 1 B5)
include T dR in
theorem zhn(A:At K mg "_law_pins" (top 41)): ~~~2 "_law_pins" 4 Cb:=c9 (spec:=zhE) 1 A (Qa.2 T dR)
variable(z7: ~~~2 "_law_pins" 4 Cb)
include T in
theorem zho(A:At K mg "_law_open" (top 46)): ~~~1 "_law_open" 2 Ca:=c9 (spec:=zhH) 0 A (Qc.2 T)
variable(xo: ~~~1 "_law_open" 2 Ca)
include T in
theorem zeO(A:At K mg "_law_stretch" (top 43)): ~~~1 "_law_stretch" 5 BU:=c9 (spec:=ze8) 0 A (P8.2 T)
variable(z5: ~~~1 "_law_stretch" 5 BU)
include T dR z5 in
theorem zfV(A:At K mg "_law_bends" (top 44)): ~~~2 "_law_bends" 4 B4:=c9 (spec:=zgI) 1 A (Qn.2 T dR z5)
variable(Ac: ~~~2 "_law_bends" 4 B4)
include T dR in
theorem zfW(A:At K mg "_law_keeps" (top 45)): ~~~2 "_law_keeps" 3 B3:=c9 (spec:=zgJ) 1 A (Qh.2 T dR)
variable(z9: ~~~2 "_law_keeps" 3 B3)
include T dR nu z8 z7 xo Ac z9 in
theorem zeP(A:At K mg "_law_channel" (top 47)): ~~~3 "_law_channel" 2 BS:=c9 (spec:=zfe) 2 A (Qm.2 T z8 z7 dR xo nu Ac z9)
variable(HX: ~~~3 "_law_channel" 2 BS)
include T in
theorem zhp(A:At K mg "_law_ends" (top 53)): ~~~1 "_law_ends" 2 By:=c9 (spec:=zhT) 0 A (Qi.2 T)
variable(Aa: ~~~1 "_law_ends" 2 By)
include T Aa in
theorem zhY(A:At K mg "_law_due" (top 54)): ~~~2 "_law_due" 1 Bv:=c9 (spec:=zju) 1 A (Qk.2 T Aa)
variable(HW: ~~~2 "_law_due" 1 Bv)
include T in
theorem zfx(A:At K mg "_law_merged" (top 56)): ~~~1 "_law_merged" 2 BL:=c9 (spec:=zfI) 0 A (Qf.2 T)
variable(HS: ~~~1 "_law_merged" 2 BL)
include T in
theorem zeQ(A:At K mg "checked_pile" (top 33)): ~~~1 "checked_pile" 1 BN:=c9 (spec:=zfs) 0 A (P1.2 T)
variable(zX: ~~~1 "checked_pile" 1 BN)
include T in
theorem zfX(A:At K mg "pin_joints" (top 34)): ~~~1 "pin_joints" 2 BW:=c9 (spec:=zhb) 0 A (Px.2 T)
variable(zN: ~~~1 "pin_joints" 2 BW)
include T in
theorem zhq(A:At K mg "firsts_of" (top 28)): ~~~1 "firsts_of" 1 B9:=c9 (spec:=zhJ) 0 A (PQ.2 T)
variable(zU: ~~~1 "firsts_of" 1 B9)
include T zU in
theorem zjA(A:At K mg "grouped" (top 27)): ~~~2 "grouped" 2 BD:=c9 (spec:=zkv) 1 A (PN.2 T zU)
variable(zT: ~~~2 "grouped" 2 BD)
include T zT in
theorem zeR(A:At K mg "pile_grouped" (top 36)): ~~~3 "pile_grouped" 2 BR:=c9 (spec:=zfi) 2 A (Pz.2 T zT)
variable(zO: ~~~3 "pile_grouped" 2 BR)
include T pZ oO in
theorem zhr(A:At K mg "drawn_end" (top 31)): ~~~2 "drawn_end" 3 BB:=c9 (spec:=zhO) 1 A (PU.2 T oO pZ)
variable(zV: ~~~2 "drawn_end" 3 BB)
include T pY zV in
theorem zhs(A:At K mg "net_group" (top 30)): ~~~3 "net_group" 2 BA:=c9 (spec:=zhQ) 2 A (PJ.2 T pY zV)
variable(zQ: ~~~3 "net_group" 2 BA)
include T pX zQ in
theorem zht(A:At K mg "groups_of" (top 29)): ~~~4 "groups_of" 1 Bz:=c9 (spec:=zhS) 3 A (PM.2 T pX zQ)
variable(zS: ~~~4 "groups_of" 1 Bz)
include T zX zN zO zS in
theorem zfy(A:At K mg "pile_groups" (top 35)): ~~~5 "pile_groups" 1 y3:=c9 (spec:=zfN) 4 A (Py.2 T zX zN zO zS)
variable(Dw: ~~~5 "pile_groups" 1 y3)
include T dR HR HU HX HW HS Dw in
theorem zxy{f:ag}(d:af)(A:bh)(outer:List eO)(s:ai)(H:Hp)(E:XK)(a:eX 5 (A.deeper (envOfC "law" (dQ (top 57)) *...* f d))) :
  jf (lN iR P w K mg base ["_law_script","_law_seed","_law_layouts","_law_share","_law_many_here","_law_k","_law_part","_law_most","_law_groups","_law_pairs","_law_c","_law_due_here","_law_found","_law_group"] "law" (dQ (top 57)) f d A outer s H E).oj (iO (top 57)) A3:=
 have c:=a.units;have nd:=Zb.nd
 (aB (bM 1 (aG cK (aG qB (aG cK (de (A9 rfl) T.b_sum Ag (ah (ju (ae 0) kC (iK av)) aq)) (aG A6 av av)) av) av) nd)
   (aB (hJ 2 (cQ aq) nd)
   (aB (UW 3 4 rfl (ah av (ah (aG cj av (aG cK (bU dR a (ah (de (A9 rfl) T.b_sum Ag (ah (ju (ae 0) kC (iK av)) aq)) (ah av aq))) av)) aq)) (hN:=nd))
   (aB (df (bj (ef c) (aG cK (bU dR a (ah (ae 1) (ah av aq))) av) av) (aO (UW 3 4 rfl (ah av (ah (aG cj av (aG cK (bU dR a (ah (ae 1) (ah av aq))) av)) aq)) (hN:=nd))) c8)
   (aB (fe eE rfl (pD T.b_enumerate (ah (ju (bU HR a (ah (ae 0) (ah (ae 3) aq))) kC (iK (ae 4))) aq)) (fh rfl (bI (aJ 5 nd) (bI (aJ 6 nd) eU)))
    (aB (bM 7 (aY (cQ (ah av (ah (aY (cQ (ah av (ah av aq))) (lV Kj T.b_int Ie (ah (qG (ef c) (aG cK (aG gJ (ae 1) av) av) av) aq))) aq))) (lV Kj T.b_int Ie (ah (qG vL (ae 4) av) aq))) nd)
   (aO (iA 2 (bU HU a (ah (bU HX a (ah (ae 6) (ah (ae 7) aq))) (ah (aG cj (aG gJ (ae 1) av) (aG qB av (ae 5))) aq)))))))
   (aB (df (jI (bj uf (Bk 2 T.b_len) av) (nX (bj (ef c) (aG cK (bU dR a (ah (ae 1) (ah av aq))) av) av))).pb (aO (Xf 2 (vW av) (qF 2 av))) c8)
   (aB (bM 8 (cQ aq) nd)
   (aB (hJ 9 (cQ aq) nd)
   (aB (fe eE rfl (kz T.b_range (ah (Bk 2 T.b_len) aq)) (aJ 5 nd)
    (aB (bM 8 (aG cj (ae 8) (eu rfl (.of (N':=["_law_group","_law_k"]) (m:=[none,some 5]) 'b') cO (cI (bU HW a (ah (qF 2 (ae 5)) aq))) (λs3 b ex=>(aJ 0 zsE)) (λs3 b ex=>eY) (λs3 b ex=>(eu rfl (.of (N':=["_law_end","_law_k"]) (m:=[none,some 1]) 'b') cO (cI (ae 0)) (λs3 b ex=>(aJ 0 zsF)) (λs3 b ex=>eY) (λs3 b ex=>(aG Vk (eW (ah (ae 1) aq)) (ae 0))))))) nd)
   (aO (fe eE rfl (kz T.b_range (ah (de jG T.b_len iY (ah (cD (cD (qF 2 (ae 5)))) aq)) aq)) (aJ 10 nd)
    (aO (df (jI (bj uf (ae 5) av) (nX (bj mQ (aY (cD (cD (qF 2 (ae 5)))) (ae 10)) fU))).pb (aO (df (bj (ef c) (aY (cD (cD (qF 2 (aG KH (ae 5) av)))) (ae 10)) (aY (cD (cD (qF 2 (ae 5)))) (ae 10))) (aO (iA 9 (eW (ah (eW (ah (aG KH (ae 5) av) (ah gA (ah (ae 10) aq)))) (ah (eW (ah (ae 5) (ah gA (ah (ae 10) aq)))) aq))))) c8)) c8))))))
   (Lu 9 (aB (bM 11 (bU HS a (ah (ae 8) (ah (ae 9) aq))) nd)
   (Lu 2 (aB (hJ 12 (bU Dw a (ah (ae 2) aq)) nd)
   (aB (df (Wm 12 (Bd (Be (vX (Fu (ae 12) T.b_isinstance T.b_list mq))) (Bd (Be (vX (de (T6 rfl) T.b_all boot_all (ah (eu rfl (.of (N':=["_law_group"]) (m:=[none]) 'b') cO (cI (ae 12)) (λs3 b ex=>(aJ 0 pA)) (λs3 b ex=>eY) (λs3 b ex=>(Fu (ae 0) T.b_isinstance T.b_list mq))) aq)))) (FQ (bj (EN c) (ae 12) (ae 11))))).pb) (aO (cE Ff)) c8)
   (aB (zi5 12 13 rfl nd eE (Be (vX (de (T6 rfl) T.b_all boot_all (ah (eu rfl (.of (N':=["_law_end"]) (m:=[none]) 'b') cO (cI (ae 13)) (λs3 b ex=>(aJ 0 pA)) (λs3 b ex=>eY) (λs3 b ex=>(U1 (Fu (ae 0) T.b_isinstance T.b_tuple boot_tuple) (U2 (zwk (Fu (aY (ae 0) av) T.b_isinstance T.b_bool boot_bool)))))) aq)))) ⟨_,Ly (Fy Ur)⟩ ⟨_,Lz,λ_ _ _ h=>h⟩)
   (aO (cE (qG (ef c) (bU Dw a (ah (ae 2) aq)) (ae 11)))))))))))))))))))
def abt(T:Txt K mg)(Qz:xr K mg "Channel" "Channel.__init__" GL ["top","bottom","left","right","wide","bends","keeps"])(Qy:xr K mg "Layout" "Layout.__init__" GK ["channel","bent","pieces","above","tracks","count"])(AA:At K mg "_law_mix" (top 40)/\At K mg "_law_parts" (top 55)/\At K mg "_law_many" (top 42)/\At K mg "_law_eased" (top 48)/\At K mg "nets_of" (top 2)/\At K mg "ends_of" (top 1)/\At K mg "column_of" (top 4)/\At K mg "stretch_of" (top 5)/\At K mg "bend_columns" (top 9)/\At K mg "width_of" (top 3)/\At K mg "net_pieces" (top 8)/\At K mg "pieces_at" (top 11)/\At K mg "pin_triples" (top 14)/\At K mg "common_of" (top 10)/\At K mg "beneath_keep" (top 16)/\At K mg "keep_triples" (top 15)/\At K mg "above_of" (top 13)/\At K mg "_law_turns" (top 49)/\At K mg "count_of" (top 23)/\At K mg "_law_clear" (top 50)/\At K mg "_law_tracks" (top 51)/\At K mg "_law_layout" (top 52)/\At K mg "_law_stem" (top 38)/\At K mg "_law_named" (top 39)/\At K mg "_law_pins" (top 41)/\At K mg "_law_open" (top 46)/\At K mg "_law_stretch" (top 43)/\At K mg "_law_bends" (top 44)/\At K mg "_law_keeps" (top 45)/\At K mg "_law_channel" (top 47)/\At K mg "_law_ends" (top 53)/\At K mg "_law_due" (top 54)/\At K mg "_law_merged" (top 56)/\At K mg "checked_pile" (top 33)/\At K mg "pin_joints" (top 34)/\At K mg "firsts_of" (top 28)/\At K mg "grouped" (top 27)/\At K mg "pile_grouped" (top 36)/\At K mg "drawn_end" (top 31)/\At K mg "net_group" (top 30)/\At K mg "groups_of" (top 29)/\At K mg "pile_groups" (top 35)/\At K mg "law" (top 57)/\True)(Qx:Ic K mg "pieces_of" wz [.bool false])(sS:mg "law"=some (.ref fa)):∃fd:gR,(∀s u,BindsTo s fd ⟨[u],[]⟩ [("_law_script",u)])/\∀base:aD,kH P w K mg base iR 6 fa fd ["_law_script"] (xj K 1 (Kk 63)):=by
 let⟨Q,U,N,I,p,e,acB,y,acE,z,o,q,x,acA,acD,j,acF,Z,b,D,Y,M,W,R,V,S,X,B,L,C,J,F,O,acC,v,g,h,r,d,n,i,t,m,l⟩:=AA;show zwy (T:=λ_=>A3) m sS Zb (by walk_at"bn") (λbase f aQ A outer s H E hr=>?_) (λ_=>zsD);have HZ:xm P w K mg base 1 "Channel" 7 BE:=zjx Qz T;have dR: ~~~1 "_law_mix" 2 lW:=zhU T Q;have HR: ~~~1 "_law_parts" 2 BV:=zfO T U;have nu: ~~~1 "_law_many" 5 yY:=zhh T N;have HV: ~~~2 "_law_eased" 1 BX:=zfP T nu I;have pX: ~~~1 "nets_of" 1 uw:=zjy T p;have pY: ~~~1 "ends_of" 2 yN:=zjz T e;have pZ: ~~~1 "column_of" 2 yX:=zhi T acB;have zL: ~~~2 "stretch_of" 2 BY:=zfQ T pY pZ y;have zZ: ~~~1 "bend_columns" 2 BQ:=zeL T acE;have zK: ~~~1 "width_of" 2 yV:=zhV T z;have zP: ~~~3 "net_pieces" 3 wc:=zfR T zL zZ zK o;have HL:Dt P w K mg base 4 "pieces_of" 2 BC false:=zhj Qx T pX zP;have oO: ~~~1 "pieces_at" 3 yW:=zhk T q;have zM: ~~~2 "pin_triples" 2 BK:=zfu T oO x;have zW: ~~~1 "common_of" 2 B8:=zhl T acA;have zY: ~~~2 "beneath_keep" 2 BP:=zeM T zW acD;have zR: ~~~3 "keep_triples" 1 BO:=zeN T zY j;have HN: ~~~4 "above_of" 2 Bw:=zhW T zM zR acF;have HP: ~~~2 "_law_turns" 3 B0:=zfS T dR Z;have HM: ~~~1 "count_of" 2 yZ:=zhX T b;have HY:xm P w K mg base 2 "Layout" 5 Bu:=zkJ Qy T HM;have Ab: ~~~1 "_law_clear" 4 BZ:=zfT T D;have HQ: ~~~2 "_law_tracks" 4 BM:=zfv T dR Ab Y;have HU: ~~~5 "_law_layout" 2 BJ:=zfw T HZ HY HV HL HN HP HQ M;have z6: ~~~1 "_law_stem" 2 Cc:=zhm T W;have z8: ~~~2 "_law_named" 1 B5:=zfU T z6 R;have z7: ~~~2 "_law_pins" 4 Cb:=zhn T dR V;have xo: ~~~1 "_law_open" 2 Ca:=zho T S;have z5: ~~~1 "_law_stretch" 5 BU:=zeO T X;have Ac: ~~~2 "_law_bends" 4 B4:=zfV T dR z5 B;have z9: ~~~2 "_law_keeps" 3 B3:=zfW T dR L;have HX: ~~~3 "_law_channel" 2 BS:=zeP T dR nu z8 z7 xo Ac z9 C;have Aa: ~~~1 "_law_ends" 2 By:=zhp T J;have HW: ~~~2 "_law_due" 1 Bv:=zhY T Aa F;have HS: ~~~1 "_law_merged" 2 BL:=zfx T O;have zX: ~~~1 "checked_pile" 1 BN:=zeQ T acC;have zN: ~~~1 "pin_joints" 2 BW:=zfX T v;have zU: ~~~1 "firsts_of" 1 B9:=zhq T g;have zT: ~~~2 "grouped" 2 BD:=zjA T zU h;have zO: ~~~3 "pile_grouped" 2 BR:=zeR T zT r;have zV: ~~~2 "drawn_end" 3 BB:=zhr T pZ oO d;have zQ: ~~~3 "net_group" 2 BA:=zhs T pY zV n;have zS: ~~~4 "groups_of" 1 Bz:=zht T pX zQ i;have Dw: ~~~5 "pile_groups" 1 y3:=zfy T zX zN zO zS t;show zxy T dR HR HU HX HW HS Dw aQ A outer s H E hr
end
end Wc
open PySem PySem.W PyProof.Rows
namespace PySem.W.Fast
open PySem.Challenge renaming pw_wirechannel_k73_groups_of_piles->Zy
theorem te16193822081026604080:True:=trivial
def tw17601319645200263999:aI:=Zy
theorem te17601319645200263999:Zy=tw17601319645200263999:=rfl
def tw18344309411081616153:List cq:=(Zy.main.body.drop 0).take 16
theorem te18344309411081616153:(Zy.main.body.drop 0).take 16=tw18344309411081616153:=rfl
def tw803865279798219071:List cq:=(Zy.main.body.drop 16).take 3
theorem te803865279798219071:(Zy.main.body.drop 16).take 3=tw803865279798219071:=rfl
def tw16426283393915997305:List cq:=(Zy.main.body.drop 19).take 2
theorem te16426283393915997305:(Zy.main.body.drop 19).take 2=tw16426283393915997305:=rfl
def tw16525566154013884492:List cq:=(Zy.main.body.drop 21).take 4
theorem te16525566154013884492:(Zy.main.body.drop 21).take 4=tw16525566154013884492:=rfl
def tw6307195937279129822:List cq:=(Zy.main.body.drop 25).take 8
theorem te6307195937279129822:(Zy.main.body.drop 25).take 8=tw6307195937279129822:=rfl
def tw2969586082200060958:List cq:=(Zy.main.body.drop 33).take 14
theorem te2969586082200060958:(Zy.main.body.drop 33).take 14=tw2969586082200060958:=rfl
def tw9089232068781812153:List cq:=(Zy.main.body.drop 47).take 11
theorem te9089232068781812153:(Zy.main.body.drop 47).take 11=tw9089232068781812153:=rfl
def tw954758470055950478:=0
def tw10592644703053420484:=0
def tw15518216588080682772:=0
def tw313997448874799908:=0
def tw3611193754200539340:=0
def tw7226561004690966538:=0
def tw590318653173333498:=0
def tw5620842531924321913:=0
def tw4470739593602401481:=0
def tw8151996341251891348:=0
def tw14245380694859967034:=0
def tw2455979700733046729:=0
def tw11135396227525794269:=0
def tw14427986575312963572:=0
def tw17214807710847003663:=0
def tw3808475696292761622:=0
def tw11270433054070357930:=0
def tw12467852397703956006:=0
def tw1021123538539004697:=0
def tw17897717343915210149:=0
def tw809011318372350402:=0
def tw2672263986525463001:=0
def tw5331680263736885437:=0
def tw13659002556986857098:=0
def tw8058457949980057708:=0
def tw7305367451271531805:=0
def tw367760436976685116:=0
def tw16659062895764653090:=0
def tw7349081668535725575:=0
def tw12578751706864163252:=0
def tw9962139147549783894:=0
def tw10583801108766607880:=0
def tw4255096587312876589:=0
def tw144542604733236928:=0
def tw4939906595934761576:=0
def tw13984241221112741496:=0
def tw1757729615231718764:=0
def tw14775784358682522533:=0
def tw7679389498176578527:=0
def tw2997271610612622459:=0
def tw6176024991203050471:=0
def tw4659840817216649543:=0
def tw7398858371621807540:=0
def tw2754368897034584850:=0
def tw6575594916420672206:=0
def tw16457036614881481879:=0
def tw12778489961908807100:=0
def tw17546260741777659526:=0
def tw13716450031489209029:=0
def tw15855989261311828420:=0
def tw8228395127446472743:=0
def tw1337699830515693029:=0
def tw1079447253865738643:=0
def tw17514693320902912795:=0
def tw289724994702405087:=0
def tw130596474775332787:=0
def tw1666691710463424140:=0
def tw5669839260175292059:=0
def tw7180622098466019453:=0
def tw16180253038919185787:=0
def tw425342386919851657:=0
def tw16019011334773741167:=0
def tw11206849188501832140:=0
def tw3548894802274681895:=0
def tw7103262818082958367:=0
def tw17596407196383113894:=0
def tw14534717097930506255:=0
def tw16299019076635333422:=0
def tw3967509698735134437:=0
def tw4451441480800827254:=0
def tw15257540691652474319:=0
def tw8937984345946695792:=0
def tw11595252061407480509:=0
def tw16321319684921198926:=0
def tw6710668484518988342:=0
def tw8783598556255259199:=0
def tw12143495610724226683:=0
def tw16721841668379089836:=0
def tw4888369963179732831:=0
def tw12070532865595932292:=0
def tw2187931400461551256:=0
def tw2839393750389857073:=0
def tw1366300670914208840:=0
def tw15459850143456662469:=0
def tw10869795827845007596:=0
def tw1376827111393405450:=0
def tw13442849833043608172:=0
def tw15119243535108768345:=0
def tw11137114896603635325:=0
def tw13167337160840199442:=0
def tw10675589554057224560:=0
def tw9617028726775436045:=0
def tw1100536639579286214:=0
def tw9189152680725735797:=0
def tw7261211429641947302:=0
def tw1070182101911791117:=0
def tw17733854510315741614:=0
def tw14631749359793608375:=0
def tw8390305958035133454:=0
def tw5180794297541829:=0
def tw3140103698123414457:=0
def tw14109414696088037036:=0
def tw8315293678879447732:=0
def tw7962319224142930576:=0
def tw8243554984664991904:=0
def tw13434235845531240029:=0
def tw18060931484434503801:=0
def tw9620094508579795363:=0
def tw1837552395940463048:=0
def tw2455005474028858303:=0
def tw10889437685866727979:=0
def tw7061787999621417490:=0
def tw17502068001125851158:=0
def tw14772355320475581251:=0
def tw685697298380066852:=0
def tw6972551343982158909:=0
def tw18054555048123172467:=0
def tw10403541218109077856:=0
def tw10629764057595015764:=0
def tw1692799920968843090:=0
def tw9349717146713460403:=0
def tw9892612750718412547:=0
def tw1745208897328612510:=0
def tw13539601132645594599:=0
def tw10421495691546520061:=0
def tw16817172434920763953:=0
def tw10332661580302096539:=0
def tw17118884992965444132:=0
def tw12099329836985731172:=0
def tw11957897930416070539:=0
def tw14134835786084936672:=0
def tw9196809151363828184:=0
def tw1451634769651371641:=0
def tw5276789267408015053:=0
def tw12685521513087791484:=0
def tw12352062700098250268:=0
def tw10249439562565496703:=0
def tw6518514396682134224:=0
def tw14813122266774048410:=0
def tw3740084364332357831:=0
def tw3266938786492798895:=0
def tw4410195482804191748:=0
def tw17864968366578810841:=0
def tw10742282779316876123:=0
def tw9660796001210738661:=0
def tw3837233035478480473:=0
def tw15126634385347154579:=0
def tw9486016873141660139:=0
def tw5441432603541842553:=0
def tw14967893678492542741:=0
def tw17051892268676624368:=0
def tw14282503076957844744:=0
def tw17777268815623763142:=0
def tw13012724722259849492:=0
def tw5203915119972491868:=0
def tw10885954643335860268:=0
def tw6527064677042972210:=0
def tw4106632395456137025:=0
def tw3906043366993185972:=0
def tw9438821185652157800:=0
def tw10454379662708634643:=0
def tw4298393179840360392:=0
def tw588514617431101769:=0
def tw7848378750181992640:=0
def tw335051498702193233:=0
def tw11120636618046471506:=0
def tw14735676408469430511:=0
def tw17764270297159952350:=0
def tw16447136730409402582:=0
def tw10784269703783951767:=0
def tw15369524929267232027:=0
def tw13406303061158898926:=0
def tw7469825962340114876:=0
def tw444597458493671180:=0
def tw5722744387973530172:=0
def tw2785328675668006067:=0
def tw1104669168968987580:=0
def tw7604010513509211655:=0
def tw3371587765377557227:=0
def tw15214384006948687049:=0
def tw15756315794238930486:=0
def tw12788266756142254883:=0
def tw7475028658772987421:=0
def tw16067435419936360741:=0
def tw582015721505686562:=0
def tw12145866805267840524:=0
def tw16165504096474459527:=0
def tw14742714332464051699:=0
def tw2898798480870466315:=0
def tw2493549928444818582:=0
def tw7268958951991474080:=0
def tw18300345049602614919:=0
def tw17960973449737119387:=0
def tw2953605353240634932:=0
def tw333315463488104708:=0
def tw15232856656305000710:=0
def tw9684150868296702129:=0
def tw16054992841978210005:aI:={ Zy with main:={ Zy.main with body:=[1,2,3,4,5,8,9,10,11,13,14,15,16,18,19,21,23,25,27,28,29,30,31,33,34,35,36,38,39,40,41,42,43,44,45,46,47,48,49,50,51,52,53,54,55,56,57].map λi=>Zy.main.body.getD i (.Pass ⟨0,0,0,0⟩) } }
theorem te16054992841978210005:({ Zy with main:={ Zy.main with body:=[1,2,3,4,5,8,9,10,11,13,14,15,16,18,19,21,23,25,27,28,29,30,31,33,34,35,36,38,39,40,41,42,43,44,45,46,47,48,49,50,51,52,53,54,55,56,57].map λi=>Zy.main.body.getD i (.Pass ⟨0,0,0,0⟩) } }:aI)=tw16054992841978210005:=rfl
end PySem.W.Fast
local macro_rules | `(tactic| walk_at"A")=>`(tactic| ((try dsimp only[L2.tL]);refine' L2.acb KX G ?a ?l ?c ?k;(case a=>k_is);(case l=>k_is);(case c=>k_is);(case k=>k_is)))
theorem PySem.Challenge.cw_wirechannel_k73_groups_of_piles_holds : PySem.Challenge.rw_wirechannel_k73_groups_of_piles.Holds := by
 w_on;o_law;k_head;(case hw=>w_witness2)
 k_fill
 show L2.aa0 (l:=PySem.Challenge.rw_wirechannel_k73_groups_of_piles) (n:=63) (k:=6) (x:="_law_script") rfl (by decide) rfl ⟨rfl,by decide,by decide⟩ (λw h Y=>PySem.W.kIn_of Y) ?F
 case F=>
  intro w mg fa h KX G sS;have Qz:L2.xr (L2.tL KX) mg "Channel" "Channel.__init__" Wc.GL ["top","bottom","left","right","wide","bends","keeps"]:=by
   dsimp only[L2.tL];refine' L2.aam KX G ?aC ?a1 ?i1 ?l1 ?c1 ?k1 ?pg ?hd ?po ?sa ?mk ?kc ⟨?n0,?n1,?n2,?n3,?n4,?n5,?n6,trivial⟩
   (case aC=>k_is)
   (case a1=>k_is)
   (case i1=>k_is)
   (case l1=>k_is)
   (case c1=>k_is)
   (case k1=>k_is)
   (case pg=>k_is)
   (case hd=>k_is)
   (case po=>k_is)
   (case sa=>k_is)
   (case mk=>k_is)
   (case kc=>k_is)
   (case n0=>unfold L2.gf;k_is)
   (case n1=>unfold L2.gf;k_is)
   (case n2=>unfold L2.gf;k_is)
   (case n3=>unfold L2.gf;k_is)
   (case n4=>unfold L2.gf;k_is)
   (case n5=>unfold L2.gf;k_is)
   (case n6=>unfold L2.gf;k_is)
  have Qy:L2.xr (L2.tL KX) mg "Layout" "Layout.__init__" Wc.GK ["channel","bent","pieces","above","tracks","count"]:=by
   dsimp only[L2.tL];refine' L2.aam KX G ?aC ?a1 ?i1 ?l1 ?c1 ?k1 ?pg ?hd ?po ?sa ?mk ?kc ⟨?n0,?n1,?n2,?n3,?n4,?n5,trivial⟩
   (case aC=>k_is)
   (case a1=>k_is)
   (case i1=>k_is)
   (case l1=>k_is)
   (case c1=>k_is)
   (case k1=>k_is)
   (case pg=>k_is)
   (case hd=>k_is)
   (case po=>k_is)
   (case sa=>k_is)
   (case mk=>k_is)
   (case kc=>k_is)
   (case n0=>unfold L2.gf;k_is)
   (case n1=>unfold L2.gf;k_is)
   (case n2=>unfold L2.gf;k_is)
   (case n3=>unfold L2.gf;k_is)
   (case n4=>unfold L2.gf;k_is)
   (case n5=>unfold L2.gf;k_is)
  have Qx:L2.Ic (L2.tL KX) mg "pieces_of" Wc.wz [.bool false]:=by
   dsimp only[L2.tL];refine' L2.aca KX G ?a ?l ?c ?k ?t
   (case a=>k_is);(case l=>k_is);(case c=>k_is);(case k=>k_is);(case t=>k_is)
  have T:Wc.Txt (L2.tL KX) mg:=by
   dsimp only[L2.tL];refine' ⟨jD KX G ?b_all,jD KX G ?b_any,jD KX G ?b_bool,jD KX G ?b_dict,jD KX G ?b_enumerate,jD KX G ?b_int,jD KX G ?b_isinstance,jD KX G ?b_len,jD KX G ?b_list,jD KX G ?b_max,jD KX G ?b_min,jD KX G ?b_range,jD KX G ?b_set,jD KX G ?b_sorted,jD KX G ?b_sum,jD KX G ?b_tuple,jD KX G ?b_zip⟩
   (case b_all=>k_is)
   (case b_any=>k_is)
   (case b_bool=>k_is)
   (case b_dict=>k_is)
   (case b_enumerate=>k_is)
   (case b_int=>k_is)
   (case b_isinstance=>k_is)
   (case b_len=>k_is)
   (case b_list=>k_is)
   (case b_max=>k_is)
   (case b_min=>k_is)
   (case b_range=>k_is)
   (case b_set=>k_is)
   (case b_sorted=>k_is)
   (case b_sum=>k_is)
   (case b_tuple=>k_is)
   (case b_zip=>k_is)
  show Wc.abt T Qz Qy (by and_intros<;>first | trivial | walk_at"A") Qx sS
#print axioms PySem.Challenge.cw_wirechannel_k73_groups_of_piles_holds
end
