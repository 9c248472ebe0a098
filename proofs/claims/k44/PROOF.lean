import PyProof.Rows.All
import Wide.All
import OpenK.AllK
import Wide.FinOn
import Lean
import PyProof.EqAt
import PyProof.EqKinds
import PyProof.TupleCall
import PyProof.NeKinds
import PyProof.SliceStr2
import PyProof.ConsumeWalk
import KE.KDictSum
import PyProof.DictWalks
import PyProof.AttrMissSeq
import KE.KDictOf
import PyProof.WalksS
import PyProof.Walks
import PyProof.DictList
import PyProof.MeetsDict
import PyProof.FactsAll.dict_3
import PyProof.MinMaxWalk
import PyProof.WalkInts
import PyProof.Rows.CallKwBuiltin
import PyProof.MaxThree
import PyProof.Rows.SortRunsK
import PyProof.Rows.SortShellK
import KE.KSortTup
import PyProof.DictRoadsH
import PyProof.DictIter
import KE.KDictList
import PyProof.ZipIter
import PyProof.TupleIter
import PyProof.WalksMore
import PyProof.SumWalkG
import PyProof.DictValues
import PyProof.FactsAll.dict_4
import PySem.SetOps
import PyProof.Rows.Walk
import OpenK.KMore
import PyProof.ListRange
import PyProof.DictItems
import PyProof.CallStr
import KE.KIntText
import PyProof.StrCalls2
import PyProof.Rows.StrItems
import PyProof.FactsAll.NoneType
import KE.KTryOn
import PyProof.Draws
import PyProof.EnumMake
import PyProof.Rows.Range3
import KE.KRevIter
import PyProof.ListStr
import PyProof.NsDelKeeps
import PyProof.RulesAs
import KE.KIsAll
import PyProof.ExcArgsOwn
import KE.KFind
import PyProof.ExcInit
import KE.KTryMore
import PySem.Challenge.RW_wirechannel_k44_finer_pieces
set_option hygiene false
set_option compiler.extract_closed false
local macro_rules(kind:=Lean.Parser.Command.declaration) | s=>do
 let d:=s[1]
 unless s[0].getArgs.all (·.getNumArgs==0) do Lean.Macro.throwUnsupported
 if d.isOfKind `Lean.Parser.Command.definition && d[3][1].isOfKind `Lean.Parser.Term.byTactic then return s.setArg 1 (Lean.mkNode `Lean.Parser.Command.theorem #[Lean.mkAtom "theorem",d[1],Lean.mkNode `Lean.Parser.Command.declSig #[d[2][0],d[2][1][0]],d[3]])
 unless d.isOfKind `Lean.Parser.Command.definition || d.isOfKind `Lean.Parser.Command.abbrev do Lean.Macro.throwUnsupported
 return s.setArg 0 (s[0].setArg 4 (Lean.mkNullNode #[Lean.mkNode `Lean.Parser.Command.noncomputable #[Lean.mkAtom "noncomputable"]]))
noncomputable section
@[inline]def qn(s:String):=(s.splitOn " ").toArray.map λx=>Lean.mkIdent x.toName
local macro_rules|`(tactic|omega)=>`(tactic|first|decide|lia)
local macro_rules|`(tactic|ext)=>`(tactic|omega)
local macro_rules|`(tactic|show $t)=>`(tactic|refine $t)
set_option Elab.async false
set_option linter.all false
local macro_rules|`(tactic|let⟨$x:ident,*⟩:=$e)=>`(tactic|obtain⟨$[$x:ident],*⟩:=$e)
local macro_rules|`(tactic|simp![$a,*] $[$l:location]?)=>`(tactic|simp only[$a,*] $[$l:location]?)
local macro_rules|`($a\$b)=>`($a=some $b)
local macro_rules|`(⋯)=>`(by ext)
local macro_rules|`(tactic|cbv)=>`(tactic|simp_all)
local macro_rules|`(∅)=>`(by simp)
local macro_rules|`(*...*)=>`(s.heap.objs.size)
local macro_rules|`(~~~$d $x $n $t)=>`(Known P w K mg base $d $x $n $t)
local macro_rules|`(↥$c)=>`(wpAny (model prog w) A $c)
local macro_rules|`(⇑$c)=>`(wpAny (model X.prog X.w) X.A $c)
set_option maxRecDepth 100000
local macro_rules | `(tactic| room)=>`(tactic| solve_by_elim (maxDepth:=4) [iR,nQ,bX,gw,cg,nJ,bB,cA,Nat.lt_succ_of_le,lE,HF,Nat.not_lt_of_le,Nat.not_le_of_lt,Nat.le_of_lt_succ,Int.lt_of_lt_of_le,Int.lt_of_le_of_lt,GY,kL,Int.ne_of_lt])
local macro_rules | `(tactic| symm)=>`(tactic| show let G7:Prop:=_;(?_:G7))
open PySem.W renaming Frag->ar,mg_none_of->lF,emptyDict->qj,keepIn->nK,fnOf->lJ,findIn->qd,instObj->rP,codeIn->vY,hasDictIn->C5,plainGet->CY,nsIn->y7,methodObj->HE,plainOver->HD,cellsFrom_some->QT,takerIn->Ht,makesIn->Hs,lookIn->Hm,mg_of->Hb,callWith_K->Qm,handedIn->P1,isFn->OZ,kat_nil->Gq
open PySem renaming wpAny_bind->aq,Value->af,Shared->aj,wpAny_pure->aE,Spec->acv,Addr->ag,Program->aG,Str->aa,World->aF,Around->bh,Expr->ay,Heap->aB,wpAny_holding->fZ,wpAny_newObj_type->kI,codeAny_builtin->kN,wpAny_call_entry->nN,plainId_quiet->kM,wpAny_truthy_bool->oU,wpAny_mono->ja,mem_of_lookup->rS,FuncData->gH,boot_len->ig,wpAny_Call_Name_kw->ug,wpAny_typeNameOfWhole_keyiter->Dw,Pos->aN,wpAny_callSpecial?_slot->zi,wpAny_setState_of->ue,Stmt->bY,Obj->aR,wpAny_rule->mI,wpAny_passesOwn->t9,wpAny_updateSeq->t7,wpAny_pyIter_list->wx,wpAny_askSetting->wb,codeAny_mono->rN,wpAny_ite_split->v7,wpAny_seqItems->vW,wpAny_tryCatch->vV,Scope->gG,wpAny_typeOf->vT,fits_of_scanBound->C3,wpAny_dictEntries->CZ,wpAny_notOrdered_dict->HR,call_meets->tX,wpAny_standAt->za,wpAny_attempt->y9,wpAny_execs_nil->CQ,wpAny_load->vR,wpAny_fieldsOf->CM,wpAny_pyIter_slot->HA,wpAny_comprehension_free->Q6,wpAny_newList->CI,wpAny_isInstance->Hy,wpAny_pyNext_list_item->QU,pushCells_keeps->Hr,wpAny_specialOf->Hq,wpAny_loadPart'->QP,wpAny_dictEpoch->Hn,wpAny_isTrue_Compare1->QO,wpAny_pyNext_list_end->QN,wpAny_isOneOf_keyiter->QI,wpAny_of_eq->CC,codeAny_call_builtin->QE,wpAny_runValue->Hi,wpAny_setField->Hh,codeAny_extend_loopS->QC,wpAny_pyIter_keyiter->QA,wpAny_letGo->CB,Env->dZ,wpAny_call->Cy,tupleKind_room_in1->Qf,Within->GX,wpAny_assign_Name->Qc,seqIndex_neg->GS,wpAny_pyIter_enum->Qa,wpAny_pyIter_dict->P7,wpAny_eqBool_int->P5,wpAny_execs_cons->P2,wpAny_pyIter_zip->PZ,wpAny_Dict_empty->PV,sizeLine_eq->GK,wpAny_field->GJ,seqIndex_of->GI,codeAny_of_tree->Pz,wpAny_Name->GF,typeIs_str->GB,typeIs_int->GA,numAt_eq->Cr,entryFor_alias->Pn,isSubtype_stop->Pk,wpAny_newTuple->Pj,KeyKind->Pd,intBits_le_64->Pb,evalPart_none->Pa,call_list_seq->O9,wpAny_handled->O8,mem_getD->Gs,call->OI
open List renaming length_map->aL,getElem?_eq_getElem->bO,getElem?_eq_some_iff->cH,mem_append->bJ,getElem?_map->cx,length_append->cD,mem_of_getElem?->cP,range->aV,mem_cons->bM,mem_map->bQ,pairwise_singleton->fE,size_toArray->dh,map_append->c9,length_cons->eh,map_map->cJ,mem_cons_of_mem->fL,mem_singleton->fj,length_take->eK,mem_filter->eI,nodup_cons->eH,map_cons->c8,take_add_one->fB,mem_append_right->gO,mem_range->eG,map->bT,mem_append_left->ie,replicate->fi,take_length->f6,pairwise_append->iT,mem_map_of_mem->iA,not_mem_nil->gN,pairwise_map->iz,length_filter_le->jY,getElem_of_mem->jW,take_append_drop->lH,length_range->jv,take_of_length_le->mG,append_nil->i8,nodup_append->kH,find?_cons->ju,pairwise_cons->lG,drop_eq_getElem_cons->pY,pairwise_iff_getElem->pX,length_drop->kE,getElem_mem->kC,flatten_cons->lD,getElem?_set->lC,flatMap_cons->lB,append_assoc->mM,mem_cons_self->nP,foldl_cons->lK,getD_eq_getElem?_getD->uq,getElem?_append_left->um,mem_flatMap->nM,mem_of_mem_drop->rV,getElem?_of_mem->rT,cons_append->oT,eq_nil_of_length_eq_zero->zq,ext_getElem?->qi,getElem?_eq_none->uk,getElem?_cons_succ->wJ,ext_getElem->qh,getElem?_cons_zero->wI,mem_of_mem_take->uj,drop_length_add_append->zo,filter_eq_nil_iff->wH,getElem?_append_right->zm,map_congr_left->ui,length_set->qf,length_nil->qe,perm_append_comm->wG,any_cons->oS,drop_append_of_le_length->Dx,flatMap_append->wC,map_set->oQ,all_eq_true->ud,getElem_map->ub,nodup_range->ua,map_inj_right->wB,count_eq_zero->wA,findIdx?_eq_some_iff_getElem->Ii,nil_append->t8,getElem_take->wj,foldl_append->wg,countP_cons->we,any_eq_true->wa,take_append_of_le_length->Ih,length_replicate->Dk,nodup_nil->vX,map_nil->t5,any_map->tZ,flatMap_nil->zf,getElem?_zip_eq_some->Ie,getElem_append_right->Ib,mem_or_eq_of_mem_set->Ia,replicate_succ->Dg,length_pos_iff->Df,filter_sublist->Dd,length_filterMap_le->HY,of_mem_zip->ze,length_zip->zd,count_cons->zc,mem_filterMap->Dc,filter_append->C8,Nodup->rM,find?_eq_none->C6,length->tY,length_eq_zero_iff->HX,getElem?_set_self->HW,reverse_cons->C4,drop_sublist->C2,getElem_drop->C1,length_singleton->HU,getElem?_toArray->HS,getElem?_reverse->HQ,lookup_cons->CW,mem_reverse->CS,getElem?_mapIdx->HP,mem_erase_of_ne->HN,range_succ->CO,mem_zipIdx_iff_getElem?->Ri,countP_eq_length_filter->Rh,filterMap_cons->HM,length_reverse->HL,cons->tV,getElem?_take->HJ,findIdx?_cons->HI,perm_ext_iff_of_nodup->Ra,getElem?_drop->HH,getElem_range->HG,getLast?_eq_getElem?->Q9,mem_of_find?_eq_some->Q8,getLastD_eq_getLast?->Q7,take_sublist->HB,filter_congr->Hz,all_cons->CJ,getElem_append_left->Q0,length_erase_of_mem->QZ,drop_length->Hx,map_fst_zip->Hv,map_snd_zip->Hu,append_cancel_left->QW,all_map->CH,extract->CG,drop_eq_nil_of_le->QR,length_pos_of_mem->QQ,filterMap_append->QM,countP_mono_left->QK,mem_iff_getElem?->QH,getElem?_set_ne->QG,drop_zero->Hj,length_eraseIdx->QD,map_id->CA,Perm->yY,getElem?_range->Qu,countP_eq_zero->Qt,filter_eq_self->Qs,flatten_append->Qq,length_flatMap->Qp,zip_cons_cons->Qk,set_cons_succ->Qi,length_zipIdx->Qe,filter_filter->Qd,find?_append->P6,Sublist->GL,getElem_inj->P4,drop->Ct,zipWith_map->PQ,append_inj'->PN,getLast_mem->PM,filter_cons->PL,map_reverse->PJ,mem_flatten->PH,countP_map->Pt,find?_some->Pr,foldl->Gz,take_zero->Po,take_left->Pg,count_nil->Pe,map_drop->O4,Pairwise->O3,sum_cons->O1,toArray->OY,count->OF
open PySem.Heap renaming get?_push_of_some->bW,get?_push_size->cV,lt_size->bI,get?_update_other->jw,get?_update_self->oO,SameBut->j4,size_push->nL,get?_push_ne->C0,ExtBut->yZ,size_update->Hw
open Bool renaming false_eq_true->cO,false_ne_true->i9,not_eq_true'->kF,and_eq_true->mK,not_true->oR,not_false->qc,eq_iff_iff->v8,or_eq_true->CP,and_false->Hl,or_false->G9,eq_false_iff->P8,false_and->Pq
open Nat renaming le_refl->bB,le_trans->bX,ne_of_lt->cg,zero_le->cA,lt_of_lt_of_le->iR,le_of_lt->gw,lt_succ_of_lt->lE,succ_pos->iy,lt_of_le_of_lt->nQ,le_succ->iC,le_of_not_lt->qg,lt_succ_self->rR,ne_of_gt->nJ,lt_irrefl->pZ,min_eq_left->vZ,lt_trichotomy->zg,le_add_right->CV,lt_trans->y4,zero_add->y3,le_succ_of_le->HF,add_zero->CF,mul_le_mul->Hc,not_lt->Cw,add_sub_cancel->Qj,le_of_eq->GW,not_lt_zero->Py,mod_lt->Gy,add_comm->OW,sub_self->OU,succ_mul->OT
open Array renaming length_toList->di,getElem_toList->jX,getElem_mem->kG,toList_append->mD,getElem?_eq_getElem->rX,mem_toList_iff->oW,getElem?_toList->qk,toList_push->nO,getElem?_eq_none->Dm,toList_extract->Dj,toList_reverse->Di,getD_eq_getD_getElem?->Rf,toList_map->PU,size_map->Pf,toList->O0,getD->OG
open PyProof.Rows renaming wpS_bind->aQ,wpS_pure->bj,wpS_forRange->iU,callWith_type1->wL,wpS_mono->iB,pairsOf->wF,wpS_modify->mH,boot_list->lI,slot_tuple_getitem->Rp,callWith_builtin1->Ro,wpS_get->nI,boot_sorted->vS,subscriptTail_builtinR->QS,pairsOf_size->CD,entry_list_sort->Ho,entry_proto_collect'->QB,slot_list_sort->Hg,args_list_sort->Hf,gt_int->Qx,getElem?_mirror_all->Qw,sortedAll_old->Ha,listUpdate_at->GZ,size_push'->Cu,sortedAll_at->GR,plain_sorted->GP,entry_sorted->GO,args_sorted1->GN,boot_sum->yX,entry_list_iadd'->PY,kind_sorted->GH,seqEpoch_at->GG,getElem?_bubble->Px,slicePart_none->Pp,Subscript_->GD,sortedHeap_old->Ph,boot_min->Cq,sortedHeap_at->O6,boot_max->Gr,lt_int->Zo
open PySem.PassesOwn renaming never->ee
open Option.some renaming injEq->fJ,inj->rQ
open Int renaming le_refl->dv,emod_nonneg->i7,emod_lt_of_pos->oV,le_of_lt->kL,toNat_natCast->wu,zero_add->t4,natCast_nonneg->C7,eq_ofNat_of_zero_le->QV,toNat_of_nonneg->Qv,le_trans->GY,ediv_nonneg->Pu,ofNat_lt->OX,toNat->OC
open PySem.Str renaming ofString->fh,length->GC,empty->OE
open Option renaming map_some->hZ,map_eq_some_iff->mF,getD_some->uc,map_eq_none_iff->Dl,isSome_iff_exists->HZ,isSome_some->HK,getD_none->P0,map->Gx,none->OO
open PySem.Value renaming ref->fM,none->jx,type->j3,isStrOf_shape->Dh,int->tW,isStrOf->CL,str->vP,bool->Cz,bytes->OS,float->OR
open PySem.F renaming plainAttrs_list->rW,slot_list_append->zk,type_list_append->zj,slot_dict_keyiterator_next->Dv,plain_extend_loop->Dt,entry_max_loop->CU,plain_max_loop->CT,args_dict_keyiterator_next_1->Rn,entry_dict_keyiterator_next->Rm,slot_dict_setdefault->Rj,slot_list_count->QY,plain_list_iadd->QX,slot_set_iter->QL,slot_dict_iter->PR,slot_int_rmul->PF
open Sum renaming inl->eJ,inr->yW
open PySem.Builtin.Str renaming strSliceIndices->wK,occurrences->Dn
open PySem.NameKind renaming free->mJ,cell->vU
open PySem.Obj renaming mapSeq->jZ,data_mapDictKeys->Qz,data_mapFields->Qh,mapFields->O5,putSet->OH
open Function renaming comp_apply->uh
open PySem.Spec renaming ltCps->kK
open ForInStep renaming yield->rO
open PySem.Heap.SameBut renaming update->wD,refl->Zb
open List.Perm renaming append_left->zh,refl->CN,of_eq->Pw,swap->Pm,append_right->Zt
open PySem.Builtin.Slice renaming slicePlaces->Du,sliceAdjust->Ig,sliceApplied->Rb,slicePartIndex->ZD,sliceFields->Zx
open Classical renaming byContradiction->Ds,skolem->Y5
open PySem.Builtin.Tuple renaming tupleExact->Dr,tupleItemsOf->Zy
open PySem.Builtin.List renaming listTooLong->Dp,listExtendWith->Rg,listSameRef->Q4,listLengthHint->ZA
open PySem.SetTable renaming grown->t6,below->zb
open PyProof.Rows.SortSt renaming mk'->oP
open PySem.Calls renaming call_function_entry->Ic,spliced_cons->C9,callWith_builtin->HV,Name_function_global->Rc,spliced_nil->HC,evalArgs_plain->QF
open PyProof.Rows.F renaming entry_set_update_loop->Rq,plain_set_update_loop->ZF
open List.cons renaming inj->y8
open True renaming intro->vQ
open PySem.Paired renaming length->CK,snoc->OL
open PySem.Builtin.Dict renaming showsAll->QJ,dictSlotNone->Zw
open PySem.Walks renaming dictKeys->He,list->Cv
open List.Pairwise renaming filter->Qy,nil->Qb,and->Y9
open PySem.SeqAt.EqAt renaming int_str->Qo,str_int->Qn,int_int->Ql,none_bool->Zr,bool_none->Zq,bool_bool->Zp,none_int->Zn,none_str->Zm,bool_int->Zl,bool_str->Zk,int_none->Zj,int_bool->Zi,str_none->Zh,str_bool->Zg,str_str->Zd,same->Y4
open PySem.AutoListH renaming list___mul___list_int_3->ZE
open PySem.Around renaming under->GV
open PySem.Code renaming isFrame->GU,frames->OP
open PySem.pickOrder renaming go->GQ
open PySem.SetTable.below renaming go->P9
open PySem.Builtin.Frozenset renaming updateFrom->ZC,sizeOf->Zv
open PySem.Builtin.Builtins renaming bindParams->Zz
open Prod renaming mk->yV,ext->Gu,fst->OA
open PySem.Data renaming seq->Cs,cell->Gw,fields->ON
open PySem.Moved renaming eq_with->O7
open PySem.Builtin.Range renaming rangeSize->Zu
open PySem.Txt renaming slice->Gv
open PySem.CmpOp renaming NotIn->OQ,In->OB
open PySem.ItemsOf renaming nil->OM
open PySem.W.Looks renaming here->Zf
open PySem.SeqAt renaming EqAt->OK
open PySem.Heap.IsSliceOf renaming new->Ze
open PySem.W.WShape renaming has->OJ
open PySem.Within renaming cons->Zc
open List.Sublist renaming refl->Za,map->Y6
open PySem.DictEntry renaming refKey->Y8
open PySem.IsL renaming update->Y7
open PySem.W.WData renaming int->OD
open PySem.Heap.DictOf renaming new->Y3
open Array.Perm renaming refl->Y2
def ic:=@decide_eq_true_eq
def cC:=@if_false
def kJ:=@decide_eq_false_iff_not
def fA:=@decide_false
def cy:=@if_true
def gF:=@decide_true
def mL:=@beq_self_eq_true
namespace L2
open PySem PySem.Spec PyProof.Rows
abbrev Key:=Sum Int aa
def uD:Key->af->Bool
 | .inl k,v=>Value.isInt k v
 | .inr x,v=>CL x v
def ZX(w:aF):Key->Int
 | .inl k=>hashInt k
 | .inr x=>hashStr w x
theorem mW:∀{k v},uD k v=true->(∃i t,k=eJ i/\v=tW i t)\/(∃x t,k=yW x/\v=vP x t)
 | .inl i,v,h=>by
  let⟨t,e⟩:=Value.isInt_shape (k:=i) (v:=v) h;show .inl ⟨i,t,rfl,e⟩
 | .inr x,v,h=>by
  let⟨t,e⟩:=Dh (x:=x) (v:=v) h;show .inr ⟨x,t,rfl,e⟩
def zm3(i t):uD (.inl i) (.int i t)=true:=by show mL _
def zm4(x t):uD (.inr x) (.str x t)=true:=by show mL _
def zua(a b):decide ((eJ a:Key)=eJ b)=(a==b):=by
 grind
def zub(a b):decide ((yW a:Key)=yW b)=decide (a=b):=by
 cbv
theorem zuc(a b):decide ((eJ a:Key)=yW b)=false:=decide_eq_false (λq=>nomatch q)
theorem zud(a b):decide ((yW a:Key)=eJ b)=false:=decide_eq_false (λq=>nomatch q)
def gf(prog w):Pd prog w Key where
 is:=uD
 hash:=ZX w
 inj:=λv a b g d=>by
  rcases mW g with⟨i,t,rfl,rfl⟩ | ⟨x,t,rfl,rfl⟩
  .rcases mW d with⟨j,u,rfl,e⟩ | ⟨y,u,rfl,e⟩
   .injection e with c _;rw[c]
   show nomatch e
  rcases mW d with⟨j,u,rfl,e⟩ | ⟨y,u,rfl,e⟩
  .exact nomatch e
  injection e with c _;rw[c]
 byValue:=λk v h=>by
  rcases mW h with⟨i,t,rfl,rfl⟩ | ⟨x,t,rfl,rfl⟩<;>rfl
 pyHash:=λhv h=>by
  rcases mW hv with⟨i,t,rfl,rfl⟩ | ⟨x,t,rfl,rfl⟩
  .exact wpAny_pyHash_int h
  show wpAny_pyHash_str h
 eqBool:=λf hv h=>by
  rcases mW f with⟨i,t,rfl,rfl⟩ | ⟨x,t,rfl,rfl⟩
  .rcases mW hv with⟨j,u,rfl,rfl⟩ | ⟨y,u,rfl,rfl⟩
   .rw[zua] at h;show P5 h
   rw[zuc] at h;show Qo i t y u _ _ _ _ h
  rcases mW hv with⟨j,u,rfl,rfl⟩ | ⟨y,u,rfl,rfl⟩
  .rw[zud] at h;show Qn x t j u _ _ _ _ h
  rw[zub] at h;show wpAny_eqBool_str h
 «strs»:=λk x t v h=>by
  rcases mW h with⟨i,u,rfl,e⟩ | ⟨y,u,rfl,e⟩
  .exact nomatch e
  injection e with c _
  subst c;cases v<;>rfl
theorem zkq(prog w i t):(gf prog w).is (.inl i) (.int i t)=true:=zm3 i t
theorem zkr(prog w x t):(gf prog w).is (.inr x) (.str x t)=true:=zm4 x t
inductive V where
 | non | bl (b:Bool) | int (i:Int) | str (x:aa) | F2 (b:Array UInt8) | FY (b:UInt64) | ref (a:ag) | ty (n:String)
 deriving DecidableEq
def RelV:V->af->Prop
 | .non,u=>u=jx
 | .bl b,u=>u=Cz b
 | .int i,u=>∃t,u=tW i t
 | .str x,u=>∃t,u=vP x t
 | .F2 b,u=>∃t,u=OS b t
 | .FY b,u=>∃t,u=OR b t
 | .ref a,u=>u=fM a
 | .ty n,u=>u=j3 n
abbrev Vals:List V->List af->Prop:=Paired RelV
theorem Vals.length(r:Vals xs us):xs.length=us.length:=CK r
theorem Vals.get:∀{xs us}{i:Nat}{x},Vals xs us->xs[i]?\x->∃u,us[i]?\u/\RelV x u
 | _,_,_,_,.nil,e=>by trivial
 | _,_,0,_,.cons r _,e=>by simp at e;subst e;show⟨_,rfl,r⟩
 | _,_,i+1,x,.cons _ t,e=>by
  let⟨u,b,a⟩:=Vals.get (i:=i) (x:=x) t (by simpa using e);show⟨u,by trivial,a⟩
theorem Vals.set(r:RelV x u):∀{xs us} i,Vals xs us->Vals (xs.set i x) (us.set i u)
 | _,_,_,.nil=>.nil
 | _,_,0,.cons _ t=>.cons r t
 | _,_,i+1,.cons q t=>.cons q (Vals.set r i t)
def Vals.append(h:Vals xs us)(s:Vals ys ws):Vals (xs++ys) (us++ws):=by
 induction h with
 | nil=>show s
 | cons r t a=>show .cons r a
theorem Vals.take:∀{xs us} n,Vals xs us->Vals (xs.take n) (us.take n)
 | _,_,0,_=>.nil
 | _,_,_+1,.nil=>.nil
 | _,_,n+1,.cons r t=>.cons r (Vals.take n t)
theorem Vals.drop:∀{xs us} n,Vals xs us->Vals (xs.drop n) (us.drop n)
 | _,_,0,r=>r
 | _,_,_+1,.nil=>.nil
 | _,_,n+1,.cons _ t=>Vals.drop n t
def ml:Option V->Option af->Prop
 | some v,some u=>RelV v u
 | none,none=>True
 | _,_=>False
def KV{κ:Type}:List (κ×V)->List (κ×af)->Prop:=Paired λ(p:κ×V)(q:κ×af)=>p.1=q.1/\RelV p.2 q.2
def kV:Key->V
 | .inl i=>.int i
 | .inr x=>.str x
inductive HO where
 /-- a list -/
 | lst (xs:List V)
 /-- a tuple (never changes) -/
 | tup (xs:List V)
 /-- a dict aaa keys are ints and texts;one aaa keys are tuples of ints and texts (jK empty one is both) -/
 | dK (kvs:List (Key×V)) (ep:Nat) | dT (kvs:List (List Key×V)) (bs:List ag×Nat)
 /-- a set of ints: its members,its size -/
 | set (S:Int->Bool) (n:Nat)
 /-- an instance of jK class at C,its dict at dx,its attributes -/
 | ins (C dx:ag) (fs:List (aa×V))
 /-- jK dict of jK instance at x -/
 | own (x:ag)
 /-- jK dict of an exception -/
 | xd (fs:List (aa×V))
 /-- a bound method,f of x -/
 | met (f x:ag)
 /-- a range object lo,lo+1,.. below hi -/
 | L7 (lo hi:Int)
 /-- a aag acy is known to jK object (jK WK;a dict while a loop walks it): read,never written while it is so -/
 | fP (o:aR) (u:HO)
 /-- a code acE table -/
 | uY (ps:Array af)
 /-- any other aag,by aab is true of its one object (a def of acB own: ac1 a S n:=HO.ext λh=>..) -/
 | ext (φ:aB->Prop)
abbrev Hp:=ag->Option HO
def upd(H:Hp)(a:ag)(o:HO):Hp:=λb=>if b=a then some o else H b
def cW:upd H a o a\o:=by unfold upd;rw[if_pos rfl]
def br(h:b≠a):upd H a o b=H b:=by unfold upd;rw[if_neg h]
def R5{H:Hp}(h:H a\o)(h':H b\u)(d:o≠u):a≠b:=by
 intro e;subst e;rw[h] at h';show d (rQ h')
def fT{H:Hp}(h:H a\o)(h':H b=none):a≠b:=by
 intro e;subst e;rw[h] at h';cases h'
section
variable(P:aG)(w:aF)
def fQ(H:Hp)(h:aB)(a:ag):HO->Prop
 | .lst xs=>xs.length<=sizeLine/\∃(its:List af)(n:Nat),Vals xs its/\h.get? a=some { cls:=.type "list",data:=.seq its.toArray n }
 | .tup xs=>xs.length<=sizeLine/\∃its:List af,Vals xs its/\IsTup h a its.toArray
 | .dK kvs c=>kvs.length<=sizeLine/\(a==sysModules)=false/\∃g,KV kvs g/\h.DictAt (gf P w) a g c
 | .dT kvs bs=>kvs.length<=sizeLine/\(a==sysModules)=false/\∃xs:List (List Key×ag×af),xs.map (λx=>x.2.1)=bs.1/\
   Paired (λ(p:List Key×V)(q:List Key×ag×af)=>p.1=q.1/\H q.2.1\.tup (p.1.map kV)/\RelV p.2 q.2.2) kvs xs/\
   ∃o k c,h.get? a\o/\o.ExactDict/\o.data=.dict k c/\k.toList=xs.map (entryOfKey (tupleKind (gf P w)))/\(xs.map (·.1)).Nodup/\c=bs.2
 | .set S n=>h.SetOf (intKind P w) a S n
 | .ins C d fs=>H d\.own a/\fs.length<=1000/\d≠a/\h.get? a\rP C d/\
   ∃b,h.Ns1 d b/\(∀f,ml (fs.lookup f) (b f))/\GX b (fs.map (·.1))
 | .own _=>∃o,h.get? a=some o
 | .xd fs=>∃b,h.Ns1 a b/\∀f,ml (fs.lookup f) (b f)
 | .L7 lo hi=>∃t u v,h.get? a=some { cls:=.type "range",data:=.fields #[.int lo t,.int hi u,.int 1 v] }
 | .fP o u=>h.get? a\o/\fQ H h a u
 | .uY ps=>h.get? a=some { cls:=.none,data:=.fields ps }
 | .met f x=>h.get? a=some (HE (.ref f) (.ref x))
 | .ext e=>e h/\(∃o,h.get? a\o)/\∀j i:aB,e j->(∀o,j.get? a\o->i.get? a\o)->e i
def eX(H:Hp)(h:aB):Prop:=∀a o,H a\o->fQ P w H h a o
end
section
variable{a:ag}
def fQ.lt(x:fQ P w H h a o):a<h.objs.size:=by
 cases o with
 | lst xs=>let⟨z,z,z,z,e⟩:=x;show bI e
 | tup xs=>let⟨z,z,z,p⟩:=x;show p.lt
 | dK kvs c=>let⟨z,z,z,z,o,z,e,z⟩:=x;show bI e
 | dT kvs bs=>let⟨z,z,z,z,z,o,z,z,e,z⟩:=x;show bI e
 | set S n=>let⟨o,z,z,z,e,z⟩:=x;show bI e
 | ins C d fs=>let⟨z,z,z,e,z⟩:=x;show bI e
 | own y=>let⟨z,e⟩:=x;show bI e
 | xd fs=>obtain⟨_,⟨_,_,_,e,_⟩,_⟩:=x;show bI e
 | L7 lo hi=>let⟨z,z,z,e⟩:=x;show bI e
 | fP ob u=>let⟨e,z⟩:=x;show bI e
 | uY ps=>show bI (show h.get? a\_ from x)
 | met f y=>show bI (show h.get? a\_ from x)
 | ext b=>obtain⟨_,⟨_,e⟩,_⟩:=x;show bI e
def Paired.W8{e:List d}{g:List c}(h:Paired F e g)(f:∀a b,F a b->G a b):Paired G e g:=by
 induction h with
 | nil=>show .nil
 | cons r t i=>show .cons (f _ _ r) i
def fQ.kh(x:fQ P w H h a o)(k:∀b u,(b=a\/H b\.own a)->h.get? b\u->h'.get? b\u)
  (D:∀b,H b\.own a->H' b\.own a) (B:∀b xs,H b\.tup xs->H' b\.tup xs):fQ P w H' h' a o:=by
 induction o with
 | lst xs=>let⟨z,its,n,r,e⟩:=x;show⟨z,its,n,r,k _ _ (.inl rfl) e⟩
 | tup xs=>let⟨z,its,r,ob,e,c⟩:=x;show⟨z,its,r,ob,k _ _ (.inl rfl) e,c⟩
 | dK kvs i=>let⟨z,y,s,r,ob,g,e,c⟩:=x;show⟨z,y,s,r,ob,g,k _ _ (.inl rfl) e,c⟩
 | dT kvs bs=>
  symm;let⟨z,y,xs,F,r,ob,g,i,e,c⟩:=x;show⟨z,y,xs,F,Paired.W8 r λp q z=>⟨z.1,B _ _ z.2.1,z.2.2⟩,ob,g,i,k _ _ (.inl rfl) e,c⟩
 | set S n=>let⟨ob,g,i,t,e,c⟩:=x;show⟨ob,g,i,t,k _ _ (.inl rfl) e,c⟩
 | ins C J fs=>
  symm;obtain⟨d,z,ne,e,m,⟨j,g,i,E,c⟩,r⟩:=x;show⟨D _ d,z,ne,k _ _ (.inl rfl) e,m,⟨j,g,i,k _ _ (.inr d) E,c⟩,r⟩
 | own y=>let⟨ob,e⟩:=x;show⟨ob,k _ _ (.inl rfl) e⟩
 | xd fs=>obtain⟨m,⟨j,g,i,e,c⟩,r⟩:=x;show⟨m,⟨j,g,i,k _ _ (.inl rfl) e,c⟩,r⟩
 | L7 lo hi=>let⟨t,u,v,e⟩:=x;show⟨t,u,v,k _ _ (.inl rfl) e⟩
 | fP ob u A=>let⟨e,q⟩:=x;show⟨k _ _ (.inl rfl) e,A q⟩
 | uY ps=>
  have e:h.get? a=some { cls:=.none,data:=.fields ps }:=x;show h'.get? a=some { cls:=.none,data:=.fields ps };show k a _ (.inl rfl) e
 | met f y=>
  have e:h.get? a\HE (.ref f) (.ref y):=x;show h'.get? a\HE (.ref f) (.ref y);show k a _ (.inl rfl) e
 | ext I=>obtain⟨p,⟨o,e⟩,st⟩:=x;show⟨st _ _ p λo q=>k _ _ (.inl rfl) q,⟨o,k _ _ (.inl rfl) e⟩,st⟩
theorem eX.lt(x:eX P w H h)(e:H a\o):a<h.objs.size:=(x a o e).lt
def eX.fresh(x:eX P w H h)(e:h.objs.size<=a):H a=none:=by
 cases q:H a with
 | none=>rfl
 | some u=>show absurd (iR (x.lt q) e) (pZ _)
theorem eX.kept(x:eX P w H h)(k:∀b u,h.get? b\u->h'.get? b\u):eX P w H h':=λa o e=>
 (x a o e).kh (λb u _ q=>k b u q) (λ_ q=>q) λ_ _ q=>q
theorem eX.laid(x:eX P w H h)(k:∀b u,h.get? b\u->h'.get? b\u)(g:h.objs.size<=a)(new:fQ P w (upd H a o) h' a o):eX P w (upd H a o) h':=λb u e=>by
 have d:=x.fresh g;by_cases f:b=a
 .subst f;rw[cW] at e;cases e;show new
 rw[br f] at e;show(x b u e).kh (λc v _ q=>k c v q) (λc q=>by rw[br (fT q d)];show q) λc xs q=>by rw[br (fT q d)];show q
end
def Rd(H:Hp)(a:ag)(u:HO):Prop:=H a=some u\/∃o,H a=some (.fP o u)
def Rd.ok(r:Rd H a u)(x:eX P w H h):fQ P w H h a u:=by
 rcases r with r | ⟨o,r⟩
 .exact x a u r
 let⟨z,q⟩:=x a _ r;show q
def Ci:Option HO->Prop
 | some (.lst _)=>True
 | some (.dK _ _)=>True
 | some (.dT _ _)=>True
 | some (.set _ _)=>True
 | some (.ins _ _ _)=>True
 | some (.ext _)=>True
 | _=>False
theorem eX.write(ok:eX P w H h)(a:Ci (H x))(m:e=x\/H e\.own x)(k:∀b u,b≠e->h.get? b\u->h'.get? b\u)(j:∃u,h'.get? e\u)
  (new:fQ P w (upd H x o') h' x o'):eX P w (upd H x o') h':=λb u q=>by
 have f:∀c y,H c\.own y->c≠x:=λc y r z=>by subst z;rw[r] at a;show a
 have d:∀c xs,H c\.tup xs->c≠x:=λc xs r z=>by subst z;rw[r] at a;show a
 by_cases i:b=x
 .subst i;rw[cW] at q;cases q;show new
 rw[br i] at q;by_cases l:b=e
 .have g:H b\.own x:=by
   grind
  rw[q] at g;cases g;let⟨v,hv⟩:=j;show⟨v,by rw[l];show hv⟩
 show(ok b u q).kh (λc v n r=>k c v ?_ r) (λc r=>by rw[br (f c b r)];show r) λc xs r=>by rw[br (d c xs r)];show r
 grind
structure Un(fs ex:List ag)(H H':Hp)(h h':aB):Prop where
 keep:∀b o,h.get? b\o->H b=none->b∉fs->b∉ex->h'.get? b\o
 slot:∀b o,h.get? b\o->H b=none->b∈fs->b∉ex->∃sl,h'.get? b=some { o with slots:=sl }
 free:∀b o,h.get? b\o->H b=none->b∉ex->H' b=none
 there:∀b o,h.get? b\o->b∉ex->∃o',h'.get? b\o'
 sV:∀b xs,H b\.tup xs->H' b\.tup xs
 rm:∀b o u,H b\.fP o u->H' b\.fP o u
 uX:∀b ps,H b\.uY ps->∃more,H' b=some (.uY (ps++more))
section
variable{h h1 h2 h':aB}{a x e:ag}
def Un.any(u:Un fs ex H H1 h h1)(q:h.get? b\ob)(n:H b=none)(hx:b∉ex):∃sl,h1.get? b=some { ob with slots:=sl }:=by
 by_cases a:b∈fs
 .exact u.slot b ob q n a hx
 show⟨ob.slots,u.keep b ob q n a hx⟩
theorem Un.kept(k:∀b u,h.get? b\u->h'.get? b\u):Un fs ex H H h h':=
 ⟨λb ob q _ _ _=>k b ob q,λb ob q _ _ _=>⟨ob.slots,k b ob q⟩,λ_ _ _ n _=>n,λb ob q _=>⟨ob,k b ob q⟩,λ_ _ q=>q,λ_ _ _ q=>q,λ_ ps q=>⟨#[],by rw[q];rfl⟩⟩
theorem Un.refl:Un fs ex H H h h:=Un.kept λ_ _ q=>q
theorem Un.laid(k:∀b u,h.get? b\u->h'.get? b\u)(d:h.objs.size<=a)(c:H a=none):Un fs ex H (upd H a o) h h' where
 keep:=λb u q _ _ _=>k b u q
 slot:=λb u q _ _ _=>⟨u.slots,k b u q⟩
 free:=λb u q n _=>by rw[br (cg (iR (bI q) d))];show n
 there:=λb u q _=>⟨u,k b u q⟩
 sV:=λb xs q=>by rw[br (fT q c)];show q
 rm:=λb u xs q=>by rw[br (fT q c)];show q
 uX:=λb ps q=>⟨#[],by rw[br (fT q c),q];rfl⟩
def Un.write(a:Ci (H x))(g:e=x\/H e\.own x)(k:∀b u,b≠e->h.get? b\u->h'.get? b\u)(f:∃u,h'.get? e\u):Un fs ex H (upd H x o) h h':=by
 have hx:∀b,H b=none->b≠x:=λb n z=>by subst z;rw[n] at a;show a
 have c:∀b,H b=none->b≠e:=λb n z=>by
  cbv
 have hm:∀b u,H b\u->¬Ci (some u)->b≠x:=λb u q nm z=>by subst z;rw[q] at a;show nm a
 show⟨λb u q n _ _=>k b u (c b n) q,λb u q n _ _=>⟨u.slots,k b u (c b n) q⟩,λb u q n _=>by rw[br (hx b n)];show n,λb u q _=>?_,
  λb xs q=>by rw[br (hm b _ q λz=>z)];show q,λb u xs q=>by rw[br (hm b _ q λz=>z)];show q,λb ps q=>⟨#[],by rw[br (hm b _ q λz=>z),q];rfl⟩⟩
 by_cases d:b=e
 .subst d;show f
 show⟨u,k b u d q⟩
end
def ES(h:aB)(H:Hp):List ag:=(aV h.objs.size).filter λa=>(H a).isSome
def qz(h:aB)(H:Hp):aB:=PySem.W.hideAll h (ES h H)
theorem zm5(h H):(qz h H).objs.size=h.objs.size:=PySem.W.hideAll_size _ _
theorem zpY(e:h.get? b\o)(n:H b=none):(qz h H).get? b\o:=
 PySem.W.hideAll_get _ e λhm=>by
  have q:(H b).isSome=true:=(eI.mp hm).2;rw[n] at q;simp at q
def zsn(e:(qz h H).get? b\o):h.get? b\o/\H b=none:=by
 have a:h.get? b\o:=PySem.W.of_hideAll (ES h H) e;show⟨a,?_⟩;cases q:H b with
 | none=>rfl
 | some x=>
  have hm:b∈ES h H:=eI.mpr ⟨eG.mpr (bI a),by simp[q]⟩;have z:(qz h H).get? b=none:=PySem.W.hideAll_none (ES h H) hm;rw[z] at e;cases e
def zso(g h:aB)(L:ag):List (ag×aR):=(aV h.objs.size).filterMap λa=>if a=L\/(g.get? a).isSome=true then none else(h.get? a).map λo=>(a,o)
def rest(g h:aB)(L d:ag):List (ag×aR):=(zso g h L).filter λp=>decide (p.1≠d)
structure Mod(K:ar)(mg:aa->Option af)(base:aB):Prop where
 xQ:K.In base
 glob:base.Ns mainGlobals mg
 blt:∃mb,base.Ns builtinsNs mb/\∀x:aa,x≠"__name__"->mb x=bootBuiltins x
 nolimit:base.NoLimit
structure Cx where
 prog:aG
 w:aF
 K:ar
 mg:aa->Option af
 base:aB
 A:bh
 N:List aa
 gm:aj
 Ck:Hp
 env:dZ
 outer:List dZ
 stack:List dZ
 ex:List ag
 fn:aa->Bool
 calm:Bool
 pn:List (ag×aR)
 xe:af->aj->Prop
def oG(l:List dZ):List ag:=l.filterMap (·.frame)
abbrev Cx.fs(X:Cx):List ag:=oG X.outer
def rB(sc:gG)(x:aa):Prop:=sc.names.lookup x=some .local\/sc.names.lookup x\.cell\/sc.names.lookup x=some .free
def Loc(sc:gG)(x:aa):Prop:=sc.names.lookup x=some .local\/sc.names.lookup x=some .cell
def Look(env:dZ)(h:aB)(m:aa->Option af)(x:aa)(u:af):Prop:=
 (env.kindOf x\.local/\m x\u)\/((env.kindOf x\.cell\/env.kindOf x\.free)/\∃c,env.cells.lookup x\c/\h.IsCell c (some u))
structure Cx.Ok(X:Cx):Prop where
 mod:Mod X.K X.mg X.base
 kind:X.env.scope.kind=.function
 glob:X.env.globals=mainGlobals
 blt:X.env.builtins=builtinsNs
 above:X.gm.heap.objs.size<=X.env.locals
 inj:∀x y c,X.env.cells.lookup x\c->X.env.cells.lookup y\c->x=y
 has:∀x,(X.env.kindOf x\.cell\/X.env.kindOf x\.free)->∃c,X.env.cells.lookup x\c
 cab:∀x c,X.fn x=true->X.env.cells.lookup x\c->X.gm.heap.objs.size<=c
 hd:X.calm=true->X.A.handled=none
 frames:X.A.frames\X.stack
 EX:X.stack=X.outer\/(X.stack=X.env::X.outer/\X.env.frame\X.env.locals)
 exf:∀b∈X.ex,b≠X.env.locals/\∀x c,X.env.cells.lookup x\c->c≠b
 bs:∀b o,X.base.get? b\o->X.gm.heap.get? b\o/\X.Ck b=none
 tP:X.base.objs.size<=X.gm.heap.objs.size
 Bp:∀b o,X.base.get? b\o->b∉X.ex
 B7:∀b∈X.ex,b∉X.fs
 nr:X.gm.heap.FunFrames X.base X.outer
 vx:∀b∈X.fs,X.Ck b=none
structure Inv(X:Cx)(J':List (ag×aR))(σ:List (Option V))(H:Hp)(s:aj):Prop where
 ok:X.Ok
 os:s.os=X.gm.os
 bare:AllBare s.gens
 base:Un X.fs X.ex X.Ck H X.gm.heap s.heap
 loc:∃m,s.heap.Ns X.env.locals m/\∀(i:Nat)(x:aa)(v:V),X.N[i]?\x->σ[i]?\some v->rB X.env.scope x->∃u,RelV v u/\Look X.env s.heap m x u
 cell:∀x c,X.env.cells.lookup x\c->∃v,s.heap.IsCell c v
 free:H X.env.locals=none
 oH:∀x c,X.env.cells.lookup x\c->H c=none
 pin:∀p∈X.pn++J',s.heap.get? p.1\p.2/\H p.1=none/\p.1≠X.env.locals/\p.1∉X.fs/\∀v,p.2.data≠.cell v
 aX:eX X.prog X.w H s.heap
 len:σ.length=X.N.length
section
variable{X:Cx}{J':List (ag×aR)}{σ:List (Option V)}{H H':Hp}{s:aj}
theorem Cx.Ok.aaE(ok:X.Ok)(e:X.base.get? b\o):b∉X.fs:=λa=>by
 have:=(ok.nr.mem a).1;rw[e] at this;cases this
theorem Inv.bs(I:Inv X J' σ H s):∀b o,X.base.get? b\o->s.heap.get? b\o/\H b=none:=λb o e=>
 ⟨I.base.keep b o (I.ok.bs b o e).1 (I.ok.bs b o e).2 (I.ok.aaE e) (I.ok.Bp b o e),I.base.free b o (I.ok.bs b o e).1 (I.ok.bs b o e).2 (I.ok.Bp b o e)⟩
theorem Inv.bk(I:Inv X J' σ H s):∀b o,X.base.get? b\o->s.heap.get? b\o:=λb o e=>(I.bs b o e).1
theorem Inv.mod(I:Inv X J' σ H s):Mod X.K X.mg X.base:=I.ok.mod
theorem Inv.ng(I:Inv X J' σ H s):X.K.In s.heap:=I.ok.mod.xQ.keeps I.bk
theorem Inv.lt(I:Inv X J' σ H s):X.env.locals< *...*:=let⟨_,a,_⟩:=I.loc;a.lt
theorem Inv.sz(I:Inv X J' σ H s):X.gm.heap.objs.size<=*...*:=bX I.ok.above (gw I.lt)
theorem Inv.aaC(I:Inv X J' σ H s){a:ag}(h:*...*<=a):a∉X.fs:=λc=>by
 let⟨z,o,b,z⟩:=I.ok.nr.mem c;show absurd (iR (bI b) (bX I.sz h)) (pZ _)
theorem Inv.vB(I:Inv X J' σ H s):∀x c,X.env.cells.lookup x\c->c≠X.env.locals:=λx c e z=>by
 let⟨v,o,a,hd⟩:=I.cell x c e;obtain⟨m,⟨o',f,g,d,b,_⟩,_⟩:=I.loc;rw[z,d] at a;cases a;rw[b] at hd;cases hd
def Inv.nr(I:Inv X J' σ H s):s.heap.FunFrames X.base X.outer:=by
 have all:∀(l:List dZ),(∀b∈oG l,b∈X.fs)->X.gm.heap.FunFrames X.base l->s.heap.FunFrames X.base l:=by
  intro l;induction l with
  | nil=>intro _ _;trivial
  | cons env r h=>
   intro g hl;symm;obtain⟨n,⟨L,o,hf,m,j,hd⟩,i⟩:=hl;have f:L∈X.fs:=g L (by unfold oG;rw[HM,hf];show nP);let⟨sl,e⟩:=I.base.slot L o j (I.ok.vx L f) f λz=>I.ok.B7 L z f
   show⟨n,⟨L,_,hf,m,e,hd⟩,h (λb d=>g b (by unfold oG;rw[HM,hf];show fL _ d)) i⟩
 show all X.outer (λ_ d=>d) I.ok.nr
def Inv.stack(I:Inv X J' σ H s):s.heap.FunFrames X.base X.stack:=by
 rcases I.ok.EX with e | ⟨e,hf⟩
 .rw[e];show I.nr
 rw[e];let⟨m,a,z⟩:=I.loc;show .cons (by rw[I.ok.kind];decide) hf a ?_ I.nr;show Heap.get?_none_of_le (bX I.ok.tP I.ok.above)
theorem Inv.LR(I:Inv X J' σ H s):∀b∈oG X.stack,b∈X.env.locals::X.fs:=λb a=>by
 rcases I.ok.EX with e | ⟨e,hf⟩
 .rw[e] at a;show fL _ a
 rw[e] at a;unfold oG at a;rw[HM,hf] at a;show a
theorem Inv.WD(I:Inv X J' σ H s):∀b∈oG X.stack,H b=none:=λb a=>by
 rcases bM.mp (I.LR b a) with e | a
 .rw[e];show I.free
 let⟨y,o,c,y⟩:=I.ok.nr.mem a;show I.base.free b o c (I.ok.vx b a) λz=>I.ok.B7 b z a
def Inv.step{d':Drawn}{ch:List ag}(I:Inv X J' σ H s)
  (h:∀b∈ch,(b∈X.ex\/X.gm.heap.objs.size<=b)/\b≠X.env.locals/\(∀x c,X.env.cells.lookup x\c->c≠b)/\∀p∈X.pn++J',p.1≠b)
  (keep:∀b o,b≠X.env.locals->b∉X.fs->b∉ch->s.heap.get? b\o->H b=none->h'.get? b\o)
  (slot:∀b o,b≠X.env.locals->b∈X.fs->b∉ch->s.heap.get? b\o->H b=none->∃sl,h'.get? b=some { o with slots:=sl }) (free:∀b o,b∉ch->s.heap.get? b\o->H b=none->H' b=none)
  (there:∀b o,b∉ch->s.heap.get? b\o->∃o',h'.get? b\o')
  (sV:∀b xs,H b\.tup xs->H' b\.tup xs) (rm:∀b o u,H b\.fP o u->H' b\.fP o u) (uX:∀b ps,H b\.uY ps->∃more,H' b\.uY (ps++more))
  (ns:∀m,s.heap.Ns X.env.locals m->h'.Ns X.env.locals m) (aX:eX X.prog X.w H' h') (G:AllBare g') :
  Inv X J' σ H' { s with heap:=h',gens:=g',drawn:=d',toks:=t' }:=by
 have C:∀b o,X.gm.heap.get? b\o->b≠X.env.locals:=λb o e=>cg (iR (bI e) I.ok.above)
 have j:∀b o,X.gm.heap.get? b\o->b∉X.ex->b∉ch:=λb o e hx f=>by
  rcases(h b f).1 with z | z
  .exact hx z
  show absurd (iR (bI e) z) (pZ _)
 have cellK:∀x c,X.env.cells.lookup x\c->∀v,s.heap.IsCell c v->h'.IsCell c v:=λx c e v ⟨o,g,hd⟩=>by
  have B:c∉ch:=λz=>(h c z).2.2.1 x c e rfl
  by_cases A:c∈X.fs
  .let⟨sl,q⟩:=slot c o (I.vB x c e) A B g (I.oH x c e);show⟨_,q,hd⟩
  show⟨o,keep c o (I.vB x c e) A B g (I.oH x c e),hd⟩
 show⟨I.ok,I.os,G,⟨λb o e n f hx=>?_,λb o e n f hx=>?_,λb o e n hx=>?_,λb o e hx=>?_,λb xs e=>sV b xs (I.base.sV b xs e),λb o xs e=>rm b o xs (I.base.rm b o xs e),λb ps e=>?_⟩,?_,λx c e=>?_,?_,λx c e=>?_,λp D=>?_,aX,I.len⟩
 .exact keep b o (C b o e) f (j b o e hx) (I.base.keep b o e n f hx) (I.base.free b o e n hx)
 .let⟨sl,a⟩:=I.base.slot b o e n f hx;let⟨t,y⟩:=slot b _ (C b o e) f (j b o e hx) a (I.base.free b o e n hx);show⟨t,y⟩
 .let⟨o',a⟩:=I.base.there b o e hx;show free b o' (j b o e hx) a (I.base.free b o e n hx)
 .let⟨o',a⟩:=I.base.there b o e hx;show there b o' (j b o e hx) a
 .let⟨L,a⟩:=I.base.uX b ps e;grind
 .let⟨m,E,F⟩:=I.loc;show⟨m,ns m E,λi x v a y J=>?_⟩;let⟨u,r,l⟩:=F i x v a y J;show⟨u,r,?_⟩;rcases l with l | ⟨k,c,e,z⟩
  .exact .inl l
  show .inr ⟨k,c,e,cellK x c e _ z⟩
 .let⟨v,z⟩:=I.cell x c e;show⟨v,cellK x c e v z⟩
 .obtain⟨m,⟨o,_,_,g,_⟩,_⟩:=I.loc;show free _ o (λz=>(h _ z).2.1 rfl) g I.free
 .let⟨v,o,g,hd⟩:=I.cell x c e;show free c o (λz=>(h c z).2.2.1 x c e rfl) g (I.oH x c e)
 let⟨e,n,ne,K,d⟩:=I.pin p D;grind
def Inv.un(I:Inv X J' σ H s)(u:Un X.fs [] H H' s.heap h')(aX:eX X.prog X.w H' h'):Inv X J' σ H' { s with heap:=h',toks:=t' }:=by
 symm;obtain⟨m,⟨o,t,v,g,r⟩,_⟩:=id I.loc;let⟨sl,j⟩:=u.any g I.free ∅
 show I.step (g':=s.gens) (d':=s.drawn) (ch:=[]) (λ_ z=>nomatch z) (λb o _ d _ e n=>u.keep b o e n d (by trivial)) (λb o _ d _ e n=>u.slot b o e n d (by trivial)) (λb o _ e n=>u.free b o e n (by trivial)) (λb o _ e=>u.there b o e (by trivial)) u.sV u.rm u.uX (λq hm=>by
  symm;let⟨o',p,i,f,h⟩:=hm;rw[g] at f;cases f;show⟨_,p,i,j,h⟩) aX I.bare
def Inv.call(I:Inv X J' σ H s)(u:Un (oG X.stack) ch H H' s.heap h')(aX:eX X.prog X.w H' h')(t:AllBare g')
  (g:∀b∈ch,(b∈X.ex\/X.gm.heap.objs.size<=b)/\b≠X.env.locals/\(∀x c,X.env.cells.lookup x\c->c≠b)/\∀p∈X.pn++J',p.1≠b) :
  Inv X J' σ H' { s with heap:=h',gens:=g',drawn:=d',toks:=t' }:=by
 symm;obtain⟨m,⟨o,B,C,i,r⟩,_⟩:=id I.loc;let⟨sl,f⟩:=u.any i I.free λz=>(g _ z).2.1 rfl
 show I.step (ch:=ch) g (λb o f v d e n=>u.keep b o e n (λz=>(bM.mp (I.LR b z)).elim f v) d) (λb o _ _ d e n=>u.any e n d) (λb o d e n=>u.free b o e n d) (λb o d e=>u.there b o e d) u.sV u.rm u.uX (λA hm=>by
  symm;let⟨o',y,q,h,j⟩:=hm;rw[i] at h;cases h;show⟨_,y,q,f,j⟩) aX t
def Inv.turned(I:Inv X J' σ H s)(k:∀b o,b≠a->s.heap.get? b\o->h'.get? b\o)(i:H a=none)(g:a≠X.env.locals)
  (w:a∈X.ex\/X.gm.heap.objs.size<=a) (t:∀x c,X.env.cells.lookup x\c->c≠a) (l:∀p∈X.pn++J',p.1≠a):Inv X J' σ H { s with heap:=h',toks:=t' }:=by
 have f:∀b u,H b\u->b≠a:=λb u e z=>by rw[z,i] at e;cases e
 show I.step (g':=s.gens) (d':=s.drawn) (ch:=[a]) (λb j=>?_) (λb o _ _ d e _=>k b o (λz=>d (by show z▸.head _)) e) (λb o _ _ d e _=>⟨o.slots,k b o (λz=>d (by show z▸.head _)) e⟩) (λ_ _ _ _ n=>n)
  (λb o d e=>⟨o,k b o (λz=>d (by show z▸.head _)) e⟩) (λ_ _ e=>e) (λ_ _ _ e=>e) (λb ps e=>⟨#[],by rw[e];rfl⟩) (λm hm=>?_) (λb u e=>?_) I.bare
 .have e:b=a:=by simpa using j
  subst e;show⟨w,g,t,l⟩
 .let⟨o,y,A,h,r⟩:=hm;show⟨o,y,A,k _ o (Ne.symm g) h,r⟩
 show(I.aX b u e).kh (λc v d q=>k c v ?_ q) (λ_ q=>q) λ_ _ q=>q
 rcases d with z | z
 .rw[z];show f b u e
 show f c _ z
theorem Inv.tok(I:Inv X J' σ H s)(t):Inv X J' σ H { s with toks:=t }:=I.un (h':=s.heap) (t':=t) Un.refl I.aX
theorem Inv.kept(I:Inv X J' σ H s)(k:∀b u,s.heap.get? b\u->h'.get? b\u):Inv X J' σ H { s with heap:=h',toks:=t' }:=I.un (Un.kept k) (I.aX.kept k)
theorem Inv.laid{a:ag}(I:Inv X J' σ H s)(k:∀b u,s.heap.get? b\u->h'.get? b\u)(c:*...*<=a)(new:fQ X.prog X.w (upd H a o) h' a o) :
  Inv X J' σ (upd H a o) { s with heap:=h',toks:=t' }:=I.un (Un.laid k c (I.aX.fresh c)) (I.aX.laid k c new)
theorem Inv.write(I:Inv X J' σ H s)(c:Ci (H x))(d:e=x\/H e\.own x)(k:∀b u,b≠e->s.heap.get? b\u->h'.get? b\u)(a:∃u,h'.get? e\u)
  (new:fQ X.prog X.w (upd H x o) h' x o):Inv X J' σ (upd H x o) { s with heap:=h',toks:=t' }:=I.un (Un.write c d k a) (I.aX.write c d k a new)
theorem Inv.WW(I:Inv X J' σ H s)(h:∀p∈a,s.heap.get? p.1\p.2/\H p.1=none/\p.1≠X.env.locals/\p.1∉X.fs/\∀v,p.2.data≠.cell v):Inv X a σ H s:=
 ⟨I.ok,I.os,I.bare,I.base,I.loc,I.cell,I.free,I.oH,λp b=>(bJ.mp b).elim (λz=>I.pin p (ie _ z)) (h p),I.aX,I.len⟩
def UP{N:List aa}(hN:N.Nodup){i j:Nat}(a:N[i]?\x)(b:N[j]?\x):i=j:=by
 let⟨f,d⟩:=cH.mp a;let⟨e,c⟩:=cH.mp b;show(P4 hN).mp (d.trans c.symm)
def Vu(I:Inv X J' σ H s)(hN:X.N.Nodup)(hi:X.N[i]?\x)(hx:Loc X.env.scope x)(r:RelV v u)
  (h:∀P,Inv X J' (σ.set i (some v)) H P->(∃a,j4 a s.heap P.heap/\(a=X.env.locals\/X.env.cells.lookup x\a))->Q () P) (hf:X.fn x=true\/X.env.scope.names.lookup x\.local:=by first | show .inl rfl | show .inr rfl | assumption):wpAny M A (storeName X.env x u) Q E s:=by
 symm;let⟨m,U,hl⟩:=id I.loc;have Y:(X.env.scope.kind==.class||(X.env.scope.kind==.module&&X.env.locals != X.env.globals))=false:=by rw[I.ok.kind];rfl
 have X3:i<σ.length:=by rw[I.len];show(cH.mp hi).1
 have vB:=I.vB;have tracked:∀{a:ag}{h':aB},(∃o,s.heap.get? a\o/\H a=none)->j4 a s.heap h'->eX X.prog X.w H h':=λ{a h'} ha f b ob e=>by
  let⟨l,l,jP⟩:=ha;show(I.aX b ob e).kh (λc K t q=>(f.2 c ?_).trans q) (λ_ q=>q) λ_ _ q=>q
  grind
 rcases hx with C | C
 .refine wpAny_storeName_local C U (λh' xS f=>?_) Y;let⟨oL,l,l,ni,l⟩:=id U;show h _ ⟨I.ok,I.os,I.bare,⟨λb o e n F hx=>?_,λb o e n F hx=>?_,I.base.free,λb o e hx=>?_,I.base.sV,I.base.rm,I.base.uX⟩,⟨_,xS,λj y L g B W=>?_⟩,λy c e=>?_,I.free,I.oH,λp T=>?_,tracked ⟨oL,ni,I.free⟩ f,by simpa using I.len⟩ ⟨_,f,.inl rfl⟩
  .exact(f.2 b (cg (iR (bI e) I.ok.above))).trans (I.base.keep b o e n F hx)
  .let⟨sl,g⟩:=I.base.slot b o e n F hx;show⟨sl,(f.2 b (cg (iR (bI e) I.ok.above))).trans g⟩
  .let⟨o',g⟩:=I.base.there b o e hx;show⟨o',(f.2 b (cg (iR (bI e) I.ok.above))).trans g⟩
  .by_cases D:j=i
   .subst D;rw[hi] at g;cases g;rw[HW X3] at B;cases B;show⟨u,r,.inl ⟨C,∅⟩⟩
   rw[QG (Ne.symm D)] at B;let⟨O,R,q⟩:=hl j y L g B W;show⟨O,R,?_⟩;rcases q with⟨k,e⟩ | ⟨k,c,e,z⟩
   .refine .inl ⟨k,?_⟩;have:y≠x:=λe=>D (UP hN g (e▸hi))
    simp[this,e]
   show .inr ⟨k,c,e,z.sameBut f (vB y c e)⟩
  .let⟨K,z⟩:=I.cell y c e;show⟨K,z.sameBut f (vB y c e)⟩
  let⟨e,n,ne,S,d⟩:=I.pin p T;show⟨(f.2 p.1 ne).trans e,n,ne,S,d⟩
 have Z:X.fn x=true:=by
  rcases hf with z | z
  .exact z
  rw[z] at C;cases C
 let⟨c,t⟩:=I.ok.has x (.inl C);let⟨K,z⟩:=I.cell x c t;show wpAny_storeName_cell I.ok.kind C t z (λh' oF f=>?_);let⟨oc,BH,acP⟩:=id z;show h { s with heap:=h' } ⟨I.ok,I.os,I.bare,⟨λb o e n F hx=>?_,λb o e n F hx=>?_,I.base.free,λb o e hx=>?_,I.base.sV,I.base.rm,I.base.uX⟩,⟨m,U.sameBut f (Ne.symm (vB x c t)),λj y L g B W=>?_⟩,λy J e=>?_,I.free,I.oH,λp T=>?_,tracked ⟨oc,BH,I.oH x c t⟩ f,by simpa using I.len⟩ ⟨c,f,.inr t⟩
 .exact(f.2 b (cg (iR (bI e) (I.ok.cab x c Z t)))).trans (I.base.keep b o e n F hx)
 .let⟨sl,g⟩:=I.base.slot b o e n F hx;show⟨sl,(f.2 b (cg (iR (bI e) (I.ok.cab x c Z t)))).trans g⟩
 .let⟨o',g⟩:=I.base.there b o e hx;show⟨o',(f.2 b (cg (iR (bI e) (I.ok.cab x c Z t)))).trans g⟩
 .by_cases D:j=i
  .subst D;rw[hi] at g;cases g;rw[HW X3] at B;cases B;show⟨u,r,.inr ⟨.inl C,c,t,oF⟩⟩
  rw[QG (Ne.symm D)] at B;let⟨O,R,q⟩:=hl j y L g B W;show⟨O,R,?_⟩;rcases q with q | ⟨k,J,e,z'⟩
  .exact .inl q
  show .inr ⟨k,J,e,z'.sameBut f ?_⟩;rintro rfl;show D (UP hN g (I.ok.inj _ _ _ e t▸hi))
 .by_cases Yl:J=c
  .subst Yl;show⟨_,oF⟩
  let⟨w2,z2⟩:=I.cell y J e;show⟨w2,z2.sameBut f Yl⟩
 let⟨e,n,ne,S,d⟩:=I.pin p T;show⟨(f.2 p.1 ?_).trans e,n,ne,S,d⟩;grind
theorem UO(I:Inv X J' σ H s)(hN:X.N.Nodup)(hi:X.N[i]?\x)(hx:Loc X.env.scope x)(r:RelV v u)
  (h:∀a,Inv X J' (σ.set i (some v)) H a->Q () a) (b:X.fn x=true\/X.env.scope.names.lookup x\.local:=by first | show .inl rfl | show .inr rfl | assumption):wpAny M A (storeName X.env x u) Q E s:=
 Vu I hN hi hx r (λa c _=>h a c) b
def Inv.abx(I:Inv X J' σ H s)(f:a.os=s.os)(u:Un (oG X.stack) ch H H' s.heap a.heap)(aX:eX X.prog X.w H' a.heap)(g:AllBare a.gens)
  (d:∀b∈ch,(b∈X.ex\/X.gm.heap.objs.size<=b)/\b≠X.env.locals/\(∀x c,X.env.cells.lookup x\c->c≠b)/\∀p∈X.pn++J',p.1≠b):Inv X J' σ H' a:=by
 let⟨h',g',d',t',o'⟩:=a;have e:o'=s.os:=f;subst e;show I.call (g':=g') (t':=t') (d':=d') u aX g d
end
abbrev XK:=af->Option ag->Hp->Prop
abbrev St:=List (Option V)
abbrev VK:=V->Hp->Prop
abbrev TE:=St->Hp->VK->Prop
abbrev TT:=St->Hp->(Bool->Hp->Prop)->Prop
abbrev TA:=St->Hp->(List V->Hp->Prop)->Prop
structure Ends where
 nx:St->Hp->Prop
 rt:VK
 bk:St->Hp->Prop:=λ_ _=>False
 ct:St->Hp->Prop:=λ_ _=>False
abbrev TS:=Ends->St->Hp->Prop
def EP(X:Cx)(c:List (ag×aR))(a:St)(Q:VK)(u:af)(b:aj):Prop:=∃v H',Inv X c a H' b/\RelV v u/\Q v H'
def TP(X:Cx)(d:List (ag×aR))(a:St)(Q:Bool->Hp->Prop)(b:Bool)(c:aj):Prop:=∃H',Inv X d a H' c/\Q b H'
def AP(X:Cx)(d:List (ag×aR))(b:St)(Q:List V->Hp->Prop)(us:List af)(c:aj):Prop:=∃a H',Inv X d b H' c/\Vals a us/\Q a H'
def SP(X:Cx)(c:List (ag×aR))(D:Ends)(f:Flow)(b:aj):Prop:=
 match f with
 | .next=>∃a H',Inv X c a H' b/\D.nx a H'
 | .brk=>∃a H',Inv X c a H' b/\D.bk a H'
 | .cont=>∃a H',Inv X c a H' b/\D.ct a H'
 | .ret u=>∃v a H',Inv X c a H' b/\RelV v u/\D.rt v H'
def PE(X:Cx)(e:ay)(t:TE):Prop:=
 ∀a s (σ:St) H Q,Inv X a σ H s->t σ H Q->⇑(eval e X.env) (EP X a σ Q) X.xe s
def PT(X:Cx)(e:ay)(t:TT):Prop:=
 ∀a s (σ:St) H Q,Inv X a σ H s->t σ H Q->⇑(isTrue e X.env (eval e X.env)) (TP X a σ Q) X.xe s
def PW(X:Cx)(e:ay)(t:TT):Prop:=
 ∀whole a s (σ:St) H Q,Inv X a σ H s->t σ H Q->⇑(isTrue e X.env whole) (TP X a σ Q) X.xe s
theorem PW.pt(h:PW X e t):PT X e t:=h _
def PA(X:Cx)(b:List ay)(t:TA):Prop:=
 ∀pos a s (σ:St) H Q,Inv X a σ H s->t σ H Q->⇑(spliced (backTo pos (starEach b X.env))) (AP X a σ Q) X.xe s
def PS(X:Cx)(st:bY)(t:TS):Prop:=
 ∀a s (σ:St) H D,Inv X a σ H s->t D σ H->⇑(exec st X.env) (SP X a D) X.xe s
def kB(X:Cx)(st:List bY)(t:TS):Prop:=
 ∀a s (σ:St) H D,Inv X a σ H s->t D σ H->⇑(execs st X.env) (SP X a D) X.xe s
theorem aW{Q c:b->aj->Prop}(h:wpAny M A t Q E s)(d:∀a s,Q a s->c a s):wpAny M A t c E s:=ja h d λ_ _ x=>x
section
variable{X:Cx}
def bin(t:PE X a k)(r:PE X b j){c:St}{R:V->V->Hp->Prop}(I:Inv X e c H s)(h:k c H λx H1=>j c H1 λy d=>R x y d)
    {f:af->af->Sem i}
  (q:∀v u s2 x y d,Inv X e c d s2->RelV x v->RelV y u->R x y d->⇑(f v u) Q X.xe s2) :
  ⇑(eval a X.env) (λv z=>⇑(eval b X.env) (λu p=>⇑(f v u) Q X.xe p) X.xe z) X.xe s:=by
 show aW (t e s c H _ I h) λv s1 g=>?_
 let⟨x,H1,C,m,o⟩:=g;show aW (r e s1 c H1 _ C o) λu s2 g=>?_
 let⟨y,d,B,l,n⟩:=g;show q v u s2 x y d B m l n
def uw(i:Nat):TE:=λσ H Q=>∃v,σ[i]?\some v/\Q v H
def tC(v:V):TE:=λ_ H Q=>Q v H
def uH(hN:X.N[i]?=some x)(hv:rB X.env.scope x)(hd:(x==("__debug__":aa))=false:=by decide)(j:(x==("__classdict__":aa))=false:=by decide):PE X (.Name x d) (uw i):=by
 intro o s σ H Q I h;symm;let⟨v,e,h⟩:=h;let⟨m,n,hl⟩:=I.loc;let⟨u,r,l⟩:=hl i x v hN e hv;have fin:EP X o σ Q u s:=⟨v,H,I,r,h⟩
 symm;rcases l with⟨b,hm⟩ | ⟨b,c,f,g⟩
 .exact GF (wpAny_loadName_local I.ok.kind b n hm fin) hd
 symm;rcases b with b | b
 .exact GF (wpAny_loadName_cell I.ok.kind b f g fin) hd
 show GF (wpAny_loadName_free I.ok.kind b f g fin j) hd
theorem SQ:PE X (.Constant (.int i) j pos) (tC (.int i)):=λ_ _ _ H _ I h=>wpAny_Constant_int ⟨.int i,H,I.tok _,⟨_,rfl⟩,h⟩
theorem zvU:PE X (.Constant (.bool b) j pos) (tC (.bl b)):=λ_ _ _ H _ I h=>Constant_bool ⟨.bl b,H,I,rfl,h⟩
theorem zuf:PE X (.Constant .none j pos) (tC .non):=λ_ _ _ H _ I h=>Constant_none ⟨.non,H,I,rfl,h⟩
theorem zug:PE X (.Constant (.str x) j pos) (tC (.str x)):=λ_ _ _ H _ I h=>Calls.Constant_str ⟨.str x,H,I.tok _,⟨_,rfl⟩,h⟩
def Gl(X:Cx)(x:aa):Prop:=X.env.kindOf x=some .globalImplicit
theorem Uu{b:St}(I:Inv X e b H s)(d:Gl X x)(c:X.mg x\u)(h:Q u s)
  (hd:(x==("__debug__":aa))=false:=by decide):⇑(eval (.Name x a) X.env) Q E s:=
 Rc I.ok.kind d (Calls.loadGlobal_global (by rw[I.ok.glob];show I.mod.glob.keeps I.bk) c h) hd
def qH{b:St}(I:Inv X i b H s)(e:Gl X x)(d:X.mg x=none)(hv:bootBuiltins x\u)(h:Q u s)
  (c:x≠"__name__":=by decide) (hd:(x==("__debug__":aa))=false:=by decide):⇑(eval (.Name x a) X.env) Q E s:=by
 let⟨j,g,f⟩:=I.mod.blt;show Rc I.ok.kind e (Calls.loadGlobal_builtin (by rw[I.ok.glob];show I.mod.glob.keeps I.bk) d (by rw[I.ok.blt];show g.keeps I.bk) ((f x c).trans hv) h) hd
variable{a b:ay}{ta tb:TE}
def PC(X:Cx)(op:CmpOp)(a b:ay)(t:TE):Prop:=
 ∀c s (σ:St) H Q,Inv X c σ H s->t σ H Q->
  ⇑(eval a X.env) (λv e=>⇑(eval b X.env) (λu d=>⇑(compareOp op v u) (EP X c σ Q) X.xe d) X.xe e) X.xe s
def zpZ(b)(h:op≠.In)(a:op≠.NotIn):behindInMarks op b=false:=by
 have d:(op==OB)=false:=by cases op<;>first | rfl | show absurd rfl h
 have c:(op==OQ)=false:=by cases op<;>first | rfl | show absurd rfl a
 cases b<;>simp[behindInMarks,d,c]
def tB(t:TE):TT:=λσ H Q=>t σ H λx H1=>∃c,x=.bl c/\Q c H1
def zwQ(h:PC X op a b t)(e:behindInMarks op b=false:=by first | show zpZ _ (by decide) (by decide) | rfl):PT X (.Compare a [op] [b] pos) (tB t):=by
 intro k s σ H Q I hw;show QO (aW (h k s σ H _ I hw) λv s1 e=>aW e λu s2 i=>aW i λc s3 j=>?_) e;let⟨x,H1,l,f,g⟩:=j;let⟨d,rfl,q⟩:=g;cases f;show oU ⟨H1,l,q⟩
def zuh(h:PE X e t)(c:∀whole,isTrue e X.env whole=(do let v <-whole;standAt e.pos;holding [v] (truthy v)):=by intro _;rfl):PT X e (tB t):=by
 intro g s σ H Q I hw;show isTrue_plain (aW (h g s σ H _ I hw) λv s1 f=>?_) (c _);let⟨x,H1,i,a,b⟩:=f;let⟨d,rfl,q⟩:=b;cases a;show oU ⟨H1,i,q⟩
variable{rest:List ay}
def ZW(t u:TT):TT:=λσ H Q=>t σ H λc H1=>if c=true then u σ H1 Q else Q false H1
def tOr(t u:TT):TT:=λσ H Q=>t σ H λc H1=>if c=true then Q true H1 else u σ H1 Q
def ZV(t:TT):TT:=λσ H Q=>t σ H λc H1=>Q (!c) H1
def zsq(b:PT X a tA):PW X (.BoolOp .And [a] pos) tA:=by
 intro f d s σ H Q I h;show isTrue_and (aW (b d s σ H Q I h) λc s1 e=>?_);cases c with
 | true=>show isTrue_and_nil e
 | false=>show e
def zui(b:PT X a tA):PW X (.BoolOp .Or [a] pos) tA:=by
 intro f d s σ H Q I h;show isTrue_or (aW (b d s σ H Q I h) λc s1 e=>?_);cases c with
 | false=>show isTrue_or_nil e
 | true=>show e
def zuj(j:PT X a tA)(i:PW X (.BoolOp .And (b::rest) pos) EV):PW X (.BoolOp .And (a::b::rest) pos) (ZW tA EV):=by
 intro g e s σ H Q I h;show isTrue_and (aW (j e s σ H _ I h) λc s1 k=>?_);let⟨H1,f,d⟩:=k;cases c with
 | true=>show i g e s1 σ H1 Q f d
 | false=>show⟨H1,f,d⟩
def zvV(j:PT X a tA)(i:PW X (.BoolOp .Or (b::rest) pos) EV):PW X (.BoolOp .Or (a::b::rest) pos) (tOr tA EV):=by
 intro g e s σ H Q I h;show isTrue_or (aW (j e s σ H _ I h) λc s1 k=>?_);let⟨H1,f,d⟩:=k;cases c with
 | true=>show⟨H1,f,d⟩
 | false=>show i g e s1 σ H1 Q f d
def zuk(b:PT X a tA):PT X (.UnaryOp .Not a pos) (ZV tA):=by
 intro d s σ H Q I h;show isTrue_not (b d s σ H (λc H1=>Q (!c) H1) I h)
def zvW(ta tb:TE):TE:=λσ H Q=>ta σ H λx H1=>∃c,x=.bl c/\if c=true then tb σ H1 Q else Q (.bl false) H1
def ZU(ta tb:TE):TE:=λσ H Q=>ta σ H λx H1=>∃c,x=.bl c/\if c=true then Q (.bl true) H1 else tb σ H1 Q
def zvX(ta:TE):TE:=λσ H Q=>ta σ H λx H1=>∃c,x=.bl c/\Q (.bl (!c)) H1
theorem zul(h:PE X a t):PE X (.BoolOp op [a] pos) t:=λb s σ H Q I hw=>BoolOp_one (h b s σ H Q I hw)
def zum(j:PE X a ta)(i:PE X (.BoolOp .And (b::rest) pos) tb):PE X (.BoolOp .And (a::b::rest) pos) (zvW ta tb):=by
 intro e s σ H Q I h;show BoolOp_and (aW (j e s σ H _ I h) λv s1 k=>?_);let⟨x,H1,f,g,d⟩:=k;let⟨c,rfl,d⟩:=d;cases g;show oU ?_;cases c with
 | true=>show i e s1 σ H1 Q f d
 | false=>show⟨.bl false,H1,f,rfl,d⟩
def zvY(j:PE X a ta)(i:PE X (.BoolOp .Or (b::rest) pos) tb):PE X (.BoolOp .Or (a::b::rest) pos) (ZU ta tb):=by
 intro e s σ H Q I h;show BoolOp_or (aW (j e s σ H _ I h) λv s1 k=>?_);let⟨x,H1,f,g,d⟩:=k;let⟨c,rfl,d⟩:=d;cases g;show oU ?_;cases c with
 | false=>show i e s1 σ H1 Q f d
 | true=>show⟨.bl true,H1,f,rfl,d⟩
def zun(e:PE X a ta):PE X (.UnaryOp .Not a pos) (zvX ta):=by
 intro g s σ H Q I h;show UnaryOp_ (aW (e g s σ H _ I h) λv s1 f=>?_);let⟨x,H1,i,d,b⟩:=f;let⟨c,rfl,b⟩:=b;cases d;show not_of (oU ⟨.bl (!c),H1,i,rfl,b⟩)
def tIf(t:TT)(ta tb:TE):TE:=λσ H Q=>t σ H λc H1=>if c=true then ta σ H1 Q else tb σ H1 Q
def zp0(i:PT X c tA)(k:PE X a ta)(j:PE X b tb):PE X (.IfExp c a b pos) (tIf tA ta tb):=by
 intro e s σ H Q I h;show wpAny_IfExp (aW (i e s σ H _ I h) λd s1 l=>?_);let⟨H1,g,f⟩:=l;cases d with
 | true=>show k e s1 σ H1 Q g f
 | false=>show j e s1 σ H1 Q g f
end
def bU(K:ar)(H:Hp)(a:ag)(xs:List V):Prop:=
 Rd H a (.lst xs)\/
  ∃o its n,K.lookup a=some o/\o.cls=.type "list"/\o.dict=none/\o.data=.seq its n/\its.size<=sizeLine/\Vals xs its.toList
def cN(K:ar)(H:Hp)(a:ag)(xs:List V):Prop:=
 Rd H a (.tup xs)\/
  ∃o its n,K.lookup a=some o/\o.cls=.type "tuple"/\o.data=.seq its n/\its.size<=sizeLine/\Vals xs its.toList
def ZT:af->Option V
 | .none=>some .non
 | .bool b=>some (.bl b)
 | .int i _=>some (.int i)
 | .str x _=>some (.str x)
 | .bytes b _=>some (.F2 b)
 | .float b _=>some (.FY b)
 | .ref a=>some (.ref a)
 | .type n=>some (.ty n)
 | _=>none
def RelV.abs(r:RelV x u):ZT u\x:=by
 cases x with
 | non=>cases r;rfl
 | bl _=>cases r;rfl
 | int _=>let⟨t,rfl⟩:=r;rfl
 | str _=>let⟨t,rfl⟩:=r;rfl
 | F2 _=>let⟨t,rfl⟩:=r;rfl
 | FY _=>let⟨t,rfl⟩:=r;rfl
 | ref _=>cases r;rfl
 | ty _=>cases r;rfl
theorem RelV.inj(r:RelV x u)(q:RelV y u):x=y:=rQ (r.abs.symm.trans q.abs)
def Vals.inj(h:Vals xs us)(k:Vals ys us):xs=ys:=by
 induction h generalizing ys with
 | nil=>cases k;rfl
 | cons r t b=>
  cases k with
  | cons a t'=>rw[r.inj a,b t']
section
variable{σ:St}
theorem bU.of{K:ar}(h:H a\.lst xs):bU K H a xs:=.inl (.inl h)
theorem cN.of{K:ar}(h:H a\.tup xs):cN K H a xs:=.inl (.inl h)
def Inv.list(I:Inv X J' σ H s)(h:bU X.K H a xs):∃its:List af,Vals xs its/\PlainL s.heap a its.toArray/\xs.length<=sizeLine:=by
 symm;rcases h with h | ⟨o,its,n,d,f,hd,b,hz,r⟩
 .symm;let⟨z,its,n,r,e⟩:=h.ok I.aX;show⟨its,r,⟨_,n,e,rfl,rfl,rfl⟩,z⟩
 show⟨its.toList,r,⟨o,n,I.ng a o d,f,hd,by simpa using b⟩,?_⟩;have e:=r.length;simp![di] at e;cbv
def Inv.tuple(I:Inv X J' σ H s)(h:cN X.K H a xs):∃its:List af,Vals xs its/\IsTup s.heap a its.toArray/\xs.length<=sizeLine:=by
 symm;rcases h with h | ⟨o,its,n,d,f,b,hz,r⟩
 .let⟨z,its,r,p⟩:=h.ok I.aX;show⟨its,r,p,z⟩
 show⟨its.toList,r,⟨o,I.ng a o d,f,n,by simpa using b⟩,?_⟩;have e:=r.length;simp![di] at e;cbv
def Inv.Bv(I:Inv X J' σ H s)(h:bU X.K H a xs)(h':bU X.K H a ys):xs=ys:=by
 symm;obtain⟨its,r,⟨o,n,e,_,_,d⟩,_⟩:=I.list h;obtain⟨its',f,⟨o',i,b,_,_,d'⟩,_⟩:=I.list h';rw[e] at b;cases b;rw[d] at d';injection d' with g _
 have:its=its':=by simpa using congrArg O0 g
 subst this;show r.inj f
def Inv.Wz(I:Inv X J' σ H s)(h:cN X.K H a xs)(h':cN X.K H a ys):xs=ys:=by
 symm;obtain⟨its,r,⟨o,e,_,n,d⟩,_⟩:=I.tuple h;obtain⟨its',f,⟨o',b,_,i,d'⟩,_⟩:=I.tuple h';rw[e] at b;cases b;rw[d] at d';injection d' with g _
 have:its=its':=by simpa using congrArg O0 g
 subst this;show r.inj f
end
abbrev Cx.pB(X:Cx)(E:af->aj->Prop):Cx:={ X with xe:=E }
abbrev Cx.nc(X:Cx):Cx:=X.pB λ_ _=>False
theorem Cx.Ok.pB{X:Cx}(ok:X.Ok)(E):(X.pB E).Ok:=
 ⟨ok.mod,ok.kind,ok.glob,ok.blt,ok.above,ok.inj,ok.has,ok.cab,ok.hd,ok.frames,ok.EX,ok.exf,ok.bs,ok.tP,ok.Bp,ok.B7,ok.nr,ok.vx⟩
theorem Cx.Ok.sU{X:Cx}(ok:(X.pB E).Ok):X.Ok:=
 ⟨ok.mod,ok.kind,ok.glob,ok.blt,ok.above,ok.inj,ok.has,ok.cab,ok.hd,ok.frames,ok.EX,ok.exf,ok.bs,ok.tP,ok.Bp,ok.B7,ok.nr,ok.vx⟩
section
variable{σ:St}
theorem Inv.pB(I:Inv X J' σ H s)(E):Inv (X.pB E) J' σ H s:=⟨I.ok.pB E,I.os,I.bare,I.base,I.loc,I.cell,I.free,I.oH,I.pin,I.aX,I.len⟩
theorem Inv.sU(I:Inv (X.pB E) J' σ H s):Inv X J' σ H s:=⟨I.ok.sU,I.os,I.bare,I.base,I.loc,I.cell,I.free,I.oH,I.pin,I.aX,I.len⟩
def SP.sU{D:Ends}(h:SP (X.pB E) J' D f b):SP X J' D f b:=by
 cases f with
 | next=>let⟨a,H',I,q⟩:=h;show⟨a,H',I.sU,q⟩
 | brk=>let⟨a,H',I,q⟩:=h;show⟨a,H',I.sU,q⟩
 | cont=>let⟨a,H',I,q⟩:=h;show⟨a,H',I.sU,q⟩
 | ret u=>let⟨v,a,H',I,r,q⟩:=h;show⟨v,a,H',I.sU,r,q⟩
theorem kB.nc{st:List bY}(h:kB X.nc st t):kB X st t:=λJ' s σ H D I hw=>
 ja (h J' s σ H D (I.pB _) hw) (λ_ _ q=>q.sU) λ_ _ z=>False.elim z
end
section
variable{st:bY}{rest:List bY}{t u:TS}{e:ay}{te:TE}
def zvZ:TS:=λD σ H=>D.nx σ H
def RK(t u:TS):TS:=λD σ H=>t { D with nx:=u D } σ H
theorem Ut:kB X [] zvZ:=λ_ _ σ H _ I h=>CQ ⟨σ,H,I,h⟩
def JV(e:PS X st t)(d:kB X rest u):kB X (st::rest) (RK t u):=by
 intro b s σ H D I h;show P2 (aW (e b s σ H { D with nx:=u D } I h) λf s1 q=>?_);cases f with
 | next=>
  symm;let⟨g,H',i,q⟩:=q;show d b s1 g H' D i q
 | ret v=>show q
 | brk=>show q
 | cont=>show q
def Jp(a:PS X st t):kB X [st] t:=by
 intro b s σ H D I h;show P2 (aW (a b s σ H D I h) λf s1 q=>?_);cases f with
 | next=>show CQ q
 | ret v=>show q
 | brk=>show q
 | cont=>show q
def Inv.quiet{a:St}(I:Inv X b a H s):interactive X.env=false:=by simp[interactive,I.ok.kind]
def zv0(te:TE):TS:=λD σ H=>te σ H λ_ H1=>D.nx σ H1
def uM(c:PE X e te)(b:swapsWith e none pos.line X.env=pure false:=by rfl):PS X (.Expr e pos) (zv0 te):=by
 intro f s σ H D I h;show wpAny_Expr_any (aW (c f s σ H _ I h) λv s1 d=>by let⟨x,H1,g,i,a⟩:=d;show⟨σ,H1,g,a⟩) I.quiet b
def ZS(te:TE):TS:=λD σ H=>te σ H D.rt
def Jm(c:PE X e te):PS X (.Return (some e) pos) (ZS te):=by
 intro f s σ H D I h;show wpAny_Return_some (aW (c f s σ H _ I h) λv s1 d=>by let⟨x,H1,g,a,b⟩:=d;show⟨x,σ,H1,g,a,b⟩)
def ZR(c:TT)(t u:TS):TS:=λD σ H=>c σ H λb H1=>if b=true then t D σ H1 else u D σ H1
def R4(i:PT X c tc)(k:kB X a t)(j:kB X b u):PS X (.If c a b pos) (ZR tc t u):=by
 intro e s σ H D I h;show wpAny_If (aW (i e s σ H _ I h) λd s1 l=>?_);let⟨H1,g,f⟩:=l;cases d with
 | true=>show k e s1 σ H1 D g f
 | false=>show j e s1 σ H1 D g f
def zup:TS:=λ_ _ _=>False
theorem zp1:PS X st zup:=λ_ _ _ _ _ _ h=>h.elim
end
abbrev TG:=V->St->Hp->(St->Hp->Prop)->Prop
abbrev rC:=List V->St->Hp->(St->Hp->Prop)->Prop
def PG(X:Cx)(a:ay)(t:TG):Prop:=
 ∀c s (σ:St) H v u Q,Inv X c σ H s->RelV v u->t v σ H Q->
  ⇑(assign a X.env u) (λ_ d=>∃b H',Inv X c b H' d/\Q b H') X.xe s
def yh(X:Cx)(ts:List ay)(t:rC):Prop:=
 ∀c s (σ:St) H a us Q,Inv X c σ H s->Vals a us->t a σ H Q->
  ⇑(assignInOrder ((assignEach ts X.env).map (·.2)) us) (λ_ d=>∃b H',Inv X c b H' d/\Q b H') X.xe s
abbrev IA:=V->V->V->Hp->(Hp->Prop)->Prop
def RJ(X:Cx)(t:IA):Prop:=
 ∀a s (σ:St) H o i v ov iv u Q,Inv X a σ H s->RelV o ov->RelV i iv->RelV v u->t o i v H Q->
  ⇑(setItem ov iv u) (λ_ b=>∃H',Inv X a σ H' b/\Q H') X.xe s
def uC(i:Nat):TG:=λv σ H Q=>Q (σ.set i (some v)) H
def Us(hN:X.N.Nodup)(hi:X.N[i]?\x)(hx:Loc X.env.scope x)(a:X.fn x=true\/X.env.scope.names.lookup x\.local:=by first | show .inl rfl | show .inr rfl | assumption):PG X (.Name x pos) (uC i):=by
 intro d s σ H v u Q I r h;show Qc (UO I hN hi hx r (λc b=>⟨_,H,b,h⟩) a)
def ZQ:rC:=λa σ H Q=>a=[]/\Q σ H
def zv2(t:TG)(u:rC):rC:=λa σ H Q=>∃v r,a=v::r/\t v σ H λb H'=>u r b H' Q
def zsr:yh X [] ZQ:=by
 intro d s σ H b us Q I r h;symm;let⟨e,h⟩:=h;subst e;cases r;show assignInOrder_nil ⟨σ,H,I,h⟩
def zp2(j:PG X e t)(i:yh X a u)
  (g:(assignEach (e::a) X.env).map (·.2)=assign e X.env::(assignEach a X.env).map (·.2):=by rfl):yh X (e::a) (zv2 t u):=by
 intro b s σ H n us Q I r h;let⟨v,o,k,h⟩:=h;subst k;cases r with
 | cons r d=>
  rw[g];show assignInOrder_cons (aW (j b s σ H _ _ _ I r h) λ_ s1 l=>?_);let⟨c,H1,m,f⟩:=l;show i b s1 c H1 _ _ Q m d f
def ZP(K:ar)(n:Nat)(t:rC):TG:=λv σ H Q=>∃a xs,v=.ref a/\cN K H a xs/\xs.length=n/\t xs σ H Q
def zuq(p:X.calm=true)(h:yh X d t)
  (m:(assignEach d X.env).length=n:=by rfl) (w:(assignEach d X.env).findIdx? (·.1)=none:=by rfl):PG X (.Tuple d k pos) (ZP X.K n t):=by
 intro g s σ H v u Q I r hw;symm;let⟨a,xs,q,j,hl,hw⟩:=hw;subst q;cases r;symm;let⟨its,f,i,hz⟩:=I.tuple j;show assign_Tuple_tuple (I.ok.hd p) i (by simp[m,<-hl,f.length]) w λh' hx=>?_
 have x:Inv X g σ H { s with heap:=h' }:=I.kept (t':=s.toks) λb o e=>hx b o (cg (bI e)) e
 show h g _ σ H xs _ Q x (by simpa using f) hw
def ZO(to a:TE)(t:IA):TG:=λv σ H Q=>to σ H λo H1=>a σ H1 λi c=>t o i v c λb=>Q σ b
def zur(l:PE X o to)(hi:PE X i c)(k:RJ X t)
  (m:∀v,assign (.Subscript o i pos) X.env v=(do
   let ov <-holding [v] (eval o X.env)
   let iv <-holding [v,ov] (eval i X.env)
   standAt pos
   holding [v,ov,iv] (setItem ov iv v)
   release [v,ov,iv] []):=by intro _;rfl):PG X (.Subscript o i pos) (ZO to c t):=by
 intro b s σ H v u Q I r h;rw[m];show aq (fZ (aW (l b s σ H _ I h) λov s1 a=>?_));let⟨x,H1,q,e,j⟩:=a;show aq (fZ (aW (hi b s1 σ H1 _ q j) λiv s2 a=>?_));let⟨y,z,p,d,g⟩:=a;show aq (za (aq (fZ (aW (k b s2 σ z x y v ov iv u _ p e d r g) λ_ s3 a=>?_))));let⟨w,n,f⟩:=a;show wpAny_release ⟨σ,w,n,f⟩
def zB(te:TE)(g:TG):TS:=λD σ H=>te σ H λx H1=>g x σ H1 D.nx
def SN(j:PE X e te)(i:PG X a g)(f:swapsWithSole [a] e pos.line X.env=pure false:=by rfl)(hw:swappedStores [a] e X.env=pure none:=by rfl)
  (k:(assignEach [a] X.env).map (·.2)=[assign a X.env]:=by rfl):PS X (.Assign [a] e pos) (zB te g):=by
 intro b s σ H D I h;show wpAny_Assign_stores (aW (j b s σ H _ I h) λv s1 l=>?_) f hw;let⟨x,H1,m,c,d⟩:=l;rw[k];show aW (i b s1 σ H1 x v _ m c d) λ_ s2 q=>q
def SM(hN:X.N.Nodup)(hi:X.N[i]?\x)(hx:Loc X.env.scope x)(g:PE X e te)(d:swapsWith e (some (.Name x a)) pos.line X.env=pure false:=by rfl)(f:X.fn x=true\/X.env.scope.names.lookup x\.local:=by first | show .inl rfl | show .inr rfl | assumption) :
  PS X (.Assign [.Name x a] e pos) (zB te (uC i)):=by
 intro k s σ H D I h;show wpAny_Assign_Name (aW (g k s σ H _ I h) λv s1 j=>?_) d;let⟨y,H1,m,b,c⟩:=j;show UO m hN hi hx b (λs2 l=>⟨_,H1,l,c⟩) f
def zut(c:TT)(e:TS):TS:=λD σ H=>∃W:Nat->St->Hp->Prop,(∃m,W m σ H)/\∀m σ H,W m σ H->
 c σ H λb H1=>if b=true then ∃N:St->Hp->Prop,(∀d H',N d H'->∃a,a<m/\W a d H')/\e { D with nx:=N,ct:=N,bk:=D.nx } σ H1 else D.nx σ H1
def zp3(m:PassesOwn (model X.prog X.w) X.A X.env X.xe)(x:PT X c tc)(y:kB X body j):PS X (.While c body [] pos) (zut tc j):=by
 intro i s σ H D I h;symm;obtain⟨W,⟨m0,r⟩,turn⟩:=h;show wpAny_While (codeAny_whileLoop (λn t=>∃o H',Inv X i o H' t/\W n o H') ?_ m0 ⟨σ,H,I,r⟩);rintro n s1 ⟨d,H1,C,w1⟩;show t9 m (aW (x i s1 d H1 _ C (turn n d H1 w1)) λb s2 z=>?_);let⟨q,p,g⟩:=z;cases b with
 | true=>
  let⟨N,hN,g⟩:=g;rw[if_pos rfl];show t9 m (aW (y i s2 d q _ p g) λf s3 e=>?_);cases f with
  | next=>
   symm;let⟨u,E,B,n3⟩:=e;grind
  | cont=>
   symm;let⟨u,E,B,n3⟩:=e;grind
  | brk=>show e
  | ret v=>show e
 | false=>
  rw[if_neg i9];show CQ ⟨d,q,p,g⟩
structure It where
 go:Nat->Hp->Prop
 EO:Nat->Hp->V->Hp->Prop
 stop:Nat->Hp->Prop
def mq(X:Cx)(a:List (ag×aR))(H:Hp)(b:ag):Prop:=
 H b=none/\b≠X.env.locals/\b∉X.fs/\(b∈X.ex\/X.gm.heap.objs.size<=b)/\(∀x c,X.env.cells.lookup x\c->c≠b)/\∀p∈X.pn++a,p.1≠b
def Inv.tL{f:St}{b:ag}(I:Inv X d f H s)(a:*...*<=b)(h:H' b=none):mq X d H' b:=by
 show⟨h,nJ (iR I.lt a),I.aaC a,.inr (bX I.sz a),λx c e z=>?_,λp g z=>?_⟩
 .let⟨v,q⟩:=I.cell x c e;show absurd (iR q.lt (by rw[z];show a)) (pZ _)
 show absurd (iR (bI (I.pin p g).1) (by rw[z];show a)) (pZ _)
structure Turn(P:aG)(w:aF)(K:ar)(tg:ay)(J:It)(fp:List ag)(it:ag)(tn:Nat->aB->Prop):Prop where
 mem:it∈fp
 obj:∀i h,tn i h->∀b∈fp,∃o,h.get? b\o/\∀v,o.data≠.cell v
 keep:∀i h h',tn i h->(∀b∈fp,∀o,h.get? b\o->h'.get? b\o)->tn i h'
 item:∀(X:Cx),X.prog=P->X.w=w->X.K=K->X.calm=true->∀(i:Nat)(J':List (ag×aR))(s:aj)(σ:St)(H:Hp)(E:af->aj->Prop),Inv X J' σ H s->(∀b∈fp,mq X J' H b)->tn i s.heap->J.go i H->
  wpAny (model P w) X.A (pyNext (.ref it)) (λr s1=>∃u,r\u/\
   wpAny (model P w) X.A (letOwnedTupleGo tg (.ref it) u) (λ_ s2=>∃x H',Inv X J' σ H' s2/\RelV x u/\J.EO i H x H'/\tn (i+1) s2.heap/\∀b∈fp,H' b=none) E s1) E s
 done:∀(X:Cx),X.prog=P->X.w=w->X.K=K->X.calm=true->∀(i:Nat)(J':List (ag×aR))(s:aj)(σ:St)(H:Hp)(E:af->aj->Prop),Inv X J' σ H s->(∀b∈fp,mq X J' H b)->tn i s.heap->J.stop i H->
  wpAny (model P w) X.A (pyNext (.ref it)) (λr s1=>r=none/\Inv X J' σ H s1) E s
 self:∀(A:bh)(i:Nat)(s:aj)(Q:af->aj->Prop)(E:af->aj->Prop),tn i s.heap->Q (.ref it) s->wpAny (model P w) A (pyIter (.ref it)) Q E s
abbrev TI:=St->Hp->(It->Hp->Prop)->Prop
def F8(X:Cx)(d:List (ag×aR))(e:St)(f:ay)(R:It->Hp->Prop)(g:af)(c:aj):Prop:=
 ∃it fp a J H',g=.ref it/\Inv X d e H' c/\Turn X.prog X.w X.K f J fp it a/\a 0 c.heap/\(∀b∈fp,mq X d H' b)/\R J H'
def PI(X:Cx)(d a:ay)(c:TI):Prop:=
 ∀b s (σ:St) H R,Inv X b σ H s->c σ H R->
  ⇑(eval a X.env) (λv s1=>⇑(pyIter v) (F8 X b σ d R) X.xe s1) X.xe s
def zR(e:s.heap.get? d\o)(g:o.cls=.type n)(hd:o.data=.fields b)
  (f:["enumerate","zip","dict_itemiterator","dict_reverseitemiterator","odict_iterator","itertools.zip_longest","itertools.pairwise"].contains n=false) (a:Q () s):wpAny M A (letOwnedTupleGo c (.ref d) u) Q E s:=by
 unfold letOwnedTupleGo;cases c<;>first
  | show aE a
  | (cases u<;>first
    | show aE a
    | (show aq (vR e ?_)
       rw[g,hd];show wpAny M A (if (["enumerate","zip","dict_itemiterator","dict_reverseitemiterator","odict_iterator","itertools.zip_longest","itertools.pairwise"].contains n&&b[0]?==some (rawInt _))=true then _ else _) Q E s;rw[if_neg (by intro h;rw[f,Pq] at h;cases h)];show aE a))
def Oo(K:ar)(a:ag):It:=
 ⟨λi H=>∃xs x,bU K H a xs/\xs[i]?\x,λi H x H'=>H'=H/\∀xs,bU K H a xs->xs[i]?\x,λi H=>∃xs,bU K H a xs/\xs.length<=i⟩
def Om(K:ar)(a:ag):It:=
 ⟨λi H=>∃xs x,cN K H a xs/\xs[i]?\x,λi H x H'=>H'=H/\∀xs,cN K H a xs->xs[i]?\x,λi H=>∃xs,cN K H a xs/\xs.length<=i⟩
def Cj(lo:Int)(n:Nat):It:=⟨λi _=>i<n,λi H x H'=>H'=H/\x=.int (lo+i),λi _=>n<=i⟩
def znb{K:ar}{D:ay}(a f):Turn P w K D (Oo K a) [f] f (λi h=>h.IsListIter f a i) where
 mem:=by room
 obj:=λi h st b g=>by
  have e:b=f:=by simpa using g
  subst e;symm;let⟨o,e,c,d⟩:=st;show⟨o,e,λv z=>by rw[d] at z;cases z⟩
 keep:=λi h h' st k=>st.at λo e=>k f (by room) o e
 item:=by
  intro X q hw r A i C s σ H E I hf st n;subst q hw r;symm;let⟨xs,x,j,hx⟩:=n;let⟨its,m,p,hz⟩:=I.list j;let⟨u,M,J⟩:=m.get hx;let⟨f0,f1,f2,y,f4,t⟩:=hf f (by room);show QU st p.isList (x:=u) (by simpa using M) λh' B F=>?_
  have O:Inv X C σ H { s with heap:=h' }:=I.turned (t':=s.toks) (λb o g e=>(F.2 b g).trans e) f0 f1 y f4 t;symm;let⟨o,e,c,d⟩:=id B;show⟨u,rfl,zR (s:={ s with heap:=h' }) e c d (by rfl) ⟨x,H,O,J,⟨rfl,λys L=>by rw[I.Bv L j];show hx⟩,B,λb g=>(hf b g).1⟩⟩
 done:=by
  intro X q hw r A i C s σ H E I hf st n;subst q hw r;symm;let⟨xs,j,hx⟩:=n;let⟨its,m,p,hz⟩:=I.list j;let⟨f0,f1,f2,y,f4,t⟩:=hf f (by room);have hl:=m.length;show QN (I.ok.hd A) st p.isList (by simp;cbv) λh' N=>⟨rfl,I.turned (t':=s.toks) (λb o g e=>N b o g e) f0 f1 y f4 t⟩
 self:=λ_ _ _ _ _ st h=>wpAny_pyIter_listiter st h
def zmc{K:ar}{D:ay}(a f):Turn P w K D (Om K a) [f] f (λi h=>h.IsTupleIter f a i) where
 mem:=by room
 obj:=λi h st b g=>by
  have e:b=f:=by simpa using g
  subst e;symm;let⟨o,e,c,d⟩:=st;show⟨o,e,λv z=>by rw[d] at z;cases z⟩
 keep:=λi h h' st k=>st.at λo e=>k f (by room) o e
 item:=by
  intro X q hw r A i C s σ H E I hf st n;subst q hw r;symm;let⟨xs,x,j,hx⟩:=n;let⟨its,m,p,hz⟩:=I.tuple j;let⟨u,M,J⟩:=m.get hx;let⟨f0,f1,f2,y,f4,t⟩:=hf f (by room);show wpAny_pyNext_tuple_item st (show s.heap.IsTuple a its.toArray from p) (x:=u) (by simpa using M) λh' B F=>?_
  have O:Inv X C σ H { s with heap:=h' }:=I.turned (t':=s.toks) (λb o g e=>(F.2 b g).trans e) f0 f1 y f4 t;symm;let⟨o,e,c,d⟩:=id B;show⟨u,rfl,zR (s:={ s with heap:=h' }) e c d (by rfl) ⟨x,H,O,J,⟨rfl,λys L=>by rw[I.Wz L j];show hx⟩,B,λb g=>(hf b g).1⟩⟩
 done:=by
  intro X q hw r A i C s σ H E I hf st n;subst q hw r;symm;let⟨xs,j,hx⟩:=n;let⟨its,m,p,hz⟩:=I.tuple j;let⟨f0,f1,f2,y,f4,t⟩:=hf f (by room);have hl:=m.length;show wpAny_pyNext_tuple_end (I.ok.hd A) st (show s.heap.IsTuple a its.toArray from p) (by simp;cbv) λh' N=>⟨rfl,I.turned (t':=s.toks) (λb o g e=>N b o g e) f0 f1 y f4 t⟩
 self:=λ_ _ _ _ _ st h=>wpAny_pyIter_tupleiter st h
def zmd{K:ar}(d lo n):Turn P w K y (Cj lo n) [d] d (λi h=>IsRangeIter h d (lo+(i:Nat)*1) ((n:Int)-(i:Nat)) 1) where
 mem:=by room
 obj:=λi h st b f=>by
  cbv
 keep:=λi h h' st k=>k d (by room) _ st
 item:=by
  intro X m hw p j i x s σ H E I hf st g;subst m hw p;symm;let⟨f0,f1,f2,r,f4,q⟩:=hf d (by room);have W:=Walks.range (prog:=X.prog) (w:=X.w) (I.ok.hd j) d lo 1 n;show W.item i s _ _ g st λv h' tk hv u kk=>?_
  symm;let⟨t,rfl⟩:=hv;have A:Inv X x σ H { s with heap:=h',toks:=tk }:=I.turned (λb o f e=>kk b o (by simpa using f) e) f0 f1 r f4 q;show⟨_,rfl,zR (s:={ s with heap:=h',toks:=tk }) (n:="range_iterator") u rfl rfl (by rfl) ⟨.int (lo+i),H,A,⟨t,?_⟩,⟨rfl,rfl⟩,u,λb f=>(hf b f).1⟩⟩;rw[Int.mul_one]
 done:=by
  intro X m hw p j i x s σ H E I hf st g;subst m hw p;symm;let⟨f0,f1,f2,r,f4,q⟩:=hf d (by room);show wpAny_pyNext_range_end (I.ok.hd j) st (by have:n<=i:=g;lia) λh' z=>⟨rfl,I.turned (t':=s.toks) (λb o f e=>z b o f e) f0 f1 r f4 q⟩
 self:=λ_ _ _ _ _ st h=>wpAny_pyIter_rangeiter st h
section
variable{X:Cx}
def UN{a:St}{R:It->Hp->Prop}{lo hi:Int}(I:Inv X c a H s)(i:-(2 ^ 62)<=lo)(h:lo<2 ^ 62)(g:-(2 ^ 62)<=hi)(f:hi<2 ^ 62)
  (q:R (Cj lo (hi-lo).toNat) H):⇑(pyIter (.ref *...*)) (F8 X c a tg R) E { s with heap:=s.heap.push { cls:=.type "range",data:=.fields #[.int lo t,.int hi u,.int 1 v] },toks:=tk }:=by
 show wpAny_pyIter_range (IsRange.new ..) (small_one i h g f) ?_;have d:Inv X c a H { s with heap:=s.heap.push { cls:=.type "range",data:=.fields #[.int lo t,.int hi u,.int 1 v] },toks:=tk }:=I.kept λb o e=>bW _ e
 show⟨(s.heap.push { cls:=.type "range",data:=.fields #[.int lo t,.int hi u,.int 1 v] }).objs.size,[(s.heap.push { cls:=.type "range",data:=.fields #[.int lo t,.int hi u,.int 1 v] }).objs.size],_,_,H,rfl,
  d.kept (t':=tk) λb o e=>bW _ e,zmd _ lo (hi-lo).toNat,?_,λb l=>?_,q⟩
 .have k:lo+((0:Nat):Int)*1=lo:=by simp
  have j:(((hi-lo).toNat:Nat):Int)-((0:Nat):Int)=Zu lo hi 1:=by rw[rangeSize_one];split<;>grind
  show IsRangeIter _ _ (lo+((0:Nat):Int)*1) ((((hi-lo).toNat:Nat):Int)-((0:Nat):Int)) 1;rw[k,j];show cV _ rfl
 have e:b=(s.heap.push { cls:=.type "range",data:=.fields #[.int lo t,.int hi u,.int 1 v] }).objs.size:=by show fj.1 ‹_›
 subst e;show d.tL (bB _) (d.aX.fresh (bB _))
def zv3(b:TA):TI:=λσ H R=>b σ H λa H1=>∃j:Int,a=[.int j]/\-(2 ^ 62)<=j/\j<2 ^ 62/\R (Cj 0 j.toNat) H1
def zv4(b:TA):TI:=λσ H R=>b σ H λa H1=>∃i j:Int,a=[.int i,.int j]/\(-(2 ^ 62)<=i/\i<2 ^ 62/\-(2 ^ 62)<=j/\j<2 ^ 62)/\R (Cj i (j-i).toNat) H1
def znc(u:Gl X "range")(o:X.mg "range"=none)(v:PA X [a] f)(n:starEach [a] X.env=[(false,eval a X.env)]:=by rfl):PI X tg (.Call (.Name "range" p) [a] [] b) (zv3 f):=by
 intro x s σ H R I h;show Call_ (qH I u o boot_range (wL (aW (v b x s σ H _ I h) λus s1 w=>?_) n rfl));let⟨z,H1,y,i,d⟩:=w;symm;let⟨j,e,d,m,q⟩:=d;subst e;cases i with
 | cons r g=>
  cases g;symm;let⟨t,rfl⟩:=r;show call_range_1 (UN y (by cbv) (by cbv) d m (by simpa using q))
def znd(A:Gl X "range")(z:X.mg "range"=none)(B:PA X [a,b] m)(y:starEach [a,b] X.env=[(false,eval a X.env),(false,eval b X.env)]:=by rfl)(n:starEach [b] X.env=[(false,eval b X.env)]:=by rfl) :
  PI X tg (.Call (.Name "range" p) [a,b] [] d) (zv4 m):=by
 intro C s σ H R I h;show Call_ (qH I A z boot_range (wL (aW (B d C s σ H _ I h) λus s1 ⟨E,H1,D,o,g⟩=>?_) (by rw[y,n]) (by rw[n];rfl)));symm;obtain⟨i,j,e,⟨g,x,w,v⟩,q⟩:=g;subst e;cases o with
 | cons r f=>
  cases f with
  | cons u f=>
   cases f;symm;let⟨t,rfl⟩:=r;let⟨t',rfl⟩:=u;show call_range_2 (UN D g x w v q)
def ZN(c:TI)(g:TG)(d:TS):TS:=λD σ H=>c σ H λJ H1=>∃W:Nat->Nat->St->Hp->Prop,(∃m,W 0 m σ H1)/\∀i m σ H,W i m σ H->
 (J.stop i H/\D.nx σ H)\/(J.go i H/\∃N:St->Hp->Prop,(∀b H',N b H'->∃a,a<m/\W (i+1) a b H')/\∀x H',J.EO i H x H'->g x σ H' λe f=>d { D with nx:=N,ct:=N,bk:=D.nx } e f)
def zX(fp:List ag)(h:aB):List (ag×aR):=fp.filterMap λb=>(h.get? b).map λo=>(b,o)
theorem EK(a:b∈fp)(e:h.get? b\o):(b,o)∈zX fp h:=Dc.mpr ⟨b,a,by rw[e];rfl⟩
def zne(d:p∈zX fp h):p.1∈fp/\h.get? p.1\p.2:=by
 symm;let⟨b,f,e⟩:=Dc.mp d;cases q:h.get? b with
 | none=>rw[q] at e;cases e
 | some o=>
  grind
theorem Inv.pinned{c:St}(I:Inv X a c H s)(f:∀b∈fp,mq X a H b)(h:∀b∈fp,∃o,s.heap.get? b\o/\∀v,o.data≠.cell v):Inv X (a++zX fp s.heap) c H s:=
 I.WW λp d=>(bJ.mp d).elim (λz=>I.pin p (gO _ z)) λz=>by
  let⟨g,e⟩:=zne z;let⟨f0,f1,f2,y⟩:=f p.1 g;grind
theorem Inv.ER{a:St}(I:Inv X (b++pl) a H s):Inv X b a H s:=I.WW λp c=>I.pin p (gO _ (ie _ c))
def zuu(K:PassesOwn (model X.prog X.w) X.A X.env X.xe)(hc:X.calm=true)(hi:PI X tg p Y)(hg:PG X tg g)(q:kB X body tb)
  (hs:∀x,foldedSetIterable p X.env x=pure x:=by intro _;rfl):PS X (.For tg p body [] P) (ZN Y g tb):=by
 intro C s σ H D I h;show wpAny_For (aW (hi C s σ H _ I h) λv s1 h1=>aW h1 λMi s2 h2=>?_) hs;symm;obtain⟨it,fp,Z,J,H2,e,I2,T,a9,f2,W,⟨m0,w0⟩,turn⟩:=h2;subst e
 -- aab stays true of jK acK objects through jK loop
 have U:∀{H':Hp},(∀b∈fp,H' b=none)->∀b∈fp,mq X C H' b:=λhn b q=>⟨hn b q,(f2 b q).2⟩
 show codeAny_forLoop_any (λn s'=>∃i L H',Inv X C L H' s'/\Z i s'.heap/\(∀b∈fp,H' b=none)/\W i n L H') ?_ m0 ⟨0,σ,H2,I2,a9,λb q=>(f2 b q).1,w0⟩;rintro n s3 ⟨i,F,M,I3,EY,Yz,w3⟩;symm;rcases turn i n F M w3 with⟨stop,qn⟩ | ⟨go,N,hN,step⟩
 .refine t9 K (aW (T.done X rfl rfl rfl hc i C s3 F M X.xe I3 (U Yz) EY stop) λr s4 B=>?_);let⟨Q,I4⟩:=B;subst Q;show CQ ⟨F,M,I4,qn⟩
 show t9 K (aW (T.item X rfl rfl rfl hc i C s3 F M X.xe I3 (U Yz) EY go) λr s4 B=>?_);let⟨u,Q,h4⟩:=B;subst Q;show t9 K (aW h4 λ_ s5 B=>?_);let⟨x,H5,I5,r5,y5,S,R⟩:=B;have V:=I5.pinned (U R) (T.obj _ _ S);show t9 K (aW (hg _ s5 F H5 x u _ V r5 (step x H5 y5)) λ_ s6 B=>?_);let⟨Y1,H6,I6,q6⟩:=B;show t9 K (aW (q _ s6 Y1 H6 _ I6 q6) λf O z=>?_);have again:∀{j:St}{y:Hp},Inv X (C++zX fp s5.heap) j y O->N j y->∃m,m<n/\∃i L H',Inv X C L H' O/\Z i O.heap/\(∀b∈fp,H' b=none)/\W i m L H':=λ{j y} t E=>by
  symm;let⟨m',hm,w7⟩:=hN j y E;show⟨m',hm,i+1,j,y,t.ER,T.keep _ _ _ S λb q o e=>(t.pin (b,o) (gO _ (gO _ (EK q e)))).1,λb q=>?_,w7⟩;symm;let⟨o,e,d⟩:=T.obj _ _ S b q;show(t.pin (b,o) (gO _ (gO _ (EK q e)))).2.1
 cases f with
 | next=>let⟨j,y,t,E⟩:=z;show again t E
 | cont=>let⟨j,y,t,E⟩:=z;show again t E
 | brk=>let⟨j,y,t,z⟩:=z;show⟨j,y,t.ER,z⟩
 | ret v=>let⟨x7,j,y,t,r7,z⟩:=z;show⟨x7,j,y,t.ER,r7,z⟩
end
abbrev R2:=V->V->Hp->VK->Prop
def dG(X:Cx)(f:af->af->Sem af)(r:R2):Prop:=
 ∀a s (σ:St) H x y v u Q,Inv X a σ H s->RelV x v->RelV y u->r x y H Q->
  ⇑(f v u) (EP X a σ Q) X.xe s
def Nq(X:Cx)(f:af->Sem af)(r:V->Hp->VK->Prop):Prop:=
 ∀a s (σ:St) H x v Q,Inv X a σ H s->RelV x v->r x H Q->
  ⇑(f v) (EP X a σ Q) X.xe s
def fR(X:Cx)(f:af)(r:List V->Hp->VK->Prop):Prop:=
 ∀a s (σ:St) H xs us Q,Inv X a σ H s->Vals xs us->r xs H Q->
  ⇑(call f us) (EP X a σ Q) X.xe s
def Bf(r:R2)(b a:TE):TE:=λσ H Q=>b σ H λx H1=>a σ H1 λy c=>r x y c Q
def tUn(r:V->Hp->VK->Prop)(a:TE):TE:=λσ H Q=>a σ H λx H1=>r x H1 Q
def rI(C:Int->Int->Prop)(g:Int->Int->V):R2:=λx y H Q=>∃i j,x=.int i/\y=.int j/\C i j/\Q (g i j) H
def m6(g:Int->Int->V):R2:=λx y H Q=>∃i j,x=.int i/\y=.int j/\Q (g i j) H
def rU(g:Int->V):V->Hp->VK->Prop:=λx H Q=>∃i,x=.int i/\Q (g i) H
section
variable{X:Cx}{a b c:ay}
def Iz(p:PE X a ta)(o:PE X b tb){c:St}{R:V->V->Hp->Prop}(I:Inv X e c H s)
  (h:ta c H λx H1=>tb c H1 λy d=>R x y d)  {f:af->af->Sem af}
  (n:∀v u s2 x y d,Inv X e c d s2->RelV x v->RelV y u->R x y d->⇑(f v u) Q X.xe s2) :
  ⇑(eval a X.env) (λv q=>⇑(eval b X.env) (λu m=>⇑(f v u) Q X.xe m) X.xe q) X.xe s:=by
 show aW (p e s c H _ I h) λv s1 g=>?_
 let⟨x,H1,t,j,l⟩:=g;show aW (o e s1 c H1 _ t l) λu s2 g=>?_
 let⟨y,d,r,i,k⟩:=g;show n v u s2 x y d r j i k
def R3(e:dG X (binaryOp op) r)(g:PE X a ta)(f:PE X b tb):PE X (.BinOp a op b pos) (Bf r ta tb):=by
 intro i s σ H Q I h;show wpAny_BinOp (Iz g f I h λv u s2 x y k j d c q=>e i s2 σ k x y v u Q j d c q)
def zv6(e:Nq X (unaryOp op) r)(f:PE X a ta):PE X (.UnaryOp op a pos) (tUn r ta):=by
 intro b s σ H Q I h;show UnaryOp_ (aW (f b s σ H _ I h) λv s1 g=>by let⟨x,H1,i,c,d⟩:=g;show e b s1 σ H1 x v Q i c d)
def Fd{g:Int->Int->Int}
  (b:∀i j t u s Q E,C i j->Q (.int (g i j) s.toks) { s with toks:=s.toks+1 }->⇑(f (.int i t) (.int j u)) Q E s) :
  dG X f (rI C λi j=>.int (g i j)):=by
 intro n s σ H x y v u Q I e d h;symm;let⟨i,j,rfl,rfl,m,q⟩:=h;let⟨t,rfl⟩:=e;let⟨t',rfl⟩:=d;show b i j t t' s _ _ m ⟨.int (g i j),H,I.tok _,⟨_,rfl⟩,q⟩
def RH{g:Int->Int->Int}
  (b:∀i j t u s Q E,Q (.int (g i j) s.toks) { s with toks:=s.toks+1 }->⇑(f (.int i t) (.int j u)) Q E s) :
  dG X f (m6 λi j=>.int (g i j)):=by
 intro m s σ H x y v u Q I e d h;symm;let⟨i,j,rfl,rfl,q⟩:=h;let⟨t,rfl⟩:=e;let⟨t',rfl⟩:=d;show b i j t t' s _ _ ⟨.int (g i j),H,I.tok _,⟨_,rfl⟩,q⟩
def Iy{g:Int->Int->Bool}
  (b:∀i j t u s Q E,Q (.bool (g i j)) s->⇑(f (.int i t) (.int j u)) Q E s) :
  dG X f (m6 λi j=>.bl (g i j)):=by
 intro m s σ H x y v u Q I e d h;symm;let⟨i,j,rfl,rfl,q⟩:=h;let⟨t,rfl⟩:=e;let⟨t',rfl⟩:=d;show b i j t t' s _ _ ⟨.bl (g i j),H,I,rfl,q⟩
def Iw(i j:Int):Prop:=0<j/\j<1073741824
def wX(i j:Int):Prop:=0<=j/\j<=1000000/\i.natAbs<2 ^ 64
def Cp(i j:Int):Prop:=(-(2 ^ 64)<i/\i<2 ^ 64)\/(-(2 ^ 64)<j/\j<2 ^ 64)
def Cp.ok(h:Cp i j):IntMulOk i j:=by
 rcases h with⟨b,a⟩ | ⟨b,a⟩
 .exact .of_left (Pb b a)
 show .of_right (Pb b a)
theorem aax:dG X (binaryOp .Add) (m6 λi j=>.int (i+j)):=RH λ_ _ _ _ _ _ _ q=>add_int q
theorem zuw:dG X (binaryOp .Sub) (m6 λi j=>.int (i-j)):=RH λ_ _ _ _ _ _ _ q=>sub_int q
theorem zux:dG X (binaryOp .Mult) (rI Cp λi j=>.int (i*j)):=Fd λ_ _ _ _ _ _ _ a q=>mul_int q a.ok
theorem zss:dG X (binaryOp .FloorDiv) (rI Iw λi j=>.int (i/j)):=Fd λi j _ _ _ _ _ b q=>by
 have e:(0:Int)<j:=b.1;have d:j<1073741824:=b.2;show floordiv_int (by lia) (by rw[Int.fdiv_eq_ediv_of_nonneg i (by room)];show q) (.inl (PyProof.noPylong_small (by grind)))
theorem zuy:dG X (binaryOp .Mod) (rI (λ_ j=>0<j) λi j=>.int (i%j)):=Fd λi j _ _ _ _ _ b q=>by
 have d:(0:Int)<j:=b;show mod_int' (by lia) (by rw[Int.fmod_eq_emod_of_nonneg i (by room)];show q)
theorem zuz:dG X (binaryOp .Pow) (rI wX λi j=>.int (i ^ j.toNat)):=Fd λ_ _ _ _ _ _ _ a q=>pow_int_small a.1 a.2.1 a.2.2 q
def unI{g:Int->Int}
  (a:∀i t s Q E,Q (.int (g i) s.toks) { s with toks:=s.toks+1 }->⇑(f (.int i t)) Q E s) :
  Nq X f (rU λi=>.int (g i)):=by
 intro c s σ H x v Q I b h;let⟨i,rfl,q⟩:=h;let⟨t,rfl⟩:=b;show a i t s _ _ ⟨.int (g i),H,I.tok _,⟨_,rfl⟩,q⟩
theorem zuA:Nq X (unaryOp .USub) (rU λi=>.int (-i)):=unI λ_ _ _ _ _ q=>neg_int q
end
section
variable{a b c:ay}{ta tb tc:TE}
def Jf{c:List (ag×aR)}{a:St}{k b:Bool}(I:Inv X c a H s)(q:Q (.bl k) H)(e:k=b):EP X c a Q (.bool b) s:=by
 subst e;show⟨.bl k,H,I,rfl,q⟩
theorem zv9:dG X (compareOp .Lt) (m6 λi j=>.bl (decide (i<j))):=Iy λ_ _ _ _ _ _ _ q=>lt_int q
theorem IK:dG X (compareOp .LtE) (m6 λi j=>.bl (decide (i<=j))):=Iy λ_ _ _ _ _ _ _ q=>le_int q
theorem zwa:dG X (compareOp .Gt) (m6 λi j=>.bl (decide (j<i))):=Iy λ_ _ _ _ _ _ _ q=>gt_int q
def aav:dG X (compareOp .In) (λx y H Q=>∃i j,x=.str i/\y=.str j/\Q (.bl (!(Dn j i 0 j.length 1).isEmpty)) H):=by
 intro e s σ H x y v u Q I d b h;symm;let⟨i,j,rfl,rfl,q⟩:=h;let⟨t,rfl⟩:=d;let⟨t',rfl⟩:=b;show in_str (Jf I q rfl)
def zuB:dG X (compareOp .Is) (λx y H Q=>y=.non/\Q (.bl (decide (x=.non))) H):=by
 intro c s σ H x y v u Q I a b h;let⟨rfl,q⟩:=h;cases b;show is_none_gen (Jf I q ?_);cases x<;>first
  | (cases a;rfl)
  | (let⟨t,rfl⟩:=a;rfl)
def zsu:dG X (compareOp .IsNot) (λx y H Q=>y=.non/\Q (.bl (!decide (x=.non))) H):=by
 intro c s σ H x y v u Q I a b h;let⟨rfl,q⟩:=h;cases b;show isnot_none_gen (Jf I q ?_);cases x<;>first
  | (cases a;rfl)
  | (let⟨t,rfl⟩:=a;rfl)
def dG.or{r c:R2}(h:dG X f r)(h':dG X f c):dG X f (λx y H Q=>r x y H Q\/c x y H Q):=by
 intro d s σ H x y v u Q I b a q;rcases q with q | q
 .exact h d s σ H x y v u Q I b a q
 show h' d s σ H x y v u Q I b a q
def SK(b)(h:op≠.In:=by decide)(a:op≠.NotIn:=by decide):behindInMarks op b=false:=by
 have d:(op==OB)=false:=by cases op<;>first | rfl | show absurd rfl h
 have c:(op==OQ)=false:=by cases op<;>first | rfl | show absurd rfl a
 cases b<;>simp[behindInMarks,d,c]
def zsv(e:dG X (compareOp op) r)(i:PE X a ta)(g:PE X b tb)(f:behindInMarks op b=false):PE X (.Compare a [op] [b] pos) (Bf r ta tb):=by
 intro j s σ H Q I h;show wpAny_Compare1 (Iz i g I h λv u s2 x y l k d c q=>e j s2 σ l x y v u Q k d c q) f
def IJ(t:TE):TT:=λσ H Q=>t σ H λx H'=>∃k,x=.bl k/\Q k H'
def zsx(o:dG X (compareOp op) r)(t:PE X a ta)(q:PE X b tb)(p:behindInMarks op b=false):PT X (.Compare a [op] [b] pos) (IJ (Bf r ta tb)):=by
 intro f s σ H Q I h;show QO (aW (t f s σ H _ I h) λv s1 d=>?_) p;let⟨x,H1,B,j,n⟩:=d;show aW (q f s1 σ H1 _ B n) λu s2 d=>?_
 let⟨y,D,A,i,m⟩:=d;show aW (o f s2 σ D x y v u _ A j i m) λc s3 d=>?_
 let⟨z,C,w,g,k,e,l⟩:=d;subst e;cases g;show oU ⟨C,w,l⟩
def SJ(r c:R2)(ta tb tc:TE):TE:=λσ H Q=>ta σ H λx H1=>tb σ H1 λy e=>r x y e λz a=>∃k,z=.bl k/\
 (if k=true then tc σ a λb d=>c y b d Q else Q (.bl false) a)
def zp4(M:dG X (compareOp op) r)(L:dG X (compareOp i) m)(R:PE X a ta)(P:PE X b tb)(O:PE X c tc)
  (N:lastMarks [op,i] [b,c]=false:=by with_unfolding_all rfl):PT X (.Compare a [op,i] [b,c] pos) (IJ (SJ r m ta tb tc)):=by
 intro g s σ H Q I h;show isTrue_chain (aW (R g s σ H _ I h) λv s1 f=>?_) N;let⟨x,H1,Y,C,J⟩:=f;show test_link (aW (P g s1 σ H1 _ Y J) λu s2 f=>?_);let⟨y,H2,W,j,F⟩:=f;show aW (M g s2 σ H2 x y v u _ W C j F) λd s3 f=>?_
 let⟨z,p,o,B,k,e,n⟩:=f;subst e;cases B;show oU ?_;cases k with
 | false=>
  symm;let⟨k',T,K⟩:=n;cases T;show ite_ff ⟨p,o,K⟩
 | true=>
  show ite_tt (test_last (aW (O g s3 σ p _ o n) λt s4 f=>?_));let⟨q,H4,V,A,E⟩:=f;show aW (L g s4 σ H4 y q u t _ V j A E) λd' s5 f=>?_
  let⟨z2,Z,U,w,k2,S,D⟩:=f;subst S;cases w;show oU ⟨Z,U,D⟩
def xb:(sizeLine:Nat)<2 ^ 63:=by rw[GK];cbv
def aaw:dG X (binaryOp .Add) (λx y H Q=>∃i j,x=.str i/\y=.str j/\i.length+j.length<=sizeLine/\Q (.str (i++j)) H):=by
 intro e s σ H x y v u Q I d b h;symm;let⟨i,j,rfl,rfl,hz,q⟩:=h;let⟨t,rfl⟩:=d;let⟨t',rfl⟩:=b;show add_str (λt' tk=>⟨.str (i++j),H,I.tok _,⟨_,rfl⟩,q⟩) hz
def gy(r:Vals [x] us):∃u,us=[u]/\RelV x u:=by
 cases r with
 | cons b a=>cases a;show⟨_,rfl,b⟩
def DW(r:Vals [x,y] us):∃u a,us=[u,a]/\RelV x u/\RelV y a:=by
 cases r with
 | cons e d=>
  cases d with
  | cons c b=>cases b;show⟨_,_,rfl,e,c⟩
def zng(d:X.calm=true):fR X (.builtin "max") (λxs H Q=>∃i j,xs=[.int i,.int j]/\Q (.int (if j>i then j else i)) H):=by
 intro f s σ H xs us Q I r h;symm;let⟨i,j,rfl,q⟩:=h;obtain⟨u,e,rfl,⟨t,rfl⟩,⟨t',rfl⟩⟩:=DW r;show max_two_ints (I.ok.hd d) λh' tk k=>⟨_,H,I.kept k,?_,q⟩
 by_cases b:j>i
 .rw[if_pos b,if_pos b];show⟨_,rfl⟩
 rw[if_neg b,if_neg b];show⟨_,rfl⟩
def znh(d:X.calm=true):fR X (.builtin "min") (λxs H Q=>∃i j,xs=[.int i,.int j]/\Q (.int (if j<i then j else i)) H):=by
 intro f s σ H xs us Q I r h;symm;let⟨i,j,rfl,q⟩:=h;obtain⟨u,e,rfl,⟨t,rfl⟩,⟨t',rfl⟩⟩:=DW r;show min_two_ints (I.ok.hd d) λh' tk k=>⟨_,H,I.kept k,?_,q⟩
 by_cases b:j<i
 .rw[if_pos b,if_pos b];show⟨_,rfl⟩
 rw[if_neg b,if_neg b];show⟨_,rfl⟩
def zni:fR X (.type "int") (λxs H Q=>(∃i,xs=[.int i]/\Q (.int i) H)\/∃k,xs=[.bl k]/\Q (.int (if k then 1 else 0)) H):=by
 intro b s σ H xs us Q I r h;rcases h with⟨i,rfl,q⟩ | ⟨k,rfl,q⟩
 .let⟨u,rfl,t,rfl⟩:=gy r;show call_int_int ⟨.int i,H,I,⟨_,rfl⟩,q⟩
 let⟨u,rfl,a⟩:=gy r;cases a;show call_int_bool ⟨.int (if k then 1 else 0),H,I.tok _,⟨_,rfl⟩,q⟩
end
structure yi(h:aB)(x dx C:ag)(mA:aa->Option af):Prop where
 obj:h.get? x\rP C dx
 ns:h.Ns1 dx mA
 ne:dx≠x
def znj{h:aB}(n:h.Ns1 f d):∃b,h.get? f\b/\∀name,Hm name b\d name:=by
 symm;obtain⟨o,p,r,j,hd,m,_,hm⟩:=n;show⟨o,j,λname=>?_⟩;have e:=hm name;unfold nsFind findBy at e;rw[<-Array.find?_toList] at e;unfold Hm;rw[hd];dsimp only;split
 .rename_i y q;rw[q] at e;show congrArg some e
 rename_i q;rw[q] at e;have a:p.toList.any (·.refKey)=false:=by
  rw[List.any_eq_false];intro y i;let⟨z,t,g⟩:=m y (oW.mp i);simp[Y8,g]
 grind
theorem yi.look(I:yi h x c C b):∃a,PySem.W.InstAt h x (rP C c) C (some a)/\∀name,Hm name a\b name:=
 let⟨a,d,e⟩:=znj I.ns
 ⟨a,⟨I.obj,rfl,rfl,d⟩,e⟩
section
variable{s:aj}{K:ar}
def zsy(X:K.In s.heap)(I:yi s.heap x dx C mA)(e:CY K C name=true)(d:C5 K C=true)
  (f:qd K (.ref C) name\none) (hv:mA name\v) (b:P1 v=true) (h:Q v { s with toks:=s.toks+1 }) :
  ↥(getAttr (.ref x) name a) Q E s:=by
 let⟨g,J,c⟩:=I.look;show PySem.W.get_value X J (PySem.W.plainGet_of e).1 (PySem.W.findObj_own d f rfl (by rw[c,hv])) b h
def zsz(X:K.In s.heap)(I:yi s.heap x dx C mA)
  (n:qd K (.ref C) "__setattr__"=some (some (.builtin "object.__setattr__"))) (o:HD K C=true) (m:Ht K C name=some none) (p:C5 K C=true)
  (hw:GX mA ns) (hsz:ns.length<=sizeLine)
  (h:∀h',yi h' x dx C (λy=>if y=name then some v else mA y)->j4 dx s.heap h'->Q () { s with heap:=h',toks:=s.toks+2 }) :
  ↥(setAttr (.ref x) name v) Q E s:=by
 symm;let⟨z,J,hl⟩:=I.look;show PySem.W.set_plain X J n (PySem.W.osa_open (s:={ s with toks:=s.toks+1 }) (r:=none) X J o m λb=>?_);symm;let⟨cd,q,j⟩:=PySem.W.any_some p;have hx:s.heap.get? x=some ⟨.ref C,some dx,.plain,#[]⟩:=I.obj;show aq (aE (aq (aq (wpAny_loadPart hx (aq (Zf (s:={ s with toks:=s.toks+1 }) (PySem.W.looks_clsIn X q) ?_))))));rw[j];show aE (a:=some dx) (aq (aE (aq ?_)));show wpAny_nsSet1 (s:={ s with toks:=s.toks+1 }) I.ns λh' g i=>?_
 symm;let⟨oD,t,u,d,e,f⟩:=g.count (Zc name v hw);show aq (wpAny_lookBehind d (by rw[e];show pastItsLine_dict (bX f (by rw[eh];room))) ?_);show aE (h _ ⟨(i.2 _ (Ne.symm I.ne)).trans I.obj,g,I.ne⟩ i)
def zp6{R:Result->aj->Prop}(X:K.In s.heap)(c:Hs K C=true)
  (hi:qd K (.ref C) "__init__"=some (some (.ref f))) (e:PySem.W.typeIn K (.ref f)=some (.type "function"))
  (h:codeAny (model prog w) (A.under (.builtin "type.__call__" ⟨.ref C::a,b⟩)) (.call (.ref f) ⟨.ref (*...*+1)::a,b⟩) (PySem.W.InitBack (*...*+1) R)
   { s with heap:=(s.heap.push qj).push (rP C *...*) }) :
  codeAny (model prog w) A (.call (.ref C) ⟨a,b⟩) R s:=by
 let⟨i,g,d,t,os⟩:=s;show PySem.W.make_core (PySem.W.makes_of X c) (PySem.W.looks_findIn X hi) (λself=>PySem.W.bind_fn X self e) (.inl rfl) h
end
def iV(f:aa)(v:V):List (aa×V)->List (aa×V)
 | []=>[(f,v)]
 | (g,x)::r=>if g=f then(g,v)::r else(g,x)::iV f v r
theorem Wf(f g v):∀fs:List (aa×V),(iV f v fs).lookup g=if g=f then some v else fs.lookup g
 | []=>by
  show List.lookup g [(f,v)]=_;grind
 | (k,x)::r=>by
  have a:=Wf f g v r;rw[show iV f v ((k,x)::r)=(if k=f then(k,v)::r else(k,x)::iV f v r) from rfl];grind
theorem Kl(f v):∀fs:List (aa×V),f∈(iV f v fs).map (·.1)/\∀g,g∈fs.map (·.1)->g∈(iV f v fs).map (·.1)
 | []=>⟨by room,λg h=>by room⟩
 | (k,x)::r=>by
  let⟨i1,b⟩:=Kl f v r;rw[show iV f v ((k,x)::r)=(if k=f then(k,v)::r else(k,x)::iV f v r) from rfl];grind
theorem We(f v):∀fs:List (aa×V),(iV f v fs).length<=fs.length+1
 | []=>by show iy _
 | (k,x)::r=>by
  have a:=We f v r;rw[show iV f v ((k,x)::r)=(if k=f then(k,v)::r else(k,x)::iV f v r) from rfl];grind
def ml.some_of(r:ml (some v) o):∃u,o\u/\RelV v u:=by
 cases o with
 | none=>show(show False from r).elim
 | some u=>show⟨u,rfl,r⟩
def znk(r:RelV v u):P1 u=true:=by
 cases v with
 | non=>cases (show u=jx from r);rfl
 | bl b=>cases (show u=Cz b from r);rfl
 | int i=>let⟨t,e⟩:=(show ∃t,u=tW i t from r);cases e;rfl
 | str x=>let⟨t,e⟩:=(show ∃t,u=vP x t from r);cases e;rfl
 | F2 b=>let⟨t,e⟩:=(show ∃t,u=OS b t from r);cases e;rfl
 | FY b=>let⟨t,e⟩:=(show ∃t,u=OR b t from r);cases e;rfl
 | ref a=>cases (show u=fM a from r);rfl
 | ty n=>cases (show u=j3 n from r);rfl
def Ud(aX:eX P w H h)(e:H a\.ins C dx fs):∃b,yi h a dx C b/\(∀f,ml (fs.lookup f) (b f))/\GX b (fs.map (·.1))/\fs.length<=1000/\H dx\.own a:=by
 symm;let⟨d,z,ne,ob,b,n,r,q⟩:=(show fQ P w H h a (.ins C dx fs) from aX a _ e)
 show⟨b,⟨ob,n,ne⟩,r,q,z,d⟩
structure tU(K:ar)(C:ag):Prop where
 pg:CY K C OE=true
 hd:C5 K C=true
 po:HD K C=true
 sa:qd K (.ref C) "__setattr__"=some (some (.builtin "object.__setattr__"))
theorem tU.get{K:ar}(c:tU K C)(f):CY K C f=true:=c.pg
def fY(K:ar)(C:ag)(f:aa):Prop:=qd K (.ref C) f=some none
def fY.aah{K:ar}(n:fY K C f):Ht K C f\none:=by
 unfold Ht;rw[show qd K (.ref C) f\none from n];rfl
section
variable{σ:St}
def zme(I:Inv X J' σ H s)(e:H a\.ins C dx fs)(c:tU X.K C)(n:fY X.K C f)(l:fs.lookup f\v)
  (h:∀u d,Inv X J' σ H d->RelV v u->Q u d):wpAny (model X.prog X.w) A (getAttr (.ref a) f b) Q E s:=by
 symm;let⟨i,O,r,z,z,z⟩:=Ud I.aX e;let⟨u,j,g⟩:=ml.some_of (v:=v) (o:=i f) (by rw[<-l];show r f);show zsy I.ng O (c.get f) c.hd n j (znk g) (h u _ (I.tok _) g)
def zmf(I:Inv X J' σ H s)(e:H a\.ins C dx fs)(c:tU X.K C)(n:fY X.K C f)(hl:fs.length<1000)(v:RelV y u)
  (h:∀j,Inv X J' σ (upd H a (.ins C dx (iV f y fs))) j->Q () j):wpAny (model X.prog X.w) A (setAttr (.ref a) f u) Q E s:=by
 symm;let⟨m,O,r,i,l,p⟩:=Ud I.aX e;have hz:(fs.map (·.1)).length<=sizeLine:=by rw[aL,GK];lia
 show zsz I.ng O c.sa c.po n.aah c.hd i hz λh' d t=>h _ ?_
 have hd:∃o,h'.get? dx\o:=let⟨o,_,_,F,_⟩:=d.ns;⟨o,F⟩
 show I.write (x:=a) (e:=dx) (by rw[e];show vQ) (.inr p) (λb q D z=>(t.2 b D).trans z) hd ?_;show⟨by rw[br O.ne];show p,?_,O.ne,d.obj,_,d.ns,λg=>?_,λg B=>?_⟩
 .have:=We f y fs;room
 .show ml ((iV f y fs).lookup g) (if g=f then some u else m g);rw[Wf];by_cases q:g=f
  .rw[if_pos q,if_pos q];show v
  rw[if_neg q,if_neg q];show r g
 by_cases q:g=f
 .rw[q];show(Kl f y fs).1
 show(Kl f y fs).2 g (i g λz=>B ?_);show(if g=f then some u else m g)=none;rw[if_neg q];show z
def Inv.made(I:Inv X J' σ H s):Inv X J' σ (upd (upd H *...* (.own (*...*+1))) (*...*+1) (.ins C *...* []))
  { s with heap:=(s.heap.push qj).push (rP C *...*) }:=by
 have c:(s.heap.push qj).get? *...*\qj:=cV s.heap rfl;have g:((s.heap.push qj).push (rP C *...*)).get? (*...*+1)\rP C *...*:=by
  have:=cV (s.heap.push qj) (o:=rP C *...*) rfl;rwa [nL] at this
 have f:(s.heap.push qj).Ns *...* (λ_=>none):=⟨qj,#[],_,c,rfl,(λe he=>absurd he (by cbv)),λ_=>rfl⟩
 have h:=I.laid (a:=*...*) (o:=.own (*...*+1)) (h':=s.heap.push qj) (t':=s.toks) (λb u q=>bW _ q) (bB _) ⟨_,c⟩;show h.laid (a:=*...*+1) (o:=.ins C *...* []) (t':=s.toks) (λb u q=>bW _ q) (GW (nL _ _)) ?_;have ne:*...*≠*...*+1:=cg (rR _);show⟨by rw[br ne,cW],cA _,ne,g,λ_=>none,(Heap.Ns1.of_empty f).at λo q=>bW _ q,λ_=>vQ,λy d=>absurd rfl d⟩
theorem zsA{a:aN}(b:attributeBase e f env (eval e env)=eval e env)
  (h:↥(eval e env) (λo c=>↥(getAttr o f true) Q E c) E s):↥(eval (.Attribute e f a) env) Q E s:=
 Attribute_any_ h (by rw[arm_eval_Attribute,b])
end
def ZM(K:ar)(b:TE)(f:aa):TE:=λσ H Q=>b σ H λx H1=>∃a C c fs v,x=.ref a/\H1 a\.ins C c fs/\tU K C/\fY K C f/\fs.lookup f\v/\Q v H1
def ZL(K:ar)(e d:TE)(f:aa):TS:=λD σ H=>d σ H λy H1=>e σ H1 λx c=>∃a C b fs,x=.ref a/\c a\.ins C b fs/\tU K C/\fY K C f/\fs.length<1000/\
 D.nx σ (upd c a (.ins C b (iV f y fs)))
def zuC(g:PE X e ta)(i:attributeBase e f X.env (eval e X.env)=eval e X.env):PE X (.Attribute e f pos) (ZM X.K ta f):=by
 intro m s σ H Q I h;show zsA i (aW (g m s σ H _ I h) λu s1 k=>?_);let⟨x,H1,p,b,a,C,t,fs,v,ex,j,c,n,l,q⟩:=k;subst ex;obtain rfl:u=fM a:=b;show zme p j c n l λr s2 o d=>⟨v,H1,o,d,q⟩
def zuD(k:PE X o ta)(hv:PE X value tv)(j:swapsWith value (some (.Attribute o f pos')) pos.line X.env=pure false):PS X (.Assign [.Attribute o f pos'] value pos) (ZL X.K ta tv f):=by
 intro d s σ H D I h;show plainObj_wpAny_Assign_Attribute (aW (hv d s σ H _ I h) λu s1 b=>?_) j;let⟨y,H1,t,e,q⟩:=b;show aW (k d s1 σ H1 _ t q) λov s2 b=>?_
 let⟨x,w,r,g,a,C,v,fs,ex,m,c,n,l,i⟩:=b;subst ex;obtain rfl:ov=fM a:=g;show zmf r m c n l e λs3 p=>⟨σ,_,p,i⟩
structure eF(k:Nat)(A:bh):Prop where
 hd:A.handled=none
 dp:A.depth+3*k+5<recursionLimit
 un:A.units+16*k+200<cLine
theorem eF.mono(r:eF k A)(h:j<=k):eF j A:=⟨r.hd,by have:=r.dp;lia,by have:=r.un;lia⟩
theorem eF.deeper(r:eF (k+1) A)(env):eF k (A.deeper env):=
 ⟨r.hd,by have:=r.dp;show A.depth+1+3*k+5<_;lia,by have:=r.un;show A.units+3+16*k+200<_;lia⟩
def zmg{A:bh}:(A.under (.builtin "type.__call__" ⟨.ref C::us,a⟩)).depth=A.depth+1:=by
 first | rfl | simp[GV,Code.weight,Code.isCreation,Code.isGuard,Code.isCaller,OP,GU,guardIds]
def zmh{A:bh}:(A.under (.builtin "type.__call__" ⟨.ref C::us,a⟩)).units=A.units+1:=by
 first | rfl | simp[GV,Code.cUnits,OP,GU]
theorem eF.make(r:eF (k+1) A)(C us a):eF k (A.under (.builtin "type.__call__" ⟨.ref C::us,a⟩)):=
 ⟨r.hd,by have:=r.dp;rw[zmg];lia,by have:=r.un;rw[zmh];lia⟩
def eF.depth(r:eF k A):A.depth<recursionLimit:=by have:=r.dp;lia
def eF.units(r:eF k A):A.units+64<cLine:=by have:=r.un;lia
def RG:TA:=λ_ H Q=>Q [] H
def R9(a:TE)(tr:TA):TA:=λσ H Q=>a σ H λx H1=>tr σ H1 λxs b=>Q (x::xs) b
section
variable{e:ay}{t:TA}
theorem og:PA X [] RG:=λ_ _ _ _ H Q I h=>HC ⟨[],H,I,.nil,h⟩
def pj(k:PE X e te)(j:PA X es t)(i:starEach (e::es) X.env=(false,eval e X.env)::starEach es X.env:=by rfl):PA X (e::es) (R9 te t):=by
 intro pos b s σ H Q I h;rw[i];show wpAny _ _ (spliced ((false,eval e X.env)::backTo pos (starEach es X.env))) _ _ s;show C9 (aW (k b s σ H _ I h) λu s1 a=>?_);let⟨x,H1,m,d,g⟩:=a;show aW (j pos b s1 σ H1 _ m g) λus s2 a=>by let⟨xs,n,l,c,f⟩:=a;show⟨x::xs,n,l,.cons d c,f⟩
def ZK(t:TA):TE:=λσ H Q=>t σ H λxs H1=>xs.length<=sizeLine/\∀p,H1 p=none->Q (.ref p) (upd H1 p (.tup xs))
def ZJ(t:TA):TE:=λσ H Q=>t σ H λxs H1=>xs.length<=sizeLine/\∀p,H1 p=none->Q (.ref p) (upd H1 p (.lst xs))
def SH(h:PA X es t):PE X (.Tuple es c pos) (ZK t):=by
 intro f s σ H Q I d;show wpAny_Tuple_spliced (aW (h pos f s σ H _ I d) λus s1 ⟨xs,H1,a,r,z,q⟩=>⟨by rw[<-r.length];show z,?_⟩);have hf:H1 s1.heap.objs.size=none:=a.aX.fresh (bB _);show⟨.ref s1.heap.objs.size,upd H1 s1.heap.objs.size (.tup xs),a.laid (t':=s1.toks) (λb u e=>bW _ e) (bB _) ?_,rfl,q _ hf⟩;show⟨z,us,r,⟨_,cV _ rfl,rfl,_,rfl⟩⟩
def SG(h:PA X es t):PE X (.List es pos) (ZJ t):=by
 intro d s σ H Q I c;show wpAny_List_spliced (aW (h pos d s σ H _ I c) λus s1 ⟨xs,H1,a,r,z,q⟩=>⟨by rw[<-r.length];show z,?_⟩);have hf:H1 s1.heap.objs.size=none:=a.aX.fresh (bB _);show⟨.ref s1.heap.objs.size,upd H1 s1.heap.objs.size (.lst xs),a.laid (t':=s1.toks) (λb u e=>bW _ e) (bB _) ?_,rfl,q _ hf⟩;show⟨z,us,0,r,cV _ rfl⟩
end
abbrev Sp:=List V->Hp->VK->XK->Prop
abbrev pW:=List dZ->Hp->aj->XK->af->aj->Prop
structure vH(P:aG)(w:aF)(K:ar)(mg:aa->Option af)(base:aB)(A:bh)(outer:List dZ)(s:aj)(H:Hp):Prop where
 frames:A.frames\outer
 mod:Mod K mg base
 bs:∀b o,base.get? b\o->s.heap.get? b\o/\H b=none
 tP:base.objs.size<=*...*
 nr:s.heap.FunFrames base outer
 vx:∀b∈oG outer,H b=none
 aX:eX P w H s.heap
 bare:AllBare s.gens
def CE(outer:List dZ)(P:aG)(w:aF)(H:Hp)(s:aj)(Q:VK)(u:af)(a:aj):Prop:=
 ∃v H',a.os=s.os/\AllBare a.gens/\Un (oG outer) [] H H' s.heap a.heap/\eX P w H' a.heap/\RelV v u/\Q v H'
def CR(b:pW)(outer:List dZ)(P:aG)(w:aF)(H:Hp)(s:aj)(Q:VK)(E:XK)(r:Result)(a:aj):Prop:=
 match r with
 | .ok (.ret u)=>CE outer P w H s Q u a
 | .ok _=>False
 | .error e=>b outer H s E e a
structure jU(P:aG)(w:aF)(K:ar)(mg:aa->Option af)(base:aB)(CX:pW)(k:Nat)(f:ag)(fd:gH)(ps:List aa)(sp:Sp):Prop where
 len:∀vs H Q E,sp vs H Q E->vs.length=ps.length
 run:∀(A:bh)(outer:List dZ)(s:aj)(H:Hp)(args:Args)(us:List af)(vs:List V)(Q:VK)(E:XK),eF k A->vH P w K mg base A outer s H->BindsTo s fd args (ps.zip us)->Vals vs us->sp vs H Q E->
  codeAny (model P w) A (.call (.ref f) args) (CR CX outer P w H s Q E) s
theorem vH.make{K:ar}(e:vH P w K mg base A outer s H)(C us a) :
  vH P w K mg base (A.under (.builtin "type.__call__" ⟨.ref C::us,a⟩)) outer s H:=⟨by first | show e.frames | (simpa[GV,Code.envs,GU,pushEnvs] using e.frames),e.mod,e.bs,e.tP,e.nr,e.vx,e.aX,e.bare⟩
section
variable{σ:St}
theorem Inv.YH(I:Inv X J' σ H s):vH X.prog X.w X.K X.mg X.base X.A X.stack s H:=
 ⟨I.ok.frames,I.ok.mod,I.bs,bX I.ok.tP I.sz,I.stack,I.WD,I.aX,I.bare⟩
def Inv.after(I:Inv X J' σ H s)(h:CE X.stack X.prog X.w H s Q u s'):EP X J' σ Q u s':=by
 let⟨v,H',os,bare,un,aX,r,q⟩:=h;let⟨a,g,d,t,c⟩:=s';obtain rfl:c=s.os:=os;show⟨v,H',I.call (h':=a) (g':=g) (d':=d) (t':=t) (ch:=[]) un aX bare (λb z=>absurd z (by nofun)),r,q⟩
end
def zwb(b:Sp)(dvs:List V)(E:XK)(t:TA):TE:=λσ H Q=>t σ H λa H1=>b (a++dvs) H1 Q E
def zwc(C:ag)(c:Sp)(dvs:List V)(E:XK)(t:TA):TE:=λσ H Q=>t σ H λb H1=>∀x a,H1 x=none->H1 a=none->a≠x->
 c (.ref x::(b++dvs)) (upd (upd H1 a (.own x)) x (.ins C a [])) (λv d=>v=.non/\Q (.ref x) d) E
def Binds(K:ar)(a:gH)(ps:List aa)(ds:List af):Prop:=
 ∀s us,K.In s.heap->(us++ds).length=ps.length->BindsTo s a ⟨us,[]⟩ (ps.zip (us++ds))
theorem Binds.all{K:ar}(h:∀us:List af,us.length=ps.length->bindArgs b ⟨us,[]⟩=pure (ps.zip us)):Binds K b ps []:=λs us _ a=>by
 rw[i8] at a ⊢;show .of_eq (h us a)
def zW(c:pW)(X:Cx)(E:XK):Prop:=∀b (σ:St) H s e a,Inv X b σ H s->c X.stack H s E e a->X.xe e a
section
variable{k:Nat}{f C:ag}{x m:aa}{p pos apos:aN}{e o:ay}{es:List ay}{t:TA}
def zuF{c:St}(F:jU X.prog X.w X.K X.mg X.base CX k f fd ps sp)(j:eF k X.A)(m:Binds X.K fd ps ds)(hd:Vals dvs ds)(hx:zW CX X E)
  (I:Inv X d c H s) (r:Vals b us) (h:sp (b++dvs) H Q E):⇑(call (.ref f) us) (EP X d c Q) X.xe s:=by
 have g:Vals (b++dvs) (us++ds):=r.append hd;have l:(us++ds).length=ps.length:=by rw[<-g.length];show F.len _ _ _ _ h
 show Cy (rN (F.run X.A X.stack s H ⟨us,[]⟩ (us++ds) (b++dvs) Q E j I.YH (m s us I.ng l) g h) λr i a=>?_);cases r with
 | error e=>show hx d c H s e i I a
 | ok n=>
  cases n with
  | ret u=>show I.after a
  | next=>show False.elim a
  | brk=>show False.elim a
  | cont=>show False.elim a
def Uc(F:jU X.prog X.w X.K X.mg X.base CX k f fd ps sp)(c:eF k X.A)(i:Gl X x)(d:X.mg x\.ref f)(g:nK X.K (.ref f)=true)(l:Binds X.K fd ps ds)(hd:Vals dvs ds)(hx:zW CX X E)
  (m:PA X (e::es) t) (b:(x==("__debug__":aa))=false:=by decide) (j:starEach (e::es) X.env=(false,eval e X.env)::starEach es X.env:=by rfl) (n:(backTo pos (starEach es X.env)).any (·.1)=false:=by rfl) :
  PE X (.Call (.Name x p) (e::es) [] pos) (zwb sp dvs E t):=by
 intro u s σ H Q I h;show ug (Uu I i d ?_ b);show Qm (h₀:=X.base) I.ok.mod.xQ g (aW (m pos u s σ H _ I h) λus s1 o=>?_) j n;let⟨v,H1,a,r,q⟩:=o;show⟨a.ng,?_⟩;show zuF F c l hd hx a r q
structure Mk(K:ar)(C f:ag):Prop where
 makes:Hs K C=true
 init:qd K (.ref C) "__init__"=some (some (.ref f))
 fn:OZ K (.ref f)=true
 kp:nK K (.ref C)=true
def zp7{m:List (ag×aR)}{i:St}(M:Mk X.K C f)(F:jU X.prog X.w X.K X.mg X.base CX k f fd ps sp)(y:eF (k+1) X.A)(z:Binds X.K fd ps ds)(hd:Vals dvs ds)
  (hx:zW CX X E) (I:Inv X m i H s) (r:Vals j us)
  (h:∀x d,H x=none->H d=none->d≠x->sp (.ref x::(j++dvs)) (upd (upd H d (.own x)) x (.ins C d [])) (λv J=>v=.non/\Q (.ref x) J) E) :
  ⇑(call (.ref C) us) (EP X m i Q) X.xe s:=by
 have o:=h (*...*+1) *...* (I.aX.fresh (iC _)) (I.aX.fresh (bB _)) (cg (rR _));have g:=Inv.made (C:=C) I;have n:Vals (V.ref (*...*+1)::(j++dvs)) (fM (*...*+1)::(us++ds)):=.cons rfl (r.append hd);have hl:(fM (*...*+1)::us++ds).length=ps.length:=by
  have e:=n.length;rw[F.len _ _ _ _ o] at e;show e.symm
 show Cy (zp6 (f:=f) I.ng M.makes M.init (beq_iff_eq.mp M.fn) (rN (F.run _ X.stack _ _ ⟨fM (*...*+1)::us,[]⟩ (fM (*...*+1)::(us++ds)) _ _ E (y.make C us [])
  (g.YH.make C us []) (z _ (fM (*...*+1)::us) g.ng hl) n o) λr p b=>?_))
 cases r with
 | error e=>show hx m i _ _ e p g b
 | ok B=>
  cases B with
  | ret u=>
   symm;let⟨v,H',D,q,ev,t⟩:=g.after b;subst ev;show⟨q,⟨V.ref (*...*+1),H',D,rfl,t⟩⟩
  | next=>show False.elim b
  | brk=>show False.elim b
  | cont=>show False.elim b
def zsB(M:Mk X.K C f)(F:jU X.prog X.w X.K X.mg X.base CX k f fd ps sp)(c:eF (k+1) X.A)(g:Gl X x)(d:X.mg x\.ref C)(j:Binds X.K fd ps ds)(hd:Vals dvs ds)(hx:zW CX X E)
  (l:PA X (e::es) t) (b:(x==("__debug__":aa))=false:=by decide) (i:starEach (e::es) X.env=(false,eval e X.env)::starEach es X.env:=by rfl) (m:(backTo pos (starEach es X.env)).any (·.1)=false:=by rfl) :
  PE X (.Call (.Name x p) (e::es) [] pos) (zwc C sp dvs E t):=by
 intro o s σ H Q I h;show ug (Uu I g d ?_ b);show Qm (h₀:=X.base) I.ok.mod.xQ M.kp (aW (l pos o s σ H _ I h) λus s1 n=>?_) i m;let⟨u,H1,a,r,q⟩:=n;show⟨a.ng,?_⟩;show zp7 M F c j hd hx a r q
end
def PK(X:Cx)(b:List Keyword)(t:TA):Prop:=
 ∀pos a s (σ:St) H Q,Inv X a σ H s->t σ H Q->⇑(evalAll ((backToKw pos (keywordEach b X.env)).map (·.2))) (AP X a σ Q) X.xe s
theorem zuG:PK X [] RG:=λ_ _ _ _ H Q I h=>wpAny_evalAll_nil ⟨[],H,I,.nil,h⟩
def zsC(j:PE X e te)(i:PK X Bx t):PK X (⟨nm,e,aaL⟩::Bx) (R9 te t):=by
 intro pos b s σ H Q I h;show wpAny _ _ (evalAll ((do let v <-eval e X.env;standAt pos;pure v)::(backToKw pos (keywordEach Bx X.env)).map (·.2))) _ _ s;show wpAny_evalAll_cons (aq (aW (j b s σ H _ I h) λu s1 a=>?_));let⟨x,H1,l,d,g⟩:=a;show aq (za (aE ?_));show aW (i pos b s1 σ H1 _ l g) λus s2 a=>by let⟨xs,m,k,c,f⟩:=a;show⟨x::xs,m,k,.cons d c,f⟩
structure nF(N P:List aa)(sc:gG):Prop where
 kind:sc.kind=.function
 co:sc.isCoroutine=false
 gen:sc.isGenerator=false
 nd:N.Nodup
 pre:N.take P.length=P
 par:∀x∈P,sc.names.lookup x\.local\/sc.names.lookup x\.cell
 aaD:∀y∈sc.names,y.2≠.free
theorem Vt:∀{binds m},(∀v,(x,v)∉binds)->bindL a binds m x=m x
 | [],_,_=>rfl
 | (n,v)::r,m,h=>by
  unfold bindL;rw[Vt λw hw=>h w (fL _ hw)];split
  all_goals grind
theorem Vs:∀{binds m},(∀v,(x,v)∉binds)->bindC a binds m x=m x
 | [],_,_=>rfl
 | (n,v)::r,m,h=>by
  unfold bindC;rw[Vs λw hw=>h w (fL _ hw)];split
  all_goals grind
theorem Vr:∀{P:List aa}{b}{i:Nat}{m},P.Nodup->P[i]?\x->b[i]?\v->a x\.local->
  bindL a (P.zip b) m x\v
 | [],_,_,_,_,h,_,_=>by trivial
 | _::_,[],_,_,_,_,h,_=>by trivial
 | p::P,w::b,0,m,nd,d,c,e=>by
  simp at d c;subst d;subst c;show bindL a ((p,w)::P.zip b) m p=_;unfold bindL;rw[Vt λv hv=>(eH.mp nd).1 (ze hv).1,if_pos e];simp
 | p::P,w::b,i+1,m,nd,d,c,e=>by
  show bindL a ((p,w)::P.zip b) m x=_;unfold bindL;show Vr (i:=i) (eH.mp nd).2 (by simpa using d) (by simpa using c) e
theorem Vq:∀{P:List aa}{b}{i:Nat}{m},P.Nodup->P[i]?\x->b[i]?\v->a x≠some .local->
  bindC a (P.zip b) m x\v
 | [],_,_,_,_,h,_,_=>by trivial
 | _::_,[],_,_,_,_,h,_=>by trivial
 | p::P,w::b,0,m,nd,d,c,e=>by
  simp at d c;subst d;subst c;show bindC a ((p,w)::P.zip b) m p=_;unfold bindC;rw[Vs λv hv=>(eH.mp nd).1 (ze hv).1,if_neg e];simp
 | p::P,w::b,i+1,m,nd,d,c,e=>by
  show bindC a ((p,w)::P.zip b) m x=_;unfold bindC;show Vq (i:=i) (eH.mp nd).2 (by simpa using d) (by simpa using c) e
def iX(N:List aa)(a:List V):St:=a.map some++fi (N.length-a.length) none
def kP(d:pW)(P:aG)(w:aF)(K:ar)(mg:aa->Option af)(base:aB)(N:List aa)(a:aa)(scope:gG)(f:ag)(b:af)(A:bh)(outer:List dZ)(s:aj)(H:Hp)(E:XK):Cx where
 prog:=P
 w:=w
 K:=K
 mg:=mg
 base:=base
 A:=A.deeper (envOfC a scope *...* f b)
 N:=N
 gm:=s
 Ck:=H
 env:=envOfC a scope *...* f b
 outer:=outer
 stack:=envOfC a scope *...* f b::outer
 ex:=[]
 calm:=true
 fn:=λ_=>true
 pn:=[]
 xe:=λe g=>wpAny (model P w) (A.deeper (envOfC a scope *...* f b)) (leaving (envOfC a scope *...* f b) e) (λ_ c=>d outer H s E e c) (λh c=>d outer H s E h c) g
def UM{sc:gG}(h:sc.names.lookup x\.cell):∃c,(cellsFrom n sc.names []).lookup x\c:=by
 have q:=QT sc.names n [] (.inl h);show HZ.mp q
def znn{K:ar}
  (S:nF N ps scope) (hd:A.handled=none) (d:vH P w K mg base A outer s H) (M:j.length=ps.length) (r:Vals j us)
  (x:InCallC s *...* (bindL (envOfC a scope *...* f t).kindOf (ps.zip us) λ_=>none) (cellsFrom (*...*+1) scope.names []) (bindC (envOfC a scope *...* f t).kindOf (ps.zip us) λ_=>none) C) :
  Inv (kP I P w K mg base N a scope f t A outer s H E) [] (iX N j) H C:=by
 have Q:ps.length<=N.length:=by have:=congrArg tY S.pre;rw[eK] at this;lia
 let⟨o,tk,rfl,F⟩:=x.done;have B:∀b:ag,b∉(kP I P w K mg base N a scope f t A outer s H E).ex:=λb z=>absurd (show b∈([]:List ag) from z) (by nofun)
 show⟨⟨d.mod,S.kind,rfl,rfl,bB _,λy z c o m=>?_,λy g=>?_,λy c _ h=>?_,λ_=>hd,Around.frames_deeper d.frames,.inr ⟨rfl,rfl⟩,λb z=>absurd z (B b),d.bs,d.tP,λb _ _=>B b,λb z=>absurd z (B b),d.nr,d.vx⟩,
  rfl,d.bare,Un.kept F,⟨_,x.toInCall.ns,λi y v o m O=>?_⟩,λy c h=>⟨_,x.cell y c h⟩,d.aX.fresh (bB _),λy c h=>?_,λp l=>absurd (show p∈([]:List (ag×aR)) from l) ∅,d.aX.kept F,?_⟩
 .exact name_of_addr x.apart (rS o) (rS m)
 .have g:scope.names.lookup y\.cell\/scope.names.lookup y\.free:=g;rcases g with g | g
  .exact UM g
  show absurd rfl (S.aaD _ (rS g))
 .exact gw (x.above y c (rS h))
 .have hi:i<j.length:=by
   unfold iX at m;grind
  have L:j[i]?\v:=by
   unfold iX at m;grind
  let⟨u,D,J⟩:=r.get L;have l:ps[i]?\y:=by
   rw[<-S.pre,List.getElem?_take_of_lt (by cbv)];show o
  have G:ps.Nodup:=by rw[<-S.pre];show S.nd.sublist (HB _ _)
  show⟨u,J,?_⟩;rcases S.par y (cP l) with k | k
  .exact .inl ⟨k,Vr G l D k⟩
  let⟨c,e⟩:=UM (n:=*...*+1) k;show .inr ⟨.inl k,c,e,?_⟩;have q:=x.cell y c e;rw[Vq G l D (by show scope.names.lookup y≠_;rw[k];decide)] at q;show q
 .exact d.aX.fresh (gw (x.above y c (rS h)))
 unfold iX;show _=N.length;rw[cD,aL,Dk];cbv
def zwd{K:ar}{F kV j pm g ct M:af}
     (lk:K.lookup f\⟨M,L,.func (lJ name a c body scope F kV j pm G g ct),O⟩) (R:vY K g a=true) (S:nF N ps scope)
  (len:∀d H Q E,p d H Q E->d.length=ps.length)
  (MW:∀A outer s H d Q E,eF k (A.deeper (envOfC a scope *...* f g))->p d H Q E->
   ∃t,kB (kP m P w K mg base N a scope f g A outer s H E) body t/\t { nx:=λ_ H'=>Q .non H',rt:=Q } (iX N d) H) :
  jU P w K mg base m (k+1) f (lJ name a c body scope F kV j pm G g ct) ps p:=by
 show⟨len,λA outer s H args us d Q E C i Z r D=>?_⟩;have Y:=len _ _ _ _ D;have KX:K.In s.heap:=i.mod.xQ.keeps λb o e=>(i.bs b o e).1
 have lim:s.heap.NoLimit:=i.mod.nolimit.keeps λb o e=>(i.bs b o e).1
 have FK:∀y∈ps.zip us,scope.names.lookup y.1\.local\/(scope.names.lookup y.1\.cell/\((cellsFrom (*...*+1) scope.names []).lookup y.1).isSome=true):=λ⟨n,v⟩ T=>by
  rcases S.par n (ze T).1 with q | q
  .exact .inl q
  show .inr ⟨q,QT _ _ _ (.inl q)⟩
 show codeAny_call_function C.depth (KX _ _ lk) rfl S.co S.gen rfl (PySem.W.codeRec_of KX R) (Z _ _ _ _ ?_);show wpAny_newFunctionEnv_cells S.kind FK λenv he s1 x=>?_
 subst he;show⟨lim.keeps x.toInCall.keep,codeAny_func ?_⟩;let⟨t,U,X⟩:=MW A outer s H d Q E (C.deeper _) D;have I:Inv (kP m P w K mg base N a scope f g A outer s H E) [] (iX N d) H s1:=znn S C.hd i Y r x;show ja (U [] s1 (iX N d) H _ I X) (λfl z h=>?_) λe z h=>h
 have fin:∀{l:St}{H':Hp}{v:V}{u:af},Inv (kP m P w K mg base N a scope f g A outer s H E) [] l H' z->RelV v u->Q v H'->CE outer P w H s Q u z:=
  λ{l H' v u} J B q=>⟨v,H',J.os,J.bare,J.base,J.aX,B,q⟩
 cases fl with
 | ret u=>
  let⟨v,l,H',J,B,q⟩:=h;show fin J B q
 | next=>
  let⟨l,H',J,q⟩:=h;show fin (v:=V.non) (u:=jx) J rfl q
 | brk=>
  obtain⟨_,_,_,q⟩:=h;show False.elim q
 | cont=>
  obtain⟨_,_,_,q⟩:=h;show False.elim q
section
variable{p pos:aN}{e:ay}{t:TA}{id T:String}{r:List V->Hp->VK->Prop}
def LQ(r:List V->Hp->VK->Prop)(t:TA):TE:=λσ H Q=>t σ H λa H1=>r a H1 Q
def JU(l:fR X (.builtin id) r)(j:Gl X x)(i:X.mg x=none)(hv:bootBuiltins x=some (.builtin id))(m:PA X (e::es) t)(g:x≠"__name__":=by decide)(f:(x==("__debug__":aa))=false:=by decide)
  (k:starEach (e::es) X.env=(false,eval e X.env)::starEach es X.env:=by rfl) (n:(backTo pos (starEach es X.env)).any (·.1)=false:=by rfl):PE X (.Call (.Name x p) (e::es) [] pos) (LQ r t):=by
 intro a s σ H Q I h;show ug (qH I j i hv ?_ g f);show Ro (aW (m pos a s σ H _ I h) λus s1 o=>by let⟨b,H1,q,c,d⟩:=o;show l a s1 σ H1 b us Q q c d) k n
def Vp(l:fR X (.type T) r)(j:Gl X x)(i:X.mg x=none)(hv:bootBuiltins x=some (.type T))(m:PA X (e::es) t)(g:x≠"__name__":=by decide)(f:(x==("__debug__":aa))=false:=by decide)
  (k:starEach (e::es) X.env=(false,eval e X.env)::starEach es X.env:=by rfl) (n:(backTo pos (starEach es X.env)).any (·.1)=false:=by rfl):PE X (.Call (.Name x p) (e::es) [] pos) (LQ r t):=by
 intro a s σ H Q I h;show ug (qH I j i hv ?_ g f);show wL (aW (m pos a s σ H _ I h) λus s1 o=>by let⟨b,H1,q,c,d⟩:=o;show l a s1 σ H1 b us Q q c d) k n
end
end L2
namespace HT
open PySem PyProof.Rows
def lexLt:List Int->List Int->Bool
 | [],[]=>false
 | [],_::_=>true
 | _::_,[]=>false
 | x::xs,y::ys=>if x=y then lexLt xs ys else decide (x<y)
theorem aaH(x y xs ys):lexLt (x::xs) (y::ys)=if x=y then lexLt xs ys else decide (x<y):=rfl
theorem zp8(A s a t c u):∃e,OK A s (.int a t) (.int c u) e/\(e=true↔a=c):=
 ⟨(a==c),Ql a t c u,∅⟩
theorem aaq(A s a t c u prog w E Q)(h:Q (.bool (decide (a<c))) s) :
  ↥(richCompare .Lt (.int a t) (.int c u)) Q E s:=
 (Zo h:↥(compareOp .Lt (.int a t) (.int c u)) Q E s)
section
variable{s:aj}
def bR(n d:Nat):Option Int->Nat
 | none=>d
 | some v=>if v<0 then(v+(n:Int)).toNat else min v.toNat n
def LZ(n d)(hd:d<=n)(o):bR n d o<=n:=by
 cases o with
 | none=>show hd
 | some v=>
  show(if v<0 then(v+(n:Int)).toNat else min v.toNat n)<=n;grind
def Np(v)(n d:Nat):(if v<0 then max (v+(n:Int)) 0 else min v (n:Int))=((bR n d (some v):Nat):Int):=by
 show(if v<0 then max (v+(n:Int)) 0 else min v (n:Int))=(((if v<0 then(v+(n:Int)).toNat else min v.toNat n):Nat):Int)
 grind
def zmi(lo hi)(n:Nat):Ig lo hi 1 (n:Int)=(((bR n 0 lo:Nat):Int),((bR n n hi:Nat):Int)):=by
 have a:¬((1:Int)<0):=by trivial
 unfold Ig;simp![a,cC];show Gu ?_ ?_
 .cases lo with
  | none=>rfl
  | some v=>show Np v n 0
 cases hi with
 | none=>rfl
 | some v=>show Np v n n
def zmj(i j:Nat):Du (i:Int) (j:Int) 1=j-i:=by
 unfold Du;grind
def VX(p:IsPart v o)(h:Q o s):↥(ZD v) Q E s:=by
 cases p with
 | none=>show Pp h
 | int i t=>show slicePart_int h
def zfM{lo hi:Option Int}{Q:Int×Int×Nat->aj->Prop}(f:s.heap.IsSliceOf sl b a .none)(pl:IsPart b lo)(e:IsPart a hi)
  (h:Q (((bR n 0 lo:Nat):Int),1,bR n n hi-bR n 0 lo) s):↥(Rb (.ref sl) (pure (n:Int))) Q E s:=by
 let⟨os,d,g,c⟩:=id f;unfold Rb Zx;show aq (aq (GJ d c (x:=b) rfl (aq (GJ d c (x:=a) rfl (aq (GJ d c (x:=.none) rfl (aE ?_)))))));show aq (Pp ?_);show wpAny _ _ (if ((1:Int)==0)=true then _ else _) _ _ s;rw[if_neg (by show i9)];show aq (VX pl (aq (VX e (aq (aE ?_)))));show wpAny _ _ (match Ig lo hi 1 (n:Int) with | (lo,hi)=>pure (lo,(1:Int),Du lo hi 1)) _ _ s;rw[zmi lo hi n];show wpAny _ _ (pure (((bR n 0 lo:Nat):Int),(1:Int),Du ((bR n 0 lo:Nat):Int) ((bR n n hi:Nat):Int) 1)) _ _ s;rw[zmj];show aE h
def zp9(xs:Array af)(i k:Nat):((aV k).filterMap λ(m:Nat)=>xs[((i:Int)+(m:Int)*1).toNat]?).toArray=((xs.toList.drop i).take k).toArray:=by
 have e:(λ(m:Nat)=>xs[((i:Int)+(m:Int)*1).toNat]?)=λm=>xs[i+m]?:=by
  grind
 rw[e];have:=pick_run xs i k;rw[List.filterMap_map] at this;have a:((λx=>xs[x]?)∘λx=>i+x)=λm=>xs[i+m]?:=rfl
 rw[a] at this;rw[this]
def abq{lo hi:Option Int}(a:IsTup s.heap t items)(f:s.heap.IsSliceOf sl e d .none)(pl:IsPart e lo)(g:IsPart d hi)
  (hw:¬(bR items.size 0 lo=0/\bR items.size items.size hi=items.size))
  (h:Q (.ref *...*) { s with heap:=s.heap.push { cls:=.type "tuple",data:=.seq ((items.toList.drop (bR items.size 0 lo)).take (bR items.size items.size hi-bR items.size 0 lo)).toArray } })
  (hsz:items.size<=sizeLine):↥(getItem (.ref t) (.ref sl)) Q E s:=by
 have b:sizeOk (.seq ((items.toList.drop (bR items.size 0 lo)).take (bR items.size items.size hi-bR items.size 0 lo)).toArray):=by
  show((items.toList.drop (bR items.size 0 lo)).take (bR items.size items.size hi-bR items.size 0 lo)).toArray.size<=sizeLine;grind
 have n:bR items.size items.size hi<=items.size:=LZ _ _ (bB _) hi;let⟨os,k,j,l⟩:=id f;have c:s.TypeIs (.ref sl) "slice":=⟨os,k,j⟩
 unfold getItem;try with_reducible show fZ ?_
 first | show aq (aE ?_) | skip
 show aq (wpAny_sequenceKey a.typeIs (by rfl) ?_);show aq (zi (name:=fh "__getitem__") a.typeIs Rp
  (nN Rp a.typeIs entry_tuple_getitem ?_ (args_tuple_getitem _ _)))
 show wpAny _ _ (Zy (.ref t) >>= _) _ _ s;show aq (tupleItemsOf_ a ?_);show aq (vT c ?_);rw[if_pos (by rfl)];show aq (zfM f pl g ?_);have i:¬((((bR items.size 0 lo:Nat):Int)==0&&(1:Int)==1&&(bR items.size items.size hi-bR items.size 0 lo)==items.size)=true):=by
  cbv
 show wpAny _ _ (if (((bR items.size 0 lo:Nat):Int)==0&&(1:Int)==1&&(bR items.size items.size hi-bR items.size 0 lo)==items.size)=true then _ else _) _ _ s;rw[if_neg i,zp9];first
  | show aq (m:=Dr _) (kI (aE ⟨_,rfl,aE h⟩) b)
  | show aq (m:=Dr _) (kI (aq (aE (aE ⟨_,rfl,aE h⟩))) b)
  | show aq (aq (m:=Dr _) (kI (aE (aE ⟨_,rfl,aE h⟩)) b))
  | show aq (aq (m:=Dr _) (kI (aE ⟨_,rfl,aE h⟩) b))
end
end HT
namespace L2
open PySem PySem.Spec PyProof.Rows
abbrev TO:=St->Hp->(Option Int->Hp->Prop)->Prop
def PO(X:Cx)(e:Option ay)(t:TO):Prop:=
 ∀a s (σ:St) H Q,Inv X a σ H s->t σ H Q->
  ⇑(evalPart e X.env) (λu b=>∃o H',Inv X a σ H' b/\IsPart u o/\Q o H') X.xe s
def zsD:TO:=λ_ H Q=>Q none H
def zwe(t:TE):TO:=λσ H Q=>t σ H λx H1=>∃i,x=.int i/\Q (some i) H1
def qM:∀{us},Vals (ns.map V.int) us->IntsAre us ns:=by
 induction ns with
 | nil=>intro us r;rw[t5] at r;cases r;show .nil
 | cons n ns c=>
  intro us r;rw[c8] at r;cases r with
  | cons b a=>
   let⟨t,e⟩:=b;subst e;show .cons n t (c a)
section
variable{X:Cx}{e:ay}{te:TE}{lo hi:Option ay}{tl th:TO}
def zsE:PO X none zsD:=by
 intro a s σ H Q I h;rw[Pa];show aE ⟨none,H,I,.none,h⟩
def zsF(h:PE X e te):PO X (some e) (zwe te):=by
 intro d s σ H Q I hw;rw[evalPart_some];show aW (h d s σ H _ I hw) λu s1 c=>?_
 let⟨x,H1,f,a,b⟩:=c;let⟨i,rfl,q⟩:=b;let⟨t,rfl⟩:=a;show⟨some i,H1,f,.int i t,q⟩
def tR(X:Cx)(r:V->Option Int->Option Int->Hp->VK->Prop):Prop:=
 ∀c s (σ:St) H x v b a lo hi sl Q,Inv X c σ H s->RelV x v->s.heap.IsSliceOf sl b a .none->IsPart b lo->IsPart a hi->r x lo hi H Q->
  ∃T id,typeLookup (.type T) "__getitem__"=pure (some (.builtin id))/\s.TypeIs v T/\⇑(getItem v (.ref sl)) (EP X c σ Q) X.xe s
def tR.or(h:tR X r)(h':tR X d):tR X (λx lo hi H Q=>r x lo hi H Q\/d x lo hi H Q):=by
 intro f s σ H x v b a lo hi sl Q I c e pl pu q;rcases q with q | q
 .exact h f s σ H x v b a lo hi sl Q I c e pl pu q
 show h' f s σ H x v b a lo hi sl Q I c e pl pu q
def tSl(r:V->Option Int->Option Int->Hp->VK->Prop)(te:TE)(tl th:TO):TE:=λσ H Q=>te σ H λx H1=>tl σ H1 λl b=>th σ b λu a=>r x l u a Q
def zqa(p:tR X r)(z:PE X e te)(t:PO X lo tl)(n:PO X hi th):PE X (.Subscript e (.Slice lo hi none p2) pos) (tSl r te tl th):=by
 intro a s σ H Q I h;show GD (aW (z a s σ H _ I h) λv s1 c=>?_);let⟨x,H1,F,i,m⟩:=c;show wpAny_Slice (aW (t a s1 σ H1 _ F m) λf s2 c=>?_);let⟨l,G,E,pl,k⟩:=c;show aW (n a s2 σ G _ E k) λd s3 c=>?_
 let⟨u,g,D,pu,j⟩:=c;rw[Pa];show aE ?_;have C:Inv X a σ g { s3 with heap:=s3.heap.push { cls:=.type "slice",data:=.fields #[f,d,.none] } }:=D.kept (t':=s3.toks) λb ob q=>bW _ q
 let⟨T,id,B,o,y⟩:=p a { s3 with heap:=s3.heap.push { cls:=.type "slice",data:=.fields #[f,d,.none] } } σ g x v f d l u s3.heap.objs.size Q C i (Ze ..) pl pu j;show ⇑(subscriptTail e (.Slice lo hi none p2) v (.ref s3.heap.objs.size)) (EP X a σ Q) X.xe { s3 with heap:=s3.heap.push { cls:=.type "slice",data:=.fields #[f,d,.none] } };show tail_any (ops:=[.ref s3.heap.objs.size,v]) o B y (by with_unfolding_all rfl)
def o7(xs:List V)(lo hi:Option Int):List V:=(xs.drop (HT.bR xs.length 0 lo)).take (HT.bR xs.length xs.length hi-HT.bR xs.length 0 lo)
def Wd(xs lo hi):(o7 xs lo hi).length<=xs.length:=by
 unfold o7;rw[eK,kE];lia
def ZI(K:ar):V->Option Int->Option Int->Hp->VK->Prop:=λx lo hi H Q=>∃a xs,x=.ref a/\cN K H a xs/\
 ¬(HT.bR xs.length 0 lo=0/\HT.bR xs.length xs.length hi=xs.length)/\∀p,H p=none->Q (.ref p) (upd H p (.tup (o7 xs lo hi)))
def zuH:tR X (ZI X.K):=by
 intro j s σ H x v i g lo hi sl Q I e f pl pu h;symm;let⟨a,xs,rfl,hx,hw,q⟩:=h;cases e;symm;let⟨its,r,d,hz⟩:=I.tuple hx;have hlen:its.toArray.size=xs.length:=by rw[dh];show r.length.symm
 show⟨"tuple",_,PyProof.Rows.slot_tuple_getitem.lookup,d.typeIs,?_⟩;show HT.abq d f pl pu (by rw[hlen];show hw) ?_ (by rw[hlen];show hz);rw[hlen];show⟨.ref *...*,_,I.laid (t':=s.toks) (o:=.tup (o7 xs lo hi)) (λb ob q=>bW _ q) (bB _) ?_,rfl,q _ (I.aX.fresh (bB _))⟩;show⟨bX (Wd xs lo hi) hz,_,(r.drop (HT.bR xs.length 0 lo)).take (HT.bR xs.length xs.length hi-HT.bR xs.length 0 lo),IsTup.new _ _⟩
end
def iI(n:Nat)(i:Int):Option Nat:=if 0<=i then(if i<n then some i.toNat else none) else if -(n:Int)<=i then some (i+n).toNat else none
def bE{a:Type}(xs:List a)(i:Int):Option a:=(iI xs.length i).bind λj=>xs[j]?
def Ub(h:iI n i\j):seqIndex? i n\j/\j<n/\-(n:Int)<=i/\i<n:=by
 unfold iI at h;by_cases h0:0<=i
 .rw[if_pos h0] at h;by_cases a:i<n
  .rw[if_pos a] at h;have e:i.toNat=j:=rQ h;show⟨by rw[GI h0 a,e],by lia,by lia,a⟩
  rw[if_neg a] at h;cases h
 rw[if_neg h0] at h;by_cases a:-(n:Int)<=i
 .rw[if_pos a] at h;have e:(i+n).toNat=j:=rQ h;show⟨by rw[GS (by cbv) a,e],by lia,a,by lia⟩
 rw[if_neg a] at h;cases h
def xi{v:a}(h:bE xs i\v):∃j,seqIndex? i xs.length\j/\xs[j]?\v/\j<xs.length/\-(xs.length:Int)<=i/\i<xs.length:=by
 unfold bE at h;cases e:iI xs.length i with
 | none=>rw[e] at h;cases h
 | some j=>
  rw[e] at h;let⟨f,d,c,b⟩:=Ub e;show⟨j,f,h,d,c,b⟩
def zsG{j:Nat}{v:b}(h:xs[j]?\v):bE xs (j:Int)\v:=by
 have d:j<xs.length:=(cH.mp h).1;have e:iI xs.length (j:Int)\j:=by
  unfold iI;rw[if_pos (by room),if_pos (by cbv)];simp
 unfold bE;rw[e];show h
def z7(b:ay):Prop:=∀o i,subscripted b false o i=operate [o,i] (getItem o i)
def rH(X:Cx)(r:R2):Prop:=
 ∀value slice a s (σ:St) H x y v u Q,Inv X a σ H s->RelV x v->RelV y u->r x y H Q->
  subscripted slice false v u=operate [v,u] (getItem v u)->⇑(subscriptTail value slice v u) (EP X a σ Q) X.xe s
def Og(X:Cx)(b:String)(r:V->List V->Hp->VK->Prop):Prop:=
 ∀a s (σ:St) H x xs v us Q,Inv X a σ H s->RelV x v->Vals xs us->r x xs H Q->
  ⇑(call (.builtin b) (v::us)) (EP X a σ Q) X.xe s
section
variable{a b:ay}{ta tb:TE}
def rH.or(h:rH X r)(h':rH X c):rH X (λx y H Q=>r x y H Q\/c x y H Q):=by
 intro value slice e s σ H x y v u Q I b a q d;rcases q with q | q
 .exact h value slice e s σ H x y v u Q I b a q d
 show h' value slice e s σ H x y v u Q I b a q d
def zQ(f:rH X r)(i:PE X a ta)(g:PE X b tb)(e:z7 b):PE X (.Subscript a b pos) (Bf r ta tb):=by
 intro j s σ H Q I h;show GD (Iz i g I h λv u s2 x y l k d c q=>f a b j s2 σ l x y v u Q k d c q (e _ _))
def RF(K:ar):R2:=λx y H Q=>∃p xs i v,x=.ref p/\y=.int i/\bU K H p xs/\bE xs i\v/\Q v H
def RE(K:ar):R2:=λx y H Q=>∃p xs i v,x=.ref p/\y=.int i/\cN K H p xs/\bE xs i\v/\Q v H
def RD:R2:=λx y H Q=>∃z i c,x=.str z/\y=.int i/\z.length<=sizeLine/\bE z.cps.toList i\c/\Q (.str ⟨#[c]⟩) H
def Fp:rH X (RF X.K):=by
 intro value slice g s σ H x y v u Q I o n h e;symm;let⟨p,xs,i,z,rfl,rfl,A,he,q⟩:=h;cases o;symm;let⟨t,rfl⟩:=n;let⟨its,r,pl,hz⟩:=I.list A;let⟨j,b,D,J,C,B⟩:=xi he;let⟨w,f,E⟩:=r.get D;have hl:=r.length;have F:=xb;have fin:EP X g σ Q w s:=⟨z,H,I,E,q⟩
 by_cases h0:0<=i
 .have d:i.toNat=j:=by
   rw[GI h0 B] at b;show rQ b
  show item_listR pl.isList h0 (by lia) (by rw[d];simpa using f) fin e
 have d:(i+(its.toArray.size:Int)).toNat=j:=by
  rw[GS (by cbv) C] at b;rw[dh,<-hl];show rQ b
 show QS (x:=w) pl.isList.typeIs slot_list_getitem.lookup
  (wpAny_getItem_list_neg (Q:=λr m=>r=w/\EP X g σ Q r m) pl.isList (by cbv) (by rw[dh]<;>cbv) (by lia) (by rw[d];simpa using f) ⟨rfl,fin⟩) e
def aaM:rH X (RE X.K):=by
 intro value slice b s σ H x y v u Q I f e h g;symm;let⟨p,xs,i,z,rfl,rfl,m,he,q⟩:=h;cases f;symm;let⟨t,rfl⟩:=e;let⟨its,r,pl,hz⟩:=I.tuple m;let⟨j,o,n,F,E,D⟩:=xi he;let⟨w,B,A⟩:=r.get n;have hl:=r.length;have C:=xb;have fin:EP X b σ Q w s:=⟨z,H,I,A,q⟩
 show QS (x:=w) pl.typeIs slot_tuple_getitem.lookup
  (getItem_tuple (j:=j) (Q:=λr d=>r=w/\EP X b σ Q r d) pl (by lia) (by lia) (by rw[dh,<-hl];show o) (by simpa using B) ⟨rfl,fin⟩) g
def zuI:rH X RD:=by
 intro value slice r s σ H x y v u Q I e d h f;symm;let⟨z,i,c,rfl,rfl,hz,he,q⟩:=h;let⟨t,rfl⟩:=e;let⟨t',rfl⟩:=d;let⟨j,b,n,p,m,g⟩:=xi he;have hl:z.cps.toList.length=z.length:=by simp[GC]
 rw[hl] at b m g;have o:=xb
 show tail_any (GB s z t) slot_str_getitem.lookup (getItem_str (c:=c) (by
  grind) (by rw[b];simpa using n) ⟨.str ⟨#[c]⟩,H,I.tok _,⟨_,rfl⟩,q⟩) f
def WS(K:ar):R2:=λx y H Q=>RF K x y H Q\/RE K x y H Q\/RD x y H Q
theorem SF:rH X (WS X.K):=Fp.or (aaM.or zuI)
def zmk(its:List af)(n j u):jZ (·.setIfInBounds j u) { cls:=.type "list",data:=.seq its.toArray n }={ cls:=.type "list",data:=.seq (its.set j u).toArray n }:=by
 simp[jZ]
def Inv.lst{b:List (ag×aR)}{a:St}(I:Inv X b a H s)(h:H p\.lst xs) :
  ∃(its:List af)(n:Nat),Vals xs its/\s.heap.get? p=some { cls:=.type "list",data:=.seq its.toArray n }/\xs.length<=sizeLine:=by
 let⟨z,its,n,r,e⟩:=I.aX p _ h;show⟨its,n,r,e,z⟩
def Inv.aaG{c:St}{its its':List af}{n a:Nat}(I:Inv X g c H s)(h:H p\.lst xs)
  (i:s.heap.get? p=some { cls:=.type "list",data:=.seq its.toArray n }) (d:f { cls:=.type "list",data:=.seq its.toArray n }={ cls:=.type "list",data:=.seq its'.toArray a }) (r:Vals ys its') (hz:ys.length<=sizeLine) (t) :
  Inv X g c (upd H p (.lst ys)) { s with heap:=s.heap.update p f,toks:=t }:=by
 have e:(s.heap.update p f).get? p=some { cls:=.type "list",data:=.seq its'.toArray a }:=by
  rw[oO f i (by rw[d]<;>rfl),d]
 show I.write (x:=p) (e:=p) (by rw[h];trivial) (.inl rfl) (λb u j q=>(jw _ _ (Ne.symm j)).trans q) ⟨_,e⟩ ?_;show⟨hz,its',a,r,e⟩
def zwf:V->V->V->Hp->(Hp->Prop)->Prop:=λo i v H Q=>∃p xs k j,o=.ref p/\i=.int k/\H p\.lst xs/\iI xs.length k\j/\Q (upd H p (.lst (xs.set j v)))
def zqb:RJ X zwf:=by
 intro A s σ H o i v ov iv u Q I ro y x h;symm;let⟨p,xs,k,j,rfl,rfl,f,z,q⟩:=h;cases ro;symm;let⟨t,rfl⟩:=y;let⟨its,n,r,d,hz⟩:=I.lst f;let⟨b,C,m,g⟩:=Ub z;have hl:=r.length;have B:=xb;have w:Inv X A σ (upd H p (.lst (xs.set j v))) { s with heap:=s.heap.update p (jZ (·.setIfInBounds j u)) }:=
  I.aaG f d (zmk its n j u) (r.set x j) (by rw[qf];show hz) s.toks
 by_cases h0:0<=k
 .have e:k.toNat=j:=by
   rw[GI h0 g] at b;show rQ b
  show PySem.W.ki_setAt d h0 (by lia) (by rw[dh,<-hl];show g) (by rw[e];show⟨_,w,q⟩)
 have e:(k+(its.toArray.size:Int)).toNat=j:=by
  rw[GS (by cbv) m] at b;rw[dh,<-hl];show rQ b
 show PySem.W.ki_setBack d (by cbv) (by rw[dh,<-hl];show m) (by lia) (by rw[e];show⟨_,w,q⟩)
def zjr(lo hi n):(sliceBounds lo hi none n).1=((HT.bR n 0 lo:Nat):Int)/\(sliceBounds lo hi none n).2.1=((HT.bR n n hi:Nat):Int)/\(sliceBounds lo hi none n).2.2=1:=by
 show⟨?_,?_,rfl⟩
 .cases lo with
  | none=>rfl
  | some i=>
   simp![sliceBounds,HT.bR,P0,show(1:Int)>0 by room,cy];grind
 cases hi with
 | none=>rfl
 | some i=>
  simp![sliceBounds,HT.bR,P0,show(1:Int)>0 by room,cy];grind
def zie(its:List af)(lo hi):slicePick its.toArray lo hi none=((its.drop (HT.bR its.length 0 lo)).take (HT.bR its.length its.length hi-HT.bR its.length 0 lo)).toArray:=by
 let⟨c,b,a⟩:=zjr lo hi its.toArray.size;unfold slicePick;rw[c,b,a];simp only[sliceRange_one,pick_run,dh]<;>rfl
def ZH(K:ar):V->Option Int->Option Int->Hp->VK->Prop:=λx lo hi H Q=>∃a xs,x=.ref a/\bU K H a xs/\∀p,H p=none->Q (.ref p) (upd H p (.lst (o7 xs lo hi)))
def aal:tR X (ZH X.K):=by
 intro j s σ H x v i g lo hi sl Q I e f pl pu h;symm;let⟨a,xs,rfl,hx,q⟩:=h;cases e;symm;let⟨its,r,d,hz⟩:=I.list hx;have hlen:=r.length;show⟨"list",_,slot_list_getitem.lookup,d.isList.typeIs,?_⟩;show wpAny_getItem_list_slice d.isList f pl pu .none (by trivial) ?_ (by rw[dh]<;>cbv);rw[zie,<-hlen];show⟨.ref *...*,_,I.laid (t':=s.toks) (o:=.lst (o7 xs lo hi)) (λb ob q=>bW _ q) (bB _) ?_,rfl,q _ (I.aX.fresh (bB _))⟩;show⟨bX (Wd xs lo hi) hz,_,0,(r.drop (HT.bR xs.length 0 lo)).take (HT.bR xs.length xs.length hi-HT.bR xs.length 0 lo),cV _ rfl⟩
def DN:V->Bool
 | .non=>true
 | .bl _=>true
 | .int _=>true
 | .str _=>true
 | _=>false
def Nf:V->V->Bool
 | .non,.non=>true
 | .bl a,.bl b=>a==b
 | .bl a,.int b=>(if a then 1 else 0)==b
 | .int a,.bl b=>a==(if b then 1 else 0)
 | .int a,.int b=>a==b
 | .str a,.str b=>a==b
 | _,_=>false
def SE(d:RelV y u)(c:RelV x v)(f:DN y=true)(e:DN x=true):OK A s u v (Nf y x):=by
 cases y with
 | non=>
  cases d;cases x with
  | non=>cases c;show Y4 _
  | bl b=>cases c;show Zr b
  | int b=>let⟨t,rfl⟩:=c;show Zn b t
  | str b=>let⟨t,rfl⟩:=c;show Zm b t
  | _=>show absurd (show false=true from e) i9
 | bl a=>
  cases d;cases x with
  | non=>cases c;show Zq a
  | bl b=>cases c;show Zp a b
  | int b=>let⟨t,rfl⟩:=c;show Zl a b t
  | str b=>let⟨t,rfl⟩:=c;show Zk a b t
  | _=>show absurd (show false=true from e) i9
 | int a=>
  let⟨t',rfl⟩:=d;cases x with
  | non=>cases c;show Zj a t'
  | bl b=>cases c;show Zi a t' b
  | int b=>let⟨t,rfl⟩:=c;show Ql a t' b t
  | str b=>let⟨t,rfl⟩:=c;show Qo a t' b t
  | _=>show absurd (show false=true from e) i9
 | str a=>
  let⟨t',rfl⟩:=d;cases x with
  | non=>cases c;show Zh a t'
  | bl b=>cases c;show Zg a t' b
  | int b=>let⟨t,rfl⟩:=c;show Qn a t' b t
  | str b=>let⟨t,rfl⟩:=c;show Zd a t' b t
  | _=>show absurd (show false=true from e) i9
 | _=>show absurd (show false=true from f) i9
def aau:dG X (compareOp .NotIn) (λx y H Q=>∃i j,x=.str i/\y=.str j/\Q (.bl (!(!(Dn j i 0 j.length 1).isEmpty))) H):=by
 intro e s σ H x y v u Q I d b h;symm;let⟨i,j,rfl,rfl,q⟩:=h;let⟨t,rfl⟩:=d;let⟨t',rfl⟩:=b;show notIn_str ⟨.bl _,H,I,rfl,q⟩
def YN:fR X (.builtin "len") (λxs H Q=>∃p ys,xs=[.ref p]/\(bU X.K H p ys\/cN X.K H p ys)/\Q (.int ys.length) H):=by
 intro g s σ H xs us Q I r h;symm;let⟨p,ys,rfl,b,q⟩:=h;let⟨u,rfl,e⟩:=gy r;cases e;have f:=xb;rcases b with b | b
 .let⟨its,d,pl,hz⟩:=I.list b;have hlen:=d.length;show Calls.call_len_list pl.isList (by simp only[dh]<;>lia) ⟨.int ys.length,H,I.tok _,⟨s.toks+1,by rw[dh,hlen]⟩,q⟩
 let⟨its,d,pl,hz⟩:=I.tuple b;have hlen:=d.length;show len_tuple pl (by simp only[dh]<;>lia) ⟨.int ys.length,H,I.tok _,⟨s.toks+1,by rw[dh,hlen]⟩,q⟩
def zjs:fR X (.builtin "len") (λxs H Q=>∃z,xs=[.str z]/\z.length<=sizeLine/\Q (.int z.length) H):=by
 intro b s σ H xs us Q I r h;let⟨z,rfl,hz,q⟩:=h;let⟨u,rfl,t,rfl⟩:=gy r;have a:=xb;show len_str (by lia) ⟨.int z.length,H,I.tok _,⟨_,rfl⟩,q⟩
def fR.or{r a:List V->Hp->VK->Prop}(h:fR X f r)(h':fR X f a):fR X f (λxs H Q=>r xs H Q\/a xs H Q):=by
 intro b s σ H xs us Q I rs q;rcases q with q | q
 .exact h b s σ H xs us Q I rs q
 show h' b s σ H xs us Q I rs q
def zjt:fR X (.type "list") (λxs H Q=>∃p ys,xs=[.ref p]/\(bU X.K H p ys\/cN X.K H p ys)/\∀l,H l=none->Q (.ref l) (upd H l (.lst ys))):=by
 intro t s σ H xs us Q I r h;symm;let⟨p,ys,rfl,g,q⟩:=h;let⟨u,rfl,m⟩:=gy r;cases m;have fin:∀(its:List af),Vals ys its->ys.length<=sizeLine->∀(h':aB)(f:Nat),(∀b o',s.heap.get? b=some o'->h'.get? b=some o')->
   h'.get? *...*=some { cls:=.type "list",dict:=none,data:=.seq its.toArray f,slots:=#[] }->EP X t σ Q (.ref *...*) { s with heap:=h' }:=λits d hz h' f kp e=>
  ⟨.ref *...*,_,I.laid (t':=s.toks) kp (bB _) (show fQ X.prog X.w _ h' _ (.lst ys) from⟨hz,its,f,d,e⟩),rfl,q _ (I.aX.fresh (bB _))⟩
 rcases g with g | g
 .let⟨its,d,pl,hz⟩:=I.list g;have hlen:=d.length;let⟨o,i,j,n,hd⟩:=pl.isList;show O9 p (.inl rfl) i j hd (λh' f kp e=>fin its d hz h' f kp e) (by simp only[dh]<;>cbv)
 let⟨its,d,pl,hz⟩:=I.tuple g;have hlen:=d.length;let⟨o,i,j,n,hd⟩:=pl;show O9 p (.inr rfl) i j hd (λh' f kp e=>fin its d hz h' f kp e) (by simp only[dh]<;>cbv)
def Ba(K:ar)(T:String)(x:V)(H:Hp):Prop:=match x with
 | .str _=>T="str"
 | .int _=>T="int"
 | .ref p=>(T="list"/\∃xs,bU K H p xs)\/(T="tuple"/\∃o,K.lookup p=some o/\o.cls=.type "tuple"/\o.dict=none)\/
   (T="dict"/\((∃kvs a,H p=some (.dK kvs a))\/∃kvs bs,H p=some (.dT kvs bs)))\/(T="set"/\∃S n,H p=some (.set S n))
 | _=>False
def SD{f:St}(I:Inv X j f H s)(r:RelV x v)(ty:Ba X.K T x H) :
  s.TypeIs v T/\∀a,v=.ref a->∃ob,s.heap.get? a\ob/\ob.dict=none:=by
 cases x with
 | str z=>
  let⟨t,rfl⟩:=r;cases (show T="str" from ty);show⟨GB s z t,λ_ e=>nomatch e⟩
 | int i=>
  let⟨t,rfl⟩:=r;cases (show T="int" from ty);show⟨GA s i t,λ_ e=>nomatch e⟩
 | ref p=>
  cases r;rcases ty with⟨rfl,xs,g⟩ | ⟨rfl,o,b,h,hd⟩ | ⟨rfl,b⟩ | ⟨rfl,S,n,b⟩
  .let⟨its,y,pl,y⟩:=I.list g;show⟨pl.isList.typeIs,λa e=>?_⟩;cases e;let⟨o,n,e,c,hd,y⟩:=pl;show⟨o,e,hd⟩
  .refine⟨⟨o,I.ng p o b,h⟩,λa e=>?_⟩;cases e;show⟨o,I.ng _ o b,hd⟩
  .have z:∃o,s.heap.get? p\o/\o.ExactDict:=by
    rcases b with⟨kvs,k,b⟩ | ⟨kvs,bs,b⟩
    .let⟨y,y,y,y,o,y,e,ex,y⟩:=I.aX p _ b;show⟨o,e,ex⟩
    let⟨y,y,y,y,y,o,y,y,e,ex,y⟩:=I.aX p _ b;show⟨o,e,ex⟩
   let⟨o,e,ex⟩:=z;show⟨⟨o,e,ex.1⟩,λa d=>?_⟩;cases d;show⟨o,e,ex.2.1⟩
  let⟨o,y,y,y,e,ex,y⟩:=I.aX p _ b;show⟨⟨o,e,ex.1⟩,λa d=>?_⟩;cases d;show⟨o,e,ex.2.1⟩
 | _=>show False.elim ty
def RC(K:ar)(T:String)(r:V->List V->Hp->VK->Prop)(to:TE):TE:=λσ H Q=>to σ H λx H1=>Ba K T x H1/\r x [] H1 Q
def uZ(K:ar)(T:String)(r:V->List V->Hp->VK->Prop)(to:TE)(t:TA):TE:=λσ H Q=>to σ H λx H1=>Ba K T x H1/\t σ H1 λxs a=>r x xs a Q
variable{T id:String}
def zuJ(e:PlainAttrs T)(slot:Slot T name id)(n:typeOf (.builtin id)=pure (.type "method_descriptor"))(g:Og X id r)(f:PE X o to)
  (l:attributeBase o name X.env (eval o X.env)=eval o X.env:=by rfl) (m:(apos.endLine==gL.line)=true:=by rfl):PE X (.Call (.Attribute o name apos) [] [] gL) (RC X.K T r to):=by
 intro b s σ H Q I h;show wpAny_Call_method0_late l m (aW (f b s σ H _ I h) λv s1 k=>?_);let⟨x,H1,c,a,ty,d⟩:=k;let⟨j,i⟩:=SD c a ty;show⟨T,id,e,slot,n,j,i,HV rfl (PySem.evalArgs_none (g b s1 σ H1 x [] v [] Q c a .nil d))⟩
def uB(q:PlainAttrs T)(slot:Slot T name id)(L:typeOf (.builtin id)=pure (.type "method_descriptor"))(y:Og X id r)(w:PE X o to)(z:PA X (e::es) t)
  (F:attributeBase o name X.env (eval o X.env)=eval o X.env:=by rfl)
  (C:((backTo gL (starEach (e::es) X.env)).all (λx=>!x.1)&&(backToKw gL (keywordEach [] X.env)).all (λx=>x.1.isSome)
   && decide ((e::es).length+([]:List Keyword).length+(if ([]:List Keyword).isEmpty then 0 else 1)<30))=true:=by rfl)
  (J:(apos.endLine==gL.line)=true:=by rfl) (u:starEach (e::es) X.env=(false,eval e X.env)::starEach es X.env:=by rfl) (M:(backTo gL (starEach es X.env)).any (·.1)=false:=by rfl) :
  PE X (.Call (.Attribute o name apos) (e::es) [] gL) (uZ X.K T r to t):=by
 intro d s σ H Q I h;show wpAny_Call_method_late F C J rfl (aW (w d s σ H _ I h) λv s1 b=>?_);let⟨x,H1,i,f,ty,p⟩:=b;let⟨B,A⟩:=SD i f ty;show⟨T,id,q,slot,L,B,A,?_⟩;have g:=z gL d s1 σ H1 _ i p;rw[u] at g ⊢;show HV (by room) (QF ?_);show aW g λus s2 b=>by let⟨j,E,D,m,n⟩:=b;show y d s2 σ E x j v us Q D f m n
end
def Oh(X:Cx)(b:String)(r:V->List V->Hp->VK->Prop):Prop:=
 ∀a s (σ:St) H x xs v us Q,Inv X a σ H s->RelV x v->Vals xs us->r x xs H Q->
  ⇑(call (.builtin b) (v::us)) (EP X a σ Q) X.xe s
def Vals.one(h:Vals [x] us):∃u,us=[u]/\RelV x u:=by
 cases h with
 | cons r t=>cases t;show⟨_,rfl,r⟩
theorem Vals.zero:∀{us},Vals [] us->us=[]
 | _,.nil=>rfl
def Vals.reverse(h:Vals xs us):Vals xs.reverse us.reverse:=by
 induction h with
 | nil=>show .nil
 | cons r t a=>rw[C4,C4];show Vals.append a (.cons r .nil)
theorem Vals.rep(h:Vals xs us):∀k:Nat,Vals (fi k xs).flatten (fi k us).flatten
 | 0=>.nil
 | k+1=>by
  rw[Dg,Dg,lD,lD];show Vals.append h (Vals.rep h k)
theorem Vo(its):∀k (acc:List af),
  Gz (λb a=>b++a) acc.toArray (fi k its.toArray)=(acc++(fi k its).flatten).toArray
 | 0,acc=>by simp
 | k+1,acc=>by
  have e:acc.toArray++its.toArray=(acc++its).toArray:=by simp
  have c:(acc++its)++(fi k its).flatten=acc++(fi (k+1) its).flatten:=by
   rw[Dg,lD,mM]
  rw[<-c,<-Vo its k (acc++its),<-e,Dg,lK]
section
variable{σ:St}
def Inv.Md{its its':List af}(I:Inv X J' σ H s)(d:H l\.lst xs)
  (e:s.heap.get? l=some { cls:=.type "list",data:=.seq its.toArray n }) (b:f its.toArray=its'.toArray) (hv:Vals ys its') (hz:ys.length<=sizeLine) :
  Inv X J' σ (upd H l (.lst ys)) { s with heap:=s.heap.update l (jZ f),toks:=t' }:=by
 have q:=Y7 e f;rw[b] at q;show I.write (x:=l) (e:=l) (by rw[d];show trivial) (.inl rfl) (λg u c a=>(jw s.heap (jZ f) (Ne.symm c)).trans a) ⟨_,q⟩ ?_;show⟨hz,its',_,hv,q⟩
theorem Inv.Mf(I:Inv X J' σ H s)(hv:Vals ys its)(hz:ys.length<=sizeLine) :
  Inv X J' σ (upd H *...* (.lst ys)) { s with heap:=s.heap.push { cls:=.type "list",data:=.seq its.toArray },toks:=t' }:=
 I.laid (λ_ _ q=>bW _ q) (bB _) ⟨hz,its,0,hv,cV _ rfl⟩
theorem Inv.fresh(I:Inv X J' σ H s):H *...*=none:=I.aX.fresh (bB _)
def Inv.Bt(I:Inv X J' σ H s)(b:H l=some (.lst xs)):xs.length<=sizeLine/\∃(its:List af)(n:Nat),Vals xs its/\xs.length=its.length/\s.heap.get? l=some { cls:=.type "list",data:=.seq its.toArray n }:=by
 symm;let⟨z,its,n,r,e⟩:=I.aX l _ b;show⟨z,its,n,r,r.length,e⟩
def UL(h:n<=sizeLine):Dp n=false:=by
 unfold Dp;show decide_eq_false (by room)
end
def uL:V->List V->Hp->VK->Prop:=λx a H Q=>∃l xs y,x=.ref l/\a=[y]/\H l\.lst xs/\xs.length<sizeLine/\Q .non (upd H l (.lst (xs++[y])))
def xx:Oh X "list.append" uL:=by
 intro j s σ H x i v us Q I d f h;symm;let⟨l,xs,y,rfl,rfl,b,hz,q⟩:=h;cases d;symm;let⟨u,rfl,g⟩:=f.one;let⟨z,its,n,r,hl,e⟩:=I.Bt b;show tX F.slot_list_append ⟨_,e,rfl⟩ F.entry_list_append (F.args_list_append_2 _ _) (PySem.list_append l its.toArray n u (by rw[dh];cbv)) ⟨e,?_⟩;show⟨.non,_,I.Md (its':=its++[u]) b e ∅ (r.append (.cons g .nil)) ?_,rfl,q⟩;rw[cD,HU];room
def Ua:V->List V->Hp->VK->Prop:=λx a H Q=>∃l b xs zs,x=.ref l/\a=[.ref b]/\H l\.lst xs/\H b\.lst zs/\xs.length+zs.length<=sizeLine/\Q .non (upd H l (.lst (xs++zs)))
def znr:Oh X "list.extend" Ua:=by
 intro B s σ H x A v us Q I g i h;symm;let⟨l,b,xs,zs,rfl,rfl,f,o,hz,q⟩:=h;cases g;symm;let⟨u,rfl,j⟩:=i.one;cases j;symm;let⟨z,its,n,r,hl,e⟩:=I.Bt f;let⟨w,d,n2,m,y,p⟩:=I.Bt o;have hsz:its.toArray.size+d.toArray.size<=sizeLine:=by rw[dh,dh];cbv
 have t:¬(!its.toArray.isEmpty&&Dp (its.toArray.size+d.toArray.size))=true:=by
  rw[UL hsz,Hl];show i9
 show tX F.slot_list_extend ⟨_,e,rfl⟩ F.entry_list_extend (F.args_list_extend_2 _ _)
  (AutoSeq1.list_extend_list_list_0 l its.toArray n b d.toArray n2 t (by rw[dh];cbv) (by room)) ⟨e,p,?_⟩
 show⟨.non,_,I.Md (its':=its++d) f e ∅ (r.append m) ?_,rfl,q⟩;rw[cD];room
def UK:V->List V->Hp->VK->Prop:=λx a H Q=>∃l xs,x=.ref l/\a=[]/\H l\.lst xs/\Q .non (upd H l (.lst xs.reverse))
def zml:Oh X "list.reverse" UK:=by
 intro j s σ H x i v us Q I d f h;symm;let⟨l,xs,rfl,rfl,b,q⟩:=h;cases d;have g:=f.zero;subst g;symm;let⟨z,its,n,r,hl,e⟩:=I.Bt b;show tX F.slot_list_reverse ⟨_,e,rfl⟩ F.entry_list_reverse (F.args_list_reverse_1 _) (AutoSeq1.list_reverse_list_0 l its.toArray n (by rw[dh];cbv)) ⟨e,?_⟩;show⟨.non,_,I.Md (its':=its.reverse) b e ∅ r.reverse ?_,rfl,q⟩;rw[HL];room
def ZG:R2:=λx y H Q=>∃l k xs,x=.ref l/\y=.int k/\H l\.lst xs/\-(2 ^ 63)<=k/\k<2 ^ 63/\xs.length*k.toNat<=sizeLine/\
 ∀p,H p=none->Q (.ref p) (upd H p (.lst (fi k.toNat xs).flatten))
def zsH{a:Type}(xs:List a)(k):(fi k xs).flatten.length=k*xs.length:=by
 cbv
def zuK:dG X (binaryOp .Mult) ZG:=by
 intro E s σ H x y v u Q I j i h;symm;let⟨l,k,xs,rfl,rfl,o,w,p,hz,q⟩:=h;cases j;symm;let⟨t,rfl⟩:=i;let⟨z,its,n,r,hl,e⟩:=I.Bt o;have hlen:its.toArray.size*k.toNat<=sizeLine:=by rw[dh,<-hl];show hz
 have f:¬its.toArray.size*k.toNat>(2 ^ 63-1)/8:=by
  have:(sizeLine:Nat)<=(2 ^ 63-1)/8:=by decide
  lia
 have B:¬(!Builtin.List.listFitsIndex k)=true:=by
  rw[fitsIndex_both w p];show i9
 have A:¬Dp (its.toArray.size*k.toNat)=true:=by
  rw[UL hlen];show i9
 have C:Gz (λd b=>d++b) #[] (fi (if its.toArray.isEmpty=true then 0 else k.toNat) its.toArray)=(fi k.toNat its).flatten.toArray:=by
  have f0:∀m:Nat,Gz (λd b=>d++b) #[] (fi m its.toArray)=(fi m its).flatten.toArray:=λm=>by
   have:=Vo its m [];rw[t8] at this;show this
  rw[f0];cases its with
  | nil=>simp
  | cons a D=>rw[if_neg (by show i9)]
 show wpAny_binaryOp_repeat_ref (T:="list") (U:="int") (by rfl) ⟨_,e,rfl⟩ (λg=>GA g k t) noFill_list_mul F.fills_int_mul PF repeat_list F.slot_int_index.lookup
  (tX PF (GA s k t) F.entry_int_rmul (F.args_int_rmul_2 _ _) (int___rmul___int_list k t l its.toArray n)
   ⟨e,rfl,⟨_,e,rfl⟩,tX F.slot_list_mul ⟨_,e,rfl⟩ F.entry_list_mul (F.args_list_mul_2 _ _) (ZE l its.toArray n k t B f A) ⟨e,?_⟩⟩)
 rw[C];show⟨.ref _,_,I.Mf (t':=s.toks) (r.rep k.toNat) (by rw[zsH,Nat.mul_comm];show hz),rfl,q _ I.fresh⟩
end L2
namespace Y0
open PySem PySem.W PySem.Calls PyProof.Rows
def zgh:∀ns c,WellAll P h c (ns.map OD)->IntsAre c ns:=by
 intro ns;induction ns with
 | nil=>
  intro c w;rw[t5] at w;cases w;show .nil
 | cons n ns d=>
  intro c w;rw[c8] at w;cases w with
  | cons a b=>
   cases a;show .cons _ _ (d _ b)
def zns{l:OpenLaw}(p:l.most\n)
  (i:l.row.toRowW.claim.pre args=true) (m:WellAll P h vals args) :
  ∃a f ns,vals=[fM a]/\args=[WData.list (ns.map OD)]/\h.get? a=some { cls:=.type "list",data:=.seq f.toArray }/\IntsAre f ns/\ns.length<=n:=by
 have e:WShape.hasAll [] args [.list .int]=true:=(pre_splitW i).1;have g:l.pre.holds [] { args:=args }=true:=(pre_splitW i).2;symm;let⟨d,r,rfl,t,s⟩:=hasAllW_cons e;obtain rfl:=hasAllW_nil s;let⟨xs,rfl,q⟩:=hasW_list t;let⟨ns,rfl⟩:=items_int q;have hlen:ns.length<=n:=by
  unfold OpenLaw.pre at g;have b:(WTm.not (.lt (.lit (.int (n:Int))) (.len (.arg 0)))).holds [] { args:=[.list (ns.map .int)] }=true:=by
   have b:=(holds_andW g).1;rw[p] at b;show b
  have u:=condW_of b (w_not (w_lt w_lit (w_len_list (w_arg rfl))));cbv
 cases m with
 | cons w1 w2=>
  cases w2;cases w1 with
  | list o j=>show⟨_,_,ns,rfl,rfl,o,zgh ns _ j,hlen⟩
theorem znt(l:OpenLaw)(args):l.row.toRowW.claim.post args (.bool true) args=true:=
 postW_of (r:=l.row.toRowW) (X:=(true==true))
  (show OJ [] (.bool true) .bool=true by first | rfl | decide | simp[OJ,WShape.arms,WShape.armsAll])
  (show(WTm.eq .res (.lit (.bool true))).value [] { args:=args,res:=some (.bool true),after:=args }\.bool (true==true) from w_eq_bool (w_res rfl) w_lit) rfl
def aby{l:OpenLaw}
  (u:l.most\n) (C:d.params.defaults=[])
  (call:∀w gm c mg h fa o pm cd doc a e ns,
   Ground q b [] k w gm mg h c.heap->j w c.heap->
   c.heap.get? fa\o->o.data=.func (docDef d.name d.params d.body d.scope pm cd doc)->c.heap.CodeRec cd d.name->mg d.name\.ref fa->
   c.heap.get? a=some { cls:=.type "list",data:=.seq e.toArray }->IntsAre e ns->ns.length<=n->c.gens=#[]->
   codeAny (model l.prog w) callerA (.call (.ref fa) ⟨[.ref a],[]⟩) (λr g=>r=.ok (.ret (.bool true))/\OldK c.heap g.heap/\g.os=c.os/\AllBare g.gens) c) :
  WalkO q b k j l.row.toRowW d [] (λf e=>OI f e):=by
 intro w gm c mg h G Y fa o pm cd doc A kV t hd p i rf v args vals as E B H m F;obtain rfl:A=.none:=Dflts.none i C;obtain rfl:kV=.none:=Dflts.noKw i;let⟨a,e,ns,rfl,rfl,D,hints,hlen⟩:=zns u E m;show enter_call (rN (call w gm c mg h fa o pm cd doc a e ns G Y t (fd_plain hd) p rf D hints hlen v) λr g s=>?_);let⟨rfl,z,y,x⟩:=s;show⟨.inl ⟨.bool true,.bool true,[],rfl,λ_=>rfl,.bool true,znt l _,λ_=>⟨Qb,λ_ hm=>(nomatch hm)⟩⟩,z,y,x⟩
end Y0
namespace L2
open PySem PySem.Spec PyProof.Rows
theorem Kk:∀{a ns},IntsAre a ns->Vals (ns.map V.int) a
 | _,_,.nil=>.nil
 | _,_,.cons n t h=>.cons ⟨t,rfl⟩ (Kk h)
def RB(H:Hp):Prop:=∀b,H b=none\/∃o xs,H b=some (.fP o (.lst xs))
def zqd{K:ar}
  (KX:K.In f.heap) (R:f.heap.Ns mainGlobals mg) (i:f.heap.Ns builtinsNs B) (D:∀x:aa,x≠"__name__"->B x=bootBuiltins x) (L:f.heap.NoLimit) (hg:f.gens=#[])
  (E:f.heap.get? a=some { cls:=.type "list",data:=.seq j.toArray }) (hi:IntsAre j ns) (hl:ns.length<=sizeLine) (hr:eF k callerA)
  (F:∀base:aB,K.In base->base.Ns mainGlobals mg->jU P w K mg base Z k fa U [x] O) (J:∀s u,BindsTo s U ⟨[u],[]⟩ [(x,u)])
  (xR:∀H:Hp,RB H->bU K H a (ns.map V.int)->O [.ref a] H (λv _=>v=.bl true) λ_ _ _=>False)
  (I:∀H e g,Z [] H f (λ_ _ _=>False) e g->False) :
  codeAny (model P w) callerA (.call (.ref fa) ⟨[.ref a],[]⟩) (λr g=>r=.ok (.ret (.bool true))/\OldK f.heap g.heap/\g.os=f.os/\AllBare g.gens) f:=by
 have Q:=Kk hi;have M:=hi.length
 -- from an abstract heap in acw nothing but S WK may be tracked
 have core:∀H:Hp,RB H->bU K H a (ns.map V.int)->eX P w H f.heap->(∀b,H b≠none->b=a)->(H a≠none->K.lookup a=none)->
   codeAny (model P w) callerA (.call (.ref fa) ⟨[.ref a],[]⟩) (λr g=>r=.ok (.ret (.bool true))/\OldK f.heap g.heap/\g.os=f.os/\AllBare g.gens) f:=by
  intro H T hS aX hA hK;have Y:∀{b:ag}{o:aR},f.heap.get? b\o->H b=none->(qz f.heap H).get? b\o:=λe n=>zpY e n
  have Bq:∀{b:ag}{o:aR}{t:Array DictEntry}{y:Nat},f.heap.get? b\o->o.data=.dict t y->H b=none:=λ{b o t y} e d=>by
   grind
  have A:∀{b:ag}{m:aa->Option af},f.heap.Ns b m->(qz f.heap H).Ns b m:=λ{b m} ⟨o,t,y,e,d,r⟩=>⟨o,t,y,Y e (Bq e d),d,r⟩
  have X:K.In (qz f.heap H):=λb o e=>Y (KX b o e) (by
   grind)
  have hM:Mod K mg (qz f.heap H):=⟨X,A R,⟨B,A i,D⟩,let⟨mc,h1,h2⟩:=L;⟨mc,A h1,h2⟩⟩
  have e0:vH P w K mg (qz f.heap H) callerA [] f H:=⟨rfl,hM,λb o e=>zsn e,GW (zm5 _ _),trivial,λb i=>absurd (show b∈([]:List ag) from i) (by nofun),aX,.of_eq hg⟩
  show rN ((F _ X (A R)).run callerA [] f H ⟨[.ref a],[]⟩ [.ref a] [.ref a] _ _ hr e0 (J f (.ref a)) (.cons rfl .nil) (xR H T hS)) λr g h=>?_
  cases r with
  | error e=>show(I H e g h).elim
  | ok fl=>
   cases fl with
   | next=>show False.elim h
   | brk=>show False.elim h
   | cont=>show False.elim h
   | ret u=>
    symm;let⟨v,H',os,bare,un,N,r',q⟩:=h;have q':v=.bl true:=q;subst q';obtain rfl:u=Cz true:=r';show⟨rfl,OldK.of_keep λb o e=>?_,os,bare⟩;cases q:H b with
    | none=>show un.keep b o e q (by intro z;show absurd (show b∈([]:List ag) from z) (by nofun)) (by nofun)
    | some u=>
     symm;rcases T b with z | ⟨ob,xs,z⟩
     .rw[q] at z;cases z
     have z2:=un.rm b ob _ z;symm;let⟨W,l⟩:=aX b _ z;let⟨e2,l⟩:=N b _ z2;rw[e] at W;cases W;show e2
 cases C:K.lookup a with
 | some o=>
  -- S WK is one of S acG own objects
  have e:=KX a o C;rw[E] at e;cases e;show core (λ_=>none) (λ_=>.inl rfl) (.inr ⟨_,j.toArray,_,C,rfl,rfl,rfl,by rw[dh,M];show hl,by simpa using Q⟩) (λb u z=>by have p:(none:Option HO)\u:=z;cases p) (λb z=>absurd rfl z) λz=>absurd rfl z
 | none=>
  show core (λb=>if b=a then some (.fP { cls:=.type "list",data:=.seq j.toArray } (.lst (ns.map V.int))) else none) (λb=>?_) (.inl (.inr ⟨{ cls:=.type "list",data:=.seq j.toArray },if_pos rfl⟩)) (λb u z=>?_) (λb z=>?_) λ_=>C
  .grind
  .by_cases i:b=a
   .have p:=(if_pos i).symm.trans z;cases p;subst i;show⟨E,by rw[aL];show hl,j,_,Q,E⟩
   have p:=(if_neg i).symm.trans z;cases p
  by_cases i:b=a
  .exact i
  show absurd (if_neg i) z
abbrev rG{K:ar}{h:aB}(_:K.In h):ar:=K
def T9(s:bY)(j:Nat):bY:=match s with
 | .ClassDef _ _ _ body _ _ _ _ _ _ _=>body.getD j (.Pass ⟨0,0,0,0⟩)
 | _=>.Pass ⟨0,0,0,0⟩
def oJ(s:bY):Arguments:=match s with
 | .FunctionDef _ a _ _ _ _ _ _ _ _=>a
 | _=>{ posonlyargs:=[],args:=[],vararg:=none,kwonlyargs:=[],kw_defaults:=[],kwarg:=none,defaults:=[] }
def iu(s:bY):List bY:=match s with
 | .FunctionDef _ _ b _ _ _ _ _ _ _=>b
 | _=>[]
def de(s:bY):gG:=match s with
 | .FunctionDef _ _ _ _ _ _ sc _ _ _=>sc
 | _=>{ kind:=.function,names:=[],isGenerator:=false,isCoroutine:=false }
abbrev iw:pW:=λ_ _ _ _ _ _=>False
abbrev E0:XK:=λ_ _ _=>False
theorem IT:zW iw X E0:=λ_ _ _ _ _ _ _ h=>h.elim
structure rJ(dV:af)(K:ar)(x qual:aa)(st:bY)(f:ag)(fd:gH):Prop where
 ex:∃(oc:af)(od:Option ag)(kV doc pm:af)(an:Option ag)(aJ ct:af)(jL:Array (Option af)),
  fd=lJ x qual (oJ st) (iu st) (de st) dV kV doc pm an aJ ct/\K.lookup f\⟨oc,od,.func fd,jL⟩/\vY K aJ qual=true
 kp:nK K (.ref f)=true
abbrev Gb:=rJ .none
section
variable{K:ar}
def rJ.ok{st:bY}(F:rJ o K x b st f i)(S:nF N ps (de st))(len:∀d H Q E,g d H Q E->d.length=ps.length)
  (p:∀e A outer s H d Q E,eF k (A.deeper (envOfC b (de st) *...* f e))->g d H Q E->
   ∃t,kB (kP iw P w K mg base N b (de st) f e A outer s H E).nc (iu st) t/\t { nx:=λ_ H'=>Q .non H',rt:=Q } (iX N d) H):jU P w K mg base iw (k+1) f i ps g:=by
 symm;let⟨u,r,kV,doc,pm,an,e,ct,v,rfl,lk,m⟩:=F.ex;show zwd lk m S len λA outer s H d Q E n j=>?_
 symm;let⟨t,h,q⟩:=p e A outer s H d Q E n j;show⟨t,h.nc,q⟩
def rJ.binds{st:bY}(F:Gb K x a st f c)
  (h:∀kV doc pm an b ct us,us.length=ps.length->bindArgs (lJ x a (oJ st) (iu st) (de st) .none kV doc pm an b ct) ⟨us,[]⟩=pure (ps.zip us)):Binds K c ps []:=by
 let⟨e,d,kV,doc,pm,an,b,ct,g,rfl,lk,i⟩:=F.ex;show .all (h kV doc pm an b ct)
theorem Je{st:bY}{e kV b pm d ct:af}(l:K.lookup f\⟨i,h,.func (lJ x a (oJ st) (iu st) (de st) e kV b pm g d ct),j⟩)
  (c:vY K d a=true) (k:nK K (.ref f)=true):rJ e K x a st f (lJ x a (oJ st) (iu st) (de st) e kV b pm g d ct):=⟨⟨i,h,kV,b,pm,g,d,ct,j,rfl,l,c⟩,k⟩
end
theorem pv(i)(hN:X.N[i]?=some x:=by rfl)(hv:rB X.env.scope x:=by first | show Or.inl rfl | show Or.inr (Or.inl rfl) | show Or.inr (Or.inr rfl))(hd:(x==("__debug__":aa))=false:=by decide)
  (b:(x==("__classdict__":aa))=false:=by decide):PE X (.Name x a) (uw i):=uH hN hv hd b
def aZ(H H':Hp):Prop:=∀b o,H b\o->H' b=some o
theorem aZ.refl(H):aZ H H:=λ_ _ h=>h
theorem aZ.trans(a:aZ H e)(b:aZ e d):aZ H d:=λc o h=>b c o (a c o h)
def aZ.free(e:aZ H H')(h:H' l=OO):H l=OO:=by
 cases q:H l with
 | none=>rfl
 | some o=>
  rw[e l o q] at h;cases h
end L2
set_option maxHeartbeats 0
namespace L2
open PySem PySem.Spec PyProof.Rows
def gv(K:ar)(H:Hp)(a:ag)(xs:List V):Prop:=
 Rd H a (.lst xs)\/∃its n,K.lookup a=some { cls:=.type "list",data:=.seq its n }/\its.size<=sizeLine/\Vals xs its.toList
theorem gv.of{K:ar}(h:H a\.lst xs):gv K H a xs:=.inl (.inl h)
def gv.sq{K:ar}(h:gv K H a xs):bU K H a xs:=by
 rcases h with h | ⟨its,n,d,c,b⟩
 .exact .inl h
 show .inr ⟨_,its,n,d,rfl,rfl,rfl,c,b⟩
def aZ.cF{K:ar}(e:aZ H H')(h:gv K H a xs):gv K H' a xs:=by
 rcases h with(h | ⟨o,h⟩) | h
 .exact .inl (.inl (e _ _ h))
 .exact .inl (.inr ⟨o,e _ _ h⟩)
 show .inr h
def Inv.cF{c:St}(I:Inv X g c H s)(h:gv X.K H a xs):xs.length<=sizeLine/\∃(its:List af)(n:Nat),Vals xs its/\s.heap.get? a=some { cls:=.type "list",data:=.seq its.toArray n }:=by
 rcases h with h | ⟨its,n,f,d,b⟩
 .let⟨z,its,n,r,e⟩:=h.ok I.aX;show⟨z,its,n,r,e⟩
 show⟨by rw[b.length];simpa using d,its.toList,n,b,?_⟩;show I.ng a _ f
def ij(cells:List (aa×ag)):List (aa×NameKind)->List (aa×ag)->List (aa×ag)
 | [],acc=>acc
 | (n,k)::r,acc=>ij cells r (if k==.free then(n,(cells.lookup n).getD 0)::acc else acc)
theorem VW:∀names acc,(∀x∈names,x.2=.free->∃c,env.cells.lookup x.1\c)->
  (forIn names acc λ(x:aa×NameKind)(r:List (aa×ag))=>
   (if (x.2==mJ)=true then do let a <-cellOf env x.1;pure (rO ((x.1,a)::r)) else pure (rO r):Sem (ForInStep (List (aa×ag)))))=pure (ij env.cells names acc)
 | [],acc,_=>by rfl
 | (n,k)::r,acc,h=>by
  have d:=λf=>VW (env:=env) r f λx hx=>h x (fL _ hx)
  rw[List.forIn_cons];by_cases g:k=.free
  .subst g;let⟨c,e⟩:=h (n,.free) (by show .head _) rfl;have i:cellOf env n=pure c:=by unfold cellOf;rw[e]
   simp![mL,cy,i,pure_bind];rw[d];simp[ij,e]
  have b:(k==mJ)=false:=by show if_neg ‹_›
  simp![b,cO,cC,pure_bind];rw[d];simp[ij,b]
def VV(h:∀x∈scope.names,x.2=.free->∃c,env.cells.lookup x.1\c):closureFor scope env=pure (ij env.cells scope.names []):=by
 have e:closureFor scope env=(forIn scope.names ([]:List (aa×ag)) λ(x:aa×NameKind)(r:List (aa×ag))=>
   (if (x.2==mJ)=true then do let a <-cellOf env x.1;pure (rO ((x.1,a)::r)) else pure (rO r):Sem (ForInStep (List (aa×ag))))) >>= λr=>pure r:=rfl
 rw[e,VW _ _ h];rfl
theorem UJ:∀{names acc x c},(x,c)∈ij cells names acc->(x,c)∈acc\/((x,.free)∈names/\c=(cells.lookup x).getD 0)
 | [],acc,x,c,h=>.inl h
 | (n,k)::r,acc,x,c,h=>by
  rcases UJ (names:=r) h with h | ⟨h,e⟩
  all_goals grind
theorem UI:∀{names acc p},p∈acc->p∈ij cells names acc
 | [],acc,p,h=>h
 | (n,k)::r,acc,p,h=>UI (names:=r) (by split<;>simp[h])
theorem JT:∀{names acc x},(x,.free)∈names->∃c,(x,c)∈ij cells names acc
 | (n,k)::r,acc,x,h=>by
  rcases bM.mp h with h | h
  .have b:x=n:=congrArg OA h;have a:mJ=k:=congrArg Prod.snd h;subst b a;show⟨(cells.lookup x).getD 0,?_⟩;show(x,(cells.lookup x).getD 0)∈ij cells r (if (mJ==mJ)=true then(x,(cells.lookup x).getD 0)::acc else acc);show UI (by show .head _)
  show JT (names:=r) h
theorem EN{d:Type}:∀{l:List (aa×d)}{x c},(x,c)∈l->∃b,l.lookup x=some b
 | (n,k)::r,x,c,h=>by
  by_cases e:x=n
  .subst e;show⟨k,by simp[CW]⟩
  have f:(x==n)=false:=by show if_neg ‹_›
  symm;rcases bM.mp h with h | h
  .cases h;show absurd rfl e
  let⟨b,q⟩:=EN h;show⟨b,by simp[CW,f,q]⟩
theorem Ly{env:dZ}:∀{names:List (aa×NameKind)}{x:aa},
  (names.map λ(n,k)=>if (k==mJ&&env.scope.kind==.function&&env.kindOf n==some .cell) then(n,vU) else(n,k)).lookup x
   = (names.lookup x).map λk=>if (k==mJ&&env.scope.kind==.function&&env.kindOf x==some .cell) then vU else k
 | [],x=>rfl
 | (n,k)::r,x=>by
  have a:=@Ly env r x;grind
theorem LO:∀names n acc a,cellsFrom n names (acc++a)=cellsFrom n names acc++a
 | [],_,_,_=>rfl
 | (x,k)::r,n,acc,a=>by
  unfold cellsFrom;split
  .exact LO r (n+1) ((x,n)::acc) a
  show LO r n acc a
theorem LN:∀{names n acc p},p∈cellsFrom n names acc->p∈acc\/(p.1,.cell)∈names
 | [],_,_,_,h=>.inl h
 | (x,k)::r,n,acc,p,h=>by
  unfold cellsFrom at h;split at h
  .rename_i a;rcases LN h with h | h
   all_goals grind
  show(LN h).imp id (fL _)
theorem AW:∀{names n acc p},p∈acc->p∈cellsFrom n names acc
 | [],_,_,_,h=>h
 | (x,k)::r,n,acc,p,h=>by
  unfold cellsFrom;split
  .exact AW (fL _ h)
  show AW h
theorem LM:∀{names n acc x},(x,.cell)∈names->∃c,(x,c)∈cellsFrom n names acc
 | (y,k)::r,n,acc,x,h=>by
  unfold cellsFrom;rcases bM.mp h with h | h
  .cases h;show⟨n,AW (by show .head _)⟩
  split
  .exact LM h
  show LM h
def zqe
  (g:∀h',h'=pushCells (s.heap.push { cls:=.type "dict",data:=.dict #[] }) scope.names->Q (newEnv scope *...* a (cellsFrom (*...*+1) scope.names b) c d e (some out) builtinsNs) { s with heap:=h' }) :
  wpAny M A (newFunctionEnv scope a b [] c d e (some out)) Q E s:=by
 simp only[newFunctionEnv,HK,cy];show aq (wpAny_alloc ?_);show aq (wpAny_layCells _ (λname kind cells=>by cases f:kind==vU<;>simp[f]) _ _ _ _ ?_);rw[show({ s with heap:=s.heap.push { cls:=.type "dict",data:=.dict #[] } }:aj).heap.objs.size=*...*+1 from nL ..];show aq (aE (aE (g _ rfl)))
abbrev jq(X:Cx)(N':List aa)(scope:gG)(a:aj)(b:Hp)(ex:List ag)(XE:af->aj->Prop):Cx:=
 { X with N:=N',gm:=a,Ck:=b,env:=compEnvC scope (cellsFrom (a.heap.objs.size+1) scope.names (ij X.env.cells scope.names [])) a.heap.objs.size X.env,outer:=X.stack,stack:=X.stack,ex:=ex,fn:=λx=>scope.names.lookup x==some .cell,pn:=[],xe:=XE }
abbrev fH(X:Cx)(N':List aa)(scope:gG)(a:aj)(b:Hp)(ex:List ag):Cx:=jq X N' scope a b ex λ_ _=>False
def Ow(X:Cx)(C:ag)(x:af)(a:aj):Prop:=
 ∃m,a.heap.Ns C m/\∀h',j4 C a.heap h'->∀b:dZ,b.locals=C->⇑(passOn "comprehension.variables-let-go" x b:Sem af) (λ_ _=>False) X.xe { a with heap:=h' }
def kZ(m:List (Option Nat))(a:St):St:=m.map λo=>match o with
 | none=>none
 | some j=>(a[j]?).join
structure iQ(X:Cx)(N':List aa)(m:List (Option Nat))(scope:gG):Prop where
 kind:scope.kind=.function
 len:m.length=N'.length
 uniq:∀y∈scope.names,scope.names.lookup y.1\y.2
 free:∀y∈scope.names,y.2=.free->X.env.kindOf y.1\.cell\/X.env.kindOf y.1\.free
 cap:∀(i j:Nat)(x:aa),m[i]?\some j->N'[i]?\x->X.N[j]?\x/\scope.names.lookup x=some .free
def tT(X:Cx)(a:List ay)(t:TT):Prop:=
 ∀b s (σ:St) H Q,Inv X b σ H s->t σ H Q->
  ⇑(forIn a true λc r=>if r=true then do let ok <-isTrue c X.env (eval c X.env);pure (rO ok) else pure (rO r)) (TP X b σ Q) X.xe s
def Z5:TT:=λ_ H Q=>Q true H
theorem zsJ:tT X [] Z5:=λ_ _ σ H _ I h=>wpAny_tests_nil ⟨H,I,h⟩
theorem zsK(h:PT X c t):tT X [c] t:=λa s σ H Q I q=>wpAny_tests_one (h a s σ H Q I q)
section
variable{prog:aG}{w:aF}{A:bh}{R:Result->aj->Prop}{s:aj}
def zkv{g a e:ay}{f:List ay}{scope:gG}{j:aN}{k acc:af}{env:dZ}{b:af->aj->Prop}(d:∀x s,b x s->notedBy (model prog w) A env (λx D=>R (.error x) D) x s)(I:Nat->aj->Prop)
  (turn:∀n s,I n s->↥(pyNext k) (λr l=>match r with
   | none=>R (.ok .next) l
   | some v=>↥(letOwnedTupleGo a k v) (λ_ y=>↥(assign a env v) (λ_ u=>
     ↥(forIn f true λc r=>if r=true then do let ok <-isTrue c env (eval c env);pure (rO ok) else pure (rO r)) (λok i=>
      if ok=true then ↥(eval g env) (λx C=>
       ↥(call (.builtin "list.append") [acc,x]) (λ_ z=>∃m,m<n/\I m z) b C) b i
      else ∃m,m<n/\I m i) b u) b y) b l) b s)
  (n:Nat) (h:I n s) :
  codeAny (model prog w) A (.compLoop (.ListComp g [⟨a,e,f,0⟩] scope j) 0 k acc env) R s:=by
 show codeAny_loop rfl I (λn s E=>?_) n h;show wpAny_noted ?_;show aq (za (aq (ja (turn n s E) (λr l t=>?_) d)));cases r with
 | none=>show aE t
 | some v=>
  show aq (ja t (λ_ y o=>?_) d);show aq (ja o (λ_ u F=>aq (ja F (λok i B=>?_) d)) d);cases ok with
  | false=>show aE ⟨rfl,B⟩
  | true=>
   show aq (aq (ja B (λx C p=>aq (ja p (λ_ z q=>aE (aE ⟨rfl,q⟩)) d)) d))
end
abbrev gM(a:Type):=aj->Hp->List ag->a
def nZ(j:TI)(m:List (Option Nat))(g:gM TG)(tc:gM TT)(te:gM TE):TE:=λσ H Q=>j σ H λJ H1=>∀D,H1 D=none->∀s3 ex,
 ∃W:Nat->Nat->St->Hp->Prop,(∃k,W 0 k (kZ m σ) (upd H1 D (.lst [])))/\∀i k a H',W i k a H'->
  (J.stop i H'/\Q (.ref D) H')\/(J.go i H'/\∃N:St->Hp->Prop,(∀a H',N a H'->∃d,d<k/\W (i+1) d a H')/\
   ∀x h,J.EO i H' x h->g s3 (upd H1 D (.lst [])) ex x a h λc l=>tc s3 (upd H1 D (.lst [])) ex c l λb f=>
    if b=true then te s3 (upd H1 D (.lst [])) ex c f λv e=>∃xs,e D\.lst xs/\xs.length<sizeLine/\N c (upd e D (.lst (xs++[v]))) else N c f)
section
variable{X:Cx}{m:List (Option Nat)}{g:gM TG}
def zqf{A:St}{fp:List ag}(w:iQ X N' m scope)(I:Inv X U A H s)(f:∀b∈fp,mq X U H b)(R:∀b∈fp,b< *...*)
  (F:C=pushCells (s.heap.push { cls:=.type "dict",data:=.dict #[] }) scope.names) :
  Inv (jq X N' scope s H fp XE) [] (kZ m A) H { s with heap:=C,toks:=tk }:=by
 have D:∀b o,s.heap.get? b\o->C.get? b\o:=λb o e=>by rw[F];show Hr _ _ b o (bW _ e)
 have k8:C.Ns *...* (λ_=>none):=by rw[F];show(Heap.Ns.new s.heap (.type "dict")).keeps (Hr _ _)
 have ok:=cellsFrom_ok scope.names (s.heap.push { cls:=.type "dict",data:=.dict #[] }) (*...*+1) [] ⟨λ_ _ hm=>(nomatch hm),Qb⟩ (by rw[nL];show bB _);rw[nL,<-F] at ok;have jP:∀y∈scope.names,y.2=.free->∃c,X.env.cells.lookup y.1=some c:=λy hy hf=>I.ok.has y.1 (w.free y hy hf)
 have app:cellsFrom (*...*+1) scope.names (ij X.env.cells scope.names [])=cellsFrom (*...*+1) scope.names []++ij X.env.cells scope.names []:=LO _ _ [] _
 /- a cell: of its own,or one from around -/
 have t:∀x c,(cellsFrom (*...*+1) scope.names (ij X.env.cells scope.names [])).lookup x\c->((x,c)∈cellsFrom (*...*+1) scope.names []/\scope.names.lookup x\.cell)\/(X.env.cells.lookup x\c/\scope.names.lookup x\.free):=λx c e=>by
  have hm:=rS e;rw[app] at hm;symm;rcases bJ.mp hm with hm | hm
  .refine .inl ⟨hm,?_⟩;rcases LN hm with z | z
   .cases z
   show w.uniq _ z
  rcases UJ hm with z | ⟨z,S⟩
  .cases z
  let⟨K,q⟩:=jP _ z rfl;rw[q] at S;show .inr ⟨by rw[q,S];rfl,w.uniq _ z⟩
 have old:∀x c,X.env.cells.lookup x\c->c< *...*:=λx c e=>by let⟨v,z⟩:=I.cell x c e;show z.lt
 show⟨⟨I.ok.mod,w.kind,I.ok.glob,I.ok.blt,bB _,λx y c e1 e2=>?inj,λx hx=>?_,λx c hx e=>?cab,I.ok.hd,I.ok.frames,.inl rfl,λb r=>⟨cg (R b r),λx c e=>?exf⟩,
  λb o e=>I.bs b o e,bX I.ok.tP I.sz,λb o e r=>?_,λb r z=>?_,I.stack,I.WD⟩,
  rfl,I.bare,Un.kept D,⟨_,k8,λi x v h1 d h3=>?_⟩,λx c e=>?_,I.aX.fresh (bB _),λx c e=>?frc,λp hp=>(by cases hp),I.aX.kept D,?_⟩
 case inj=>
  rcases t x c e1 with⟨g,_⟩ | ⟨o1,_⟩<;>rcases t y c e2 with⟨P,_⟩ | ⟨O,_⟩
  .exact PySem.name_of_addr ok.apart g P
  .exact absurd (old y c O) (Cw.mpr (bX (iC _) (ok.empty x c g).2))
  .exact absurd (old x c o1) (Cw.mpr (bX (iC _) (ok.empty y c P).2))
  show I.ok.inj x y c o1 O
 case cab=>
  rcases t x c e with⟨g,_⟩ | ⟨_,z⟩
  .exact bX (iC _) (ok.empty x c g).2
  have h:(scope.names.lookup x==some .cell)=true:=hx;rw[z] at h;cases h
 case exf=>
  rcases t x c e with⟨g,_⟩ | ⟨o1,_⟩
  .exact nJ (iR (lE (R b r)) (ok.empty x c g).2)
  show(f b r).2.2.2.2.1 x c o1
 case frc=>
  rcases t x c e with⟨g,_⟩ | ⟨o1,_⟩
  .exact I.aX.fresh (bX (iC _) (ok.empty x c g).2)
  show I.oH x c o1
 .have h:(relabel scope X.env).names.lookup x\.cell\/(relabel scope X.env).names.lookup x\.free:=hx;have e:(relabel scope X.env).names.lookup x=(scope.names.lookup x).map λk=>if (k==mJ&&X.env.scope.kind==.function&&X.env.kindOf x==some .cell) then vU else k:=Ly
  rw[e] at h;have hf:(x,mJ)∈scope.names\/(x,vU)∈scope.names:=by
   cases q:scope.names.lookup x with
   | none=>rw[q] at h;simp at h
   | some k=>
    rw[q] at h;have hm:=rS q;by_cases Q:k=.free
    .subst Q;show .inl hm
    have W:(k==mJ)=false:=by show if_neg ‹_›
    simp![W,hZ,Pq,cO,cC,fJ] at h;rcases h with z | z
    .subst z;show .inr hm
    show absurd z Q
  show ∃c,(cellsFrom (*...*+1) scope.names (ij X.env.cells scope.names [])).lookup x=some c
  rcases hf with hf | hf
  .let⟨c,J⟩:=JT (cells:=X.env.cells) (acc:=[]) hf;show EN (AW J)
  let⟨c,J⟩:=LM (n:=*...*+1) (acc:=ij X.env.cells scope.names []) hf;show EN J
 .rcases(f b r).2.2.2.1 with z | z
  .exact I.ok.Bp b o e z
  show absurd (iR (bI (I.ok.bs b o e).1) z) (pZ _)
 .rcases bM.mp (I.LR b z) with q | q
  .exact(f b r).2.1 q
  show(f b r).2.2.1 q
 .unfold kZ at d;rw[cx] at d;cases q:m[i]? with
  | none=>rw[q] at d;cases d
  | some o=>
   rw[q] at d;cases o with
   | none=>cases d
   | some j=>
    simp![hZ,fJ] at d;have Yu:A[j]?\some v:=by
     cases z:A[j]? with
     | none=>rw[z] at d;cases d
     | some a=>rw[z] at d;simp at d;rw[d]
    let⟨hN,E⟩:=w.cap i j x q h1;have T:=rS E;let⟨m0,hn0,hl⟩:=I.loc;have V:=w.free _ T rfl;have L:rB X.env.scope x:=V.elim (λz=>.inr (.inl z)) (λz=>.inr (.inr z));let⟨u,Y,Z⟩:=hl j x v hN Yu L;show⟨u,Y,.inr ⟨?_,?_⟩⟩
    .show(relabel scope X.env).names.lookup x\.cell\/(relabel scope X.env).names.lookup x\.free;have e:(relabel scope X.env).names.lookup x=(scope.names.lookup x).map λk=>if (k==mJ&&X.env.scope.kind==.function&&X.env.kindOf x==some .cell) then vU else k:=Ly
     rw[e,E];simp![hZ];split
     .exact .inl rfl
     show .inr rfl
    rcases Z with⟨k,_⟩ | ⟨_,c,e,z⟩
    .rcases V with z | z<;>· rw[k] at z;cases z
    let⟨K,N⟩:=EN (AW (names:=scope.names) (n:=*...*+1) (JT (cells:=X.env.cells) (acc:=[]) T).choose_spec);have:X.env.cells.lookup x\K:=by
     rcases t x K N with⟨_,z⟩ | ⟨z,_⟩
     .rw[E] at z;cases z
     show z
    rw[e] at this;cases this;let⟨B,M,hd⟩:=z;show⟨c,N,B,D c B M,hd⟩
 .rcases t x c e with⟨g,_⟩ | ⟨o1,_⟩
  .exact⟨none,(ok.empty x c g).1⟩
  let⟨v,B,M,hd⟩:=I.cell x c o1;show⟨v,B,D c B M,hd⟩
 show(kZ m A).length=N'.length;unfold kZ;rw[aL,w.len]
def Ov(X:Cx)(a:aj)(d:Hp)(ex:List ag):Prop:=∃c σ,Inv X c σ d a/\∀b∈ex,mq X c d b/\b<a.heap.objs.size
def Vn{E:St}
  {XE:aj->af->aj->Prop} (B1:∀s3 x t,XE s3 x t->notedBy (model X.prog X.w) X.A (compEnvC scope (cellsFrom (s3.heap.objs.size+1) scope.names (ij X.env.cells scope.names [])) s3.heap.objs.size X.env) (Ow X s3.heap.objs.size) x t)
  (hc:X.calm=true) (cs:iQ X N' m scope) (hi:PI X tg iter wi) (hg:∀s3 B ex,PG (jq X N' scope s3 B ex (XE s3)) tg (g s3 B ex)) (ht:∀s3 B ex,tT (jq X N' scope s3 B ex (XE s3)) ifs (tc s3 B ex))
  (he:∀s3 B ex,Ov X s3 B ex->PE (jq X N' scope s3 B ex (XE s3)) elt (te s3 B ex)) (I:Inv X z E H s) (h:nZ wi m g tc te E H Q)
  (fin:∀D C t H',Inv X z E H' t->mq X z H' C->(∃m,t.heap.Ns C m)->Q (.ref D) H'->compPost (model X.prog X.w) X.A X.xe use Q' (.ref D) C (.ok .next) t) :
  ⇑(eval iter X.env) (λx bZ=>⇑(pyIter x) (λit kg=>⇑(newList []) (λacc sW=>
   ⇑(newFunctionEnv scope X.env.globals (ij X.env.cells scope.names []) [] X.env.qual none .none (some X.env)) (λB9 EW=>
    codeAny (model X.prog X.w) X.A (.compStart (.ListComp elt [⟨tg,iter,ifs,0⟩] scope pos) 0 it acc { B9 with scope:=relabel scope X.env }) (compPost (model X.prog X.w) X.A X.xe use Q' acc B9.locals) EW) X.xe sW) X.xe kg) X.xe bZ) X.xe s:=by
 show aW (hi z s E H _ I h) λv s1 h1=>aW h1 λMi s2 h2=>?_
 symm;let⟨it,fp,Y,J,q,e,I2,T,a9,f2,h⟩:=h2;subst e;show kI (zqe λlY X6=>?_);have hf:q s2.heap.objs.size=none:=I2.aX.fresh (bB _);obtain⟨W,⟨k0,w0⟩,turn⟩:=h s2.heap.objs.size hf { s2 with heap:=s2.heap.push { cls:=.type "list",data:=.seq ([]:List af).toArray } } fp;have V:Inv X z E (upd q s2.heap.objs.size (.lst [])) { s2 with heap:=s2.heap.push { cls:=.type "list",data:=.seq ([]:List af).toArray } }:=I2.Mf (its:=[]) (t':=s2.toks) .nil ∅;have YC:∀b∈fp,b<s2.heap.objs.size:=λb f=>by
  let⟨o,e,l⟩:=T.obj _ _ a9 b f;show bI e
 have f3:∀b∈fp,mq X z (upd q s2.heap.objs.size (.lst [])) b:=λb f=>⟨by rw[br (cg (YC b f))];show(f2 b f).1,(f2 b f).2⟩
 generalize XA:({ s2 with heap:=s2.heap.push { cls:=.type "list",data:=.seq ([]:List af).toArray } }:aj)=s3 at *;have hC:s3.heap.objs.size=s2.heap.objs.size+1:=by rw[<-XA];show nL ..
 have Nd:∀b∈fp,b<s3.heap.objs.size:=λb f=>by rw[hC];show lE (YC b f)
 have k3:∀b o,s2.heap.get? b\o->s3.heap.get? b\o:=λb o e=>by rw[<-XA];show bW _ e
 have k1:∀b o,s3.heap.get? b\o->lY.get? b\o:=λb o e=>by rw[X6];show Hr _ _ b o (bW _ e)
 have J0:=zqf (XE:=XE s3) (tk:=s3.toks) cs V f3 Nd X6;have qP:Y 0 lY:=T.keep _ _ _ a9 λb _ o e=>k1 b o (k3 b o e)
 have Nc:∀{H':Hp},(∀b∈fp,H' b=none)->∀b∈fp,mq (jq X N' scope s3 (upd q s2.heap.objs.size (.lst [])) fp (XE s3)) [] H' b:=λhn b f=>
  ⟨hn b f,cg (Nd b f),J0.ok.B7 b f,.inl f,(J0.ok.exf b f).2,λp hp=>by cases hp⟩
 have tH:∀b∈fp,(upd q s2.heap.objs.size (.lst [])) b=none:=λb f=>(f3 b f).1
 have loop:codeAny (model X.prog X.w) X.A (.compLoop (.ListComp elt [⟨tg,iter,ifs,0⟩] scope pos) 0 (.ref it) (.ref s2.heap.objs.size) (compEnvC scope (cellsFrom (s3.heap.objs.size+1) scope.names (ij X.env.cells scope.names [])) s3.heap.objs.size X.env))
   (compPost (model X.prog X.w) X.A X.xe use Q' (.ref s2.heap.objs.size) s3.heap.objs.size) { s3 with heap:=lY }:=by
  show zkv (B1 s3) (λn t=>∃i O H',Inv (jq X N' scope s3 (upd q s2.heap.objs.size (.lst [])) fp (XE s3)) [] O H' t/\Y i t.heap/\(∀b∈fp,H' b=none)/\W i n O H') ?_ k0 ⟨0,_,_,J0,qP,tH,w0⟩;rintro n s4 ⟨i,S,R,I4,WE,rn,w4⟩;rcases turn i n S R w4 with⟨stop,qn⟩ | ⟨go,N,hN,step⟩
  .refine aW (T.done (jq X N' scope s3 (upd q s2.heap.objs.size (.lst [])) fp (XE s3)) rfl rfl rfl hc i [] s4 S R _ I4 (Nc rn) WE stop) λr s5 j=>?_
   let⟨hr,L⟩:=j;subst hr;have lg:∀b∈fp,(b∈X.ex\/X.gm.heap.objs.size<=b)/\b≠X.env.locals/\(∀x c,X.env.cells.lookup x\c->c≠b)/\∀p∈X.pn++z,p.1≠b:=λb f=>⟨(f2 b f).2.2.2.1,(f2 b f).2.1,(f2 b f).2.2.2.2.1,(f2 b f).2.2.2.2.2⟩
   have I6:Inv X z E R s5:=V.abx (ch:=fp) L.os L.base L.aX L.bare lg;let⟨m5,hn5,l⟩:=id L.loc;show fin _ _ s5 R I6 (V.tL (bB _) L.free) ⟨m5,hn5⟩ qn
  show aW (T.item (jq X N' scope s3 (upd q s2.heap.objs.size (.lst [])) fp (XE s3)) rfl rfl rfl hc i [] s4 S R _ I4 (Nc rn) WE go) λr s5 j=>?_
  let⟨u,hr,h5⟩:=j;subst hr;show aW h5 λ_ s6 j=>?_
  let⟨x,H6,I6,r6,y6,LU,FX⟩:=j;have I6':=I6.pinned (Nc FX) (T.obj _ _ LU);show aW (hg _ _ _ _ s6 S H6 x u _ I6' r6 (step x H6 y6)) λ_ s7 j=>?_
  let⟨U,H7,I7,q7⟩:=j;show aW (ht _ _ _ _ s7 U H7 _ I7 q7) λb s8 j=>?_
  let⟨H8,I8,q8⟩:=j;have again:∀{K:aj}{M:St}{F:Hp},Inv (jq X N' scope s3 (upd q s2.heap.objs.size (.lst [])) fp (XE s3)) ([]++zX fp s6.heap) M F K->N M F->∃m,m<n/\∃i O H',Inv (jq X N' scope s3 (upd q s2.heap.objs.size (.lst [])) fp (XE s3)) [] O H' K/\Y i K.heap/\(∀b∈fp,H' b=none)/\W i m O H':=λ{K M F} P n9=>by
   let⟨m',hm,w9⟩:=hN M F n9;show⟨m',hm,i+1,M,F,P.ER,T.keep _ _ _ LU λb f o e=>(P.pin (b,o) (gO _ (gO _ (EK f e)))).1,λb f=>?_,w9⟩;let⟨o,e,d⟩:=T.obj _ _ LU b f;show(P.pin (b,o) (gO _ (gO _ (EK f e)))).2.1
  cases b with
  | false=>show again I8 q8
  | true=>
   show aW (he _ _ _ ⟨z,E,V,λb f=>⟨f3 b f,Nd b f⟩⟩ _ s8 U H8 _ I8 q8) λy K j=>?_
   let⟨v9,F,P,r9,xs,hD,hz,q9⟩:=j;show aW (xx _ K U F (.ref s2.heap.objs.size) [v9] (.ref s2.heap.objs.size) [y] (λ_ H'=>N U H') P rfl (.cons r9 .nil) ⟨_,xs,v9,rfl,rfl,hD,hz,q9⟩) λ_ s10 j=>?_
   let⟨l,H10,I10,l,Z⟩:=j;show again I10 Z
 show codeAny_compStart_list loop (T.self _ 0 _ _ _ qP loop)
def zqg{XE:aj->af->aj->Prop}(G:∀s3 x f,XE s3 x f->notedBy (model X.prog X.w) X.A (compEnvC scope (cellsFrom (s3.heap.objs.size+1) scope.names (ij X.env.cells scope.names [])) s3.heap.objs.size X.env) (Ow X s3.heap.objs.size) x f)(B:X.calm=true)(i:iQ X N' m scope)(hi:PI X tg iter wi)(v:∀s3 a ex,PG (jq X N' scope s3 a ex (XE s3)) tg (g s3 a ex))(p:∀s3 a ex,tT (jq X N' scope s3 a ex (XE s3)) ifs (tc s3 a ex))
  (z:∀s3 a ex,Ov X s3 a ex->PE (jq X N' scope s3 a ex (XE s3)) elt (te s3 a ex)) (r:∀x,foldedSetIterable iter X.env x=pure x:=by intro _;rfl):PE X (.ListComp elt [⟨tg,iter,ifs,0⟩] scope pos) (nZ wi m g tc te):=by
 intro J s σ H Q I h;have n:∀y∈scope.names,y.2=.free->∃c,X.env.cells.lookup y.1\c:=λy j hf=>I.ok.has y.1 (i.free y j hf)
 show Q6 (use:=none) rfl r (VV n) i.kind (λy j u=>by rw[i.uniq y j,u]) (Vn G B i hi v p z I h λD C f H' F d ⟨l,t⟩ q=>?_);show⟨l,t,λh' k=>⟨.ref D,H',F.turned (t':=f.toks) (λb o E e=>(k.2 b E).trans e) d.1 d.2.1 d.2.2.2.1 d.2.2.2.2.1 d.2.2.2.2.2,rfl,q⟩⟩
theorem zsL(f:X.calm=true)(h:iQ X N' m scope)(hi:PI X tg iter wi)(d:∀s3 a ex,PG (fH X N' scope s3 a ex) tg (g s3 a ex))(b:∀s3 a ex,tT (fH X N' scope s3 a ex) ifs (tc s3 a ex))
  (e:∀s3 a ex,PE (fH X N' scope s3 a ex) elt (te s3 a ex)) (c:∀x,foldedSetIterable iter X.env x=pure x:=by intro _;rfl):PE X (.ListComp elt [⟨tg,iter,ifs,0⟩] scope pos) (nZ wi m g tc te):=zqg (XE:=λ_ _ _=>False) (λ_ _ _ z=>z.elim) f h hi d b (λs3 a ex _=>e s3 a ex) c
def zqh{XE:aj->af->aj->Prop}(B1:∀s3 x k,XE s3 x k->notedBy (model X.prog X.w) X.A (compEnvC scope (cellsFrom (s3.heap.objs.size+1) scope.names (ij X.env.cells scope.names [])) s3.heap.objs.size X.env) (Ow X s3.heap.objs.size) x k)(hN:X.N.Nodup)(K:X.N[i]?\x)(hx:Loc X.env.scope x)
  (U:X.calm=true) (l:iQ X N' m scope) (hi:PI X tg iter wi) (S:∀s3 f ex,PG (jq X N' scope s3 f ex (XE s3)) tg (g s3 f ex)) (L:∀s3 f ex,tT (jq X N' scope s3 f ex (XE s3)) ifs (tc s3 f ex))
  (T:∀s3 f ex,Ov X s3 f ex->PE (jq X N' scope s3 f ex (XE s3)) elt (te s3 f ex)) (M:∀x,foldedSetIterable iter X.env x=pure x:=by intro _;rfl)
  (G:swapsWith (.ListComp elt [⟨tg,iter,ifs,0⟩] scope pos) (some (.Name x d)) B.line X.env=pure true:=by rfl)
  (t:X.fn x=true\/X.env.scope.names.lookup x\.local:=by first | show .inl rfl | show .inr rfl | assumption) :
  PS X (.Assign [.Name x d] (.ListComp elt [⟨tg,iter,ifs,0⟩] scope pos) B) (zB (nZ wi m g tc te) (uC i)):=by
 intro W s σ H D I h;have J:∀y∈scope.names,y.2=.free->∃c,X.env.cells.lookup y.1\c:=λy p t=>I.ok.has y.1 (l.free y p t)
 rw[exec_Assign_Name_used _ _ _ _ G];show aq (za (aq ?_));show aq (ja (Q6 (use:=some (assign (.Name x d) X.env)) (Q:=λ_ k=>SP X W D .next k) rfl M (VV J) l.kind (λy p R=>by rw[l.uniq y p,R]) (Vn B1 U l hi S L T I h λA C k H' Z j ⟨F,P⟩ q=>?_)) (λ_ k O=>aE (aE O)) λ_ _ e=>e);show Qc (Vu Z hN K hx (show RelV (.ref A) (.ref A) from rfl) (λs2 Y r=>?_) t);let⟨a,n,u⟩:=r;have v:C≠a:=by
  rcases u with rfl | u
  .exact j.2.1
  show λz=>j.2.2.2.2.1 x a u z.symm
 show⟨F,P.sameBut n v,λh' E=>⟨_,H',Y.turned (t':=s2.toks) (λb o V e=>(E.2 b V).trans e) j.1 j.2.1 j.2.2.2.1 j.2.2.2.2.1 j.2.2.2.2.2,q⟩⟩
theorem xh(hN:X.N.Nodup)(e:X.N[i]?\x)(hx:Loc X.env.scope x)
  (n:X.calm=true) (o:iQ X N' m scope) (hi:PI X tg iter wi) (j:∀s3 a ex,PG (fH X N' scope s3 a ex) tg (g s3 a ex)) (f:∀s3 a ex,tT (fH X N' scope s3 a ex) ifs (tc s3 a ex))
  (l:∀s3 a ex,PE (fH X N' scope s3 a ex) elt (te s3 a ex)) (h:∀x,foldedSetIterable iter X.env x=pure x:=by intro _;rfl)
  (d:swapsWith (.ListComp elt [⟨tg,iter,ifs,0⟩] scope pos) (some (.Name x b)) c.line X.env=pure true:=by rfl)
  (k:X.fn x=true\/X.env.scope.names.lookup x\.local:=by first | show .inl rfl | show .inr rfl | assumption) :
  PS X (.Assign [.Name x b] (.ListComp elt [⟨tg,iter,ifs,0⟩] scope pos) c) (zB (nZ wi m g tc te) (uC i)):=zqh (XE:=λ_ _ _=>False) (λ_ _ _ z=>z.elim) hN e hx n o hi j f (λs3 a ex _=>l s3 a ex) h d k
end
def SA:2<=sizeLine:=by decide
def Inv.xF{h:St}{fp:List ag}(I:Inv X g h H s)(k:∀b o,b∉fp->s.heap.get? b\o->h'.get? b\o)(f:∀b∈fp,mq X g H b) :
  Inv X g h H { s with heap:=h',toks:=t' }:=by
 have i:∀b u,H b\u->b∉fp:=λb u e z=>by rw[(f b z).1] at e;cases e
 show I.step (g':=s.gens) (d':=s.drawn) (ch:=fp) (λb d=>⟨(f b d).2.2.2.1,(f b d).2.1,(f b d).2.2.2.2.1,(f b d).2.2.2.2.2⟩) (λb o _ _ a e _=>k b o a e) (λb o _ _ a e _=>⟨o.slots,k b o a e⟩) (λ_ _ _ _ n=>n)
  (λb o a e=>⟨o,k b o a e⟩) (λ_ _ e=>e) (λ_ _ _ e=>e) (λb ps e=>⟨#[],by rw[e];rfl⟩) (λm hm=>?_) (λb u e=>?_) I.bare
 .let⟨o,l,p,j,r⟩:=hm;show⟨o,l,p,k _ o (λz=>(f _ z).2.1 rfl) j,r⟩
 show(I.aX b u e).kh (λc v a q=>k c v ?_ q) (λ_ q=>q) λ_ _ q=>q
 rcases a with z | z
 .rw[z];show i b u e
 show i c _ z
def Inv.Wy{j:St}{fp:List ag}{a:ag}(I:Inv X i j H s)(k:∀b o,b∉fp->s.heap.get? b\o->h'.get? b\o)(f:∀b∈fp,mq X i H b)
  (p:*...*<=a) (new:fQ X.prog X.w (upd H a o) h' a o):Inv X i j (upd H a o) { s with heap:=h',toks:=t' }:=by
 have h:H a=none:=I.aX.fresh p;have l:∀b u,H b\u->b∉fp:=λb u e z=>by rw[(f b z).1] at e;cases e
 show I.step (g':=s.gens) (d':=s.drawn) (ch:=fp) (λb g=>⟨(f b g).2.2.2.1,(f b g).2.1,(f b g).2.2.2.2.1,(f b g).2.2.2.2.2⟩) (λb o _ _ d e _=>k b o d e) (λb o _ _ d e _=>⟨o.slots,k b o d e⟩)
  (λb o _ q n=>by rw[br (cg (iR (bI q) p))];show n)
  (λb o d e=>⟨o,k b o d e⟩) (λb zs q=>by rw[br (fT q h)];show q) (λb ob zs q=>by rw[br (fT q h)];show q) (λb ps q=>⟨#[],by rw[br (fT q h),q];rfl⟩) (λm hm=>?_) (λb u q=>?_) I.bare
 .let⟨o,x,y,t,r⟩:=hm;show⟨o,x,y,k _ o (λz=>(f _ z).2.1 rfl) t,r⟩
 by_cases g:b=a
 .subst g;rw[cW] at q;cases q;show new
 rw[br g] at q;show(I.aX b u q).kh (λc v d z=>k c v ?_ z) (λc z=>by rw[br (fT z h)];show z) λc zs z=>by rw[br (fT z h)];show z
 rcases d with rfl | d
 .exact l _ _ q
 show l _ _ d
def F9(x:aa):It:=⟨λi _=>i<x.cps.size,λi H v H'=>H'=H/\∃c,x.cps[i]?\c/\v=.str ⟨#[c]⟩,λi _=>i=x.cps.size⟩
def zqi{K:ar}{D:ay}(J:["enumerate","zip","dict_itemiterator","dict_reverseitemiterator","odict_iterator","itertools.zip_longest","itertools.pairwise"].contains n=false)
  (W:∀C:bh,C.handled=none->Walks P w C f [f] [f] x.cps.size (SignAt x) (λi h=>h.IsStrIter f n x t i))
  (F:∀A i s Q E,s.heap.IsStrIter f n x t i->Q (.ref f) s->wpAny (model P w) A (pyIter (.ref f)) Q E s):Turn P w K D (F9 x) [f] f (λi h=>h.IsStrIter f n x t i) where
 mem:=by show .head _
 obj:=λi h st b m=>by
  have e:b=f:=by simpa using m
  subst e;symm;let⟨o,e,c,d⟩:=st;show⟨o,e,λv z=>by rw[d] at z;cases z⟩
 keep:=λi h h' st k=>by
  symm;let⟨o,e,r⟩:=st;show⟨o,k f (by show .head _) o e,r⟩
 item:=by
  intro X p hw q j i B s σ H E I hf st g;subst p hw q;show(W X.A (I.ok.hd j)).item i s _ _ g st λv h' tk hv y kk=>?_
  symm;let⟨c,u,hx,rfl⟩:=hv;have M:Inv X B σ H { s with heap:=h',toks:=tk }:=I.xF kk hf;symm;let⟨o,e,L,d⟩:=id y;show⟨_,rfl,zR (s:={ s with heap:=h',toks:=tk }) e L d J ⟨.str ⟨#[c]⟩,H,M,⟨u,rfl⟩,⟨rfl,c,hx,rfl⟩,y,λb m=>(hf b m).1⟩⟩
 done:=by
  intro X p hw q j i B s σ H E I hf st g;subst p hw q;have e:i=x.cps.size:=g;subst e;show(W X.A (I.ok.hd j)).done s _ _ st λh' tk kk=>⟨rfl,I.xF kk hf⟩
 self:=F
def zuL{c:St}{R:It->Hp->Prop}(I:Inv X g c H s)(q:R (F9 x) H) :
  ⇑(pyIter (.str x t)) (F8 X g c tg R) E s:=by
 have fin:∀(o:aR)(n:String),(k:["enumerate","zip","dict_itemiterator","dict_reverseitemiterator","odict_iterator","itertools.zip_longest","itertools.pairwise"].contains n=false)->
   (W:∀a:bh,a.handled=none->Walks X.prog X.w a *...* [*...*] [*...*] x.cps.size (SignAt x) (λi h=>h.IsStrIter *...* n x t i))->
   (j:∀(A:bh)(i:Nat)(d:aj)(Q:af->aj->Prop)(E:af->aj->Prop),d.heap.IsStrIter *...* n x t i->Q (.ref *...*) d->wpAny (model X.prog X.w) A (pyIter (.ref *...*)) Q E d)->
   (s.heap.push o).IsStrIter *...* n x t 0->F8 X g c tg R (.ref *...*) { s with heap:=s.heap.push o }:=λo n k W j st=>by
  show⟨*...*,[*...*],_,_,H,rfl,I.kept (t':=s.toks) λb o e=>bW _ e,zqi k W j,st,λb m=>?_,q⟩;have e:b=*...*:=by simpa using m
  subst e;show I.tL (bB _) (I.aX.fresh (bB _))
 cases l:x.cps.all (·<128)
 .exact wpAny_pyIter_wide l (fin _ _ (by rfl) (λa f=>Walks.strWide f _ x t) (λ_ _ _ _ _ st q=>wpAny_pyIter_striter_wide st q) ⟨_,cV _ rfl,rfl,rfl⟩)
 show wpAny_pyIter_ascii l (fin _ _ (by rfl) (λa f=>Walks.strAscii f _ x t) (λ_ _ _ _ _ st q=>wpAny_pyIter_striter_ascii st q) ⟨_,cV _ rfl,rfl,rfl⟩)
def RS(K:ar)(tl:TE):TI:=λσ H R=>tl σ H λx H1=>(∃a,x=.ref a/\(∃xs,bU K H1 a xs)/\R (Oo K a) H1)\/(∃a,x=.ref a/\(∃xs,cN K H1 a xs)/\R (Om K a) H1)\/(∃z,x=.str z/\R (F9 z) H1)
def Sz(hl:PE X l tl):PI X tg l (RS X.K tl):=by
 intro r s σ H R I h;show aW (hl r s σ H _ I h) λv s1 n=>?_
 let⟨x,H1,d,f,m⟩:=n;symm;rcases m with⟨a,e,⟨xs,g⟩,q⟩ | ⟨a,e,⟨xs,g⟩,q⟩ | ⟨z,e,q⟩
 .subst e;cases f;symm;let⟨its,j,p,hz⟩:=d.list g;show wx p.isList ?_;show⟨s1.heap.objs.size,[s1.heap.objs.size],_,_,H1,rfl,d.kept (t':=s1.toks) λb o e=>bW _ e,znb a _,⟨_,cV _ rfl,rfl,rfl⟩,λb i=>?_,q⟩;have e:b=s1.heap.objs.size:=by simpa using i
  subst e;show d.tL (bB _) (d.aX.fresh (bB _))
 .subst e;cases f;symm;let⟨its,j,p,hz⟩:=d.tuple g;show wpAny_pyIter_tuple (show s1.heap.IsTuple a its.toArray from p) ?_;show⟨s1.heap.objs.size,[s1.heap.objs.size],_,_,H1,rfl,d.kept (t':=s1.toks) λb o e=>bW _ e,zmc a _,⟨_,cV _ rfl,rfl,rfl⟩,λb i=>?_,q⟩;have e:b=s1.heap.objs.size:=by simpa using i
  subst e;show d.tL (bB _) (d.aX.fresh (bB _))
 subst e;symm;let⟨t,rfl⟩:=f;show zuL d q
def Oq(K:ar)(a:ag):It:=
 ⟨λi H=>∃xs x,bU K H a xs/\xs[i]?\x,λi H v H'=>∃t,v=.ref t/\H t=none/\∀xs,bU K H a xs->∃x,xs[i]?\x/\H'=upd H t (.tup [.int i,x]),λi H=>∃xs,bU K H a xs/\xs.length<=i⟩
def Ol(K:ar)(a b:ag):It:=
 ⟨λi H=>∃xs ys x y,bU K H a xs/\bU K H b ys/\xs[i]?\x/\ys[i]?\y,λi H v H'=>∃t,v=.ref t/\H t=none/\∀xs ys,bU K H a xs->bU K H b ys->∃x y,xs[i]?\x/\ys[i]?\y/\H'=upd H t (.tup [x,y]),
  λi H=>∃xs ys,bU K H a xs/\bU K H b ys/\(xs.length<=i\/ys.length<=i)⟩
theorem Sy{fp:List ag}(h:∀b∈fp,H b=none)(c:∀b∈fp,b≠t):∀b∈fp,upd H t o b=none:=λb a=>by rw[br (c b a)];show h b a
def zmm(d:IsEnumOut s.heap e c i old T)
  (h:∀h',IsEnum h' e c i old->j4 e s.heap h'->Q () { s with heap:=h' }) :
  ↥(letOwnedTupleGo (.Tuple a f b) (.ref e) (.ref T)) Q E s:=by
 show aq (vR d ?_);show wpAny _ _ (if (["enumerate","zip","dict_itemiterator","dict_reverseitemiterator","odict_iterator","itertools.zip_longest","itertools.pairwise"].contains "enumerate" &&
   (#[rawInt T,.bool false,.ref c,rawInt i,.none,old]:Array af)[0]?==some (rawInt T))=true then _ else _) Q E s
 rw[if_pos (by show mL _)];show aq (mI ?_);show wpAny_setField_rec d (by show iy _) λh' j g=>h h' j g
def znw{K:ar}(a e j)(L:e≠j):Turn P w K (.Tuple n M y) (Oq K a) [e,j] e (λi h=>(∃old,IsEnum h e j i old)/\h.IsListIter j a i) where
 mem:=by show .head _
 obj:=λi h st b f=>by
  symm;obtain⟨⟨old,g⟩,o,m,c,d⟩:=st;grind
 keep:=λi h h' st k=>by
  symm;obtain⟨⟨old,g⟩,m⟩:=st;show⟨⟨old,k e (by show .head _) _ g⟩,m.at λo q=>k j (by show .tail _ (.head _)) o q⟩
 item:=by
  intro X C hw D J i Z s σ H E I hf st B;subst C hw D;symm;let⟨xs,x,r,hx⟩:=B;let⟨its,v,p,hz⟩:=I.list r;let⟨u,R,N⟩:=v.get hx;obtain⟨⟨old,g⟩,m⟩:=st;show wpAny_pyNext_enum_item g m p.isList (x:=u) (by simpa using R) L λh' Y W V e4 kk=>?_
  show⟨_,rfl,zmm Y λF U t=>?_⟩;have A:*...*≠e:=nJ (bI g);have Mx:*...*≠j:=by let⟨o,q,l⟩:=m;show nJ (bI q)
  have S:F.get? *...*=some { cls:=.type "tuple",data:=.seq #[.int i s.toks,u] }:=t.extBut _ _ A V;have O:H *...*=none:=I.aX.fresh (bB _);have new:fQ X.prog X.w (upd H *...* (.tup [.int i,x])) F *...* (.tup [.int i,x]):=⟨SA,[.int i s.toks,u],.cons ⟨_,rfl⟩ (.cons N .nil),⟨_,S,rfl,_,rfl⟩⟩
  show⟨.ref *...*,upd H *...* (.tup [.int i,x]),I.Wy (fp:=[e,j]) (λb o f q=>t.extBut b o (λz=>f (by show z▸.head _)) (kk b o (λz=>f (by show z▸.head _)) (λz=>f (by show z▸.tail _ (.head _))) q)) hf (bB _) new,rfl,
   ⟨_,rfl,O,λys Q=>⟨x,by rw[I.Bv Q r];show hx,rfl⟩⟩,⟨⟨u,U⟩,W.extBut t.extBut (Ne.symm L)⟩,Sy (λb f=>(hf b f).1) λb f=>?_⟩
  grind
 done:=by
  intro X C hw D J i Z s σ H E I hf st B;subst C hw D;symm;let⟨xs,r,hx⟩:=B;let⟨its,v,p,hz⟩:=I.list r;obtain⟨⟨old,g⟩,m⟩:=st;have hl:=v.length;show wpAny_pyNext_enum_end (I.ok.hd J) g m p.isList (by simp;cbv) λh' T=>⟨rfl,I.xF (fp:=[e,j]) (t':=s.toks) (λb o f q=>T b o (λz=>f (by show z▸.tail _ (.head _))) q) hf⟩
 self:=λ_ _ _ _ _ st h=>by
  symm;obtain⟨⟨old,g⟩,_⟩:=st;show Qa g h
def zwg(K:ar)(c:TA):TI:=λσ H R=>c σ H λb H1=>∃a xs,b=[.ref a]/\gv K H1 a xs/\R (Oq K a) H1
def zsM(y:Gl X "enumerate")(x:X.mg "enumerate"=none)(A:PA X [a] i)(w:starEach [a] X.env=[(false,eval a X.env)]:=by rfl):PI X (.Tuple elts x1 Be) (.Call (.Name "enumerate" p) [a] [] d) (zwg X.K i):=by
 intro E s σ H R I h;show Call_ (qH I y x boot_enumerate (wL (aW (A d E s σ H _ I h) λus s1 D=>?_) w rfl));let⟨F,H1,f,t,v⟩:=D;symm;let⟨l,xs,e,hl,q⟩:=v;subst e;let⟨u,rfl,o⟩:=gy t;cases o;let⟨z,its,n,r,e⟩:=f.cF hl;show call_enumerate_1 e λh' m B J kk=>?_
 show Qa m ?_;have C:s1.heap.objs.size+1≠s1.heap.objs.size:=by room
 show⟨s1.heap.objs.size+1,[s1.heap.objs.size+1,s1.heap.objs.size],_,_,H1,rfl,f.kept (t':=s1.toks) kk,znw l _ _ C,⟨⟨_,m⟩,B⟩,λb g=>?_,q⟩;have j:s1.heap.objs.size<=b:=by
  rcases bM.mp g with rfl | g
  .exact iC _
  have e:b=s1.heap.objs.size:=by simpa using g
  show GW e.symm
 show f.tL j (f.aX.fresh j)
def zqj{K:ar}(a b z TI TO i1 j)(D1:TI≠z/\TO≠z/\i1≠z/\j≠z/\TI≠TO/\TI≠i1/\TI≠j/\TO≠i1/\TO≠j/\i1≠j):Turn P w K (.Tuple elts x1 Be) (Ol K a b) [z,TI,TO,i1,j] z
  (λi h=>IsZip h z TI TO .none/\IsPair h TI (.ref i1) (.ref j)/\(∃a b,IsPair h TO a b)/\h.IsListIter i1 a i/\h.IsListIter j b i) where
 mem:=by room
 obj:=λi h st c f=>by
  symm;obtain⟨m,t,⟨u,v,r⟩,⟨o1,g1,_,C⟩,⟨o2,g2,_,J⟩⟩:=st;simp![bM,gN,or_false] at f;symm;rcases f with rfl | rfl | rfl | rfl | rfl
  .exact⟨_,m,λv z=>by have L:ON _=Gw v:=z;cases L⟩
  .exact⟨_,t,λv z=>by have L:Cs _ _=Gw v:=z;cases L⟩
  .exact⟨_,r,λv z=>by have L:Cs _ _=Gw v:=z;cases L⟩
  .exact⟨_,g1,λv z=>by rw[C] at z;cases z⟩
  show⟨_,g2,λv z=>by rw[J] at z;cases z⟩
 keep:=λi h h' st k=>by
  symm;obtain⟨m,t,⟨u,v,r⟩,B,A⟩:=st;show⟨k z (by room) _ m,k TI (by room) _ t,⟨u,v,k TO (by room) _ r⟩,B.at λo q=>k i1 (by show .tail _ (.tail _ (.tail _ (.head _)))) o q,A.at λo q=>k j ∅ o q⟩
 item:=by
  intro X hP hw hK f i J' s σ H E I hf st hg;subst hP hw hK;symm;let⟨xs,ys,x,y,O,Q,hx,hy⟩:=hg;let⟨its,Y,p,hz⟩:=I.list O;let⟨pL,Z,M,Mm⟩:=I.list Q;let⟨u,hu,ru⟩:=Y.get hx;let⟨v,hv,W⟩:=Z.get hy;obtain⟨m,t,⟨c,d,r⟩,B,A⟩:=st;let⟨C,J,V,U,T,S,R,d8,d9,Nk⟩:=D1;have N:∀{l:ag}{its:List af},PlainL s.heap l its.toArray->l≠z/\l≠TO/\l≠i1/\l≠j:=λ{l its} pl=>by
   symm;let⟨o,n,e,c1,G,dd⟩:=pl;let⟨o1,g1,c4,G⟩:=B;let⟨o2,g2,c5,G⟩:=A;show⟨?_,?_,?_,?_⟩
   .rintro rfl;rw[m] at e;cases e;trivial
   .rintro rfl;rw[r] at e;cases e;lia
   .rintro rfl;rw[g1] at e;cases e;rw[c4] at c1;trivial
   rintro rfl;rw[g2] at e;cases e;rw[c5] at c1;trivial
  symm;let⟨e1,e2,e3,e4⟩:=N p;let⟨f1,f2,f3,f4⟩:=N M;have D:ZipApart z TI TO i1 j a b:=⟨C,J,V,U,T,S,R,d8,d9,Nk,e1,e2,e3,e4,f1,f2,f3,f4⟩
  show wpAny_pyNext_zip_item D m t r B A p.isList M.isList (x:=u) (y:=v) (by simpa using hu) (by simpa using hv) λh' a1 a2 a3 a4 a5 a6 kk=>?_
  show⟨_,rfl,wpAny_letOwnedTupleGo_zip a1 λvw b1 F=>?_⟩;have hTz:*...*≠z:=nJ (bI m);have jP:H *...*=none:=I.aX.fresh (bB _);have hT:vw.get? *...*=some { cls:=.type "tuple",data:=.seq #[u,v] }:=F.extBut _ _ hTz a5;have new:fQ X.prog X.w (upd H *...* (.tup [x,y])) vw *...* (.tup [x,y]):=⟨SA,[u,v],.cons ru (.cons W .nil),⟨_,hT,rfl,_,rfl⟩⟩
  have lt:∀{c o},s.heap.get? c\o->c≠*...*:=λe=>cg (bI e)
  show⟨.ref *...*,upd H *...* (.tup [x,y]),I.Wy (fp:=[z,TI,TO,i1,j]) (t':=s.toks) (λc o f q=>F.extBut c o (λe=>f (by show e▸.head _)) (kk c o (λe=>f (by show e▸.head _)) (λe=>f (by show e▸.tail _ (.tail _ (.head _)))) (λe=>f (by show e▸.tail _ (.tail _ (.tail _ (.head _))))) (λe=>f (by show e▸.tail _ (.tail _ (.tail _ (.tail _ (.head _)))))) q)) hf (bB _) new,rfl,
   ⟨_,rfl,jP,λzs ws h6 h7=>⟨x,y,by rw[I.Bv h6 O];show hx,by rw[I.Bv h7 Q];show hy,rfl⟩⟩,
   ⟨b1,F.extBut _ _ C (kk _ _ C T S R t),⟨_,_,F.extBut _ _ J a2⟩,a3.extBut F.extBut V,a4.extBut F.extBut U⟩,Sy (λb hb=>(hf b hb).1) λc f=>?_⟩
  simp![bM,gN,or_false] at f;symm;rcases f with rfl | rfl | rfl | rfl | rfl
  .exact lt m
  .exact lt t
  .exact lt r
  .symm;let⟨G,g,G⟩:=B;show lt g
  symm;let⟨G,g,G⟩:=A;show lt g
 done:=by
  intro X hP hw hK f i J' s σ H E I hf st hg;subst hP hw hK;symm;let⟨xs,ys,O,Q,hx⟩:=hg;let⟨its,Y,p,hz⟩:=I.list O;let⟨pL,Z,M,Mm⟩:=I.list Q;obtain⟨m,t,⟨c,d,r⟩,B,A⟩:=st;let⟨C,J,V,U,T,S,R,d8,d9,Nk⟩:=D1;have N:∀{l:ag}{its:List af},PlainL s.heap l its.toArray->l≠z/\l≠TO/\l≠i1/\l≠j:=λ{l its} pl=>by
   symm;let⟨o,n,e,c1,G,dd⟩:=pl;let⟨o1,g1,c4,G⟩:=B;let⟨o2,g2,c5,G⟩:=A;show⟨?_,?_,?_,?_⟩
   .rintro rfl;rw[m] at e;cases e;trivial
   .rintro rfl;rw[r] at e;cases e;lia
   .rintro rfl;rw[g1] at e;cases e;rw[c4] at c1;trivial
   rintro rfl;rw[g2] at e;cases e;rw[c5] at c1;trivial
  symm;let⟨e1,e2,e3,e4⟩:=N p;let⟨f1,f2,f3,f4⟩:=N M;have D:ZipApart z TI TO i1 j a b:=⟨C,J,V,U,T,S,R,d8,d9,Nk,e1,e2,e3,e4,f1,f2,f3,f4⟩
  have l1:=Y.length;have l2:=Z.length;have abg:its.toArray[i]?=none\/pL.toArray[i]?=none:=by
   symm;rcases hx with hx | hx
   .exact .inl (by simp;cbv)
   show .inr (by simp;cbv)
  show wpAny_pyNext_zip_end (I.ok.hd f) D m t r B A p.isList M.isList abg λh' kk=>⟨rfl,I.xF (fp:=[z,TI,TO,i1,j]) (t':=s.toks) (λc o f q=>kk c o (λe=>f (by show e▸.head _)) (λe=>f (by show e▸.tail _ (.tail _ (.head _)))) (λe=>f (by show e▸.tail _ (.tail _ (.tail _ (.head _))))) (λe=>f (by show e▸.tail _ (.tail _ (.tail _ (.tail _ (.head _)))))) q) hf⟩
 self:=λ_ _ _ _ _ st h=>PZ st.1 h
def znx(n):(n+2:Nat)≠n+4/\(n+3:Nat)≠n+4/\n≠n+4/\(n+1:Nat)≠n+4/\(n+2:Nat)≠n+3/\(n+2:Nat)≠n/\(n+2:Nat)≠n+1/\(n+3:Nat)≠n/\(n+3:Nat)≠n+1/\n≠n+1:=by cbv
def Z4(K:ar)(d:TA):TI:=λσ H R=>d σ H λc H1=>∃a b,c=[.ref a,.ref b]/\(∃xs,bU K H1 a xs)/\(∃ys,bU K H1 b ys)/\R (Ol K a b) H1
def zuM(C:Gl X "zip")(B:X.mg "zip"=none)(D:PA X [a,b] g)(A:starEach [a,b] X.env=[(false,eval a X.env),(false,eval b X.env)]:=by rfl)(j:starEach [b] X.env=[(false,eval b X.env)]:=by rfl) :
  PI X (.Tuple elts x1 Be) (.Call (.Name "zip" p) [a,b] [] d) (Z4 X.K g):=by
 intro M s σ H R I h;show Call_ (qH I C B boot_zip (wL (aW (D d M s σ H _ I h) λus s1 ⟨O,H1,f,t,w⟩=>?_) (by rw[A,j]) (by rw[j];rfl)));symm;obtain⟨l,z,e,⟨xs,hl⟩,⟨ys,N⟩,q⟩:=w;subst e;let⟨u,v,rfl,r,o⟩:=DW t;cases r;cases o;let⟨its,k,y,k⟩:=f.list hl;let⟨its',k,x,k⟩:=f.list N;show call_zip_2 y.isList x.isList λh' n L J F E P kk=>?_
 show PZ n ?_;show⟨s1.heap.objs.size+4,[s1.heap.objs.size+4,s1.heap.objs.size+2,s1.heap.objs.size+3,s1.heap.objs.size,s1.heap.objs.size+1],_,_,H1,rfl,f.kept (t':=s1.toks) kk,zqj l z _ _ _ _ _ (znx _),
  ⟨n,L,⟨_,_,J⟩,F,E⟩,λb m=>?_,q⟩
 have i:s1.heap.objs.size<=b:=by
  simp only[bM,gN,or_false] at m;rcases m with rfl | rfl | rfl | rfl | rfl<;>first | show CV _ _ | show bB _
 show f.tL i (f.aX.fresh i)
inductive D where
 | non | bl (b:Bool) | int (i:Int) | str (x:aa) | tup (ds:List D) | lst (ds:List D) | obj (cn:aa) (fs:List (aa×D)) | dic (kvs:List (Key×D)) | dit (kvs:List (List Key×D)) | exc (cn:aa) (fs:List (aa×D)) | idn (a:ag) (d:D)
structure ClsAt(K:ar)(cn:aa)(C:ag):Prop where
 at_:y7 K mainGlobals cn\some (.ref C)
 cls:tU K C
def js(H:Hp):List (List Key×V)->List ag->Prop
 | [],[]=>True
 | p::ps,b::bs=>H b\.tup (p.1.map kV)/\js H ps bs
 | _,_=>False
theorem js.mono(e:aZ H H'):∀{ps bs},js H ps bs->js H' ps bs
 | [],[],h=>h
 | p::ps,b::bs,h=>⟨e _ _ h.1,js.mono e h.2⟩
 | [],_::_,h=>h.elim
 | _::_,[],h=>h.elim
def Gd(H:Hp):Option ag->List (aa×V)->Prop
 | none,a=>a=[]
 | some d,a=>∃b,H d\.ext b/\∀h:aB,b h->∃c,h.Ns1 d c/\∀f v,a.lookup f\v->∃u,c f\u/\RelV v u
def Gd.mono(e:aZ H H')(h:Gd H c d):Gd H' c d:=by
 cases c with
 | none=>show h
 | some g=>show let⟨f,a,b⟩:=h;⟨f,e _ _ a,b⟩
mutual
def Rep(K:ar)(H:Hp):V->D->Prop
 | v,.non=>v=.non
 | v,.bl b=>v=.bl b
 | v,.int i=>v=.int i
 | v,.str x=>v=.str x
 | v,.tup ds=>∃a xs,v=.ref a/\H a\.tup xs/\av K H xs ds
 | v,.lst ds=>∃a xs,v=.ref a/\gv K H a xs/\av K H xs ds
 | v,.obj e fs=>∃a C l c,v=.ref a/\H a\.ins C l c/\ClsAt K e C/\(∀p∈fs,fY K C p.1)/\df K H c fs
 | v,.dic kvs=>∃a ks k,v=.ref a/\H a\.dK ks k/\bp K H ks kvs
 | v,.dit kvs=>∃a ks bs,v=.ref a/\H a\.dT ks bs/\js H ks bs.1/\e8 K H ks kvs
 | v,.exc e fs=>∃a f C g c,v=.ref a/\H a\.ext f/\y7 K mainGlobals e\some (.ref C)/\(∀h:aB,f h->∃o,h.get? a\o/\o.cls=.ref C/\(fs=[]\/o.dict=g/\∃j,o.data=.fields j))/\(fs=[]\/Gd H g c)/\df K H c fs
 | v,.idn a d=>v=.ref a/\Rep K H v d
def av(K:ar)(H:Hp):List V->List D->Prop
 | [],[]=>True
 | v::a,d::ds=>Rep K H v d/\av K H a ds
 | _,_=>False
def df(K:ar)(H:Hp):List (aa×V)->List (aa×D)->Prop
 | [],[]=>True
 | v::a,d::ds=>(v.1=d.1/\Rep K H v.2 d.2)/\df K H a ds
 | _,_=>False
def bp(K:ar)(H:Hp):List (Key×V)->List (Key×D)->Prop
 | [],[]=>True
 | v::a,d::ds=>(v.1=d.1/\Rep K H v.2 d.2)/\bp K H a ds
 | _,_=>False
def e8(K:ar)(H:Hp):List (List Key×V)->List (List Key×D)->Prop
 | [],[]=>True
 | v::a,d::ds=>(v.1=d.1/\Rep K H v.2 d.2)/\e8 K H a ds
 | _,_=>False
end
theorem aZ.pD{K:ar}(e:aZ H H')(h:H a\.tup xs):cN K H' a xs:=cN.of (e _ _ h)
def aZ.xH{K:ar}(e:aZ H H')(h:cN K H a xs):cN K H' a xs:=by
 rcases h with(h | ⟨o,h⟩) | h
 .exact .inl (.inl (e _ _ h))
 .exact .inl (.inr ⟨o,e _ _ h⟩)
 show .inr h
mutual
theorem Rep.mono{K:ar}{H H':Hp}(e:aZ H H'):∀(v:V)(d:D),Rep K H v d->Rep K H' v d
 | v,.non,h=>by simpa only[Rep] using h
 | v,.bl b,h=>by simpa only[Rep] using h
 | v,.int i,h=>by simpa only[Rep] using h
 | v,.str x,h=>by simpa only[Rep] using h
 | v,.tup ds,h=>by
  let⟨a,xs,g,f,c⟩:=h;show⟨a,xs,g,e _ _ f,av.mono e xs ds c⟩
 | v,.lst ds,h=>by
  let⟨a,xs,g,f,c⟩:=h;show⟨a,xs,g,e.cF f,av.mono e xs ds c⟩
 | v,.obj r fs,h=>by
  let⟨a,C,p,k,g,f,c,j,l⟩:=h;show⟨a,C,p,k,g,e _ _ f,c,j,df.mono e k fs l⟩
 | v,.dic kvs,h=>by
  let⟨a,ks,o,g,f,c⟩:=h;show⟨a,ks,o,g,e _ _ f,bp.mono e ks kvs c⟩
 | v,.dit kvs,h=>by
  let⟨a,ks,bs,g,f,c,j⟩:=h;show⟨a,ks,bs,g,e _ _ f,c.mono e,e8.mono e ks kvs j⟩
 | v,.exc r fs,h=>by
  let⟨a,m,C,q,k,g,f,c,j,l,n⟩:=h;show⟨a,m,C,q,k,g,e _ _ f,c,j,l.imp id λz=>z.mono e,df.mono e k fs n⟩
 | v,.idn a d,h=>by
  show⟨h.1,Rep.mono e v d h.2⟩
theorem av.mono{K:ar}{H H':Hp}(e:aZ H H'):∀(a:List V)(ds:List D),av K H a ds->av K H' a ds
 | [],[],h=>by simp![av]
 | v::a,d::ds,h=>by
  show⟨Rep.mono e v d h.1,av.mono e a ds h.2⟩
 | [],_::_,h=>by simp![av] at h
 | _::_,[],h=>by simp![av] at h
theorem df.mono{K:ar}{H H':Hp}(e:aZ H H'):∀(a:List (aa×V))(ds:List (aa×D)),df K H a ds->df K H' a ds
 | [],[],h=>by simp![df]
 | (x,v)::a,(y,d)::ds,h=>by
  show⟨⟨h.1.1,Rep.mono e v d h.1.2⟩,df.mono e a ds h.2⟩
 | [],_::_,h=>by simp![df] at h
 | _::_,[],h=>by simp![df] at h
theorem bp.mono{K:ar}{H H':Hp}(e:aZ H H'):∀(a:List (Key×V))(ds:List (Key×D)),bp K H a ds->bp K H' a ds
 | [],[],h=>by simp![bp]
 | (x,v)::a,(y,d)::ds,h=>by
  show⟨⟨h.1.1,Rep.mono e v d h.1.2⟩,bp.mono e a ds h.2⟩
 | [],_::_,h=>by simp![bp] at h
 | _::_,[],h=>by simp![bp] at h
theorem e8.mono{K:ar}{H H':Hp}(e:aZ H H'):∀(a:List (List Key×V))(ds:List (List Key×D)),e8 K H a ds->e8 K H' a ds
 | [],[],h=>by simp![e8]
 | (x,v)::a,(y,d)::ds,h=>by
  show⟨⟨h.1.1,Rep.mono e v d h.1.2⟩,e8.mono e a ds h.2⟩
 | [],_::_,h=>by simp![e8] at h
 | _::_,[],h=>by simp![e8] at h
end
section
variable{K:ar}
theorem av.length:∀{a ds},av K H a ds->a.length=ds.length
 | [],[],_=>rfl
 | v::a,d::ds,h=>by
  simp![eh,av.length h.2]
 | [],_::_,h=>by simp![av] at h
 | _::_,[],h=>by simp![av] at h
theorem av.get:∀{a ds}{i:Nat}{d},av K H a ds->ds[i]?\d->∃v,a[i]?\v/\Rep K H v d
 | [],[],i,d,_,e=>by trivial
 | v::a,d'::ds,0,d,h,e=>by
  simp![av] at h;cbv
 | v::a,d'::ds,i+1,d,h,e=>by
  simp![wJ] at e ⊢;show av.get h.2 e
 | [],_::_,_,_,h,_=>by simp![av] at h
 | _::_,[],_,_,h,_=>by simp![av] at h
theorem av.Yw:∀{a ds}{i:Nat}{v},av K H a ds->a[i]?\v->∃d,ds[i]?\d/\Rep K H v d
 | [],[],i,d,_,e=>by trivial
 | b::a,d::ds,0,v,h,e=>by
  simp![av] at h;cbv
 | b::a,d::ds,i+1,v,h,e=>by
  simp![wJ] at e ⊢;show av.Yw h.2 e
 | [],_::_,_,_,h,_=>by simp![av] at h
 | _::_,[],_,_,h,_=>by simp![av] at h
def av.nil:av K H [] []:=by simp![av]
def av.cons{d:D}{ds:List D}(h:Rep K H v d)(b:av K H a ds):av K H (v::a) (d::ds):=by show⟨h,b⟩
theorem av.append:∀{a ds us b},av K H a ds->av K H us b->av K H (a++us) (ds++b)
 | [],[],_,_,_,h=>h
 | v::a,d::ds,_,_,h,h'=>by
  show av.cons h.1 (av.append h.2 h')
 | [],_::_,_,_,h,_=>by simp![av] at h
 | _::_,[],_,_,h,_=>by simp![av] at h
theorem av.take:∀{a ds} n,av K H a ds->av K H (a.take n) (ds.take n)
 | _,_,0,_=>av.nil
 | [],[],_+1,_=>av.nil
 | v::a,d::ds,n+1,h=>by
  show av.cons h.1 (av.take n h.2)
 | [],_::_,_+1,h=>by assumption
 | _::_,[],_+1,h=>by assumption
theorem av.drop:∀{a ds} n,av K H a ds->av K H (a.drop n) (ds.drop n)
 | _,_,0,h=>h
 | [],[],_+1,_=>av.nil
 | v::a,d::ds,n+1,h=>by
  show av.drop n h.2
 | [],_::_,_+1,h=>by simp![av] at h
 | _::_,[],_+1,h=>by simp![av] at h
theorem av.set:∀{a ds v d} n,av K H a ds->Rep K H v d->av K H (a.set n v) (ds.set n d)
 | [],[],_,_,_,_,_=>av.nil
 | b::a,d'::ds,v,d,0,h,q=>by
  show av.cons q h.2
 | b::a,d'::ds,v,d,n+1,h,q=>by
  show av.cons h.1 (av.set n h.2 q)
 | [],_::_,_,_,_,h,_=>by simp![av] at h
 | _::_,[],_,_,_,h,_=>by simp![av] at h
def av.reverse(h:av K H a ds):av K H a.reverse ds.reverse:=by
 induction a generalizing ds with
 | nil=>
  cases ds with
  | nil=>show av.nil
  | cons=>simp![av] at h
 | cons v a b=>
  cases ds with
  | nil=>simp![av] at h
  | cons d ds=>
   rw[C4,C4];show av.append (b h.2) (av.cons h.1 av.nil)
end
structure Ext(G H G' H':Hp):Prop where
 g:aZ G G'
 h:aZ H H'
 s:aZ G' H'
 n:∀p,G p=none->H p≠none->G' p=none
theorem Ext.refl(s:aZ G H):Ext G H G H:=⟨aZ.refl _,aZ.refl _,s,λ_ h _=>h⟩
theorem Ext.trans(a:Ext G H i e)(b:Ext i e f d):Ext G H f d:=
 ⟨a.g.trans b.g,a.h.trans b.h,b.s,λp j c=>b.n p (a.n p j c) λz=>c (a.h.free z)⟩
theorem sL(h:H p=none):aZ H (upd H p o):=λb u e=>by rw[br (fT e h)];show e
theorem zny(s:aZ G H):aZ (upd G p o) (upd H p o):=λb u e=>by
 by_cases a:b=p
 .subst a;rw[cW] at e ⊢;show e
 rw[br a] at e ⊢;show s b u e
theorem Ext.new(s:aZ G H)(h:H p=none):Ext G H (upd G p o) (upd H p o):=
 ⟨sL (s.free h),sL h,zny s,λq b a=>by rw[br (λz=>a (by rw[z];show h))];show b⟩
theorem Ext.own(s:aZ G H)(h:H p=none):Ext G H G (upd H p o):=
 ⟨aZ.refl _,sL h,s.trans (sL h),λq a _=>a⟩
inductive OV where
 | ll (dss:List (List D))
 | dc (kvs:List (Key×D))
 | dl (kvs:List (Key×List D))
 | tl (d:D) (ds:List D)
 | ld (nB:List (List (Key×D)))
 | dt (kvs:List (List Key×List D))
 | tp (ds:List D)
 | ob (cn:aa) (fs:List (aa×List D))
 | dq (kvs:List (List Key×D))
 | li (a:ag) (dss:List (List D))
def OV.val:OV->D
 | .ll dss=>.lst (dss.map .lst)
 | .dc kvs=>.dic kvs
 | .dl kvs=>.dic (kvs.map λp=>(p.1,.lst p.2))
 | .tl d ds=>.tup [d,.lst ds]
 | .ld a=>.lst (a.map .dic)
 | .dt kvs=>.dit (kvs.map λp=>(p.1,.lst p.2))
 | .tp ds=>.tup ds
 | .ob b fs=>.obj b (fs.map λp=>(p.1,.lst p.2))
 | .dq kvs=>.dit kvs
 | .li _ dss=>.lst (dss.map .lst)
inductive R where
 | fz (d:D)
 | ow (ds:List D)
 | ov (o:OV)
def R.val:R->D
 | .fz d=>d
 | .ow ds=>.lst ds
 | .ov o=>o.val
inductive Sl where
 | un
 | fz (d:D)
 | ow (ds:List D)
 | ov (o:OV)
def R.sl:R->Sl
 | .fz d=>.fz d
 | .ow ds=>.ow ds
 | .ov o=>.ov o
def cv(K:ar)(G H:Hp):List ag->List (List D)->Prop
 | [],[]=>True
 | q::a,ds::dss=>(∃xs,H q\.lst xs/\av K G xs ds)/\cv K G H a dss
 | _,_=>False
theorem cv.mono{K:ar}(g:aZ G c):∀{a dss},(∀q∈a,∀xs,H q\.lst xs->H' q\.lst xs)->cv K G H a dss->cv K c H' a dss
 | [],[],_,_=>by simp![cv]
 | q::a,ds::dss,b,h=>by
  obtain⟨⟨xs,f,e⟩,d⟩:=h;show⟨⟨xs,b q (by show .head _) xs f,e.mono g⟩,cv.mono g (λr i=>b r (by show .tail _ ‹_›)) d⟩
 | [],_::_,_,h=>by simp![cv] at h
 | _::_,[],_,h=>by simp![cv] at h
theorem cv.here{K:ar}:∀{a dss},cv K G H a dss->∀q∈a,H q≠none
 | [],[],_,q,c=>by cases c
 | q::a,ds::dss,h,r,b=>by
  obtain⟨⟨xs,e,f⟩,d⟩:=h;rcases bM.mp b with rfl | b
  .rw[e];show nofun
  show cv.here d r b
 | [],_::_,h,_,_=>by simp![cv] at h
 | _::_,[],h,_,_=>by simp![cv] at h
theorem cv.qR{K:ar}(g:aZ G b):∀{a dss},(∀q∈a,∀xs,H q\.lst xs->b q\.lst xs)->cv K G H a dss->av K b (a.map V.ref) (dss.map D.lst)
 | [],[],_,_=>av.nil
 | q::a,ds::dss,c,h=>by
  obtain⟨⟨xs,f,e⟩,d⟩:=h;show av.cons ?_ (cv.qR g (λr i=>c r (by show .tail _ ‹_›)) d);show⟨q,xs,rfl,gv.of (c q (by show .head _) xs f),e.mono g⟩
 | [],_::_,_,h=>by assumption
 | _::_,[],_,h=>by assumption
def cQ(K:ar)(G H:Hp):List ag->List (List (Key×D))->Prop
 | [],[]=>True
 | q::a,ds::dss=>(∃ks b,H q\.dK ks b/\bp K G ks ds)/\cQ K G H a dss
 | _,_=>False
theorem cQ.mono{K:ar}(g:aZ G c):∀{a dss},(∀q∈a,∀u,H q\u->H' q\u)->cQ K G H a dss->cQ K c H' a dss
 | [],[],_,_=>by simp![cQ]
 | q::a,ds::dss,b,h=>by
  obtain⟨⟨ks,i,f,e⟩,d⟩:=h;show⟨⟨ks,i,b q (by show .head _) _ f,bp.mono g _ _ e⟩,cQ.mono g (λr j=>b r (by show .tail _ ‹_›)) d⟩
 | [],_::_,_,h=>by simp![cQ] at h
 | _::_,[],_,h=>by simp![cQ] at h
theorem cQ.kind{K:ar}:∀{b dss},cQ K G H b dss->∀q∈b,∃ks e,H q=some (.dK ks e)
 | [],[],_,q,f=>by cases f
 | q::b,ds::dss,h,r,d=>by
  symm;obtain⟨⟨ks,e,i,j⟩,g⟩:=h;rcases bM.mp d with rfl | d
  .exact⟨ks,e,i⟩
  show cQ.kind g r d
 | [],_::_,h,_,_=>by simp![cQ] at h
 | _::_,[],h,_,_=>by simp![cQ] at h
theorem cQ.here{K:ar}(h:cQ K G H a dss):∀q∈a,H q≠none:=λq b=>by
 let⟨ks,c,e⟩:=h.kind q b;rw[e];show nofun
theorem cQ.qR{K:ar}(g:aZ G b):∀{a dss},(∀q∈a,∀u,H q\u->b q\u)->cQ K G H a dss->av K b (a.map V.ref) (dss.map D.dic)
 | [],[],_,_=>av.nil
 | q::a,ds::dss,c,h=>by
  obtain⟨⟨ks,i,f,e⟩,d⟩:=h;show av.cons ?_ (cQ.qR g (λr j=>c r (by show .tail _ ‹_›)) d);show⟨q,ks,i,rfl,c q (by show .head _) _ f,bp.mono g _ _ e⟩
 | [],_::_,_,h=>by assumption
 | _::_,[],_,h=>by assumption
def mn(K:ar)(G H:Hp)(p:ag)(fp:List ag):OV->Prop
 | .ll dss=>H p\.lst (fp.map V.ref)/\cv K G H fp dss
 | .dc kvs=>fp=[]/\∃ks c,H p\.dK ks c/\bp K G ks kvs
 | .dl kvs=>∃ks c,H p\.dK ks c/\ks.map (·.1)=kvs.map (·.1)/\ks.map (·.2)=fp.map V.ref/\cv K G H fp (kvs.map (·.2))
 | .tl d ds=>∃q v xs,fp=[q]/\H p\.tup [v,.ref q]/\Rep K G v d/\H q\.lst xs/\av K G xs ds
 | .ld e=>H p\.lst (fp.map V.ref)/\cQ K G H fp e
 | .dt kvs=>∃ks bs,H p\.dT ks bs/\js G ks bs.1/\ks.map (·.1)=kvs.map (·.1)/\ks.map (·.2)=fp.map V.ref/\cv K G H fp (kvs.map (·.2))
 | .tp ds=>fp=[]/\∃xs,H p\.tup xs/\av K G xs ds
 | .ob g fs=>∃C f b,H p\.ins C f b/\ClsAt K g C/\(∀p∈fs,fY K C p.1)/\b.map (·.1)=fs.map (·.1)/\b.map (·.2)=fp.map V.ref/\cv K G H fp (fs.map (·.2))
 | .dq kvs=>fp=[]/\∃ks bs,H p\.dT ks bs/\js G ks bs.1/\e8 K G ks kvs
 | .li a dss=>p=a/\H p\.lst (fp.map V.ref)/\cv K G H fp dss
def mn.here{K:ar}(h:mn K G H p fp o):∀q∈p::fp,H q≠none:=by
 intro q b;cases o with
 | ll dss=>
  rcases bM.mp b with rfl | b
  .rw[h.1];show nofun
  show h.2.here q b
 | dc kvs=>
  let⟨rfl,ks,f,c,z⟩:=h;simp![fj] at b;subst b;rw[c];show nofun
 | dl kvs=>
  let⟨ks,f,c,z,z,e⟩:=h;rcases bM.mp b with rfl | b
  .rw[c];show nofun
  show e.here q b
 | tl d ds=>
  let⟨r,v,xs,rfl,c,z,i,z⟩:=h;grind
 | ld g=>
  rcases bM.mp b with rfl | b
  .rw[h.1];show nofun
  show h.2.here q b
 | dt kvs=>
  let⟨ks,bs,c,z,z,z,e⟩:=h;rcases bM.mp b with rfl | b
  .rw[c];show nofun
  show e.here q b
 | tp ds=>
  let⟨rfl,xs,c,z⟩:=h;simp![fj] at b;subst b;rw[c];show nofun
 | ob l fs=>
  let⟨C,k,j,c,z,z,z,z,e⟩:=h;rcases bM.mp b with rfl | b
  .rw[c];show nofun
  show e.here q b
 | dq kvs=>
  let⟨rfl,ks,bs,c,z⟩:=h;simp![fj] at b;subst b;rw[c];show nofun
 | li a dss=>
  rcases bM.mp b with rfl | b
  .rw[h.2.1];show nofun
  show h.2.2.here q b
def mn.mono{K:ar}(g:aZ G m)(b:∀q∈p::fp,∀u,H q\u->H' q\u)(h:mn K G H p fp o):mn K m H' p fp o:=by
 cases o with
 | ll dss=>show⟨b p (by show .head _) _ h.1,h.2.mono g λq j xs=>b q (by show .tail _ ‹_›) _⟩
 | dc kvs=>
  let⟨rfl,ks,l,e,c⟩:=h;show⟨rfl,ks,l,b p (by show .head _) _ e,bp.mono g _ _ c⟩
 | dl kvs=>
  let⟨ks,l,e,c,i,f⟩:=h;show⟨ks,l,b p (by show .head _) _ e,c,i,f.mono g λq j xs=>b q (by show .tail _ ‹_›) _⟩
 | tl d ds=>
  let⟨r,v,xs,rfl,e,c,i,f⟩:=h;show⟨r,v,xs,rfl,b p (by show .head _) _ e,c.mono g,b r (by show .tail _ (.head _)) _ i,f.mono g⟩
 | li a dss=>show⟨h.1,b p (by show .head _) _ h.2.1,h.2.2.mono g λq j xs=>b q (by show .tail _ ‹_›) _⟩
 | ld x=>show⟨b p (by show .head _) _ h.1,h.2.mono g λq j=>b q (by show .tail _ ‹_›)⟩
 | dt kvs=>
  let⟨ks,bs,e,k,c,i,f⟩:=h;show⟨ks,bs,b p (by show .head _) _ e,k.mono g,c,i,f.mono g λq j xs=>b q (by show .tail _ ‹_›) _⟩
 | tp ds=>
  let⟨rfl,xs,e,c⟩:=h;show⟨rfl,xs,b p (by show .head _) _ e,c.mono g⟩
 | ob y fs=>
  let⟨C,w,t,e,s,n,c,i,f⟩:=h;show⟨C,w,t,b p (by show .head _) _ e,s,n,c,i,f.mono g λq j xs=>b q (by show .tail _ ‹_›) _⟩
 | dq kvs=>
  let⟨rfl,ks,bs,e,k,c⟩:=h;show⟨rfl,ks,bs,b p (by show .head _) _ e,k.mono g,e8.mono g _ _ c⟩
theorem bp.tj{K:ar}:∀{ks}{kvs:List (Key×List D)}{fp:List ag},ks.map (·.1)=kvs.map (·.1)->ks.map (·.2)=fp.map V.ref->av K G (fp.map V.ref) ((kvs.map (·.2)).map D.lst)->bp K G ks (kvs.map λp=>(p.1,.lst p.2))
 | [],[],_,_,_,_=>by trivial
 | a::ks,b::kvs,fp,d,c,e=>by
  simp![c8,tV.injEq] at d;cases fp with
  | nil=>contradiction
  | cons q fp=>
   simp![c8,tV.injEq] at c;show⟨⟨d.1,by rw[c.1];show e.1⟩,bp.tj d.2 c.2 e.2⟩
 | [],_::_,_,h,_,_=>by trivial
 | _::_,[],_,h,_,_=>by trivial
theorem e8.tj{K:ar}:∀{ks}{kvs:List (List Key×List D)}{fp:List ag},ks.map (·.1)=kvs.map (·.1)->ks.map (·.2)=fp.map V.ref->av K G (fp.map V.ref) ((kvs.map (·.2)).map D.lst)->e8 K G ks (kvs.map λp=>(p.1,.lst p.2))
 | [],[],_,_,_,_=>by trivial
 | a::ks,b::kvs,fp,d,c,e=>by
  simp![c8,tV.injEq] at d;cases fp with
  | nil=>contradiction
  | cons q fp=>
   simp![c8,tV.injEq] at c;show⟨⟨d.1,by rw[c.1];show e.1⟩,e8.tj d.2 c.2 e.2⟩
 | [],_::_,_,h,_,_=>by trivial
 | _::_,[],_,h,_,_=>by trivial
theorem df.tj{K:ar}:∀{ks}{kvs:List (aa×List D)}{fp:List ag},ks.map (·.1)=kvs.map (·.1)->ks.map (·.2)=fp.map V.ref->av K G (fp.map V.ref) ((kvs.map (·.2)).map D.lst)->df K G ks (kvs.map λp=>(p.1,.lst p.2))
 | [],[],_,_,_,_=>by trivial
 | a::ks,b::kvs,fp,d,c,e=>by
  simp![c8,tV.injEq] at d;cases fp with
  | nil=>contradiction
  | cons q fp=>
   simp![c8,tV.injEq] at c;show⟨⟨d.1,by rw[c.1];show e.1⟩,df.tj d.2 c.2 e.2⟩
 | [],_::_,_,h,_,_=>by trivial
 | _::_,[],_,h,_,_=>by trivial
def jz(G H:Hp)(l:List ag):Hp:=λa=>if a∈l then H a else G a
theorem mV(h:a∈l):jz G H l a=H a:=if_pos h
theorem oo(h:a∉l):jz G H l a=G a:=if_neg h
theorem xw(h:∀q∈l,G q=none):aZ G (jz G H l):=λb u e=>by
 rw[oo (λz=>by rw[h b z] at e;cases e)];show e
def mn.freeze{K:ar}(h:mn K G H p fp o)(l:∀q∈p::fp,G q=none):Rep K (jz G H (p::fp)) (.ref p) o.val:=by
 have b:=xw (H:=H) l;have g:jz G H (p::fp) p=H p:=mV (by show .head _);cases o with
 | ll dss=>
  show⟨p,_,rfl,gv.of (by rw[g];show h.1),h.2.qR b λq k xs e=>by rw[mV (by show .tail _ ‹_›)];show e⟩
 | dc kvs=>
  let⟨rfl,ks,n,f,c⟩:=h;show⟨p,ks,n,rfl,by rw[g];show f,bp.mono b _ _ c⟩
 | dl kvs=>
  let⟨ks,n,f,c,j,i⟩:=h;show⟨p,ks,n,rfl,by rw[g];show f,bp.tj c j (i.qR b λq k xs e=>by rw[mV (by show .tail _ ‹_›)];show e)⟩
 | tl d ds=>
  let⟨r,v,xs,rfl,f,c,j,i⟩:=h;show⟨p,_,rfl,(by rw[g];show f),av.cons (c.mono b) (av.cons ?_ av.nil)⟩;show⟨r,xs,rfl,gv.of (by rw[mV (by show .tail _ (.head _))];show j),i.mono b⟩
 | dt kvs=>
  let⟨ks,bs,f,m,c,j,i⟩:=h;show⟨p,ks,bs,rfl,by rw[g];show f,m.mono b,e8.tj c j (i.qR b λq k xs e=>by rw[mV (by show .tail _ ‹_›)];show e)⟩
 | tp ds=>
  let⟨rfl,xs,f,c⟩:=h;show⟨p,xs,rfl,(by rw[g];show f),c.mono b⟩
 | ob z fs=>
  let⟨C,x,w,f,t,l,c,j,i⟩:=h;show⟨p,C,x,w,rfl,by rw[g];show f,t,λu s=>?_,df.tj c j (i.qR b λq k xs e=>by rw[mV (by show .tail _ ‹_›)];show e)⟩;let⟨v,hv,rfl⟩:=bQ.mp s;show l v hv
 | li a dss=>
  show⟨p,_,rfl,gv.of (by rw[g];show h.2.1),h.2.2.qR b λq k xs e=>by rw[mV (by show .tail _ ‹_›)];show e⟩
 | ld y=>
  show⟨p,_,rfl,gv.of (by rw[g];show h.1),h.2.qR b λq k u e=>by rw[mV (by show .tail _ ‹_›)];show e⟩
 | dq kvs=>
  let⟨rfl,ks,bs,f,m,c⟩:=h;show⟨p,ks,bs,rfl,by rw[g];show f,m.mono b,e8.mono b _ _ c⟩
abbrev Ev:=List Sl
def gt:Ev->Nat->Sl
 | [],_=>.un
 | a::_,0=>a
 | _::r,n+1=>gt r n
def mT:gt (ρ.set i s) j=if i=j/\j<ρ.length then s else gt ρ j:=by
 induction ρ generalizing i j with
 | nil=>cbv
 | cons a r b=>
  cases i with
  | zero=>
   cases j with
   | zero=>rfl
   | succ j=>rfl
  | succ i=>
   cases j with
   | zero=>rfl
   | succ j=>simp[gt,b]
def dY(K:ar)(a H' H:Hp)(v:V):R->Prop
 | .fz d=>Rep K a v d
 | .ow ds=>∃p xs,v=.ref p/\H p=none/\a p=none/\H' p\.lst xs/\av K a xs ds
 | .ov o=>∃p fp,v=.ref p/\(p::fp).Nodup/\mn K a H' p fp o/\∀q∈p::fp,H q=none/\a q=none
structure aU(K:ar)(G0 H0:Hp)(ρ:Ev)(σ:St)(G H:Hp):Prop where
 e:Ext G0 H0 G H
 len:σ.length=ρ.length
 fz:∀i d,gt ρ i=.fz d->∃v,σ[i]?\some v/\Rep K G v d
 ow:∀i ds,gt ρ i=.ow ds->∃p xs,σ[i]?\some (.ref p)/\H p\.lst xs/\G p=none/\H0 p=none/\av K G xs ds
 dj:∀i j ds es,i≠j->gt ρ i=.ow ds->gt ρ j=.ow es->σ[i]?≠σ[j]?
 on:∃own:ag->Option Nat,(∀i ds p,gt ρ i=.ow ds->σ[i]?\some (.ref p)->own p\i)/\∀i o,gt ρ i=.ov o->∃p fp,σ[i]?\some (.ref p)/\(p::fp).Nodup/\mn K G H p fp o/\∀q∈p::fp,G q=none/\H0 q=none/\own q=some i
section
variable{K:ar}
theorem aU.ext(E:aU K G0 H0 ρ σ G H)(x:Ext G H G' H'):aU K G0 H0 ρ σ G' H' where
 e:=E.e.trans x
 len:=E.len
 fz:=λi d h=>let⟨v,f,b⟩:=E.fz i d h;⟨v,f,b.mono x.g⟩
 ow:=λi ds h=>let⟨p,xs,f,b,w,t,s⟩:=E.ow i ds h;⟨p,xs,f,x.h _ _ b,x.n p w (by rw[b];show nofun),t,s.mono x.g⟩
 dj:=E.dj
 on:=by
  symm;let⟨own,f,b⟩:=E.on;show⟨own,f,λi o h=>?_⟩;symm;let⟨p,fp,z,y,r,m⟩:=b i o h;show⟨p,fp,z,y,r.mono x.g λq _ u e=>x.h q u e,λq j=>⟨x.n q (m q j).1 (r.here q j),(m q j).2⟩⟩
def dY.freeze(x:Ext G H G' H')(h:dY K G' H' H v r):∃G2,Ext G H G2 H'/\Rep K G2 v r.val/\aZ G' G2:=by
 cases r with
 | fz d=>show⟨G',x,h,aZ.refl _⟩
 | ow ds=>
  symm;let⟨p,xs,y,t,f,C,B⟩:=h;show⟨upd G' p (.lst xs),⟨x.g.trans (sL f),x.h,λb o e=>?_,λq w j=>?_⟩,?_,sL f⟩
  .by_cases i:b=p
   .subst i;rw[cW] at e;rw[C];show e
   rw[br i] at e;show x.s b o e
  .rw[br (λz=>j (by rw[z];show t))];show x.n q w j
  show⟨p,xs,y,gv.of cW,B.mono (sL f)⟩
 | ov o=>
  symm;let⟨p,fp,rfl,y,t,f⟩:=h;have m:∀q∈p::fp,G' q=none:=λq A=>(f q A).2
  show⟨jz G' H' (p::fp),⟨x.g.trans (xw m),x.h,λb u e=>?_,λq w j=>?_⟩,t.freeze m,xw m⟩
  .by_cases i:b∈p::fp
   .rw[mV i] at e;show e
   rw[oo i] at e;show x.s b u e
  rw[oo (λz=>j (f q z).1)];show x.n q w j
def dY.m8(s:aZ f g)(h:dY K G' H' g v r):dY K G' H' f v r:=by
 cases r with
 | fz d=>show h
 | ow ds=>
  let⟨p,xs,c,b,a,j,i⟩:=h;show⟨p,xs,c,s.free b,a,j,i⟩
 | ov o=>
  let⟨p,fp,rfl,c,b,a⟩:=h;show⟨p,fp,rfl,c,b,λq e=>⟨s.free (a q e).1,(a q e).2⟩⟩
end
abbrev TD:=Ev->(R->Prop)->Prop
abbrev dF:=Ev->(Bool->Prop)->Prop
abbrev eZ:=Ev->(List D->Prop)->Prop
structure DE where
 nx:Ev->Prop
 rt:R->Prop
 bk:Ev->Prop:=λ_=>False
 ct:Ev->Prop:=λ_=>False
abbrev TX:=DE->Ev->Prop
def PD(X:Cx)(e:ay)(t:TD):Prop:=∃tt,PE X e tt/\∀ρ σ c b G H Q P,aU X.K c b ρ σ G H->t ρ Q->
 (∀v H' r a,Ext G H a H'->dY X.K a H' H v r->Q r->P v H')->tt σ H P
def PB(X:Cx)(e:ay)(t:dF):Prop:=∃tt,PT X e tt/\∀ρ σ c a G H Q P,aU X.K c a ρ σ G H->t ρ Q->
 (∀b H' d,Ext G H d H'->Q b->P b H')->tt σ H P
def iP(X:Cx)(c:List ay)(t:eZ):Prop:=∃tt,PA X c tt/\∀ρ σ e d G H Q P,aU X.K e d ρ σ G H->t ρ Q->
 (∀a H' ds b,Ext G H b H'->av X.K b a ds->Q ds->P a H')->tt σ H P
structure Goes(K:ar)(G0 H0 G:Hp)(D:DE)(E:Ends):Prop where
 nx:∀ρ σ G' H',aZ G G'->aU K G0 H0 ρ σ G' H'->D.nx ρ->E.nx σ H'
 rt:∀v H' r G',Ext G0 H0 G' H'->dY K G' H' H0 v r->D.rt r->E.rt v H'
 bk:∀ρ σ G' H',aZ G G'->aU K G0 H0 ρ σ G' H'->D.bk ρ->E.bk σ H'
 ct:∀ρ σ G' H',aZ G G'->aU K G0 H0 ρ σ G' H'->D.ct ρ->E.ct σ H'
theorem Goes.shift{K:ar}{D:DE}(g:Goes K d c G D E)(s:aZ G e):Goes K d c e D E:=
 ⟨λρ σ b a s2=>g.nx ρ σ b a (s.trans s2),g.rt,λρ σ b a s2=>g.bk ρ σ b a (s.trans s2),λρ σ b a s2=>g.ct ρ σ b a (s.trans s2)⟩
def PX(X:Cx)(st:bY)(t:TX):Prop:=∃tt,PS X st tt/\∀ρ σ b a G H D E,aU X.K b a ρ σ G H->t D ρ->Goes X.K b a G D E->tt E σ H
def hJ(X:Cx)(st:List bY)(t:TX):Prop:=∃tt,kB X st tt/\∀ρ σ b a G H D E,aU X.K b a ρ σ G H->t D ρ->Goes X.K b a G D E->tt E σ H
section
variable{X:Cx}{a b c:ay}{ta tb tc:TD}
theorem cK{K:ar}{a H' H:Hp}(h:Rep K a v d):dY K a H' H v (.fz d):=h
structure Nm(X:Cx)(i:Nat)(x:aa):Prop where
 N:X.N[i]?=some x
 v:rB X.env.scope x
 d:(x==("__debug__":aa))=false
 c:(x==("__classdict__":aa))=false
theorem jH(h:Nm X i x):PE X (.Name x pos) (uw i):=uH h.N h.v h.d h.c
def aO(i:Nat):TD:=λρ Q=>match gt ρ i with
 | .fz d=>Q (.fz d)
 | _=>False
def ae(i)(hN:Nm X i x:=by walk_at"nm"):PD X (.Name x pos) (aO i):=by
 show⟨_,jH hN,λρ σ j g G H Q P E h k=>?_⟩;unfold aO at h;split at h
 .rename_i d e;let⟨v,f,b⟩:=E.fz i d e;show⟨v,f,k v H (.fz d) G (.refl E.e.s) b h⟩
 show h.elim
def dC(d:D):TD:=λ_ Q=>Q (.fz d)
theorem Ex(h:PE X e (tC v))(r:∀K G,Rep K G v d):PD X e (dC d):=
 ⟨_,h,λρ σ b a G H Q P E h k=>k v H (.fz d) G (.refl E.e.s) (r _ _) h⟩
def fm(K G i):Rep K G (.int i) (.int i):=by simp![Rep]
def ip(K G i):Rep K G (.bl i) (.bl i):=by simp![Rep]
def xg(K G i):Rep K G (.str i) (.str i):=by simp![Rep]
def T8(K G):Rep K G .non .non:=by simp![Rep]
theorem ax:PD X (.Constant (.int i) j pos) (dC (.int i)):=Ex SQ λK G=>fm K G i
theorem qC:PD X (.Constant (.bool i) j pos) (dC (.bl i)):=Ex zvU λK G=>ip K G i
theorem gj:PD X (.Constant (.str i) j pos) (dC (.str i)):=Ex zug λK G=>xg K G i
theorem fO:PD X (.Constant .none j pos) (dC .non):=Ex zuf λK G=>T8 K G
abbrev O2:=D->D->(R->Prop)->Prop
def hU(X:Cx)(f:af->af->Sem af)(o:O2):Prop:=∃r:R2,dG X f r/\∀G H x y d e Q P,aZ G H->Rep X.K G x d->Rep X.K G y e->o d e Q->
 (∀v H' a b,Ext G H b H'->dY X.K b H' H v a->Q a->P v H')->r x y H P
def dX(o:O2)(ta tb:TD):TD:=λρ Q=>ta ρ λb=>tb ρ λa=>o b.val a.val Q
def DY
  (J:∀G H x y d e Q P,aZ G H->Rep X.K G x d->Rep X.K G y e->o d e Q->(∀v H' j a,Ext G H a H'->dY X.K a H' H v j->Q j->P v H')->r x y H P)
  (M:∀ρ b f c G H Q P,aU X.K f c ρ b G H->ta ρ Q->(∀v H' r a,Ext G H a H'->dY X.K a H' H v r->Q r->P v H')->m b H P)
  (L:∀ρ b f c G H Q P,aU X.K f c ρ b G H->tb ρ Q->(∀v H' r a,Ext G H a H'->dY X.K a H' H v r->Q r->P v H')->n b H P)
  (ρ b f c G H Q P) (E:aU X.K f c ρ b G H) (h:dX o ta tb ρ Q) (k:∀v H' r a,Ext G H a H'->dY X.K a H' H v r->Q r->P v H'):Bf r m n b H P:=by
 show M ρ b f c G H _ _ E h λv H1 Z G1 w C S=>?_
 let⟨T,l,I,V⟩:=C.freeze w;show L ρ b f c T H1 _ _ (E.ext l) S λu U Y G2 t B O=>?_
 let⟨W,i,F,V⟩:=B.freeze t;show J W U v u _ _ Q P i.s (I.mono i.g) F O λz H' j a q A N=>?_
 have p:=(l.trans i).trans q;show k z H' j a p (A.m8 (l.trans i).h) N
def aM(i:hU X (binaryOp op) o)(m:PD X a ta)(j:PD X b tb):PD X (.BinOp a op b pos) (dX o ta tb):=by
 symm;let⟨r,h,g⟩:=i;let⟨n,f,e⟩:=m;let⟨p,pb,d⟩:=j;show⟨_,R3 h f pb,DY g e d⟩
def uG(i:hU X (compareOp op) o)(n:PD X a ta)(m:PD X b tb)(j:behindInMarks op b=false:=by first | show SK _ | rfl):PD X (.Compare a [op] [b] pos) (dX o ta tb):=by
 symm;let⟨r,h,g⟩:=i;let⟨p,f,e⟩:=n;let⟨q,pb,d⟩:=m;show⟨_,zsv h f pb j,DY g e d⟩
def j5(t:TD):dF:=λρ Q=>t ρ λr=>match r with
 | .fz (.bl k)=>Q k
 | _=>False
def bG(q:hU X (compareOp op) o)(u:PD X a ta)(t:PD X b tb)(s:behindInMarks op b=false:=by first | show SK _ | rfl):PB X (.Compare a [op] [b] pos) (j5 (dX o ta tb)):=by
 symm;let⟨r,p,n⟩:=q;let⟨z,m,j⟩:=u;let⟨A,pb,i⟩:=t;show⟨_,zsx p m pb s,λρ σ x w G H Q P E h k=>?_⟩;show DY n j i ρ σ x w G H _ _ E h λv H' r y f g d=>?_
 split at d
 .rename_i kk;have e:v=.bl kk:=by simpa only[dY,Rep] using g
  show⟨kk,e,k kk H' y f d⟩
 show d.elim
def xa(h:PD X e t)(d:∀whole,isTrue e X.env whole=(do let v <-whole;standAt e.pos;holding [v] (truthy v)):=by intro _;rfl):PB X e (j5 t):=by
 let⟨tt,p,q⟩:=h;show⟨_,zuh p d,λρ σ g f G H Q P E h k=>?_⟩;show q ρ σ g f G H _ _ E h λv H' r i b c a=>?_
 split at a
 .rename_i kk;have e:v=.bl kk:=by simpa only[dY,Rep] using c
  show⟨kk,e,k kk H' i b a⟩
 show a.elim
def zE:O2:=λd e Q=>match d,e with
 | .int i,.int j=>Q (.fz (.int (i+j)))
 | .str x,.str y=>x.length+y.length<=sizeLine/\Q (.fz (.str (x++y)))
 | .lst xs,.lst ys=>xs.length+ys.length<=sizeLine/\Q (.ow (xs++ys))
 | _,_=>False
def zwh(K:ar):R2:=λx y H Q=>∃l b xs zs,x=.ref l/\y=.ref b/\gv K H l xs/\gv K H b zs/\xs.length+zs.length<=sizeLine/\∀p,H p=none->Q (.ref p) (upd H p (.lst (xs++zs)))
def zsN:dG X (binaryOp .Add) (zwh X.K):=by
 intro A s σ H x y v u Q I i g h;symm;let⟨l,b,xs,zs,rfl,rfl,j,m,hz,q⟩:=h;cases i;cases g;symm;let⟨z,its,n,r,e⟩:=I.cF j;let⟨t,f,n2,d,p⟩:=I.cF m;have hl:=r.length;have w:=d.length;show PySem.P.add_list e p ?_ (by cbv);have o:its.toArray++f.toArray=(its++f).toArray:=by simp
 rw[o];show⟨.ref _,_,I.Mf (t':=s.toks) (r.append d) (by rw[cD];room),rfl,q _ I.fresh⟩
theorem sC{Q:R->Prop}{P:VK}(s:aZ G H)(r:av X.K G xs ds)(q:Q (.ow ds))
  (k:∀v H' b c,Ext G H c H'->dY X.K c H' H v b->Q b->P v H'):∀p,H p=none->P (.ref p) (upd H p (.lst xs)):=λp a=>
 k _ _ (.ow ds) G (.own s a) ⟨p,xs,rfl,a,s.free a,cW,r⟩ q
def cE:hU X (binaryOp .Add) zE:=by
 show⟨_,aax.or (aaw.or zsN),λG H x y d e Q P s g f h k=>?_⟩;unfold zE at h;split at h
 .exact .inl ⟨_,_,g,f,k _ _ _ G (.refl s) (cK (fm _ _ _)) h⟩
 .exact .inr (.inl ⟨_,_,g,f,h.1,k _ _ _ G (.refl s) (cK (xg _ _ _)) h.2⟩)
 .symm;let⟨a,xs,rfl,hx,j⟩:=g;let⟨b,ys,rfl,m,i⟩:=f;show .inr (.inr ⟨_,_,_,_,rfl,rfl,s.cF hx,s.cF m,by rw[j.length,i.length];show h.1,sC s (j.append i) h.2 k⟩)
 show h.elim
def oI(C:Int->Int->Prop)(g:Int->Int->D):O2:=λd e Q=>match d,e with
 | .int i,.int j=>C i j/\Q (.fz (g i j))
 | _,_=>False
def m9(g:Int->Int->D):O2:=λd e Q=>match d,e with
 | .int i,.int j=>Q (.fz (g i j))
 | _,_=>False
def DM(h:dG X f (rI C g))(c:∀K G i j,Rep K G (g i j) (g' i j)):hU X f (oI C g'):=by
 show⟨_,h,λG H x y d e Q P s b a h k=>?_⟩;unfold oI at h;split at h
 .exact⟨_,_,b,a,h.1,k _ _ _ G (.refl s) (cK (c _ _ _ _)) h.2⟩
 show h.elim
def DX(h:dG X f (m6 g))(c:∀K G i j,Rep K G (g i j) (g' i j)):hU X f (m9 g'):=by
 show⟨_,h,λG H x y d e Q P s b a h k=>?_⟩;unfold m9 at h;split at h
 .exact⟨_,_,b,a,k _ _ _ G (.refl s) (cK (c _ _ _ _)) h⟩
 show h.elim
theorem R8:hU X (binaryOp .Sub) (m9 λi j=>.int (i-j)):=DX zuw λK G i j=>fm K G _
theorem sg:hU X (binaryOp .Mult) (oI Cp λi j=>.int (i*j)):=DM zux λK G i j=>fm K G _
theorem gI:hU X (binaryOp .FloorDiv) (oI Iw λi j=>.int (i/j)):=DM zss λK G i j=>fm K G _
theorem dQ:hU X (binaryOp .Mod) (oI (λ_ j=>0<j) λi j=>.int (i%j)):=DM zuy λK G i j=>fm K G _
theorem DL:hU X (binaryOp .Pow) (oI wX λi j=>.int (i ^ j.toNat)):=DM zuz λK G i j=>fm K G _
theorem qv:hU X (compareOp .Lt) (m9 λi j=>.bl (decide (i<j))):=DX zv9 λK G i j=>ip K G _
theorem Z3:hU X (compareOp .LtE) (m9 λi j=>.bl (decide (i<=j))):=DX IK λK G i j=>ip K G _
theorem wW:hU X (compareOp .Gt) (m9 λi j=>.bl (decide (j<i))):=DX zwa λK G i j=>ip K G _
end
open PySem.SeqAt
mutual
noncomputable def bS:D->D->Bool
 | .non,.non=>true
 | .bl a,.bl b=>a==b
 | .bl a,.int b=>(if a then 1 else 0)==b
 | .int a,.bl b=>a==(if b then 1 else 0)
 | .int a,.int b=>a==b
 | .str a,.str b=>a==b
 | .tup xs,.tup ys=>kO xs ys
 | .lst xs,.lst ys=>kO xs ys
 | _,_=>false
noncomputable def kO:List D->List D->Bool
 | [],[]=>true
 | x::xs,y::ys=>bS x y&&kO xs ys
 | _,_=>false
end
def bH:Nat->D->Prop
 | _,.non=>True
 | _,.bl _=>True
 | _,.int _=>True
 | _,.str _=>True
 | n+1,.tup ds=>∀d∈ds,bH n d
 | n+1,.lst ds=>∀d∈ds,bH n d
 | _,_=>False
theorem bH.mono:∀{n m d},n<=m->bH n d->bH m d
 | n,m,.non,_,_=>by cases m<;>show trivial
 | n,m,.bl _,_,_=>by cases m<;>show trivial
 | n,m,.int _,_,_=>by cases m<;>show trivial
 | n,m,.str _,_,_=>by cases m<;>show trivial
 | 0,m,.tup ds,_,h=>by cases h
 | 0,m,.lst ds,_,h=>by cases h
 | n+1,0,.tup ds,l,h=>by room
 | n+1,0,.lst ds,l,h=>by room
 | n+1,m+1,.tup ds,l,h=>λd hd=>bH.mono (by room) (h d hd)
 | n+1,m+1,.lst ds,l,h=>λd hd=>bH.mono (by room) (h d hd)
 | 0,m,.obj _ _,_,h=>by cases h
 | n+1,m,.obj _ _,_,h=>by cases h
 | 0,m,.dic _,_,h=>by cases h
 | 0,m,.dit _,_,h=>by cases h
 | 0,m,.exc _ _,_,h=>by cases h
 | 0,m,.idn _ _,_,h=>by cases h
 | n+1,m,.dic _,_,h=>by cases h
 | n+1,m,.dit _,_,h=>by cases h
 | n+1,m,.exc _ _,_,h=>by cases h
 | n+1,m,.idn _ _,_,h=>by cases h
mutual
theorem Ew:∀(n:Nat)(d:D),bH n d->bS d d=true
 | n,.non,_=>by simp![bS]
 | n,.bl _,_=>by show mL _
 | n,.int _,_=>by show mL _
 | n,.str _,_=>by show mL _
 | 0,.tup ds,h=>by cases h
 | 0,.lst ds,h=>by cases h
 | n+1,.tup ds,h=>by show Kj n ds h
 | n+1,.lst ds,h=>by show Kj n ds h
 | 0,.obj _ _,h=>by cases h
 | n+1,.obj _ _,h=>by cases h
 | 0,.dic _,h=>by cases h
 | 0,.dit _,h=>by cases h
 | 0,.exc _ _,h=>by cases h
 | 0,.idn _ _,h=>by cases h
 | n+1,.dic _,h=>by cases h
 | n+1,.dit _,h=>by cases h
 | n+1,.exc _ _,h=>by cases h
 | n+1,.idn _ _,h=>by cases h
theorem Kj:∀(n:Nat)(ds:List D),(∀d∈ds,bH n d)->kO ds ds=true
 | n,[],_=>by simp![kO]
 | n,d::ds,h=>by simp![kO,Ew n d (h d (by room)),Kj n ds (λe he=>h e (by room)),Bool.and_self]
end
theorem Ah:∀{xs ys},xs.length≠ys.length->kO xs ys=false
 | [],[],h=>absurd rfl h
 | x::xs,y::ys,h=>by
  rw[kO,Ah (xs:=xs) (ys:=ys) (by simpa using h),Hl]
 | [],_::_,_=>by simp![kO]
 | _::_,[],_=>by simp![kO]
theorem Ag:∀xs ys,xs.length=ys.length->kO xs ys=(aV xs.length).all λj=>bS (xs.getD j .non) (ys.getD j .non)
 | [],[],_=>by rfl
 | x::xs,y::ys,h=>by
  rw[kO,Ag xs ys (by simpa using h),eh,List.range_succ_eq_map,CJ,CH];congr 1
 | [],_::_,h=>by trivial
 | _::_,[],h=>by trivial
def JS(xs ys):((aV (min xs.length ys.length)).all (λj=>bS (xs.getD j .non) (ys.getD j .non))&&xs.length==ys.length)=kO xs ys:=by
 by_cases h:xs.length=ys.length
 .rw[Ag xs ys h,h];simp
 rw[Ah h];lia
section
variable{X:Cx}{J':List (ag×aR)}{σ:St}{H:Hp}{s:aj}
mutual
theorem Ec(I:Inv X J' σ H s):∀(n:Nat)(d e:D)(v:V),bH n d->bH n e->Rep X.K H v d->Rep X.K H v e->d=e
 | n,.non,e,v,h,h',r,c=>by
  cases e<;>simp only[Rep] at r c<;>subst r<;>grind
 | n,.bl b,e,v,h,h',r,c=>by
  cases e<;>simp only[Rep] at r c<;>subst r<;>grind
 | n,.int b,e,v,h,h',r,c=>by
  cases e<;>simp only[Rep] at r c<;>subst r<;>grind
 | n,.str b,e,v,h,h',r,c=>by
  cases e<;>simp only[Rep] at r c<;>subst r<;>grind
 | 0,.tup ds,e,v,h,h',r,c=>by cases h
 | 0,.lst ds,e,v,h,h',r,c=>by cases h
 | n+1,.tup ds,e,v,h,h',r,c=>by
  let⟨a,xs,rfl,q,rs⟩:=r;cases e<;>simp only[Rep] at c
  case tup j=>
   let⟨b,ys,i,f,g⟩:=c;cases i;rw[I.Wz (cN.of f) (cN.of q)] at g;rw[JR I n ds j xs h h' rs g]
  case lst j=>
   let⟨b,ys,i,f,g⟩:=c;cases i;let⟨its,z,k,z⟩:=I.tuple (cN.of q);let⟨its',z,l,z⟩:=I.list f.sq;show absurd rfl (ne_of_list_tuple l.isList (show s.heap.IsTuple a its.toArray from k))
  case obj=>cases h'
  case dic=>cases h'
  case dit=>cases h'
  case exc=>cases h'
  case idn=>cases h'
  all_goals cases c
 | n+1,.lst ds,e,v,h,h',r,c=>by
  let⟨a,xs,rfl,q,rs⟩:=r;cases e<;>simp only[Rep] at c
  case lst j=>
   let⟨b,ys,i,f,g⟩:=c;cases i;rw[I.Bv f.sq q.sq] at g;rw[JR I n ds j xs h h' rs g]
  case tup j=>
   let⟨b,ys,i,f,g⟩:=c;cases i;let⟨its,z,k,z⟩:=I.tuple (cN.of f);let⟨its',z,l,z⟩:=I.list q.sq;show absurd rfl (ne_of_list_tuple l.isList (show s.heap.IsTuple a its.toArray from k))
  case obj=>cases h'
  case dic=>cases h'
  case dit=>cases h'
  case exc=>cases h'
  case idn=>cases h'
  all_goals cases c
 | 0,.obj _ _,_,_,h,_,_,_=>by cases h
 | n+1,.obj _ _,_,_,h,_,_,_=>by cases h
 | 0,.dic _,_,_,h,_,_,_=>by cases h
 | 0,.dit _,_,_,h,_,_,_=>by cases h
 | 0,.exc _ _,_,_,h,_,_,_=>by cases h
 | 0,.idn _ _,_,_,h,_,_,_=>by cases h
 | n+1,.dic _,_,_,h,_,_,_=>by cases h
 | n+1,.dit _,_,_,h,_,_,_=>by cases h
 | n+1,.exc _ _,_,_,h,_,_,_=>by cases h
 | n+1,.idn _ _,_,_,h,_,_,_=>by cases h
theorem JR(I:Inv X J' σ H s):∀(n:Nat)(ds b:List D)(f:List V),(∀d∈ds,bH n d)->(∀d∈b,bH n d)->av X.K H f ds->av X.K H f b->ds=b
 | n,[],[],_,_,_,_,_=>rfl
 | n,d::ds,e::b,v::f,h,h',r,g=>by
  rw[Ec I n d e v (h d (by room)) (h' e (by room)) r.1 g.1,JR I n ds b f (λx hx=>h x (by room)) (λx hx=>h' x (by room)) r.2 g.2]
 | n,[],_::_,[],_,_,_,r=>by simp![av] at r
 | n,[],_::_,_::_,_,_,r,_=>by simp![av] at r
 | n,_::_,[],[],_,_,r,_=>by simp![av] at r
 | n,_::_,[],_::_,_,_,_,r=>by simp![av] at r
 | n,_::_,_::_,[],_,_,r,_=>by simp![av] at r
end
def lV(e:Vals b us)(h:av X.K H b ds)(o):∃v,RelV v us.toArray[j]/\Rep X.K H v (ds.getD j .non)/\ds.getD j .non∈ds:=by
 have i:j<us.length:=by trivial
 have f:j<b.length:=by rw[e.length];show i
 symm;let⟨u,n,m⟩:=e.get (bO f);let⟨d,hd,g⟩:=h.Yw (bO f);grind
def wY:D->Bool
 | .non=>true
 | .bl _=>true
 | .int _=>true
 | .str _=>true
 | _=>false
def Um(hd:wY d=true)(c:wY e=true)(b:Rep X.K H x d)(a:Rep X.K H y e):DN x=true/\DN y=true/\Nf x y=bS d e:=by
 cases d<;>first | cases hd | skip
 all_goals (cases e<;>first | cases c | skip)
 all_goals
  subst b a;show⟨rfl,rfl,by simp[Nf,bS]⟩
def zV(I:Inv X Y σ H s):∀n A d e x y v u,bH n d->bH n e->A.units+n<cLine->Rep X.K H x d->Rep X.K H y e->RelV x v->RelV y u->EqAt A s v u (bS d e):=by
 intro n;induction n with
 | zero=>
  intro A d e x y v u hd he W k g l i;have fd:wY d=true:=by cases d<;>first | rfl | cases hd
  have J:wY e=true:=by cases e<;>first | rfl | cases he
  let⟨B,z,M⟩:=Um fd J k g;rw[<-M];show SE l i B z
 | succ n U=>
  intro A d e x y v u hd he W k g l i;have f:A.units<cLine:=by lia
  have T:A.in1.units+n<cLine:=by show A.units+1+n<cLine;lia
  by_cases fd:wY d=true
  .by_cases J:wY e=true
   .let⟨B,z,M⟩:=Um fd J k g;rw[<-M];show SE l i B z
   cases e<;>first | show absurd rfl J | skip
   case tup m=>
    let⟨b,ys,rfl,q,rs⟩:=g;cases i;let⟨its,p,w,Z⟩:=I.tuple (cN.of q);have c:s.heap.IsTuple b its.toArray:=w;cases d<;>first | cases fd | skip
    .subst k;cases l;simpa only[bS] using EqAt.none_tuple c f
    .subst k;cases l;simpa only[bS] using EqAt.bool_tuple _ c f
    .subst k;let⟨t,rfl⟩:=l;simpa only[bS] using EqAt.int_tuple _ t c f
    subst k;let⟨t,rfl⟩:=l;simpa only[bS] using EqAt.str_tuple _ t c f
   case lst m=>
    let⟨b,ys,rfl,q,rs⟩:=g;cases i;let⟨its,p,w,Z⟩:=I.list q.sq;have c:=w.isList;cases d<;>first | cases fd | skip
    .subst k;cases l;simpa only[bS] using EqAt.none_list c f
    .subst k;cases l;simpa only[bS] using EqAt.bool_list _ c f
    .subst k;let⟨t,rfl⟩:=l;simpa only[bS] using EqAt.int_list _ t c f
    subst k;let⟨t,rfl⟩:=l;simpa only[bS] using EqAt.str_list _ t c f
   case obj=>cases he
   case dic=>cases he
   case dit=>cases he
   case exc=>cases he
   case idn=>cases he
  cases d<;>first | show absurd rfl fd | skip
  case tup ds=>
   have R:=k;let⟨a,xs,rfl,q,rs⟩:=k;cases l;let⟨its,p,w,Z⟩:=I.tuple (cN.of q);have c:s.heap.IsTuple a its.toArray:=w;cases e
   case non=>subst g;cases i;simpa only[bS] using EqAt.tuple_none c f
   case bl=>subst g;cases i;simpa only[bS] using EqAt.tuple_bool _ c f
   case int=>subst g;let⟨t,rfl⟩:=i;simpa only[bS] using EqAt.tuple_int _ t c f
   case str=>subst g;let⟨t,rfl⟩:=i;simpa only[bS] using EqAt.tuple_str _ t c f
   case lst m=>
    let⟨b,ys,rfl,r,E⟩:=g;cases i;let⟨its',C,o,Z⟩:=I.list r.sq;simpa only[bS] using EqAt.tuple_list c o.isList f
   case tup m=>
    have S:=g;let⟨b,ys,rfl,r,E⟩:=g;cases i;let⟨its',C,L,Z⟩:=I.tuple (cN.of r);by_cases F:a=b
    .subst F;have N:=Ec I (n+1) _ _ _ hd he R S;rw[<-N,Ew (n+1) _ hd];show EqAt.same _
    show EqAt.of_refs F ?_;have h:=RcAt.tuples (e:=λj=>bS (ds.getD j .non) (m.getD j .non)) c (show s.heap.IsTuple b its'.toArray from L) f λj B z=>by
     let⟨v1,a1,Q,c1⟩:=lV p rs B;let⟨v2,a2,P,O⟩:=lV C E z;show U A.in1 _ _ v1 v2 _ _ (hd _ c1) (he _ O) T Q P a1 a2
    have l1:its.toArray.size=ds.length:=by rw[dh,<-p.length,rs.length]
    have G:its'.toArray.size=m.length:=by rw[dh,<-C.length,E.length]
    rw[l1,G,JS] at h;simpa only[bS] using h
   case obj=>cases he
   case dic=>cases he
   case dit=>cases he
   case exc=>cases he
   case idn=>cases he
  case lst ds=>
   have R:=k;let⟨a,xs,rfl,q,rs⟩:=k;cases l;let⟨its,p,w,Z⟩:=I.list q.sq;have c:=w.isList;cases e
   case non=>subst g;cases i;simpa only[bS] using EqAt.list_none c f
   case bl=>subst g;cases i;simpa only[bS] using EqAt.list_bool _ c f
   case int=>subst g;let⟨t,rfl⟩:=i;simpa only[bS] using EqAt.list_int _ t c f
   case str=>subst g;let⟨t,rfl⟩:=i;simpa only[bS] using EqAt.list_str _ t c f
   case tup m=>
    let⟨b,ys,rfl,r,E⟩:=g;cases i;let⟨its',C,o,Z⟩:=I.tuple (cN.of r);simpa only[bS] using EqAt.list_tuple c (show s.heap.IsTuple b its'.toArray from o) f
   case lst m=>
    have S:=g;let⟨b,ys,rfl,r,E⟩:=g;cases i;let⟨its',C,L,Z⟩:=I.list r.sq;by_cases F:a=b
    .subst F;have N:=Ec I (n+1) _ _ _ hd he R S;rw[<-N,Ew (n+1) _ hd];show EqAt.same _
    show EqAt.of_refs F ?_;have l1:its.toArray.size=ds.length:=by rw[dh,<-p.length,rs.length]
    have G:its'.toArray.size=m.length:=by rw[dh,<-C.length,E.length]
    by_cases o:ds.length=m.length
    .have h:=RcAt.lists (e:=λj=>bS (ds.getD j .non) (m.getD j .non)) c L.isList (by rw[l1,G,o]) f λj B z=>by
      let⟨v1,a1,Q,c1⟩:=lV p rs B;let⟨v2,a2,P,O⟩:=lV C E z;show U A.in1 _ _ v1 v2 _ _ (hd _ c1) (he _ O) T Q P a1 a2
     rw[l1,<-Ag ds m o] at h;simpa only[bS] using h
    have h:=RcAt.lists_lengths (A:=A) c L.isList (by rw[l1,G];simpa using o) f;simp![bS,Ah o];show h
   case obj=>cases he
   case dic=>cases he
   case dit=>cases he
   case exc=>cases he
   case idn=>cases he
  case obj=>cases hd
  case dic=>cases hd
  case dit=>cases hd
  case exc=>cases hd
  case idn=>cases hd
end
section
variable{X:Cx}{σ:St}
def ny(r:Rep X.K H y .non)(q:RelV y u):u=.none:=by simp![Rep] at r;subst r;cases q;rfl
def nA(r:Rep X.K H y (.bl c))(q:RelV y u):u=.bool c:=by simp![Rep] at r;subst r;cases q;rfl
def nz(r:Rep X.K H y (.int i))(q:RelV y u):∃t,u=.int i t:=by simp![Rep] at r;subst r;show q
def nu(r:Rep X.K H y (.str x))(q:RelV y u):∃t,u=.str x t:=by simp![Rep] at r;subst r;show q
def pR(I:Inv X J' σ H s)(r:Rep X.K H y (.tup e))(q:RelV y u):∃b it,u=.ref b/\s.heap.IsTuple b (OY it):=by
 simp![Rep] at r;symm;let⟨b,ys,rfl,h,z⟩:=r;cases q;let⟨it,z,d,z⟩:=I.tuple (cN.of h);show⟨b,it,rfl,d⟩
def pS(I:Inv X J' σ H s)(r:Rep X.K H y (.lst e))(q:RelV y u):∃b it,u=.ref b/\s.heap.IsList b (OY it):=by
 simp![Rep] at r;symm;let⟨b,ys,rfl,h,z⟩:=r;cases q;let⟨it,z,d,z⟩:=I.list h.sq;show⟨b,it,rfl,d.isList⟩
def zuP(I:Inv X J' σ H s):∀n A d e x y v u,bH n d->bH n e->A.units+n<cLine->Rep X.K H x d->Rep X.K H y e->RelV x v->RelV y u->RcAt A s v u (bS d e):=by
 intro n A d e x y v u hd he O l c o f;have i:A.units<cLine:=by lia
 cases d
 case non=>
  simp![Rep] at l;subst l;cases o;cases e
  case non=>cases ny c f;show RcAt.none_none
  case bl=>cases nA c f;show RcAt.none_bool _
  case int=>let⟨t,rfl⟩:=nz c f;show RcAt.none_int _ t
  case str=>let⟨t,rfl⟩:=nu c f;show RcAt.none_str _ t
  case tup=>let⟨b,it,rfl,g⟩:=pR I c f;show RcAt.none_tuple g i
  case lst=>let⟨b,it,rfl,g⟩:=pS I c f;show RcAt.none_list g i
  all_goals (cases n<;>cases he)
 case bl a=>
  simp![Rep] at l;subst l;cases o;cases e
  case non=>cases ny c f;show RcAt.bool_none _
  case bl=>cases nA c f;show RcAt.bool_bool _ _
  case int=>let⟨t,rfl⟩:=nz c f;show RcAt.bool_int _ _ t
  case str=>let⟨t,rfl⟩:=nu c f;show RcAt.bool_str _ _ t
  case tup=>let⟨b,it,rfl,g⟩:=pR I c f;show RcAt.bool_tuple _ g i
  case lst=>let⟨b,it,rfl,g⟩:=pS I c f;show RcAt.bool_list _ g i
  all_goals (cases n<;>cases he)
 case int a=>
  simp![Rep] at l;subst l;let⟨t0,rfl⟩:=o;cases e
  case non=>cases ny c f;show RcAt.int_none _ t0
  case bl=>cases nA c f;show RcAt.int_bool _ t0 _
  case int=>let⟨t,rfl⟩:=nz c f;show RcAt.int_int _ t0 _ t
  case str=>let⟨t,rfl⟩:=nu c f;show RcAt.int_str _ t0 _ t
  case tup=>let⟨b,it,rfl,g⟩:=pR I c f;show RcAt.int_tuple _ t0 g i
  case lst=>let⟨b,it,rfl,g⟩:=pS I c f;show RcAt.int_list _ t0 g i
  all_goals (cases n<;>cases he)
 case str a=>
  simp![Rep] at l;subst l;let⟨t0,rfl⟩:=o;cases e
  case non=>cases ny c f;show RcAt.str_none _ t0
  case bl=>cases nA c f;show RcAt.str_bool _ t0 _
  case int=>let⟨t,rfl⟩:=nz c f;show RcAt.str_int _ t0 _ t
  case str=>let⟨t,rfl⟩:=nu c f;show RcAt.str_str _ t0 _ t
  case tup=>let⟨b,it,rfl,g⟩:=pR I c f;show RcAt.str_tuple _ t0 g i
  case lst=>let⟨b,it,rfl,g⟩:=pS I c f;show RcAt.str_list _ t0 g i
  all_goals (cases n<;>cases he)
 case tup ds=>
  cases n with
  | zero=>cases hd
  | succ n=>
  have F:A.in1.units+n<cLine:=by show A.units+1+n<cLine;lia
  simp![Rep] at l;let⟨a,xs,rfl,q,rs⟩:=l;cases o;let⟨its,p,G,Z⟩:=I.tuple (cN.of q);have k:s.heap.IsTuple a its.toArray:=G;cases e
  case non=>cases ny c f;show RcAt.tuple_none k i
  case bl=>cases nA c f;show RcAt.tuple_bool _ k i
  case int=>let⟨t,rfl⟩:=nz c f;show RcAt.tuple_int _ t k i
  case str=>let⟨t,rfl⟩:=nu c f;show RcAt.tuple_str _ t k i
  case lst m=>let⟨b,it,rfl,g⟩:=pS I c f;show RcAt.tuple_list k g i
  case tup m=>
   simp![Rep] at c;let⟨b,ys,rfl,E,w⟩:=c;cases f;let⟨its',r,C,Z⟩:=I.tuple (cN.of E);have h:=RcAt.tuples (e:=λj=>bS (ds.getD j .non) (m.getD j .non)) k (show s.heap.IsTuple b its'.toArray from C) i λj J g=>by
    let⟨v1,a1,N,c1⟩:=lV p rs J;let⟨v2,a2,M,L⟩:=lV r w g;show zV I n A.in1 _ _ v1 v2 _ _ (hd _ c1) (he _ L) F N M a1 a2
   have l1:its.toArray.size=ds.length:=by rw[dh,<-p.length,rs.length]
   have z:its'.toArray.size=m.length:=by rw[dh,<-r.length,w.length]
   rw[l1,z,JS] at h;simpa only[bS] using h
  all_goals cases he
 case lst ds=>
  cases n with
  | zero=>cases hd
  | succ n=>
  have F:A.in1.units+n<cLine:=by show A.units+1+n<cLine;lia
  simp![Rep] at l;let⟨a,xs,rfl,q,rs⟩:=l;cases o;let⟨its,p,G,Z⟩:=I.list q.sq;have k:=G.isList;cases e
  case non=>cases ny c f;show RcAt.list_none k i
  case bl=>cases nA c f;show RcAt.list_bool _ k i
  case int=>let⟨t,rfl⟩:=nz c f;show RcAt.list_int _ t k i
  case str=>let⟨t,rfl⟩:=nu c f;show RcAt.list_str _ t k i
  case tup m=>let⟨b,it,rfl,g⟩:=pR I c f;show RcAt.list_tuple k g i
  case lst m=>
   simp![Rep] at c;let⟨b,ys,rfl,E,w⟩:=c;cases f;let⟨its',r,C,Z⟩:=I.list E.sq;have l1:its.toArray.size=ds.length:=by rw[dh,<-p.length,rs.length]
   have z:its'.toArray.size=m.length:=by rw[dh,<-r.length,w.length]
   by_cases B:ds.length=m.length
   .have h:=RcAt.lists (e:=λj=>bS (ds.getD j .non) (m.getD j .non)) k C.isList (by rw[l1,z,B]) i λj J g=>by
     let⟨v1,a1,N,c1⟩:=lV p rs J;let⟨v2,a2,M,L⟩:=lV r w g;show zV I n A.in1 _ _ v1 v2 _ _ (hd _ c1) (he _ L) F N M a1 a2
    rw[l1,<-Ag ds m B] at h;simpa only[bS] using h
   have h:=RcAt.lists_lengths (A:=A) k C.isList (by rw[l1,z];simpa using B) i;simp![bS,Ah B];show h
  all_goals cases he
 all_goals (cases n<;>cases hd)
def zqn(I:Inv X J' σ H s):∀n A d e x y v u,bH n d->bH n e->A.units+n<cLine->Rep X.K H x d->Rep X.K H y e->RelV x v->RelV y u->RcNeAt A s v u (!bS d e):=by
 intro n A d e x y v u hd he O l c o f;have i:A.units<cLine:=by lia
 cases d
 case non=>
  simp![Rep] at l;subst l;cases o;cases e
  case non=>cases ny c f;show RcNeAt.none_none
  case bl=>cases nA c f;show RcNeAt.none_bool _
  case int=>let⟨t,rfl⟩:=nz c f;show RcNeAt.none_int _ t
  case str=>let⟨t,rfl⟩:=nu c f;show RcNeAt.none_str _ t
  case tup=>let⟨b,it,rfl,g⟩:=pR I c f;show RcNeAt.none_tuple g i
  case lst=>let⟨b,it,rfl,g⟩:=pS I c f;show RcNeAt.none_list g i
  all_goals (cases n<;>cases he)
 case bl a=>
  simp![Rep] at l;subst l;cases o;cases e
  case non=>cases ny c f;show RcNeAt.bool_none _
  case bl=>cases nA c f;show RcNeAt.bool_bool _ _
  case int=>let⟨t,rfl⟩:=nz c f;show RcNeAt.bool_int _ _ t
  case str=>let⟨t,rfl⟩:=nu c f;show RcNeAt.bool_str _ _ t
  case tup=>let⟨b,it,rfl,g⟩:=pR I c f;show RcNeAt.bool_tuple _ g i
  case lst=>let⟨b,it,rfl,g⟩:=pS I c f;show RcNeAt.bool_list _ g i
  all_goals (cases n<;>cases he)
 case int a=>
  simp![Rep] at l;subst l;let⟨t0,rfl⟩:=o;cases e
  case non=>cases ny c f;show RcNeAt.int_none _ t0
  case bl=>cases nA c f;show RcNeAt.int_bool _ t0 _
  case int=>let⟨t,rfl⟩:=nz c f;show RcNeAt.int_int _ t0 _ t
  case str=>let⟨t,rfl⟩:=nu c f;show RcNeAt.int_str _ t0 _ t
  case tup=>let⟨b,it,rfl,g⟩:=pR I c f;show RcNeAt.int_tuple _ t0 g i
  case lst=>let⟨b,it,rfl,g⟩:=pS I c f;show RcNeAt.int_list _ t0 g i
  all_goals (cases n<;>cases he)
 case str a=>
  simp![Rep] at l;subst l;let⟨t0,rfl⟩:=o;cases e
  case non=>cases ny c f;show RcNeAt.str_none _ t0
  case bl=>cases nA c f;show RcNeAt.str_bool _ t0 _
  case int=>let⟨t,rfl⟩:=nz c f;show RcNeAt.str_int _ t0 _ t
  case str=>let⟨t,rfl⟩:=nu c f;show RcNeAt.str_str _ t0 _ t
  case tup=>let⟨b,it,rfl,g⟩:=pR I c f;show RcNeAt.str_tuple _ t0 g i
  case lst=>let⟨b,it,rfl,g⟩:=pS I c f;show RcNeAt.str_list _ t0 g i
  all_goals (cases n<;>cases he)
 case tup ds=>
  cases n with
  | zero=>cases hd
  | succ n=>
  have F:A.in1.units+n<cLine:=by show A.units+1+n<cLine;lia
  simp![Rep] at l;let⟨a,xs,rfl,q,rs⟩:=l;cases o;let⟨its,p,G,Z⟩:=I.tuple (cN.of q);have k:s.heap.IsTuple a its.toArray:=G;cases e
  case non=>cases ny c f;show RcNeAt.tuple_none k i
  case bl=>cases nA c f;show RcNeAt.tuple_bool _ k i
  case int=>let⟨t,rfl⟩:=nz c f;show RcNeAt.tuple_int _ t k i
  case str=>let⟨t,rfl⟩:=nu c f;show RcNeAt.tuple_str _ t k i
  case lst m=>let⟨b,it,rfl,g⟩:=pS I c f;show RcNeAt.tuple_list k g i
  case tup m=>
   simp![Rep] at c;let⟨b,ys,rfl,E,w⟩:=c;cases f;let⟨its',r,C,Z⟩:=I.tuple (cN.of E);have h:=RcNeAt.tuples (e:=λj=>bS (ds.getD j .non) (m.getD j .non)) k (show s.heap.IsTuple b its'.toArray from C) i λj J g=>by
    let⟨v1,a1,N,c1⟩:=lV p rs J;let⟨v2,a2,M,L⟩:=lV r w g;show zV I n A.in1 _ _ v1 v2 _ _ (hd _ c1) (he _ L) F N M a1 a2
   have l1:its.toArray.size=ds.length:=by rw[dh,<-p.length,rs.length]
   have z:its'.toArray.size=m.length:=by rw[dh,<-r.length,w.length]
   rw[l1,z,JS] at h;simpa only[bS] using h
  all_goals cases he
 case lst ds=>
  cases n with
  | zero=>cases hd
  | succ n=>
  have F:A.in1.units+n<cLine:=by show A.units+1+n<cLine;lia
  simp![Rep] at l;let⟨a,xs,rfl,q,rs⟩:=l;cases o;let⟨its,p,G,Z⟩:=I.list q.sq;have k:=G.isList;cases e
  case non=>cases ny c f;show RcNeAt.list_none k i
  case bl=>cases nA c f;show RcNeAt.list_bool _ k i
  case int=>let⟨t,rfl⟩:=nz c f;show RcNeAt.list_int _ t k i
  case str=>let⟨t,rfl⟩:=nu c f;show RcNeAt.list_str _ t k i
  case tup m=>let⟨b,it,rfl,g⟩:=pR I c f;show RcNeAt.list_tuple k g i
  case lst m=>
   simp![Rep] at c;let⟨b,ys,rfl,E,w⟩:=c;cases f;let⟨its',r,C,Z⟩:=I.list E.sq;have l1:its.toArray.size=ds.length:=by rw[dh,<-p.length,rs.length]
   have z:its'.toArray.size=m.length:=by rw[dh,<-r.length,w.length]
   by_cases B:ds.length=m.length
   .have h:=RcNeAt.lists (e:=λj=>bS (ds.getD j .non) (m.getD j .non)) k C.isList (by rw[l1,z,B]) i λj J g=>by
     let⟨v1,a1,N,c1⟩:=lV p rs J;let⟨v2,a2,M,L⟩:=lV r w g;show zV I n A.in1 _ _ v1 v2 _ _ (hd _ c1) (he _ L) F N M a1 a2
    rw[l1,<-Ag ds m B] at h;simpa only[bS] using h
   have h:=RcNeAt.lists_lengths (A:=A) k C.isList (by rw[l1,z];simpa using B) i;simp![bS,Ah B];show h
  all_goals cases he
 all_goals (cases n<;>cases hd)
end
section
variable{X:Cx}
def oEq:O2:=λd e Q=>bH 9 d/\bH 9 e/\Q (.fz (.bl (bS d e)))
def Fh:O2:=λd e Q=>bH 9 d/\bH 9 e/\Q (.fz (.bl (!bS d e)))
def fF(i:X.A.units+64<cLine):hU X (compareOp .Eq) oEq:=by
 show⟨λx y H Q=>∃d e,bH 9 d/\bH 9 e/\Rep X.K H x d/\Rep X.K H y e/\Q (.bl (bS d e)) H,λj s σ H x y v u Q I f b h=>?_,λG H x y d e Q P s f b h k=>?_⟩
 .symm;let⟨d,e,hd,he,g,re,q⟩:=h;show zuP I 9 X.A d e x y v u hd he (by lia) g re f b _ _ _ _ ⟨.bl _,H,I,rfl,q⟩
 show⟨d,e,h.1,h.2.1,f.mono s,b.mono s,k _ _ _ G (.refl s) (cK (ip _ _ _)) h.2.2⟩
def Ip(i:X.A.units+64<cLine):hU X (compareOp .NotEq) Fh:=by
 show⟨λx y H Q=>∃d e,bH 9 d/\bH 9 e/\Rep X.K H x d/\Rep X.K H y e/\Q (.bl (!bS d e)) H,λj s σ H x y v u Q I f b h=>?_,λG H x y d e Q P s f b h k=>?_⟩
 .symm;let⟨d,e,hd,he,g,re,q⟩:=h;show zqn I 9 X.A d e x y v u hd he (by lia) g re f b _ _ _ _ ⟨.bl _,H,I,rfl,q⟩
 show⟨d,e,h.1,h.2.1,f.mono s,b.mono s,k _ _ _ G (.refl s) (cK (ip _ _ _)) h.2.2⟩
def inD(d:D)(ds:List D):Bool:=ds.any λe=>bS e d
def qu(a:Bool):O2:=λd e Q=>match d,e with
 | .str x,.str y=>Q (.fz (.bl (if a then !(!(Dn y x 0 y.length 1).isEmpty) else !(Dn y x 0 y.length 1).isEmpty)))
 | d,.lst b=>bH 8 d/\(∀e∈b,bH 8 e)/\Q (.fz (.bl (if a then !inD d b else inD d b)))
 | d,.tup b=>bH 8 d/\(∀e∈b,bH 8 e)/\Q (.fz (.bl (if a then !inD d b else inD d b)))
 | _,_=>False
def i5(X:Cx)(H:Hp)(d:D)(u:af):Bool:=open Classical in if h:∃(v:V)(e:D),bH 8 e/\RelV v u/\Rep X.K H v e then bS h.choose_spec.choose d else false
def Jk{i:St}(I:Inv X p i H s)(g:bH 8 e)(c:RelV v u)(f:Rep X.K H v e):i5 X H d u=bS e d:=by
 have h:∃(v:V)(e:D),bH 8 e/\RelV v u/\Rep X.K H v e:=⟨v,e,g,c,f⟩
 unfold i5;rw[dif_pos h];let⟨m,l,k⟩:=h.choose_spec.choose_spec;have n:h.choose=v:=RelV.inj l c;have j:∀b,b=v->∀a,bH 8 a->Rep X.K H b a->a=e:=λb hv a o r=>by subst hv;show Ec I 8 _ e _ o g r f
 rw[j _ n _ m k]
theorem zU{f:St}(I:Inv X g f H s):∀{a c us},(∀e∈a,bH 8 e)->Vals c us->av X.K H c a->us.any (i5 X H d)=inD d a
 | [],_,_,_,b,re=>by
  cases b
  .rfl
  simp![av] at re
 | e::a,_,_,h,b,re=>by
  cases b with
  | nil=>simp![av] at re
  | cons r t=>
   simp![av] at re;rw[oS,Jk I (h e (by show .head _)) r re.1,zU I (λx hx=>h x (by show .tail _ ‹_›)) t re.2];rfl
theorem Af{g:St}(I:Inv X p g H s)(hd:bH 8 d)(m:A.units+8<cLine)(h:Rep X.K H x d)(l:RelV x v)
  (b:∀e∈c,bH 8 e) (i:Vals a us) (k:av X.K H a c):∀u∈us.toArray,EqAt A s u v (i5 X H d u):=λu o=>by
 let⟨j,n,e⟩:=Array.mem_iff_getElem.mp o;let⟨w,a1,f,c1⟩:=lV i k n;rw[e] at a1;rw[Jk I (b _ c1) a1 f];show zV I 8 A _ _ w x _ _ (b _ c1) hd m f h a1 l
def zuQ(n:X.A.units+64<cLine):dG X (compareOp .In) (λx y H Q=>∃p d g f,y=.ref p/\(bU X.K H p f\/cN X.K H p f)/\bH 8 d/\(∀e∈g,bH 8 e)/\Rep X.K H x d/\av X.K H f g/\Q (.bl (inD d g)) H):=by
 intro o s σ H x y v u Q I i m h;symm;let⟨p,d,g,f,rfl,b,hd,he,j,re,q⟩:=h;cases m;symm;rcases b with b | b
 .symm;let⟨its,r,pl,hz⟩:=I.list b;show SeqAt.in_listAt (i5 X H d) pl.isList (Af I hd (by show X.A.units+1+8<cLine;lia) j i he r re) ⟨.bl _,H,I,rfl,?_⟩;rw[show its.toArray.any (i5 X H d)=its.any (i5 X H d) by simp,zU I he r re];show q
 symm;let⟨its,r,pl,hz⟩:=I.tuple b;show SeqAt.in_tupleAt (i5 X H d) pl (Af I hd (by show X.A.units+1+8<cLine;lia) j i he r re) ⟨.bl _,H,I,rfl,?_⟩;rw[show its.toArray.any (i5 X H d)=its.any (i5 X H d) by simp,zU I he r re];show q
def znC(n:X.A.units+64<cLine):dG X (compareOp .NotIn) (λx y H Q=>∃p d g f,y=.ref p/\(bU X.K H p f\/cN X.K H p f)/\bH 8 d/\(∀e∈g,bH 8 e)/\Rep X.K H x d/\av X.K H f g/\Q (.bl (!inD d g)) H):=by
 intro o s σ H x y v u Q I i m h;symm;let⟨p,d,g,f,rfl,b,hd,he,j,re,q⟩:=h;cases m;symm;rcases b with b | b
 .symm;let⟨its,r,pl,hz⟩:=I.list b;show SeqAt.notIn_listAt (i5 X H d) pl.isList (Af I hd (by show X.A.units+1+8<cLine;lia) j i he r re) ⟨.bl _,H,I,rfl,?_⟩;rw[show its.toArray.any (i5 X H d)=its.any (i5 X H d) by simp,zU I he r re];show q
 symm;let⟨its,r,pl,hz⟩:=I.tuple b;show SeqAt.notIn_tupleAt (i5 X H d) pl (Af I hd (by show X.A.units+1+8<cLine;lia) j i he r re) ⟨.bl _,H,I,rfl,?_⟩;rw[show its.toArray.any (i5 X H d)=its.any (i5 X H d) by simp,zU I he r re];show q
def qt(i:X.A.units+64<cLine):hU X (compareOp .In) (qu false):=by
 show⟨_,aav.or (zuQ i),λG H x y d e Q P s c b h k=>?_⟩;unfold qu at h;split at h
 .simp![Rep] at c b;show .inl ⟨_,_,c,b,k _ _ _ G (.refl s) (cK (ip _ _ _)) h⟩
 .simp![Rep] at b;let⟨a,ys,rfl,g,f⟩:=b;show .inr ⟨a,_,_,ys,rfl,.inl ((s.cF g).sq),h.1,h.2.1,c.mono s,f.mono s,k _ _ _ G (.refl s) (cK (ip _ _ _)) h.2.2⟩
 .simp![Rep] at b;let⟨a,ys,rfl,g,f⟩:=b;show .inr ⟨a,_,_,ys,rfl,.inr (s.pD g),h.1,h.2.1,c.mono s,f.mono s,k _ _ _ G (.refl s) (cK (ip _ _ _)) h.2.2⟩
 show h.elim
def Ul(i:X.A.units+64<cLine):hU X (compareOp .NotIn) (qu true):=by
 show⟨_,aau.or (znC i),λG H x y d e Q P s c b h k=>?_⟩;unfold qu at h;split at h
 .simp![Rep] at c b;show .inl ⟨_,_,c,b,k _ _ _ G (.refl s) (cK (ip _ _ _)) h⟩
 .simp![Rep] at b;let⟨a,ys,rfl,g,f⟩:=b;show .inr ⟨a,_,_,ys,rfl,.inl ((s.cF g).sq),h.1,h.2.1,c.mono s,f.mono s,k _ _ _ G (.refl s) (cK (ip _ _ _)) h.2.2⟩
 .simp![Rep] at b;let⟨a,ys,rfl,g,f⟩:=b;show .inr ⟨a,_,_,ys,rfl,.inr (s.pD g),h.1,h.2.1,c.mono s,f.mono s,k _ _ _ G (.refl s) (cK (ip _ _ _)) h.2.2⟩
 show h.elim
def qB:D->Bool
 | .non=>true
 | _=>false
def uz(a:Bool):O2:=λd e Q=>match e with
 | .non=>Q (.fz (.bl (if a then !qB d else qB d)))
 | _=>False
def UH{K:ar}(r:Rep K G x d):decide (x=.non)=qB d:=by
 cases d<;>simp only[Rep] at r
 case non=>subst r;rfl
 case bl=>subst r;rfl
 case int=>subst r;rfl
 case str=>subst r;rfl
 case tup=>let⟨z,z,rfl,z⟩:=r;rfl
 case lst=>let⟨z,z,rfl,z⟩:=r;rfl
 case obj=>let⟨z,z,z,z,rfl,z⟩:=r;rfl
 case dic=>let⟨z,z,z,rfl,z⟩:=r;rfl
 case dit=>let⟨z,z,z,rfl,z⟩:=r;rfl
 case exc=>let⟨z,z,z,z,z,rfl,z⟩:=r;rfl
 case idn=>let⟨rfl,z⟩:=r;rfl
def wV:hU X (compareOp .Is) (uz false):=by
 show⟨_,zuB,λG H x y d e Q P s b a h k=>?_⟩;unfold uz at h;split at h
 .simp![Rep] at a;show⟨a,?_⟩;rw[UH b];show k _ _ _ G (.refl s) (cK (ip _ _ _)) h
 show h.elim
def pw:hU X (compareOp .IsNot) (uz true):=by
 show⟨_,zsu,λG H x y d e Q P s b a h k=>?_⟩;unfold uz at h;split at h
 .simp![Rep] at a;show⟨a,?_⟩;rw[UH b];show k _ _ _ G (.refl s) (cK (ip _ _ _)) h
 show h.elim
end
section
variable{X:Cx}{a b c:ay}{ta tb tc:TD}{rest:List ay}
def RR(t:dF):dF:=λρ Q=>t ρ λk=>Q (!k)
def RQ(t u:dF):dF:=λρ Q=>t ρ λk=>if k=true then u ρ Q else Q false
def YR(t u:dF):dF:=λρ Q=>t ρ λk=>if k=true then Q true else u ρ Q
def Sx(h:PB X a pa):PB X (.UnaryOp .Not a pos) (RR pa):=by
 let⟨t,p,q⟩:=h;show⟨_,zuk p,λρ σ e d G H Q P E h k=>q ρ σ e d G H _ _ E h λb H' f x c=>k _ H' f x c⟩
def tS(X:Cx)(e:ay)(t:dF):Prop:=∃tt,PW X e tt/\∀ρ σ c a G H Q P,aU X.K c a ρ σ G H->t ρ Q->
 (∀b H' d,Ext G H d H'->Q b->P b H')->tt σ H P
theorem tS.pb(h:tS X e t):PB X e t:=let⟨tt,p,q⟩:=h;⟨tt,p.pt,q⟩
theorem uP(h:PB X a pa):tS X (.BoolOp .And [a] pos) pa:=let⟨tt,p,q⟩:=h;⟨tt,zsq p,q⟩
theorem Uk(h:PB X a pa):tS X (.BoolOp .Or [a] pos) pa:=let⟨tt,p,q⟩:=h;⟨tt,zui p,q⟩
def pq(h:PB X a pa)(h':tS X (.BoolOp .And (b::rest) pos) xJ):tS X (.BoolOp .And (a::b::rest) pos) (RQ pa xJ):=by
 let⟨t,p,q⟩:=h;let⟨t',j,i⟩:=h';show⟨_,zuj p j,λρ σ e d G H Q P E h k=>q ρ σ e d G H _ _ E h λb H' f x c=>?_⟩;cases b with
 | true=>show i ρ σ e d f H' Q P (E.ext x) c λm n o g l=>k m n o (x.trans g) l
 | false=>show k false H' f x c
def Sw(h:PB X a pa)(h':tS X (.BoolOp .Or (b::rest) pos) xJ):tS X (.BoolOp .Or (a::b::rest) pos) (YR pa xJ):=by
 let⟨t,p,q⟩:=h;let⟨t',j,i⟩:=h';show⟨_,zvV p j,λρ σ e d G H Q P E h k=>q ρ σ e d G H _ _ E h λb H' f x c=>?_⟩;cases b with
 | true=>show k true H' f x c
 | false=>show i ρ σ e d f H' Q P (E.ext x) c λm n o g l=>k m n o (x.trans g) l
def RP(t:TD):TD:=λρ Q=>t ρ λr=>match r with
 | .fz (.bl k)=>Q (.fz (.bl (!k)))
 | _=>False
def RO(t u:TD):TD:=λρ Q=>t ρ λr=>match r with
 | .fz (.bl k)=>if k=true then u ρ Q else Q (.fz (.bl false))
 | _=>False
def YJ(t u:TD):TD:=λρ Q=>t ρ λr=>match r with
 | .fz (.bl k)=>if k=true then Q (.fz (.bl true)) else u ρ Q
 | _=>False
def Sv(h:PD X a ta):PD X (.UnaryOp .Not a pos) (RP ta):=by
 let⟨t,p,q⟩:=h;show⟨_,zun p,λρ σ f d G H Q P E h k=>q ρ σ f d G H _ _ E h λv H' r g x c b=>?_⟩;split at b
 .rename_i kk;have e:v=.bl kk:=by simpa only[dY,Rep] using c
  show⟨kk,e,k _ H' _ g x (cK (ip _ _ _)) b⟩
 show b.elim
theorem Jj(h:PD X a ta):PD X (.BoolOp op [a] pos) ta:=let⟨t,p,q⟩:=h;⟨t,zul p,q⟩
def Su(h:PD X a ta)(h':PD X (.BoolOp .And (b::rest) pos) tb):PD X (.BoolOp .And (a::b::rest) pos) (RO ta tb):=by
 let⟨t,p,q⟩:=h;let⟨t',m,l⟩:=h';show⟨_,zum p m,λρ σ f d G H Q P E h k=>q ρ σ f d G H _ _ E h λv H' r y x i c=>?_⟩;split at c
 .rename_i kk;have e:v=.bl kk:=by simpa only[dY,Rep] using i
  show⟨kk,e,?_⟩;cases kk with
  | true=>show l ρ σ f d y H' Q P (E.ext x) c λs u j w g n o=>k s u j w (x.trans g) (n.m8 x.h) o
  | false=>grind
 show c.elim
def zwj(h:PD X a ta)(h':PD X (.BoolOp .Or (b::rest) pos) tb):PD X (.BoolOp .Or (a::b::rest) pos) (YJ ta tb):=by
 let⟨t,p,q⟩:=h;let⟨t',n,m⟩:=h';show⟨_,zvY p n,λρ σ f d G H Q P E h k=>q ρ σ f d G H _ _ E h λv H' r g x j c=>?_⟩;split at c
 .rename_i kk;have e:v=.bl kk:=by simpa only[dY,Rep] using j
  show⟨kk,e,?_⟩;cases kk with
  | true=>show k _ H' _ g x (cK (ip _ _ _)) c
  | false=>show m ρ σ f d g H' Q P (E.ext x) c λu w l y i o s=>k u w l y (x.trans i) (o.m8 x.h) s
 show c.elim
def Ni(t:dF)(ta tb:TD):TD:=λρ Q=>t ρ λk=>if k=true then ta ρ Q else tb ρ Q
def JQ(h:PB X c pa)(z:PD X a ta)(d:PD X b tb):PD X (.IfExp c a b pos) (Ni pa ta tb):=by
 symm;let⟨t,p,q⟩:=h;let⟨t1,y,v⟩:=z;let⟨A,w,u⟩:=d;show⟨_,zp0 p y w,λρ σ o m G H Q P E h k=>q ρ σ o m G H _ _ E h λb H' s x r=>?_⟩;cases b with
 | true=>show v ρ σ o m s H' Q P (E.ext x) r λi j f n e g d=>k i j f n (x.trans e) (g.m8 x.h) d
 | false=>show u ρ σ o m s H' Q P (E.ext x) r λi j f n e g d=>k i j f n (x.trans e) (g.m8 x.h) d
def Ji(o o':O2)(ta tb tc:TD):TD:=λρ Q=>ta ρ λb=>tb ρ λa=>o b.val a.val λr=>match r with
 | .fz (.bl k)=>if k=true then tc ρ λrc=>o' a.val rc.val Q else Q (.fz (.bl false))
 | _=>False
abbrev lq(K:ar)(t:TD)(b:TE):Prop:=∀ρ σ d c G H Q P,aU K d c ρ σ G H->t ρ Q->(∀v H' r a,Ext G H a H'->dY K a H' H v r->Q r->P v H')->b σ H P
def zqq{K:ar}{g g':Int->Int->Bool}(F:lq K ta t)(D:lq K tb s)(C:lq K tc r) :
  lq K (Ji (m9 λi j=>.bl (g i j)) (m9 λi j=>.bl (g' i j)) ta tb tc) (SJ (m6 λi j=>.bl (g i j)) (m6 λi j=>.bl (g' i j)) t s r):=by
 show λρ σ q o G H Q P E h k=>F ρ σ q o G H _ _ E h λv1 H1 Y G1 B U M=>?_
 symm;obtain⟨S,d,x,_⟩:=U.freeze B;show D ρ σ q o S H1 _ _ (E.ext d) M λv2 T X G2 A I b=>?_
 symm;obtain⟨y,m,n,_⟩:=I.freeze A;unfold m9 at b;split at b
 .rename_i i j R w;rw[R] at x;rw[w] at n;show⟨i,j,x,n,_,rfl,?_⟩;dsimp only at b;cases v:g i j with
  | false=>
   rw[v,if_neg i9] at b;show k _ _ _ y (d.trans m) (cK (ip _ _ _)) b
  | true=>
   rw[v,if_pos rfl] at b;show C ρ σ q o y T _ _ (E.ext (d.trans m)) b λV H3 W G3 z J e=>?_
   symm;obtain⟨p,f,u,_⟩:=J.freeze z;rw[w] at e;split at e
   .rename_i Z L O N;cases O;rw[N] at u;show⟨j,L,n,u,k _ _ _ p ((d.trans m).trans f) (cK (ip _ _ _)) e⟩
   show e.elim
 show b.elim
def zuR{K:ar}(q:lq K t f)(ρ a i g G H Q P)(E:aU K i g ρ a G H)(h:j5 t ρ Q)(k:∀b H' d,Ext G H d H'->Q b->P b H'):IJ f a H P:=by
 show q ρ a i g G H _ _ E h λv H' r d j l c=>?_
 split at c
 .rename_i kk;have e:v=.bl kk:=by simpa only[dY,Rep] using l
  show⟨kk,e,k kk H' d j c⟩
 show c.elim
def zqr{g g':Int->Int->Bool}(q:dG X (compareOp op) (m6 λi j=>.bl (g i j)))(p:dG X (compareOp d) (m6 λi j=>.bl (g' i j)))(u:PD X a ta)(t:PD X b tb)(s:PD X c tc)(r:lastMarks [op,d] [b,c]=false:=by with_unfolding_all rfl) :
  PB X (.Compare a [op,d] [b,c] pos) (j5 (Ji (m9 λi j=>.bl (g i j)) (m9 λi j=>.bl (g' i j)) ta tb tc)):=by
 symm;let⟨t1,o,h⟩:=u;let⟨v,n,f⟩:=t;let⟨t3,m,e⟩:=s;show⟨_,zp4 q p o n m r,zuR (zqq h f e)⟩
def iH:O2:=λd e Q=>match d,e with
 | .lst ds,.int i=>∃d,bE ds i\d/\Q (.fz d)
 | .tup ds,.int i=>∃d,bE ds i\d/\Q (.fz d)
 | .str z,.int i=>z.length<=sizeLine/\∃c,bE z.cps.toList i\c/\Q (.fz (.str ⟨#[c]⟩))
 | _,_=>False
def Jo{K:ar}(r:av K G xs ds)(h:bE ds i\d):∃v,bE xs i\v/\Rep K G v d:=by
 unfold bE at h ⊢;rw[r.length];cases e:iI ds.length i with
 | none=>rw[e] at h;cases h
 | some j=>
  rw[e] at h;show r.get h
def aS(z:PD X a ta)(w:PD X b tb)(t:z7 b:=by intro _ _;rfl):PD X (.Subscript a b pos) (dX iH ta tb):=by
 let⟨t1,o,m⟩:=z;let⟨A,n,l⟩:=w;show⟨_,zQ SF o n t,DY (r:=WS X.K) (λG H x y d e Q P s g f h k=>?_) m l⟩;unfold iH at h;split at h
 .let⟨p,xs,rfl,j,rs⟩:=g;let⟨d,hd,q⟩:=h;let⟨v,hv,i⟩:=Jo rs hd;show .inl ⟨p,xs,_,v,rfl,f,(s.cF j).sq,hv,k _ _ _ G (.refl s) (cK i) q⟩
 .let⟨p,xs,rfl,j,rs⟩:=g;let⟨d,hd,q⟩:=h;let⟨v,hv,i⟩:=Jo rs hd;show .inr (.inl ⟨p,xs,_,v,rfl,f,s.pD j,hv,k _ _ _ G (.refl s) (cK i) q⟩)
 .let⟨hz,c,u,q⟩:=h;show .inr (.inr ⟨_,_,c,g,f,hz,u,k _ _ _ G (.refl s) (cK (xg _ _ _)) q⟩)
 show h.elim
def Io(i:Nat)(tb:TD):TD:=λρ Q=>match gt ρ i with
 | .ow ds=>tb ρ λa=>match a.val with
  | .int j=>∃d,bE ds j\d/\Q (.fz d)
  | _=>False
 | _=>False
def w8(i)(e:PD X b tb)(hN:X.N[i]?=some x:=by rfl)(hv:rB X.env.scope x:=by first | show Or.inl rfl | show Or.inr (Or.inl rfl) | show Or.inr (Or.inr rfl))(y:z7 b:=by intro _ _;rfl)(hd:(x==("__debug__":aa))=false:=by decide)
  (w:(x==("__classdict__":aa))=false:=by decide):PD X (.Subscript (.Name x u) b pos) (Io i tb):=by
 let⟨K,t,s⟩:=e;show⟨_,zQ SF (uH hN hv hd w) t y,λρ σ J F G H Q P E h k=>?_⟩;unfold Io at h;split at h
 .rename_i ds z;let⟨p,xs,B,e,M,L,A⟩:=E.ow i ds z;show⟨_,B,s ρ σ J F G H _ _ E h λv H' r O l o c=>?_⟩;obtain⟨I,a,f,_⟩:=o.freeze l;split at c
  .rename_i j D;let⟨d,n,q⟩:=c;let⟨m,hw,C⟩:=Jo (A.mono a.g) n;rw[D] at f;show .inl ⟨p,xs,_,m,rfl,f,bU.of (a.h _ _ e),hw,k _ _ _ I a (cK C) q⟩
  show c.elim
 show h.elim
variable{e:ay}{te:TD}{ts:eZ}
def cj:eZ:=λ_ Q=>Q []
def aT(te:TD)(ts:eZ):eZ:=λρ Q=>te ρ λr=>ts ρ λds=>Q (r.val::ds)
theorem au:iP X [] cj:=⟨_,og,λρ σ b a G H Q P E h k=>k [] H [] G (.refl E.e.s) av.nil h⟩
def ai(h:PD X e te)(q:iP X es ts)(p:starEach (e::es) X.env=(false,eval e X.env)::starEach es X.env:=by rfl):iP X (e::es) (aT te ts):=by
 let⟨t1,o,m⟩:=h;let⟨z,n,l⟩:=q;show⟨_,pj o n p,λρ σ d c G H Q P E h k=>m ρ σ d c G H _ _ E h λv H' r A f j s=>?_⟩;let⟨x,b,i,Z⟩:=j.freeze f;show l ρ σ d c x H' _ _ (E.ext b) s λy u ds w a rs t=>?_
 show k _ u _ w (b.trans a) (av.cons (i.mono a.g) rs) t
def r8(ts:eZ):TD:=λρ Q=>ts ρ λds=>ds.length<=sizeLine/\Q (.fz (.tup ds))
def wU(ts:eZ):TD:=λρ Q=>ts ρ λds=>ds.length<=sizeLine/\Q (.ow ds)
def gi{e}(h:iP X es ts):PD X (.Tuple es e pos) (r8 ts):=by
 let⟨t,p,q⟩:=h;show⟨_,SH p,λρ σ j i G H Q P E h k=>q ρ σ j i G H _ _ E h λa H' ds d x rs c=>⟨by rw[rs.length];show c.1,λp f=>?_⟩⟩;have b:Ext d H' (upd d p (.tup a)) (upd H' p (.tup a)):=.new x.s f;show k _ _ (.fz (.tup ds)) _ (x.trans b) ?_ c.2;show⟨p,a,rfl,cW,rs.mono b.g⟩
def eA(h:iP X es ts):PD X (.List es pos) (wU ts):=by
 let⟨t,p,q⟩:=h;show⟨_,SG p,λρ σ e d G H Q P E h k=>q ρ σ e d G H _ _ E h λc H' ds f x rs b=>⟨by rw[rs.length];show b.1,λp a=>?_⟩⟩;show k _ _ (.ow ds) f (x.trans (.own x.s a)) ⟨p,c,rfl,x.h.free a,x.s.free a,cW,rs⟩ b.2
def j9(X:Cx)(f:af)(o:List D->(R->Prop)->Prop):Prop:=∃r,fR X f r/\∀G H a ds Q P,aZ G H->av X.K G a ds->o ds Q->
 (∀v H' b c,Ext G H c H'->dY X.K c H' H v b->Q b->P v H')->r a H P
def fW(o:List D->(R->Prop)->Prop)(ts:eZ):TD:=λρ Q=>ts ρ λds=>o ds Q
theorem R7
  (j:∀G H a ds Q P,aZ G H->av X.K G a ds->o ds Q->(∀v H' c b,Ext G H b H'->dY X.K b H' H v c->Q c->P v H')->r a H P)
  (q:∀ρ σ e d G H Q P,aU X.K e d ρ σ G H->ts ρ Q->(∀a H' ds b,Ext G H b H'->av X.K b a ds->Q ds->P a H')->t σ H P):lq X.K (fW o ts) (LQ r t):=
 λρ σ e d G H Q P E h k=>q ρ σ e d G H _ _ E h λa H' ds b x rs l=>j b H' a ds Q P x.s rs l λv m c n f g i=>k v m c n (x.trans f) (g.m8 x.h) i
def dD{b:String}(n:j9 X (.builtin b) o)(i:X.mg x=none)(hv:bootBuiltins x=some (.builtin b))(s:iP X (e::es) ts)(j:Gl X x:=by rfl)(h:x≠"__name__":=by decide)(f:(x==("__debug__":aa))=false:=by decide)
  (m:starEach (e::es) X.env=(false,eval e X.env)::starEach es X.env:=by rfl) (u:(backTo pos (starEach es X.env)).any (·.1)=false:=by rfl):PD X (.Call (.Name x p) (e::es) [] pos) (fW o ts):=by
 symm;let⟨r,g,d⟩:=n;let⟨t,pp,q⟩:=s;show⟨_,JU g j i hv pp h f m u,R7 d q⟩
def kf(m:j9 X (.type T) o)(h:X.mg x=none)(hv:bootBuiltins x=some (.type T))(n:iP X (e::es) ts)(i:Gl X x:=by rfl)(g:x≠"__name__":=by decide)(d:(x==("__debug__":aa))=false:=by decide)
  (j:starEach (e::es) X.env=(false,eval e X.env)::starEach es X.env:=by rfl) (s:(backTo pos (starEach es X.env)).any (·.1)=false:=by rfl):PD X (.Call (.Name x p) (e::es) [] pos) (fW o ts):=by
 symm;let⟨r,f,b⟩:=m;let⟨t,pp,q⟩:=n;show⟨_,Vp f i h hv pp g d j s,R7 b q⟩
end
def lP{a:St}:(a.set i x)[j]?=if i=j/\j<a.length then some x else a[j]?:=by
 by_cases h:i=j
 .subst h;by_cases b:i<a.length
  .simp[b]
  simp[b]
 simp[h]
section
variable{K:ar}{ρ:Ev}
def aU.put(E:aU K G0 H0 ρ σ G H)(x:Ext G H G' H')(N:dY K G' H' H v r):aU K G0 H0 (ρ.set i r.sl) (σ.set i (some v)) G' H':=by
 have Y:=E.ext x;have hl:=E.len;have B:∀j s,gt (ρ.set i r.sl) j=s->(i=j/\j<ρ.length/\s=r.sl)\/(¬(i=j/\j<ρ.length)/\gt ρ j=s):=λj s e=>by
  rw[mT] at e;by_cases h:i=j/\j<ρ.length
  .rw[if_pos h] at e;show .inl ⟨h.1,h.2,e.symm⟩
  rw[if_neg h] at e;show .inr ⟨h,e⟩
 show⟨Y.e,by cbv,λj d h=>?_,λj ds h=>?_,λj k ds Q Z b m=>?_,?_⟩
 .rcases B j _ h with⟨b,m,t⟩ | ⟨b,m⟩
  .cases r with
   | ow=>cases t
   | ov=>cases t
   | fz d'=>
    cases t;show⟨v,by rw[lP,if_pos ⟨b,by cbv⟩],N⟩
  let⟨u,hu,ru⟩:=Y.fz j d m;show⟨u,by rw[lP,if_neg (by rw[hl];show b)];show hu,ru⟩
 .rcases B j _ h with⟨b,m,t⟩ | ⟨b,m⟩
  .cases r with
   | fz=>cases t
   | ov=>cases t
   | ow ye=>
    cases t;let⟨p,xs,rfl,a1,a2,M,X⟩:=N;show⟨p,xs,by rw[lP,if_pos ⟨b,by cbv⟩],M,a2,E.e.h.free a1,X⟩
  let⟨p,xs,y,w,J,I,b5⟩:=Y.ow j ds m;show⟨p,xs,by rw[lP,if_neg (by rw[hl];show b)];show y,w,J,I,b5⟩
 .have old:∀{j:Nat}{ds:List D},gt ρ j=.ow ds->∀Q,r=.ow Q->σ[j]?≠some (some v):=λ{j ds} h Q e z=>by
   subst e;let⟨p,xs,rfl,a1,a2,M,X⟩:=N;let⟨S,kW,y,w,J,I,b5⟩:=E.ow j ds h;rw[y] at z;cases z;rw[a1] at w;cases w
  rcases B j _ b with⟨c1,P,F⟩ | ⟨c1,P⟩
  .rcases B k _ m with⟨C,O,W⟩ | ⟨C,O⟩
   .exact absurd (c1.symm.trans C) Z
   rw[lP,if_pos ⟨c1,by cbv⟩,lP,if_neg (by rw[hl];show C)];cases r with
   | fz=>cases F
   | ov=>cases F
   | ow U=>show λz=>old O U rfl z.symm
  rcases B k _ m with⟨C,O,W⟩ | ⟨C,O⟩
  .rw[lP,if_neg (by rw[hl];show c1),lP,if_pos ⟨C,by cbv⟩];cases r with
   | fz=>cases W
   | ov=>cases W
   | ow U=>show old P U rfl
  rw[lP,if_neg (by rw[hl];show c1),lP,if_neg (by rw[hl];show C)];show E.dj j k ds Q Z P O
 let⟨own,o1,o2⟩:=E.on;have Fs:∀j,¬(i=j/\j<ρ.length)->(σ.set i (some v))[j]?=σ[j]?:=λj h=>by rw[lP,if_neg (by rw[hl];show h)]
 have gen:∀L:List ag,(∀q∈L,H q=none)->(∀j ds p,i=j->j<ρ.length->r.sl=.ow ds->v=.ref p->p∈L)->
   (∀j o,i=j->j<ρ.length->r.sl=.ov o->∃p fp,v=.ref p/\(p::fp).Nodup/\mn K G' H' p fp o/\∀q∈p::fp,G' q=none/\q∈L)->
   ∃own:ag->Option Nat,(∀j ds p,gt (ρ.set i r.sl) j=.ow ds->(σ.set i (some v))[j]?\some (.ref p)->own p\j)/\∀j o,gt (ρ.set i r.sl) j=.ov o->∃p fp,(σ.set i (some v))[j]?\some (.ref p)/\(p::fp).Nodup/\mn K G' H' p fp o/\∀q∈p::fp,G' q=none/\H0 q=none/\own q\j:=by
  intro L T hw ho;show⟨λq=>if q∈L then some i else own q,λj ds p h A=>?_,λj o h=>?_⟩
  .rcases B j _ h with⟨b,m,t⟩ | ⟨b,m⟩
   .rw[lP,if_pos ⟨b,by cbv⟩] at A;have hv:v=.ref p:=by injection A with A;injection A
    dsimp only;rw[if_pos (hw j ds p b m t.symm hv),b]
   rw[Fs j b] at A;let⟨S,kW,y,w,l⟩:=E.ow j ds m;have aY:p∉L:=λz=>by
    rw[A] at y;cases y;rw[T p z] at w;cases w
   dsimp only;rw[if_neg aY];show o1 j ds p m A
  rcases B j _ h with⟨b,m,t⟩ | ⟨b,m⟩
  .let⟨p,fp,rfl,c1,P,F⟩:=ho j o b m t.symm;show⟨p,fp,by rw[lP,if_pos ⟨b,by cbv⟩],c1,P,λq f=>⟨(F q f).1,E.e.h.free (T q (F q f).2),?_⟩⟩;dsimp only;rw[if_pos (F q f).2,b]
  let⟨p,fp,y,w,J,I⟩:=o2 j o m;show⟨p,fp,by rw[Fs j b];show y,w,J.mono x.g λq _ u e=>x.h q u e,λq f=>⟨x.n q (I q f).1 (J.here q f),(I q f).2.1,?_⟩⟩;dsimp only;rw[if_neg (λz=>J.here q f (T q z))];show(I q f).2.2
 cases r with
 | fz d=>show gen [] (λq f=>by cases f) (λj ds p _ _ e=>by cases e) (λj o _ _ e=>by cases e)
 | ow ye=>
  let⟨p,xs,rfl,a1,a2,M,X⟩:=N;show gen [p] (λq f=>?_) (λj ds S _ _ e e2=>?_) (λj o _ _ e=>by cases e)
  .simp![fj] at f;subst f;show a1
  cases e2;room
 | ov o'=>
  let⟨p,fp,rfl,a1,a2,M⟩:=N;show gen (p::fp) (λq f=>(M q f).1) (λj ds S _ _ e=>by cases e) (λj o _ _ e=>?_);cases e;show⟨p,fp,rfl,a1,a2,λq f=>⟨(M q f).2,f⟩⟩
def fP(i:Nat)(ρ:Ev):Ev:=match gt ρ i with
 | .ow ds=>ρ.set i (.fz (.lst ds))
 | .ov o=>ρ.set i (.fz o.val)
 | _=>ρ
def uA(h:gt ρ i=s)(b:s≠.un):i<ρ.length:=by
 induction ρ generalizing i with
 | nil=>simp[gt] at h;show absurd h.symm b
 | cons a r d=>
  cases i with
  | zero=>simp
  | succ i=>simp;room
theorem cv.Mj:∀{b dss},cv K G H b dss->∀q∈b,∃zs,H q\.lst zs
 | [],[],_,q,a=>by cases a
 | p::b,ds::dss,h,q,a=>by
  rcases bM.mp a with rfl | a
  .exact⟨_,h.1.choose_spec.1⟩
  show cv.Mj h.2 q a
 | [],_::_,h,_,_=>by simp![cv] at h
 | _::_,[],h,_,_=>by simp![cv] at h
def aU.Yy(i)(E:aU K G0 H0 ρ σ G H):∃L:List ag,(∀q∈L,G q=none)/\aU K G0 H0 (fP i ρ) σ (jz G H L) H/\(((∀o,gt ρ i=.ov o->(∃kvs,o=.dc kvs)\/(∃dss,o=.ll dss)\/∃a dss,o=.li a dss)->∀q∈L,H q≠none/\∀xs,¬Rd H q (.tup xs)))/\∀o p,gt ρ i=.ov o->σ[i]?\some (.ref p)->p∈L:=by
 unfold fP;split
 .rename_i ds A;symm;let⟨p,xs,P,O,y,R,w⟩:=E.ow i ds A;have bx:i<ρ.length:=uA A ∅;have v:aZ G (upd G p (.lst xs)):=sL y;have t:∀j s,gt (ρ.set i (.fz (.lst ds))) j=s->(i=j/\s=.fz (.lst ds))\/(i≠j/\gt ρ j=s):=λj s e=>by
   rw[mT] at e;grind
  have Y:jz G H [p]=upd G p (.lst xs):=by
   funext a
   by_cases X:a=p
   .subst X;rw[cW,mV (by room)];show O
   rw[br X,oo (by simpa using X)]
  show⟨[p],λq m=>?_,?_,λ_ q m=>by
   simp![fj] at m;rw[m]
   show⟨(by rw[O];show nofun),λC e=>by rcases e with e | ⟨_,e⟩<;>(rw[O] at e;cases e)⟩,λo p z=>by rw[A] at z;cases z⟩
  .simp![fj] at m;subst m;show y
  rw[Y];show⟨⟨E.e.g.trans v,E.e.h,λb o e=>?_,λq U M=>?_⟩,by simp[E.len],λj d h=>?_,λj x h=>?_,λj k x fs V a1 a2=>?_,?_⟩
  .by_cases N:b=p
   .subst N;rw[cW] at e;rw[O];show e
   rw[br N] at e;show E.e.s b o e
  .rw[br (λz=>M (by rw[z];show R))];show E.e.n q U M
  .rcases t j _ h with⟨e,f⟩ | ⟨e,f⟩
   .subst e;cases f;show⟨_,P,by show⟨p,xs,rfl,gv.of cW,w.mono v⟩⟩
   let⟨u,T,S⟩:=E.fz j d f;show⟨u,T,S.mono v⟩
  .rcases t j _ h with⟨e,f⟩ | ⟨e,f⟩
   .cases f
   let⟨r,C,B,I,J,F,Z⟩:=E.ow j x f;have aY:r≠p:=λz=>by
    subst z;show E.dj i j ds x e A f (by rw[P,B])
   show⟨r,C,B,I,by rw[br aY];show J,F,Z.mono v⟩
  .rcases t j _ a1 with⟨_,f⟩ | ⟨e,f⟩
   .cases f
   rcases t k _ a2 with⟨_,D⟩ | ⟨e3,D⟩
   .cases D
   show E.dj j k x fs V f D
  let⟨own,o1,Q⟩:=E.on;show⟨own,λj x r h hp=>?_,λj o h=>?_⟩
  .grind
  rcases t j _ h with⟨_,f⟩ | ⟨e,f⟩
  .cases f
  let⟨r,fp,B,I,J,F⟩:=Q j o f;show⟨r,fp,B,I,J.mono v λq _ u e=>e,λq m=>⟨?_,(F q m).2⟩⟩;rw[br λz=>?_];all_goals grind
 .rename_i o A;let⟨own,o1,Q⟩:=E.on;let⟨p,fp,P,O,y,R⟩:=Q i o A;have bx:i<ρ.length:=uA A ∅;have W:∀q∈p::fp,G q=none:=λq m=>(R q m).1
  have v:aZ G (jz G H (p::fp)):=xw W;have t:∀j s,gt (ρ.set i (.fz o.val)) j=s->(i=j/\s=.fz o.val)\/(i≠j/\gt ρ j=s):=λj s e=>by
   rw[mT] at e;grind
  suffices aba:aU K G0 H0 (ρ.set i (.fz o.val)) σ (jz G H (p::fp)) H from⟨p::fp,W,aba,λhd q m=>by
   rcases hd o A with⟨kvs,rfl⟩ | ⟨dss,rfl⟩ | ⟨a,dss,rfl⟩
   .obtain⟨rfl,ks,Y,w,_⟩:=y;simp only[fj] at m;rw[m];show⟨(by rw[w];show nofun),λC e=>by rcases e with e | ⟨_,e⟩<;>(rw[w] at e;cases e)⟩
   .obtain⟨zs,w⟩:∃zs,H q\.lst zs:=by
     rcases bM.mp m with rfl | m
     .exact⟨_,y.1⟩
     show cv.Mj y.2 q m
    show⟨(by rw[w];show nofun),λC e=>by rcases e with e | ⟨_,e⟩<;>(rw[w] at e;cases e)⟩
   .obtain⟨zs,w⟩:∃zs,H q\.lst zs:=by
     rcases bM.mp m with rfl | m
     .exact⟨_,y.2.1⟩
     show cv.Mj y.2.2 q m
    show⟨(by rw[w];show nofun),λC e=>by rcases e with e | ⟨_,e⟩<;>(rw[w] at e;cases e)⟩,λo' r _ e=>by rw[P] at e;cases e;room⟩
  show⟨⟨E.e.g.trans v,E.e.h,λb u e=>?_,λq U M=>?_⟩,by simp[E.len],λj d h=>?_,λj x h=>?_,λj k x fs V a1 a2=>?_,own,λj x r h hp=>?_,λj o' h=>?_⟩
  .by_cases N:b∈p::fp
   .rw[mV N] at e;show e
   rw[oo N] at e;show E.e.s b u e
  .rw[oo (λz=>M (R q z).2.1)];show E.e.n q U M
  .rcases t j _ h with⟨e,f⟩ | ⟨e,f⟩
   .subst e;cases f;show⟨_,P,y.freeze W⟩
   let⟨u,T,S⟩:=E.fz j d f;show⟨u,T,S.mono v⟩
  .rcases t j _ h with⟨e,f⟩ | ⟨e,f⟩
   .cases f
   let⟨r,C,B,I,J,F,Z⟩:=E.ow j x f;show⟨r,C,B,I,?_,F,Z.mono v⟩;rw[oo λz=>?_];all_goals grind
  .rcases t j _ a1 with⟨_,f⟩ | ⟨e,f⟩
   .cases f
   rcases t k _ a2 with⟨_,D⟩ | ⟨e3,D⟩
   .cases D
   show E.dj j k x fs V f D
  .grind
  rcases t j _ h with⟨_,f⟩ | ⟨e,f⟩
  .cases f
  let⟨r,c7,B,I,J,F⟩:=Q j o' f;show⟨r,c7,B,I,J.mono v λq _ u e=>e,λq m=>⟨?_,(F q m).2⟩⟩;rw[oo λz=>?_];all_goals grind
 rename_i no1 no2;have Y:jz G H []=G:=by funext a;show oo ∅
 grind
theorem aU.FW(i)(E:aU K G0 H0 ρ σ G H):∃L:List ag,(∀q∈L,G q=none)/\aU K G0 H0 (fP i ρ) σ (jz G H L) H/\((∀o,gt ρ i=.ov o->(∃kvs,o=.dc kvs)\/(∃dss,o=.ll dss)\/∃a dss,o=.li a dss)->∀q∈L,H q≠none/\∀xs,¬Rd H q (.tup xs)):=
 let⟨L,a,b,c,_⟩:=E.Yy i
 ⟨L,a,b,c⟩
theorem aU.freeze(i)(E:aU K G0 H0 ρ σ G H):∃G',aU K G0 H0 (fP i ρ) σ G' H/\aZ G G':=
 let⟨L,a,b,_⟩:=E.FW i
 ⟨_,b,xw a⟩
def aU.change(E:aU K G0 H0 ρ σ G H)(w:gt ρ i=.ow ds)(F:σ[i]?\some (.ref p))(R:av K G B y) :
  aU K G0 H0 (ρ.set i (.ow y)) σ G (upd H p (.lst B)):=by
 symm;let⟨m,P,O,b2,N,M,Z⟩:=E.ow i ds w;rw[F] at O;cases O;have Y:i<ρ.length:=uA w ∅;have r:∀j s,gt (ρ.set i (.ow y)) j=s->(i=j/\s=.ow y)\/(i≠j/\gt ρ j=s):=λj s e=>by
  rw[mT] at e;grind
 have S:aZ G (upd H p (.lst B)):=λb o e=>by rw[br (fT e N)];show E.e.s b o e
 show⟨⟨E.e.g,λb o e=>by rw[br (fT e M)];show E.e.h b o e,S,E.e.n⟩,by simp[E.len],λj d h=>?_,λj t h=>?_,λj k t fs A a1 a2=>?_,?_⟩
 .rcases r j _ h with⟨_,f⟩ | ⟨e,f⟩
  .cases f
  show E.fz j d f
 .rcases r j _ h with⟨e,f⟩ | ⟨e,f⟩
  .subst e;cases f;show⟨p,B,F,cW,N,M,R⟩
  let⟨m,C,c1,L,J,I,T⟩:=E.ow j t f;have U:m≠p:=λz=>by
   subst z;show E.dj i j ds t e w f (by rw[F,c1])
  show⟨m,C,c1,by rw[br U];show L,J,I,T⟩
 .rcases r j _ a1 with⟨e,f⟩ | ⟨e,f⟩
  .subst e;rcases r k _ a2 with⟨v,x⟩ | ⟨v,x⟩
   .exact absurd v A
   show E.dj i k ds fs A w x
  rcases r k _ a2 with⟨v,x⟩ | ⟨v,x⟩
  .subst v;show E.dj j i t ds A f w
  show E.dj j k t fs A f x
 let⟨own,o1,Q⟩:=E.on;show⟨own,λj t m h X=>?_,λj o h=>?_⟩
 .grind
 rcases r j _ h with⟨_,f⟩ | ⟨e,f⟩
 .cases f
 let⟨m,fp,c1,L,J,I⟩:=Q j o f;show⟨m,fp,c1,L,J.mono (aZ.refl _) λq W u v=>?_,I⟩;rw[br λz=>?_];all_goals grind
def aU.tO(E:aU K G0 H0 ρ σ G H)(O:gt ρ i=.ov o)(P:σ[i]?\some (.ref p))
  (W:∀fp,(p::fp).Nodup->mn K G H p fp o->∃t,(p::t).Nodup/\mn K G H' p t o'/\(∀q∈p::t,q∈p::fp\/H q=none)/\∀b,b∉p::fp->H b≠none->H' b=H b) :
  aU K G0 H0 (ρ.set i (.ov o')) σ G H':=by
 symm;let⟨own,o1,M⟩:=E.on;let⟨L,fp,T,b2,b3,x⟩:=M i o O;rw[P] at T;cases T;let⟨t,c1,Z,S,R⟩:=W fp b2 b3;have bx:i<ρ.length:=uA O ∅;have r:∀j s,gt (ρ.set i (.ov o')) j=s->(i=j/\s=.ov o')\/(i≠j/\gt ρ j=s):=λj s e=>by
  rw[mT] at e;grind
 have N:∀(F:Hp),(∀q∈p::fp,F q=none)->aZ F H->aZ F H':=λF Y s b u e=>by
  have X:b∉p::fp:=λz=>by rw[Y b z] at e;cases e
  rw[R b X (by rw[s b u e];show nofun)];show s b u e
 show⟨⟨E.e.g,N H0 (λq m=>(x q m).2.1) E.e.h,N G (λq m=>(x q m).1) E.e.s,E.e.n⟩,by simp[E.len],λj d h=>?_,λj v h=>?_,λj k v fs V a1 a2=>?_,λq=>if q∈p::t then some i else own q,λj v L h hp=>?_,λj A h=>?_⟩
 .rcases r j _ h with⟨_,f⟩ | ⟨e,f⟩
  .cases f
  show E.fz j d f
 .rcases r j _ h with⟨_,f⟩ | ⟨e,f⟩
  .cases f
  let⟨L,xs,J,I,D,w,d5⟩:=E.ow j v f;grind
 .rcases r j _ a1 with⟨_,f⟩ | ⟨e,f⟩
  .cases f
  rcases r k _ a2 with⟨_,B⟩ | ⟨C,B⟩
  .cases B
  show E.dj j k v fs V f B
 .rcases r j _ h with⟨_,f⟩ | ⟨e,f⟩
  .cases f
  let⟨y,xs,J,I,l⟩:=E.ow j v f;grind
 rcases r j _ h with⟨e,f⟩ | ⟨e,f⟩
 .subst e;cases f;show⟨p,t,P,c1,Z,λq m=>?_⟩;dsimp only;rw[if_pos m];rcases S q m with z | z
  .exact⟨(x q z).1,(x q z).2.1,rfl⟩
  show⟨E.e.s.free z,E.e.h.free z,rfl⟩
 let⟨y,U,J,I,D,w⟩:=M j A f;have Q:∀q∈y::U,q∉p::fp:=λq m z=>by
  grind
 show⟨y,U,J,I,D.mono (aZ.refl _) λq m u C=>?_,λq m=>⟨(w q m).1,(w q m).2.1,?_⟩⟩
 .rw[R q (Q q m) (by rw[C];show nofun)];show C
 dsimp only;rw[if_neg λz=>?_]
 .exact(w q m).2.2
 rcases S q z with z | z
 .exact Q q m z
 show D.here q m z
def aU.weak(E:aU K G0 H0 ρ σ G H)(b:ρ'.length=ρ.length)(w:∀i,gt ρ' i=.un\/gt ρ' i=gt ρ i):aU K G0 H0 ρ' σ G H:=by
 have g:∀i s,gt ρ' i=s->s≠.un->gt ρ i=s:=λi s e n=>by
  grind
 show⟨E.e,by rw[b];show E.len,λi d h=>E.fz i d (g i _ h ∅),λi d h=>E.ow i d (g i _ h ∅),λi j ds k l f c=>E.dj i j ds k l (g i _ f ∅) (g j _ c ∅),let⟨own,o1,a⟩:=E.on;⟨own,λi ds p h=>o1 i ds p (g i _ h ∅),λi o h=>a i o (g i _ h ∅)⟩⟩
end
section
variable{X:Cx}{e:ay}{te:TD}
def f9(t u:TX):TX:=λD ρ=>t { D with nx:=u D } ρ
def o6:TX:=λD ρ=>D.nx ρ
theorem cT:hJ X [] o6:=⟨_,Ut,λρ σ b a G H D E k h g=>g.nx ρ σ G H (aZ.refl _) k h⟩
def az{st:bY}(n:PX X st t)(m:hJ X a u):hJ X (st::a) (f9 t u):=by
 let⟨t1,j,f⟩:=n;let⟨q,i,e⟩:=m;show⟨_,JV j i,λρ σ c b G H D E k h g=>f ρ σ c b G H _ _ k h ⟨λρ' o p H' d l h'=>e ρ' o c b p H' D E l h' (g.shift d),g.rt,g.bk,g.ct⟩⟩
def aI{st:bY}(c:PX X st t):hJ X [st] t:=by
 let⟨t1,b,a⟩:=c;show⟨_,Jp b,a⟩
def zsP(i)(h:hJ X a t):hJ X a (λD ρ=>t D (fP i ρ)):=by
 let⟨t1,d,c⟩:=h;show⟨_,d,λρ σ j f G H D E k h g=>?_⟩;let⟨l,e,b⟩:=k.freeze i;show c _ σ j f l H D E e h (g.shift b)
def o4(te:TD):TX:=λD ρ=>te ρ D.rt
def cf(h:PD X e te):PX X (.Return (some e) pos) (o4 te):=by
 let⟨t,p,q⟩:=h;show⟨_,Jm p,λρ σ d c G H D E k h g=>q ρ σ d c G H _ _ k h λv H' r f x a b=>g.rt v H' r f (k.e.trans x) (a.m8 k.e.h) b⟩
def qA(i:Nat):TX:=λD ρ=>match gt ρ i with
 | .ow ds=>D.rt (.ow ds)
 | _=>False
def om(i)(hN:Nm X i x:=by walk_at"nm"):PX X (.Return (some (.Name x b)) pos) (qA i):=by
 show⟨_,Jm (jH hN),λρ σ r q G H D E k h g=>?_⟩;unfold qA at h;split at h
 .rename_i ds d;let⟨p,xs,o,n,m,j,f⟩:=k.ow i ds d;show⟨_,o,g.rt _ H (.ow ds) G k.e ⟨p,xs,rfl,j,m,n,f⟩ h⟩
 show h.elim
def pA(c:dF)(t u:TX):TX:=λD ρ=>c ρ λb=>if b=true then t D ρ else u D ρ
def cU(r:PB X c tc)(v:hJ X a t)(s:hJ X b u):PX X (.If c a b pos) (pA tc t u):=by
 symm;let⟨t0,q,n⟩:=r;let⟨t1,p,m⟩:=v;let⟨w,o,j⟩:=s;show⟨_,R4 q p o,λρ σ e d G H D E k h g=>n ρ σ e d G H _ _ k h λb H' i x f=>?_⟩;cases b with
 | true=>show m ρ σ e d i H' D E (k.ext x) f (g.shift x.g)
 | false=>show j ρ σ e d i H' D E (k.ext x) f (g.shift x.g)
def uy(i:Nat)(te:TD):TX:=λD ρ=>te ρ λr=>D.nx (ρ.set i r.sl)
def gT(i)(j:PD X e te)(hN:X.N.Nodup:=by assumption)(hi:X.N[i]?\x:=by rfl)(hx:Loc X.env.scope x:=by first | show Or.inl rfl | show Or.inr rfl)(c:swapsWith e (some (.Name x a)) pos.line X.env=pure false:=by rfl)(f:X.fn x=true\/X.env.scope.names.lookup x\.local:=by first | show .inl rfl | show .inr rfl | assumption) :
  PX X (.Assign [.Name x a] e pos) (uy i te):=by
 let⟨t,p,q⟩:=j;show⟨_,SM hN hi hx p c f,λρ σ m l G H D E k h g=>q ρ σ m l G H _ _ k h λv H' r n x b d=>g.nx _ _ n H' x.g (k.put x b) d⟩
def j8(i:Nat)(te:TD):TX:=λD ρ=>te ρ λr=>D.nx (ρ.set i (.fz r.val))
def bD(i)(m:PD X e te)(hN:X.N.Nodup:=by assumption)(hi:X.N[i]?\x:=by rfl)(hx:Loc X.env.scope x:=by first | show Or.inl rfl | show Or.inr rfl)(f:swapsWith e (some (.Name x a)) pos.line X.env=pure false:=by rfl)(l:X.fn x=true\/X.env.scope.names.lookup x\.local:=by first | show .inl rfl | show .inr rfl | assumption) :
  PX X (.Assign [.Name x a] e pos) (j8 i te):=by
 let⟨t,p,q⟩:=m;show⟨_,SM hN hi hx p f l,λρ σ s n G H D E k h g=>q ρ σ s n G H _ _ k h λv H' r u x d j=>?_⟩;let⟨o,b,c,z⟩:=d.freeze x;show g.nx _ _ o H' b.g (k.put b (r:=.fz r.val) c) j
def wR(i:Nat)(te:TD):TX:=λD ρ=>match gt ρ i with
 | .ow ds=>te ρ λr=>ds.length<sizeLine/\D.nx (ρ.set i (.ow (ds++[r.val])))
 | _=>False
def jE(i)(C:PD X e te)(hN:Nm X i x:=by walk_at"nm")(I:starEach [e] X.env=(false,eval e X.env)::starEach [] X.env:=by rfl)
  (F:∀{m t},PE X (.Name x n) m->PA X [e] t->PE X (.Call (.Attribute (.Name x n) "append" o) [e] [] b) (uZ X.K "list" uL m t):=by intro m t j f;show uB rW zk zj xx j f) :
  PX X (.Expr (.Call (.Attribute (.Name x n) "append" o) [e] [] b) pos) (wR i te):=by
 let⟨t,p,q⟩:=C;show⟨_,uM (F (jH hN) (pj p og I)),λρ σ M J G H D E k h g=>?_⟩;unfold wR at h;split at h
 .rename_i ds u;let⟨a,xs,j,f,O,N,w⟩:=k.ow i ds u;show⟨_,j,.inl ⟨rfl,xs,bU.of f⟩,?_⟩;show q ρ σ M J G H _ _ k h λv H' r P y A s=>?_
  obtain⟨L,d,z,_⟩:=A.freeze y;have B:=k.ext d;show⟨a,xs,v,rfl,rfl,d.h _ _ f,by rw[w.length];show s.1,?_⟩;show g.nx _ _ L _ d.g (B.change u j ((w.mono d.g).append (av.cons z av.nil))) s.2
 show h.elim
end
section
variable{X:Cx}{tg:ay}
abbrev du:=D->Ev->(Ev->Prop)->Prop
abbrev lM:=List D->Ev->(Ev->Prop)->Prop
def nE(X:Cx)(tg:ay)(g:du):Prop:=∃a,PG X tg a/\∀ρ σ e c G H d v Q P,aU X.K e c ρ σ G H->Rep X.K G v d->g d ρ Q->
 (∀ρ' b f H',aU X.K e c ρ' b f H'->Ext G H f H'->Q ρ'->P b H')->a v σ H P
def zD(X:Cx)(a:List ay)(g:lM):Prop:=∃c,yh X a c/\∀ρ σ f e G H ds b Q P,aU X.K f e ρ σ G H->av X.K G b ds->g ds ρ Q->
 (∀ρ' d h H',aU X.K f e ρ' d h H'->Ext G H h H'->Q ρ'->P d H')->c b σ H P
def gR(i:Nat):du:=λd ρ Q=>Q (ρ.set i (.fz d))
theorem aP(i)(hN:X.N.Nodup:=by assumption)(hi:X.N[i]?\x:=by rfl)(hx:Loc X.env.scope x:=by first | show Or.inl rfl | show Or.inr rfl)(a:X.fn x=true\/X.env.scope.names.lookup x\.local:=by first | show .inl rfl | show .inr rfl | assumption):nE X (.Name x pos) (gR i):=
 ⟨_,Us hN hi hx a,λρ σ c b G H d v Q P E r h k=>k _ _ G H (E.put (.refl E.e.s) (r:=.fz d) r) (.refl E.e.s) h⟩
def mN:lM:=λds ρ Q=>match ds with
 | []=>Q ρ
 | _=>False
def iW(t:du)(u:lM):lM:=λds ρ Q=>match ds with
 | d::r=>t d ρ λρ'=>u r ρ' Q
 | []=>False
def gJ:zD X [] mN:=by
 show⟨_,zsr,λρ σ c b G H ds a Q P E r h k=>?_⟩;unfold mN at h;split at h
 .cases a with
  | nil=>show⟨rfl,k _ _ G H E (.refl E.e.s) h⟩
  | cons=>simp![av] at r
 show h.elim
def cz(s:nE X e t)(q:zD X b u)(n:(assignEach (e::b) X.env).map (·.2)=assign e X.env::(assignEach b X.env).map (·.2):=by rfl):zD X (e::b) (iW t u):=by
 let⟨t1,m,j⟩:=s;let⟨I,l,i⟩:=q;show⟨_,zp2 m l n,λρ σ d c G H ds a Q P E r h k=>?_⟩;unfold iW at h;split at h
 .cases a with
  | nil=>simp![av] at r
  | cons v a=>
   show⟨v,a,rfl,j ρ σ d c G H _ v _ _ E r.1 h λρ' z C H' F x o=>?_⟩;show i ρ' z d c C H' _ a Q P F (r.2.mono x.g) o λy p B A D f w=>k y p B A D (x.trans f) w
 show h.elim
def qr(n:Nat)(t:lM):du:=λd ρ Q=>match d with
 | .tup ds=>ds.length=n/\t ds ρ Q
 | _=>False
def gZ(j:X.calm=true)(h:zD X b t)(i:(assignEach b X.env).length=n:=by rfl)(l:(assignEach b X.env).findIdx? (·.1)=none:=by rfl):nE X (.Tuple b k pos) (qr n t):=by
 let⟨t1,f,c⟩:=h;show⟨_,zuq j f i l,λρ σ o m G H d v Q P E r h k=>?_⟩;unfold qr at h;split at h
 .let⟨a,xs,rfl,g,rs⟩:=r;show⟨a,xs,rfl,E.e.s.pD g,by rw[rs.length];show h.1,c ρ σ o m G H _ xs Q P E rs h.2 k⟩
 show h.elim
def RN(te:TD)(g:du):TX:=λD ρ=>te ρ λr=>g r.val ρ D.nx
def Jh(w:PD X e te)(u:nE X tg g)(o:swapsWithSole [tg] e pos.line X.env=pure false:=by rfl)(hw:swappedStores [tg] e X.env=pure none:=by rfl)(y:(assignEach [tg] X.env).map (·.2)=[assign tg X.env]:=by rfl):PX X (.Assign [tg] e pos) (RN te g):=by
 let⟨t,p,q⟩:=w;let⟨C,m,l⟩:=u;show⟨_,SN p m o hw y,λρ σ c b G H D E k h g=>q ρ σ c b G H _ _ k h λv H' r d x j s=>?_⟩;let⟨A,a,i,Z⟩:=j.freeze x;show l ρ σ c b A H' _ v _ _ (k.ext a) i s λρ' z d H' B f n=>g.nx ρ' z d H' (a.g.trans f.g) B n
def Walk(K:ar)(J:It)(G:Hp)(ds:List D):Prop:=
 (∀i d a H',ds[i]?\d->aZ G a->aZ a H'->J.go i H'/\∀v b,J.EO i H' v b->∃c,Ext a H' c b/\Rep K c v d)/\∀a H',aZ G a->aZ a H'->J.stop ds.length H'
abbrev fI:=Ev->(List D->Prop)->Prop
def PId(X:Cx)(tg a:ay)(c:fI):Prop:=∃ww,PI X tg a ww/\∀ρ σ e d G H Q P,aU X.K e d ρ σ G H->c ρ Q->
 (∀J H' ds b,Ext G H b H'->Walk X.K J b ds->Q ds->P J H')->ww σ H P
def w6(d:D)(Q:List D->Prop):Prop:=match d with
 | .lst ds=>Q ds
 | .tup ds=>Q ds
 | .str z=>Q (z.cps.toList.map λc=>.str ⟨#[c]⟩)
 | _=>False
def lL(te:TD):fI:=λρ Q=>te ρ λr=>w6 r.val Q
def Vm{K:ar}(h:gv K G a xs)(r:av K G xs ds):Walk K (Oo K a) G ds:=by
 show⟨λi d c H' hd s1 s2=>?_,λc H' s1 s2=>⟨xs,(s2.cF (s1.cF h)).sq,by rw[r.length];show bB _⟩⟩;let⟨v,hv,f⟩:=r.get hd;have b:bU K H' a xs:=(s2.cF (s1.cF h)).sq;show⟨⟨xs,v,b,hv⟩,λu j g=>?_⟩;let⟨e,y⟩:=g;subst e;have:=y xs b;rw[hv] at this;cases this;show⟨c,.refl s2,f.mono s1⟩
def zqt{K:ar}(h:cN K G a xs)(r:av K G xs ds):Walk K (Om K a) G ds:=by
 show⟨λi d c H' hd s1 s2=>?_,λc H' s1 s2=>⟨xs,s2.xH (s1.xH h),by rw[r.length];show bB _⟩⟩;let⟨v,hv,f⟩:=r.get hd;have b:cN K H' a xs:=s2.xH (s1.xH h);show⟨⟨xs,v,b,hv⟩,λu j g=>?_⟩;let⟨e,y⟩:=g;subst e;have:=y xs b;rw[hv] at this;cases this;show⟨c,.refl s2,f.mono s1⟩
def zqu{K:ar}(z):Walk K (F9 z) G (z.cps.toList.map λc=>.str ⟨#[c]⟩):=by
 show⟨λi d f H' hd s1 s2=>?_,λf H' s1 s2=>?_⟩
 .rw[cx] at hd;cases e:z.cps.toList[i]? with
  | none=>rw[e] at hd;cases hd
  | some c=>
   rw[e] at hd;cases hd;have b:z.cps[i]?\c:=by simpa using e
   show⟨(Array.getElem?_eq_some_iff.mp b).1,λv k g=>?_⟩;let⟨h,j,a,rfl⟩:=g;subst h;rw[b] at a;cases a;show⟨f,.refl s2,xg _ _ _⟩
 show _=_;show aL ..
def V6{K:ar}(lo n):Walk K (Cj lo n) G ((aV n).map λ(i:Nat)=>.int (lo+i)):=by
 show⟨λi d a H' hd s1 s2=>?_,λa H' s1 s2=>?_⟩
 .rw[cx] at hd;cases e:(aV n)[i]? with
  | none=>rw[e] at hd;cases hd
  | some c=>
   rw[e] at hd;cases hd;let⟨j,h⟩:=cH.mp e;have g:i<n:=by simpa using j
   have f:c=i:=by rw[<-h];simp
   subst f;show⟨g,λv l b=>?_⟩;let⟨k,rfl⟩:=b;subst k;show⟨a,.refl s2,fm _ _ _⟩
 show n<=_;simp
def jC(ds:List D):List D:=ds.mapIdx λi d=>.tup [.int (i:Nat),d]
def UG{K:ar}(a:G t\.tup [x,y])(c:Rep K G x d)(b:Rep K G y e):Rep K G (.ref t) (.tup [d,e]):=by
 show⟨t,[x,y],rfl,a,av.cons c (av.cons b av.nil)⟩
def znI{K:ar}(h:gv K G a xs)(r:av K G xs ds):Walk K (Oq K a) G (jC ds):=by
 show⟨λi d b H' hd s1 s2=>?_,λb H' s1 s2=>⟨xs,(s2.cF (s1.cF h)).sq,by rw[r.length];simp[jC]⟩⟩;unfold jC at hd;rw[HP] at hd;cases e:ds[i]? with
 | none=>rw[e] at hd;cases hd
 | some d'=>
  rw[e] at hd;cases hd;symm;let⟨v,hv,m⟩:=r.get e;have j:bU K H' a xs:=(s2.cF (s1.cF h)).sq;show⟨⟨xs,v,j,hv⟩,λu p n=>?_⟩;let⟨t,rfl,o,y⟩:=n;let⟨x,hx,rfl⟩:=y xs j;rw[hv] at hx;cases hx;have f:Ext b H' (upd b t (.tup [.int i,v])) (upd H' t (.tup [.int i,v])):=.new s2 o;show⟨_,f,UG cW (fm _ _ _) ((m.mono s1).mono f.g)⟩
def rZ(ds a:List D):List D:=List.zipWith (λd e=>.tup [d,e]) ds a
def zqv{K:ar}(h:gv K G a xs)(r:av K G xs ds)(h':gv K G b ys)(p:av K G ys m):Walk K (Ol K a b) G (rZ ds m):=by
 show⟨λi d o H' hd s1 s2=>?_,λo H' s1 s2=>⟨xs,ys,(s2.cF (s1.cF h)).sq,(s2.cF (s1.cF h')).sq,?_⟩⟩
 .unfold rZ at hd;rw[List.getElem?_zipWith] at hd;cases e:ds[i]? with
  | none=>rw[e] at hd;cases hd
  | some d'=>
   cases n:m[i]? with
   | none=>rw[e,n] at hd;cases hd
   | some H=>
    rw[e,n] at hd;cases hd;symm;let⟨v,hv,A⟩:=r.get e;let⟨j,q,E⟩:=p.get n;have w:bU K H' a xs:=(s2.cF (s1.cF h)).sq;have s:bU K H' b ys:=(s2.cF (s1.cF h')).sq;show⟨⟨xs,ys,v,j,w,s,hv,q⟩,λu I B=>?_⟩;symm;let⟨t,rfl,C,y⟩:=B;let⟨x,F,hx,z,rfl⟩:=y xs ys w s;rw[hv] at hx;rw[q] at z;cases hx;cases z;have f:Ext o H' (upd o t (.tup [v,j])) (upd H' t (.tup [v,j])):=.new s2 C;show⟨_,f,UG cW ((A.mono s1).mono f.g) ((E.mono s1).mono f.g)⟩
 rw[r.length,p.length];unfold rZ;rw[List.length_zipWith];lia
def c6(h:PD X l te):PId X tg l (lL te):=by
 symm;let⟨t,p,q⟩:=h;show⟨_,Sz p,λρ σ o n G H Q P E h k=>q ρ σ o n G H _ _ E h λv H' r u x m d=>?_⟩;symm;obtain⟨j,f,b,_⟩:=m.freeze x;unfold w6 at d;split at d
 .rename_i ds e;rw[e] at b;symm;let⟨a,xs,rfl,g,i⟩:=b;show .inl ⟨a,rfl,⟨xs,(f.s.cF g).sq⟩,k _ H' _ j f (Vm g i) d⟩
 .rename_i ds e;rw[e] at b;symm;let⟨a,xs,rfl,g,i⟩:=b;show .inr (.inl ⟨a,rfl,⟨xs,f.s.pD g⟩,k _ H' _ j f (zqt (cN.of g) i) d⟩)
 .rename_i z e;rw[e] at b;show .inr (.inr ⟨z,b,k _ H' _ j f (zqu z) d⟩)
 show d.elim
def IS(ts:eZ):fI:=λρ Q=>ts ρ λds=>match ds with
 | [.int j]=>-(2 ^ 62)<=j/\j<2 ^ 62/\Q ((aV j.toNat).map λ(i:Nat)=>.int (0+i))
 | _=>False
def gQ{K:ar}(h:av K G a [d]):∃v,a=[v]/\Rep K G v d:=by
 match a,h with
 | [],h=>simp![av] at h
 | [v],h=>show⟨v,rfl,h.1⟩
 | v::w::r,h=>simp![av] at h;show absurd h.2 ∅
def DK{K:ar}(h:av K G a [d,e]):∃v w,a=[v,w]/\Rep K G v d/\Rep K G w e:=by
 match a,h with
 | [],h=>simp![av] at h
 | v::r,h=>
  let⟨w,rfl,hw⟩:=gQ h.2;show⟨v,w,rfl,h.1,hw⟩
def jg(e:X.mg "range"=none)(g:iP X [a] ts)(f:Gl X "range":=by rfl)(d:starEach [a] X.env=[(false,eval a X.env)]:=by rfl):PId X tg (.Call (.Name "range" p) [a] [] pos) (IS ts):=by
 let⟨t,pp,q⟩:=g;show⟨_,znc f e pp d,λρ σ j i G H Q P E h k=>q ρ σ j i G H _ _ E h λm H' ds l x rs b=>?_⟩;split at b
 .let⟨v,rfl,c⟩:=gQ rs;subst c;show⟨_,rfl,b.1,b.2.1,k _ H' _ l x (V6 0 _) b.2.2⟩
 show b.elim
def IQ(ts:eZ):fI:=λρ Q=>ts ρ λds=>match ds with
 | [.int i,.int j]=>(-(2 ^ 62)<=i/\i<2 ^ 62/\-(2 ^ 62)<=j/\j<2 ^ 62)/\Q ((aV (j-i).toNat).map λ(n:Nat)=>.int (i+n))
 | _=>False
def V5(g:X.mg "range"=none)(j:iP X [a,b] ts)(i:Gl X "range":=by rfl)(f:starEach [a,b] X.env=[(false,eval a X.env),(false,eval b X.env)]:=by rfl)(e:starEach [b] X.env=[(false,eval b X.env)]:=by rfl):PId X tg (.Call (.Name "range" p) [a,b] [] pos) (IQ ts):=by
 let⟨t,pp,q⟩:=j;show⟨_,znd i g pp f e,λρ σ n m G H Q P E h k=>q ρ σ n m G H _ _ E h λs H' ds o x rs c=>?_⟩;split at c
 .let⟨v,r,rfl,d,l⟩:=DK rs;subst d l;show⟨_,_,rfl,c.1,k _ H' _ o x (V6 _ _) c.2⟩
 show c.elim
def R6(ts:eZ):fI:=λρ Q=>ts ρ λds=>match ds with
 | [.lst a]=>Q (jC a)
 | _=>False
def sJ(i:X.mg "enumerate"=none)(l:iP X [a] ts)(j:Gl X "enumerate":=by rfl)(g:starEach [a] X.env=[(false,eval a X.env)]:=by rfl):PId X (.Tuple b e tp) (.Call (.Name "enumerate" p) [a] [] pos) (R6 ts):=by
 let⟨t,pp,q⟩:=l;show⟨_,zsM j i pp g,λρ σ o n G H Q P E h k=>q ρ σ o n G H _ _ E h λu H' ds r x rs c=>?_⟩;split at c
 .let⟨v,rfl,f⟩:=gQ rs;let⟨a,xs,rfl,d,m⟩:=f;show⟨a,xs,rfl,x.s.cF d,k _ H' _ r x (znI d m) c⟩
 show c.elim
def zC(ts:eZ):fI:=λρ Q=>ts ρ λds=>match ds with
 | [.lst a,.lst fs]=>Q (rZ a fs)
 | _=>False
def Uj(o:X.mg "zip"=none)(u:iP X [a,b] ts)(r:Gl X "zip":=by rfl)(n:starEach [a,b] X.env=[(false,eval a X.env),(false,eval b X.env)]:=by rfl)(m:starEach [b] X.env=[(false,eval b X.env)]:=by rfl) :
  PId X (.Tuple d i tp) (.Call (.Name "zip" p) [a,b] [] pos) (zC ts):=by
 symm;let⟨t,pp,q⟩:=u;show⟨_,zuM r o pp n m,λρ σ B A G H Q P E h k=>q ρ σ B A G H _ _ E h λF H' ds C x rs e=>?_⟩;split at e
 .symm;let⟨v,D,rfl,j,z⟩:=DK rs;let⟨a,xs,rfl,g,y⟩:=j;let⟨b,ys,rfl,f,w⟩:=z;show⟨a,b,rfl,⟨xs,(x.s.cF g).sq⟩,⟨ys,(x.s.cF f).sq⟩,k _ H' _ C x (zqv g y f w) e⟩
 show e.elim
def nX(b:fI)(g:du)(c:TX):TX:=λD ρ=>b ρ λds=>∃a:Nat->Ev->Prop,a 0 ρ/\
 (∀i d ρ',ds[i]?\d->a i ρ'->g d ρ' λe=>c { D with nx:=a (i+1),ct:=a (i+1),bk:=D.nx } e)/\∀ρ',a ds.length ρ'->D.nx ρ'
def eN{R:fI}(hp:PassesOwn (model X.prog X.w) X.A X.env X.xe)(hc:X.calm=true)(hi:PId X tg b R)(hg:nE X tg g)(hb:hJ X body S)
  (hs:∀x,foldedSetIterable b X.env x=pure x:=by intro _;rfl):PX X (.For tg b body [] pos) (nX R g S):=by
 symm;let⟨t1,p1,q1⟩:=hi;let⟨t2,p2,q2⟩:=hg;let⟨t3,p3,q3⟩:=hb;show⟨_,zuu hp hc p1 p2 p3 hs,λρ σ t q G H D E k h M=>q1 ρ σ t q G H _ _ k h λJ H1 ds C F Q hq=>?_⟩;symm;let⟨U,i0,turn,fin⟩:=hq;show⟨λi m B H'=>m=ds.length-i/\i<=ds.length/\∃ρ' f,aU X.K t q ρ' B f H'/\aZ C f/\U i ρ',⟨ds.length,∅,cA _,ρ,C,k.ext F,aZ.refl _,i0⟩,?_⟩;rintro i m B H' ⟨rfl,hi,ρ',f,y,u,iv⟩;by_cases N:i<ds.length
 .symm;let⟨w1,w2⟩:=Q;let⟨go,W⟩:=w1 i ds[i] f H' (bO N) u y.e.s;show .inr ⟨go,λT p=>∃z d,aU X.K t q z T d p/\aZ C d/\U (i+1) z,λT p ⟨z,d,k2,s2,L⟩=>⟨ds.length-(i+1),by grind,rfl,N,z,d,k2,s2,L⟩,λv p hy=>?_⟩;symm;let⟨d,P,rv⟩:=W v p hy;show q2 ρ' B t q d p ds[i] v _ _ (y.ext P) rv (turn i ds[i] ρ' (bO N) iv) λY mB V H3 k3 Z bF=>?_
  have s3:aZ C V:=(u.trans P.g).trans Z.g;show q3 Y mB t q V H3 _ _ k3 bF ⟨λj I r O s4 n o=>⟨j,r,n,s3.trans s4,o⟩,M.rt,λj I r O s4 n o=>M.nx j I r O ((F.g.trans s3).trans s4) n o,λj I r O s4 n o=>⟨j,r,n,s3.trans s4,o⟩⟩
 have e:i=ds.length:=by lia
 subst e;show .inl ⟨Q.2 f H' u y.e.s,M.nx ρ' B f H' (F.g.trans u) y (fin ρ' iv)⟩
def zuW(c:dF)(e:TX):TX:=λD ρ=>∃W:Nat->Ev->Prop,(∃m,W m ρ)/\∀m ρ',W m ρ'->c ρ' λb=>if b=true then e { D with nx:=λd=>∃a,a<m/\W a d,ct:=λd=>∃a,a<m/\W a d,bk:=D.nx } ρ' else D.nx ρ'
def UE(P:PassesOwn (model X.prog X.w) X.A X.env X.xe)(Q:PB X c tc)(R:hJ X body y):PX X (.While c body [] pos) (zuW tc y):=by
 let⟨t1,O,M⟩:=Q;let⟨t3,N,L⟩:=R;show⟨_,zp3 P O N,λρ σ q p G H D E k h u=>?_⟩;obtain⟨W,⟨m0,J⟩,turn⟩:=h;show⟨λm j H'=>∃ρ' r,aU X.K q p ρ' j r H'/\aZ G r/\W m ρ',⟨m0,ρ,G,k,aZ.refl _,J⟩,?_⟩;rintro m j H' ⟨ρ',r,t,z,I⟩;show M ρ' j q p r H' _ _ t (turn m ρ' I) λb l d o B=>?_
 cases b with
 | true=>
  show⟨λC l=>∃a,a<m/\∃F d,aU X.K q p F C d l/\aZ G d/\W a F,λC l S=>S,?_⟩;have s2:aZ G d:=z.trans o.g;show L ρ' j q p d l _ _ (t.ext o) B ⟨λe s n x s4 f v=>by let⟨a,hm,i⟩:=v;show⟨a,hm,e,n,f,s2.trans s4,i⟩,u.rt,λe s n x s4 f i=>u.nx e s n x (s2.trans s4) f i,λe s n x s4 f v=>by let⟨a,hm,i⟩:=v;show⟨a,hm,e,n,f,s2.trans s4,i⟩⟩
 | false=>
  show u.nx ρ' j d l (z.trans o.g) (t.ext o) B
end
def oZ(ρ:Ev):Option Nat->Sl
 | none=>.un
 | some j=>match gt ρ j with
  | .fz d=>.fz d
  | _=>.un
def cR(m:List (Option Nat))(ρ:Ev):Ev:=m.map (oZ ρ)
theorem z5{m:List (Option Nat)}{ρ:Ev}{i:Nat}:gt (m.map (oZ ρ)) i=match m[i]? with
  | some o=>oZ ρ o
  | none=>.un:=by
 induction m generalizing i with
 | nil=>rfl
 | cons a r b=>
  cases i with
  | zero=>rfl
  | succ i=>show b
def jD(m:List (Option Nat))(g:du):Prop:=∀d ρ Q,g d ρ Q->g d ρ λa=>Q a/\a.length=ρ.length/\∀j c,m[j]?\some c->gt a j=gt ρ j
def Eb(m:List (Option Nat))(g:lM):Prop:=∀ds ρ Q,g ds ρ Q->g ds ρ λa=>Q a/\a.length=ρ.length/\∀j c,m[j]?\some c->gt a j=gt ρ j
theorem ez(h:m[i]?\none:=by rfl):jD m (gR i):=λd ρ Q q=>by
 show⟨q,by show qf ..,λj c a=>?_⟩;rw[mT,if_neg];rintro⟨e,_⟩;subst e;rw[h] at a;cases a
theorem UD:Eb m mN:=λds ρ Q q=>by
 unfold mN at q ⊢;split at q
 .exact⟨q,rfl,λ_ _ _=>rfl⟩
 show q.elim
theorem Al(mono:∀d ρ Q a,(∀ρ',Q ρ'->a ρ')->t d ρ Q->t d ρ a)(p:∀d ρ Q a,(∀ρ',Q ρ'->a ρ')->u d ρ Q->u d ρ a)(o:jD m t)(n:Eb m u):Eb m (iW t u):=λds ρ Q q=>by
 unfold iW at q ⊢;split at q
 .refine mono _ _ _ _ (λρ' b=>?_) (o _ _ _ q);let⟨g,i,l⟩:=b;show p _ _ _ _ (λr b=>by let⟨f,h,k⟩:=b;show⟨f,h.trans i,λj c e=>(k j c e).trans (l j c e)⟩) (n _ _ _ g)
 show q.elim
theorem UC(a:Eb m u):jD m (qr n u):=λd ρ Q q=>by
 unfold qr at q ⊢;split at q
 .exact⟨q.1,a _ _ _ q.2⟩
 show q.elim
theorem qN:∀d ρ Q a,(∀ρ',Q ρ'->a ρ')->gR i d ρ Q->gR i d ρ a:=λ_ _ _ _ h q=>h _ q
theorem Ae:∀d ρ Q a,(∀ρ',Q ρ'->a ρ')->mN d ρ Q->mN d ρ a:=λ_ _ _ _ h q=>by
 unfold mN at q ⊢;split at q
 .exact h _ q
 show q.elim
theorem EA(mono:∀d ρ Q a,(∀ρ',Q ρ'->a ρ')->t d ρ Q->t d ρ a)(c:∀d ρ Q a,(∀ρ',Q ρ'->a ρ')->u d ρ Q->u d ρ a):∀d ρ Q a,(∀ρ',Q ρ'->a ρ')->iW t u d ρ Q->iW t u d ρ a:=λ_ _ _ _ h q=>by
 unfold iW at q ⊢;split at q
 .exact mono _ _ _ _ (λρ' b=>c _ _ _ _ h b) q
 show q.elim
theorem sP(h:m[i]?\none:=by rfl)(h':m[j]?\none:=by rfl):jD m (qr n (iW (gR i) (iW (gR j) mN))):=
 UC (Al qN (EA qN Ae) (ez h) (Al qN Ae (ez h') UD))
theorem Wb(h:m[i]?\none:=by rfl)(h':m[j]?\none:=by rfl)(a:m[k]?\none:=by rfl):jD m (qr n (iW (gR i) (iW (gR j) (iW (gR k) mN)))):=
 UC (Al qN (EA qN (EA qN Ae)) (ez h) (Al qN (EA qN Ae) (ez h') (Al qN Ae (ez a) UD)))
def rF(X:Cx)(a:List ay)(t:dF):Prop:=∃tt,tT X a tt/\∀ρ σ d c G H Q P,aU X.K d c ρ σ G H->t ρ Q->
 (∀b H' e,Ext G H e H'->Q b->P b H')->tt σ H P
def qp:dF:=λ_ Q=>Q true
theorem gc:rF X [] qp:=⟨_,zsJ,λρ σ b a G H Q P E h k=>k true H G (.refl E.e.s) h⟩
theorem jG(h:PB X c t):rF X [c] t:=let⟨tt,p,q⟩:=h;⟨tt,zsK p,q⟩
def jB(e:fI)(m:List (Option Nat))(g:du)(tc:dF)(te:TD):TD:=λρ Q=>e ρ λds=>∃a:Nat->List D->Prop,a 0 []/\
 (∀i d acc,ds[i]?\d->a i acc->g d (cR m ρ) λc=>tc c λb=>if b=true then te c λr=>acc.length<sizeLine/\a (i+1) (acc++[r.val]) else a (i+1) acc)/\∀acc,a ds.length acc->Q (.ow acc)
def Ml:gt (cR m ρ) i=.un\/∃j d,m[i]?\some j/\gt ρ j=.fz d/\gt (cR m ρ) i=.fz d:=by
 unfold cR;rw[z5];match m[i]? with
 | none=>show .inl rfl
 | some none=>show .inl rfl
 | some (some j)=>
  unfold oZ;dsimp only;split
  .rename_i d h;show .inr ⟨j,d,rfl,h,rfl⟩
  show .inl rfl
def vM(ρ:Ev):Prop:=∀i,gt ρ i=.un\/∃d,gt ρ i=.fz d
theorem Xm:vM (cR m ρ):=λ_=>Ml.imp id λ⟨_,d,_,_,h⟩=>⟨d,h⟩
def vM.ow(b:vM ρ)(h:gt ρ i=.ow a):False:=by
 rcases b i with e | ⟨d,e⟩<;>rw[e] at h<;>cases h
def vM.ov(b:vM ρ)(h:gt ρ i=.ov o):False:=by
 rcases b i with e | ⟨d,e⟩<;>rw[e] at h<;>cases h
theorem vM.YG{K:ar}(b:vM ρ)(e:Ext g c G H)(l:a.length=ρ.length)(f:∀i d,gt ρ i=.fz d->∃v,a[i]?\some v/\Rep K G v d):aU K g c ρ a G H:=
 ⟨e,l,f,λ_ _ h=>(b.ow h).elim,λ_ _ _ _ _ h=>(b.ow h).elim,λ_=>none,λ_ _ _ h=>(b.ow h).elim,λ_ _ h=>(b.ov h).elim⟩
theorem Ext.aad(x:Ext G H a H')(h:H p=none)(g:a p=none):Ext G H a (upd H' p o):=
 ⟨x.g,λb u e=>by rw[br (fT e h)];show x.h b u e,λb u e=>by rw[br (fT e g)];show x.s b u e,x.n⟩
structure vI(K:ar)(α:Type) where
 B:Hp->Hp->List V->List ag->List α->Prop
 sel:R->(α->Prop)->Prop
 res:List α->R
 nil:∀G H,B G H [] [] []
 len:∀{G H xs fp acc},B G H xs fp acc->xs.length=acc.length
 here:∀{G H xs fp acc},B G H xs fp acc->∀q∈fp,H q≠none
 mono:∀{G H G' H' xs fp acc},aZ G G'->(∀q∈fp,∀u,H q\u->H' q\u)->B G H xs fp acc->B G' H' xs fp acc
 snoc:∀{G H G' H' v r k xs fp acc},Ext G H G' H'->dY K G' H' H v r->sel r k->B G' H' xs fp acc->∃a G2 c7,k a/\Ext G H G2 H'/\B G2 H' (xs++[v]) (fp++c7) (acc++[a])/\c7.Nodup/\∀q∈c7,H q=none/\G2 q=none
 fin:∀{G H H1 D xs fp acc},H D\.lst xs->B G H xs fp acc->(D::fp).Nodup->(∀q∈D::fp,H1 q=none/\G q=none)->dY K G H H1 (.ref D) (res acc)
def zuX{K:ar}(C:vI K e)(h:fI)(m:List (Option Nat))(g:du)(tc:dF)(te:TD):TD:=λρ Q=>h ρ λds=>∃c:Nat->List e->Prop,c 0 []/\
 (∀i d acc,ds[i]?\d->c i acc->g d (cR m ρ) λf=>tc f λb=>if b=true then te f λr=>C.sel r λa=>acc.length<sizeLine/\c (i+1) (acc++[a]) else c (i+1) acc)/\∀acc,c ds.length acc->Q (C.res acc)
structure vI.At{K:ar}{α:Type}(C:vI K α)(G1 H1:Hp)(ρ:Ev)(D:ag)(Iv:List α->Prop)(σ:St)(H:Hp)(acc:List α)(xs:List V)(fp:List ag)(G:Hp):Prop where
 e:aU K G1 H1 ρ σ G H
 d:H D\.lst xs
 b:C.B G H xs fp acc
 nd:(D::fp).Nodup
 fr:∀q∈D::fp,H1 q=none/\G q=none
 iv:Iv acc
section
variable{X:Cx}{m:List (Option Nat)}{g:du}
def JP(C:vI X.K α)(hk:jD m g)
  (q1:∀ρ p L I G H Q P,aU X.K L I ρ p G H->wi ρ Q->(∀J H' ds o,Ext G H o H'->Walk X.K J o ds->Q ds->P J H')->ww p H P)
  (q2:∀s3 M ex ρ p L I G H d v Q P,aU X.K L I ρ p G H->Rep X.K G v d->g d ρ Q->(∀ρ' w o H',aU X.K L I ρ' w o H'->Ext G H o H'->Q ρ'->P w H')->gg s3 M ex v p H P)
  (q3:∀s3 M ex ρ p L I G H Q P,aU X.K L I ρ p G H->tc ρ Q->(∀b H' o,Ext G H o H'->Q b->P b H')->jh s3 M ex p H P)
  (q4:∀s3 M ex ρ' w t H1 o H' Q' P',Ext G H t H1->aU X.K t H1 ρ' w o H'->te ρ' Q'->(∀v F r G2,Ext o H' G2 F->dY X.K G2 F H' v r->Q' r->P' v F)->T s3 M ex w H' P')
  (E:aU X.K L I ρ p G H) (h:zuX C wi m g tc te ρ Q) (k:∀v H' r o,Ext G H o H'->dY X.K o H' H v r->Q r->P v H'):nZ ww m gg jh T p H P:=by
 show q1 ρ p L I G H _ _ E h λJ H1 ds t N wk f D Y s3 ex=>?_
 have M5:t D=none:=N.s.free Y;show⟨λi n w H'=>n=ds.length-i/\i<=ds.length/\∃acc xs fp o,C.At t H1 (cR m ρ) D (f.choose i) w H' acc xs fp o,
  ⟨ds.length,rfl,cA _,[],[],[],t,?_,cW,C.nil _ _,fE _ _,λq f=>?_,f.choose_spec.1⟩,?_⟩
 .refine Xm.YG (.own N.s Y) (by simp[kZ,cR]) λi d h=>?_
  symm;rcases Ml (m:=m) (ρ:=ρ) (i:=i) with e | ⟨j,d',e1,e2,e3⟩
  .rw[e] at h;cases h
  let⟨v,hv,rv⟩:=(E.ext N).fz j d' e2;rw[e3] at h;cases h;show⟨v,by unfold kZ;rw[cx,e1];simp[hv],rv⟩
 .rw[fj.mp f];show⟨Y,M5⟩
 rintro i n w H' ⟨rfl,hi,acc,xs,fp,o,A⟩;by_cases bx:i<ds.length
 .have ht:=bO bx;let⟨go,yl⟩:=wk.1 i ds[i] o H' ht A.e.e.g A.e.e.s;show .inr ⟨go,λhV F=>∃acc xs fp o,C.At t H1 (cR m ρ) D (f.choose (i+1)) hV F acc xs fp o,λhV F U=>⟨ds.length-(i+1),⋯,rfl,bx,U⟩,λv F hy=>?_⟩;let⟨G2,x2,rv⟩:=yl v F hy;show q2 _ _ _ (cR m ρ) w t H1 G2 F ds[i] v _ _ (A.e.ext x2) rv (hk _ _ _ (f.choose_spec.2.1 i ds[i] acc ht A.iv)) λyU mB G3 M E3 x3 bF=>?_
  show q3 _ _ _ yU mB t H1 G3 M _ _ E3 bF.1 λb H4 G4 x4 Fz=>?_
  have S:=(x2.trans x3).trans x4;have weak:∀j,gt (cR m ρ) j=.un\/gt (cR m ρ) j=gt yU j:=λj=>by
   rcases Ml (m:=m) (ρ:=ρ) (i:=j) with e | ⟨c,d',e1,e2,e3⟩
   .exact .inl e
   show .inr (bF.2.2 j c e1).symm
  have A4:C.B G4 H4 xs fp acc:=C.mono S.g (λq _ u e=>S.h _ _ e) A.b;have O:∀q∈D::fp,H1 q=none/\G4 q=none/\H4 q≠none:=λq f=>by
   have W:H' q≠none:=by
    rcases bM.mp f with rfl | f
    .rw[A.d];show nofun
    show C.here A.b q f
   show⟨(A.fr q f).1,S.n q (A.fr q f).2 W,λz=>W (S.h.free z)⟩
  have E4:=(E3.ext x4).weak (ρ':=cR m ρ) bF.2.1.symm weak;cases b with
  | false=>show⟨acc,xs,fp,G4,E4,S.h _ _ A.d,A4,A.nd,λq f=>⟨(O q f).1,(O q f).2.1⟩,Fz⟩
  | true=>
   show q4 _ _ _ yU mB t H1 G4 H4 _ _ N (E3.ext x4) Fz λv5 H5 r5 G5 x5 L6 BF=>?_
   let⟨a,G6,Z,ka,x6,B6,gu,Nb⟩:=C.snoc x5 L6 BF (C.mono x5.g (λq _ u e=>x5.h _ _ e) A4);have W:∀q∈D::fp,q∉Z:=λq h1 U=>(O q h1).2.2 (Nb q U).1
   have FX:∀q∈D::(fp++Z),H1 q=none/\G6 q=none:=λq f=>by
    rw[<-oT] at f;rcases bJ.mp f with f | f
    .exact⟨(O q f).1,x6.n q (O q f).2.1 (O q f).2.2⟩
    show⟨E4.e.h.free (Nb q f).1,(Nb q f).2⟩
   have W4:(D::(fp++Z)).Nodup:=by
    rw[<-oT,kH];show⟨A.nd,gu,λx h1 y U e=>W x h1 (e▸U)⟩
   show⟨xs,x6.h _ _ (S.h _ _ A.d),by rw[C.len A4];show ka.1,acc++[a],xs++[v5],fp++Z,G6,?_,cW,C.mono (aZ.refl _) (λq f u e=>?_) B6,W4,FX,ka.2⟩
   .have E6:=E4.ext x6;show Xm.YG (E6.e.aad Y (FX D (by show .head _)).2) E6.len E6.fz
   rw[br (λz:q=D=>(eH.mp W4).1 (z▸f))];show e
 have e:i=ds.length:=by lia
 subst e;show .inl ⟨wk.2 o H' A.e.e.g A.e.e.s,k _ H' (C.res acc) o (N.trans A.e.e) (C.fin A.d A.b A.nd λq f=>⟨N.h.free (A.fr q f).1,(A.fr q f).2⟩) (f.choose_spec.2.2 acc A.iv)⟩
def zwl(K):vI K D where
 B:=λG _ xs fp acc=>fp=[]/\av K G xs acc
 sel:=λr k=>k r.val
 res:=.ow
 nil:=λ_ _=>⟨rfl,av.nil⟩
 len:=λh=>h.2.length
 here:=λh q e=>by rw[h.1] at e;cases e
 mono:=λg _ h=>⟨h.1,h.2.mono g⟩
 snoc:=λx m n h=>by
  symm;let⟨o,i,j,s2⟩:=m.freeze x;show⟨_,o,[],n,i,⟨by rw[h.1];rfl,(h.2.mono s2).append (av.cons j av.nil)⟩,.nil,λq e=>by cases e⟩
 fin:=λd b _ f=>⟨_,_,rfl,(f _ (nP)).1,(f _ (nP)).2,d,b.2⟩
theorem zqy(B:iQ X N' m scope)(A:jD m g)
  (z:∀ρ c f e G H Q P,aU X.K f e ρ c G H->wi ρ Q->(∀J H' ds a,Ext G H a H'->Walk X.K J a ds->Q ds->P J H')->ww c H P)
  (y:∀s3 l ex ρ c f e G H d v Q P,aU X.K f e ρ c G H->Rep X.K G v d->g d ρ Q->(∀ρ' j a H',aU X.K f e ρ' j a H'->Ext G H a H'->Q ρ'->P j H')->p s3 l ex v c H P)
  (x:∀s3 l ex ρ c f e G H Q P,aU X.K f e ρ c G H->tc ρ Q->(∀b H' a,Ext G H a H'->Q b->P b H')->o s3 l ex c H P)
  (w:∀s3 l ex ρ' j u H1 a H' q s,Ext G H u H1->aU X.K u H1 ρ' j a H'->te ρ' q->(∀v n r t,Ext a H' t n->dY X.K t n H' v r->q r->s v n)->i s3 l ex j H' s)
  (E:aU X.K f e ρ c G H) (h:jB wi m g tc te ρ Q) (k:∀v H' r a,Ext G H a H'->dY X.K a H' H v r->Q r->P v H'):nZ ww m p o i c H P:=JP (zwl X.K) A z y x w E h k
theorem Ea(t:iQ X N' m scope)(s:jD m g)
  (r:∀ρ σ f e G H Q P,aU X.K f e ρ σ G H->wi ρ Q->(∀J H' ds a,Ext G H a H'->Walk X.K J a ds->Q ds->P J H')->ww σ H P)
  (q:∀s3 c ex ρ σ f e G H d v Q P,aU X.K f e ρ σ G H->Rep X.K G v d->g d ρ Q->(∀ρ' j a H',aU X.K f e ρ' j a H'->Ext G H a H'->Q ρ'->P j H')->n s3 c ex v σ H P)
  (p:∀s3 c ex ρ σ f e G H Q P,aU X.K f e ρ σ G H->tc ρ Q->(∀b H' a,Ext G H a H'->Q b->P b H')->l s3 c ex σ H P)
  (o:∀s3 c ex,lq X.K te (i s3 c ex)):lq X.K (jB wi m g tc te) (nZ ww m n l i):=λρ σ f e G H Q P E h k=>zqy t s r q p (λs3 c ex ρ' j x H1 a H' u w _=>o s3 c ex ρ' j x H1 a H' u w) E h k
def fU(k:X.calm=true)(e:iQ X N' m scope)(j:jD m g)(hi:PId X tg iter wi)(c:∀s3 a ex,nE (fH X N' scope s3 a ex) tg g)(b:∀s3 a ex,rF (fH X N' scope s3 a ex) ifs tc)
  (d:∀s3 a ex,PD (fH X N' scope s3 a ex) elt te) (i:∀x,foldedSetIterable iter X.env x=pure x:=by intro _;rfl):PD X (.ListComp elt [⟨tg,iter,ifs,0⟩] scope pos) (jB wi m g tc te):=by
 let⟨ww,h,f⟩:=hi;show⟨_,zsL (g:=λs3 a ex=>(c s3 a ex).choose) (tc:=λs3 a ex=>(b s3 a ex).choose) (te:=λs3 a ex=>(d s3 a ex).choose) k e h (λs3 a ex=>(c s3 a ex).choose_spec.1) (λs3 a ex=>(b s3 a ex).choose_spec.1) (λs3 a ex=>(d s3 a ex).choose_spec.1) i,
  Ea e j f (λs3 a ex=>(c s3 a ex).choose_spec.2) (λs3 a ex=>(b s3 a ex).choose_spec.2) (λs3 a ex=>(d s3 a ex).choose_spec.2)⟩
def D9(i)(y:X.calm=true)(j:iQ X N' m scope)(u:jD m g)(hi:PId X tg iter wi)(d:∀s3 a ex,nE (fH X N' scope s3 a ex) tg g)(c:∀s3 a ex,rF (fH X N' scope s3 a ex) ifs tc)
  (e:∀s3 a ex,PD (fH X N' scope s3 a ex) elt te) (hN:X.N.Nodup:=by assumption) (q:X.N[i]?\x:=by rfl) (hx:Loc X.env.scope x:=by first | show Or.inl rfl | show Or.inr rfl) (s:∀x,foldedSetIterable iter X.env x=pure x:=by intro _;rfl)
  (p:swapsWith (.ListComp elt [⟨tg,iter,ifs,0⟩] scope pos) (some (.Name x b)) f.line X.env=pure true:=by rfl)
  (w:X.fn x=true\/X.env.scope.names.lookup x\.local:=by first | show .inl rfl | show .inr rfl | assumption) :
  PX X (.Assign [.Name x b] (.ListComp elt [⟨tg,iter,ifs,0⟩] scope pos) f) (uy i (jB wi m g tc te)):=by
 let⟨ww,o,n⟩:=hi;show⟨_,xh (g:=λs3 a ex=>(d s3 a ex).choose) (tc:=λs3 a ex=>(c s3 a ex).choose) (te:=λs3 a ex=>(e s3 a ex).choose) hN q hx y j o (λs3 a ex=>(d s3 a ex).choose_spec.1) (λs3 a ex=>(c s3 a ex).choose_spec.1) (λs3 a ex=>(e s3 a ex).choose_spec.1) s p w,λρ σ B A G H D E k h z=>?_⟩;show Ea j u n (λs3 a ex=>(d s3 a ex).choose_spec.2) (λs3 a ex=>(c s3 a ex).choose_spec.2) (λs3 a ex=>(e s3 a ex).choose_spec.2) ρ σ B A G H _ _ k h λv H' r C x l t=>z.nx _ _ C H' x.g (k.put x l) t
def Ad(i)(A:X.calm=true)(l:iQ X N' m scope)(y:jD m g)(hi:PId X tg iter wi)(d:∀s3 a ex,nE (fH X N' scope s3 a ex) tg g)(c:∀s3 a ex,rF (fH X N' scope s3 a ex) ifs tc)
  (e:∀s3 a ex,PD (fH X N' scope s3 a ex) elt te) (hN:X.N.Nodup:=by assumption) (t:X.N[i]?\x:=by rfl) (hx:Loc X.env.scope x:=by first | show Or.inl rfl | show Or.inr rfl) (u:∀x,foldedSetIterable iter X.env x=pure x:=by intro _;rfl)
  (s:swapsWith (.ListComp elt [⟨tg,iter,ifs,0⟩] scope pos) (some (.Name x b)) j.line X.env=pure true:=by rfl)
  (z:X.fn x=true\/X.env.scope.names.lookup x\.local:=by first | show .inl rfl | show .inr rfl | assumption) :
  PX X (.Assign [.Name x b] (.ListComp elt [⟨tg,iter,ifs,0⟩] scope pos) j) (j8 i (jB wi m g tc te)):=by
 let⟨ww,q,p⟩:=hi;show⟨_,xh (g:=λs3 a ex=>(d s3 a ex).choose) (tc:=λs3 a ex=>(c s3 a ex).choose) (te:=λs3 a ex=>(e s3 a ex).choose) hN t hx A l q (λs3 a ex=>(d s3 a ex).choose_spec.1) (λs3 a ex=>(c s3 a ex).choose_spec.1) (λs3 a ex=>(e s3 a ex).choose_spec.1) u s z,λρ σ I C G H D E k h B=>?_⟩;show Ea l y p (λs3 a ex=>(d s3 a ex).choose_spec.2) (λs3 a ex=>(c s3 a ex).choose_spec.2) (λs3 a ex=>(e s3 a ex).choose_spec.2) ρ σ I C G H _ _ k h λv H' r J x o w=>?_
 let⟨F,f,n,Z⟩:=o.freeze x;show B.nx _ _ F H' f.g (k.put f (r:=.fz r.val) n) w
end
abbrev bg:=List D->(R->Prop)->Prop
def vF(K:ar)(n:Nat)(t:bg):Sp:=λc H Q _=>∃G ds a,aZ G H/\av K G c ds/\ds.length=n/\t ds a/\∀v H' r b,Ext G H b H'->dY K b H' H v r->a r->Q v H'
def pf(N:List aa)(ds:List D):Ev:=ds.map Sl.fz++fi (N.length-ds.length) .un
def zjB{ds:List D}{l:List Sl}(h:gt (ds.map Sl.fz++l) i=s):(∃d,ds[i]?\d/\s=.fz d)\/(ds.length<=i/\gt l (i-ds.length)=s):=by
 induction ds generalizing i with
 | nil=>show .inr ⟨cA _,by trivial⟩
 | cons d ds a=>
  cases i with
  | zero=>show .inl ⟨d,rfl,h.symm⟩
  | succ i=>
   simp![c8,oT,gt] at h;cbv
def znL:gt (fi n Sl.un) i=.un:=by
 induction n generalizing i with
 | zero=>rfl
 | succ n a=>
  cases i with
  | zero=>rfl
  | succ i=>show a
def UB{K:ar}(s:aZ G H)(r:av K G f ds):aU K G H (pf N ds) (iX N f) G H:=by
 have hl:=r.length;have c:∀{i:Nat}{t:Sl},gt (pf N ds) i=t->t≠.un->∃d,ds[i]?\d/\t=.fz d:=λ{i t} h n=>by
  symm;rcases zjB h with h | ⟨_,h⟩
  .exact h
  rw[znL] at h;show absurd h.symm n
 show⟨.refl s,by simp[iX,pf,hl],λi d h=>?_,λi g h=>?_,λi j g fs _ h=>?_,λ_=>none,λi g _ h=>?_,λi o h=>?_⟩
 .symm;let⟨d',e,b⟩:=c h ∅;cases b;symm;let⟨v,hv,m⟩:=r.get e;have hi:i<f.length:=(cH.mp hv).1;show⟨v,?_,m⟩;unfold iX;rw[um (by simpa using hi),cx,hv];rfl
 .symm;let⟨d',e,b⟩:=c h ∅;cases b
 .symm;let⟨d',e,b⟩:=c h ∅;cases b
 .symm;let⟨d',e,b⟩:=c h ∅;cases b
 symm;let⟨d',e,b⟩:=c h ∅;cases b
section
variable{K:ar}
def Jn{st:bY}(F:rJ v K x b st f m)(S:nF N ps (de st))
  (body:∀i A outer s H E,eF k (A.deeper (envOfC b (de st) *...* f i))->hJ (kP iw P w K mg base N b (de st) f i A outer s H E).nc (iu st) T)
  (g:∀ds d,ds.length=ps.length->t ds d->T { nx:=λ_=>d (.fz .non),rt:=d } (pf N ds)):jU P w K mg base iw (k+1) f m ps (vF K ps.length t):=by
 show F.ok S (λn H Q E h=>?_) (λi A outer s H n Q E u h=>?_)
 .let⟨G,ds,d,z,r,hl,z⟩:=h;rw[r.length,hl]
 symm;let⟨G,ds,d,s0,r,hl,o,j⟩:=h;let⟨tt,p,q⟩:=body i A outer s H E u;show⟨tt,p,q _ _ G H G H _ _ (UB s0 r) (g ds d hl o) ⟨λρ σ y H' _ e h=>j _ H' _ y e.e (cK (T8 _ _)) h,j,λ_ _ _ _ _ _ h=>h.elim,λ_ _ _ _ _ _ h=>h.elim⟩⟩
end
section
variable{k n:Nat}{f:ag}{t:bg}{e:ay}{ts:eZ}
def fS(n:Nat)(t:bg)(ts:eZ):TD:=λρ Q=>ts ρ λds=>ds.length=n/\t ds Q
def zsT(F:jU X.prog X.w X.K X.mg X.base iw k f fd ps (vF X.K n t))(i:eF k X.A)(j:X.mg x=some (.ref f))(l:nK X.K (.ref f)=true)(u:Binds X.K fd ps [])(y:iP X (e::es) ts)(m:Gl X x:=by rfl)(g:(x==("__debug__":aa))=false:=by decide)
  (o:starEach (e::es) X.env=(false,eval e X.env)::starEach es X.env:=by rfl) (z:(backTo pos (starEach es X.env)).any (·.1)=false:=by rfl):PD X (.Call (.Name x p) (e::es) [] pos) (fS n t ts):=by
 let⟨tt,pp,q⟩:=y;show⟨_,Uc F i m j l u .nil IT pp g o z,λρ σ I C G H Q P E h k=>q ρ σ I C G H _ _ E h λL H' ds J x rs a=>?_⟩;rw[i8];show⟨J,ds,Q,x.s,rs,a.1,a.2,λv B r D b c d=>k v B r D (x.trans b) (c.m8 x.h) d⟩
end
open PySem.StrLaws
def f7{a:Type}(xs:List a)(lo hi:Option Int):List a:=(xs.drop (HT.bR xs.length 0 lo)).take (HT.bR xs.length xs.length hi-HT.bR xs.length 0 lo)
def nW(z:aa)(lo hi:Option Int):aa:=⟨(f7 z.cps.toList lo hi).toArray⟩
def si(v)(n d:Nat):max 0 (min (if v<0 then v+(n:Int) else v) (n:Int))=((HT.bR n d (some v):Nat):Int):=by
 rw[<-HT.Np];by_cases h:v<0
 .lia
 lia
def zmq(z:aa)(lo hi):(wK lo hi 1 z.length).filterMap (z.cps[·]?)=f7 z.cps.toList lo hi:=by
 have f:z.cps.toList.length=z.length:=by simp[GC]
 have e:wK lo hi 1 z.length=sliceRange ((HT.bR z.length 0 lo:Nat):Int) ((HT.bR z.length z.length hi:Nat):Int) 1:=by
  unfold wK;cases lo with
  | none=>
   cases hi with
   | none=>rfl
   | some v=>simp![show((1:Int)>0) from by show dv _,cy,si v z.length z.length];rfl
  | some u=>
   cases hi with
   | none=>simp![show((1:Int)>0) from by show dv _,cy,si u z.length 0];rfl
   | some v=>simp![show((1:Int)>0) from by show dv _,cy,si v z.length z.length,si u z.length 0]
 rw[e];unfold f7;rw[f];generalize i:HT.bR z.length 0 lo=a;generalize g:HT.bR z.length z.length hi=b;have d:b<=z.length:=by rw[<-g];show HT.LZ _ _ (bB _) _
 by_cases c:a<=b
 .have:=sliced_plain z c d;rw[strSliceIndices_plain c d] at this;rw[<-this];unfold sliceRange;simp![show((1:Int)>0) from by show dv _,cy];congr 1
  by_cases h:a<b
  .rw[if_pos (by cbv)];rw[show(((b:Int)-(a:Int)+1-1)/1).toNat=b-a by cbv];apply ui;intro k _;lia
  rw[if_neg (by cbv),show b-a=0 by cbv];rfl
 rw[show b-a=0 by ext,Po];unfold sliceRange;simp![show((1:Int)>0) from by show dv _,cy];rw[if_neg ⋯];rfl
def znN(z lo hi):Gv z lo hi=nW z lo hi:=by
 unfold Gv nW;split
 .rename_i h;have h':(wK lo hi 1 z.length).length=z.length:=by show eq_of_beq ‹_›
  have b:z.cps.toList.length=z.length:=by simp[GC]
  have d:(f7 z.cps.toList lo hi).length=z.length:=by
   unfold f7;rw[eK,kE,b];have e:wK lo hi 1 z.length=sliceRange ((HT.bR z.length 0 lo:Nat):Int) ((HT.bR z.length z.length hi:Nat):Int) 1:=by
    unfold wK;cases lo with
    | none=>
     cases hi with
     | none=>rfl
     | some v=>simp![show((1:Int)>0) from by show dv _,cy,si v z.length z.length];rfl
    | some u=>
     cases hi with
     | none=>simp![show((1:Int)>0) from by show dv _,cy,si u z.length 0];rfl
     | some v=>simp![show((1:Int)>0) from by show dv _,cy,si v z.length z.length,si u z.length 0]
   rw[e] at h';unfold sliceRange at h';simp![show((1:Int)>0) from by show dv _,cy,aL,jv] at h';have f:=HT.LZ z.length z.length (bB _) hi;by_cases c:((HT.bR z.length 0 lo:Nat):Int)<((HT.bR z.length z.length hi:Nat):Int)
   .lia
   simp at h';lia
  apply Str.ext';have c:f7 z.cps.toList lo hi=z.cps.toList:=by
   unfold f7 at d ⊢;rw[eK,kE,b] at d;rw[b];have a:HT.bR z.length 0 lo=0\/z.length=0:=by lia
   rcases a with a | a
   .rw[a,Hj,Nat.sub_zero];show mG (by lia)
   have:z.cps.toList=[]:=zq (by trivial);rw[this];simp
  rw[c]
 rw[zmq]
section
variable{X:Cx}{e:ay}{te:TD}
def aak:tR X (λx lo hi H Q=>∃z,x=.str z/\z.length<=sizeLine/\Q (.str (nW z lo hi)) H):=by
 intro r s σ H x v y w lo hi sl Q I b f pl pu h;symm;let⟨z,rfl,hz,q⟩:=h;let⟨t,rfl⟩:=b;show⟨"str",_,F.slot_str_getitem.lookup,GB _ _ _,?_⟩;have part:∀{u:af}{o:Option Int},IsPart u o->∃p:Option (Int×Tok),u=partValue p/\p.map (·.1)=o:=λh=>by
  cases h with
  | none=>show⟨none,rfl,rfl⟩
  | int i t=>show⟨some (i,t),rfl,rfl⟩
 symm;let⟨e,rfl,n⟩:=part pl;let⟨d,rfl,m⟩:=part pu;let⟨o,g,j,hd⟩:=f;show wpAny_getItem_str_slice (l:=e) (u:=d) (st:=none) ⟨o,g,j,hd⟩ rfl ?_;have fin:∀t' k,EP X r σ Q (.str (Gv z lo hi) t') { s with toks:=k }:=λt' k=>⟨.str (nW z lo hi),H,I.tok k,⟨t',by rw[znN]⟩,q⟩
 have hle:=bX (Txt.slice_le z lo hi) hz;subst n m;show post_val_or_str ⟨hle,fin⟩
abbrev Ce:=Ev->(Option Int->Prop)->Prop
def F6(X:Cx)(e:Option ay)(t:Ce):Prop:=∃tt,PO X e tt/\∀ρ σ b a G H Q P,aU X.K b a ρ σ G H->t ρ Q->(∀o H' c,Ext G H c H'->Q o->P o H')->tt σ H P
def Fg:Ce:=λ_ Q=>Q none
def DJ(te:TD):Ce:=λρ Q=>te ρ λr=>match r.val with
 | .int i=>Q (some i)
 | _=>False
theorem lT:F6 X none Fg:=⟨_,zsE,λρ σ b a G H Q P E h k=>k none H G (.refl E.e.s) h⟩
def jf(h:PD X e te):F6 X (some e) (DJ te):=by
 let⟨t,p,q⟩:=h;show⟨_,zsF p,λρ σ l g G H Q P E h k=>q ρ σ l g G H _ _ E h λv H' r m x d a=>?_⟩;obtain⟨j,c,b,_⟩:=d.freeze x;split at a
 .rename_i i f;rw[f] at b;show⟨i,b,k _ H' j c a⟩
 show a.elim
def F1(te:TD)(tl a:Ce):TD:=λρ Q=>te ρ λr=>tl ρ λlo=>a ρ λhi=>match r.val with
 | .lst ds=>Q (.ow (f7 ds lo hi))
 | .str z=>z.length<=sizeLine/\Q (.fz (.str (nW z lo hi)))
 | .tup ds=>¬(HT.bR ds.length 0 lo=0/\HT.bR ds.length ds.length hi=ds.length)/\Q (.fz (.tup (f7 ds lo hi)))
 | _=>False
def Ui{K:ar}(r:av K G xs ds)(lo hi):av K G (o7 xs lo hi) (f7 ds lo hi):=by
 unfold o7 f7;rw[r.length];show(r.drop _).take _
def kd{lo hi:Option ay}(S:PD X e te)(hl:F6 X lo tl)(R:F6 X hi C):PD X (.Subscript e (.Slice lo hi none t) pos) (F1 te tl C):=by
 symm;let⟨t1,N,L⟩:=S;let⟨Y,t,K⟩:=hl;let⟨t3,M,J⟩:=R;show⟨_,zqa (aal.or (aak.or zuH)) N t M,λρ σ y w G H Q P E h k=>L ρ σ y w G H _ _ E h λv H' r Z x I O=>?_⟩;obtain⟨W,q,F,_⟩:=I.freeze x;show K ρ σ y w W H' _ _ (E.ext q) O λlo U V o T=>?_
 show J ρ σ y w V U _ _ ((E.ext q).ext o) T λhi D n B d=>?_
 have b:=(q.trans o).trans B;have f:=(F.mono o.g).mono B.g;split at d
 .rename_i ds j;rw[j] at f;let⟨a,xs,rfl,u,m⟩:=f;show .inl ⟨a,xs,rfl,(b.s.cF u).sq,λp i=>?_⟩;show k _ _ (.ow _) n (b.trans (.own b.s i)) ⟨p,_,rfl,b.h.free i,b.s.free i,cW,Ui m lo hi⟩ d
 .rename_i z j;rw[j] at f;show .inr (.inl ⟨z,f,d.1,k _ _ _ n b (cK (xg _ _ _)) d.2⟩)
 .rename_i ds j;rw[j] at f;let⟨a,xs,rfl,u,m⟩:=f;show .inr (.inr ⟨a,xs,rfl,b.s.pD u,by rw[m.length];show d.1,λp i=>?_⟩);have A:Ext n D (upd n p (.tup (o7 xs lo hi))) (upd D p (.tup (o7 xs lo hi))):=.new b.s i;show k _ _ (.fz _) _ (b.trans A) ?_ d.2;show⟨p,_,rfl,cW,(Ui m lo hi).mono A.g⟩
 show d.elim
def ux:bg:=λds Q=>match ds with
 | [.lst a]=>Q (.fz (.int a.length))
 | [.tup a]=>Q (.fz (.int a.length))
 | [.str z]=>z.length<=sizeLine/\Q (.fz (.int z.length))
 | _=>False
def jc:j9 X (.builtin "len") ux:=by
 show⟨_,YN.or zjs,λG H e ds Q P s rs h k=>?_⟩;unfold ux at h;split at h
 .let⟨v,rfl,b⟩:=gQ rs;let⟨a,xs,rfl,d,c⟩:=b;show .inl ⟨a,xs,rfl,.inl ((s.cF d).sq),?_⟩;rw[c.length];show k _ _ _ G (.refl s) (cK (fm _ _ _)) h
 .let⟨v,rfl,b⟩:=gQ rs;let⟨a,xs,rfl,d,c⟩:=b;show .inl ⟨a,xs,rfl,.inr (s.pD d),?_⟩;rw[c.length];show k _ _ _ G (.refl s) (cK (fm _ _ _)) h
 .let⟨v,rfl,b⟩:=gQ rs;subst b;show .inr ⟨_,rfl,h.1,k _ _ _ G (.refl s) (cK (fm _ _ _)) h.2⟩
 show h.elim
def IP(i:Nat):TD:=λρ Q=>match gt ρ i with
 | .ow ds=>Q (.fz (.int ds.length))
 | _=>False
def JB(i)(g:X.mg "len"=none)(hN:X.N[i]?=some x:=by rfl)(hv:rB X.env.scope x:=by first | show Or.inl rfl | show Or.inr (Or.inl rfl) | show Or.inr (Or.inr rfl))(d:Gl X "len":=by rfl)(hd:(x==("__debug__":aa))=false:=by decide)
  (f:(x==("__classdict__":aa))=false:=by decide) (o:starEach [Expr.Name x b] X.env=(false,eval (.Name x b) X.env)::starEach [] X.env:=by rfl):PD X (.Call (.Name "len" p) [.Name x b] [] pos) (IP i):=by
 show⟨_,JU YN d g ig (pj (uH hN hv hd f) og o),λρ σ u t G H Q P E h k=>?_⟩;unfold IP at h;split at h
 .rename_i ds d;symm;let⟨a,xs,n,m,r,q,j⟩:=E.ow i ds d;show⟨_,n,a,xs,rfl,.inl (bU.of m),?_⟩;rw[j.length];show k _ _ _ G (.refl E.e.s) (cK (fm _ _ _)) h
 show h.elim
def uE:List D->Option (List Bool)
 | []=>some []
 | .bl b::r=>(uE r).map (b::·)
 | _=>none
theorem VM:∀{ds bs},uE ds\bs->ds=bs.map D.bl
 | [],bs,h=>by simp[uE] at h;subst h;rfl
 | .bl b::r,bs,h=>by
  simp![uE,mF] at h;let⟨c,a,rfl⟩:=h;rw[VM a];rfl
 | .non::r,bs,h=>by trivial
 | .int _::r,bs,h=>by trivial
 | .str _::r,bs,h=>by trivial
 | .tup _::r,bs,h=>by trivial
 | .lst _::r,bs,h=>by trivial
 | .obj _ _::r,bs,h=>by trivial
 | .dic _::r,bs,h=>by trivial
 | .dit _::r,bs,h=>by trivial
 | .exc _ _::r,bs,h=>by trivial
 | .idn _ _::r,bs,h=>by trivial
def znP(bs):uE (bs.map D.bl)\bs:=by
 induction bs with
 | nil=>rfl
 | cons b r a=>simp[uE,a]
theorem Uh{K:ar}:∀{bs:List Bool}{a},av K G a (bs.map D.bl)->a=bs.map V.bl
 | [],[],_=>rfl
 | b::bs,v::a,h=>by
  rw[h.1,Uh h.2];rfl
 | [],_::_,h=>by trivial
 | _::_,[],h=>by trivial
def zqA{bs:List Bool}(h:Vals (bs.map V.bl) us){i:Nat}(hv:us[i]?\v):∃b,bs[i]?\b/\v=.bool b:=by
 have hl:=h.length;have hi:i<us.length:=(cH.mp hv).1;have f:i<bs.length:=by cbv
 symm;let⟨u,d,e⟩:=h.get (i:=i) (x:=V.bl bs[i]) (by simp[f]);rw[hv] at d;cases d;show⟨bs[i],by show bO ‹_›,e⟩
theorem zsW{s:aj}{h':aB}(a:∀b x,b∉[*...*]->(s.heap.push o).get? b\x->h'.get? b\x):∀b x,s.heap.get? b\x->h'.get? b\x:=
 λb x e=>a b x (λhm=>by rw[fj.mp hm] at e;show pZ _ (bI e)) (bW _ e)
def zsX(bs:List Bool):((aV bs.length).all λi=>(bs[i]?).getD true)=bs.all id:=by
 rw[v8];simp![ud,eG,id];constructor
 .intro h b a;let⟨i,hi,rfl⟩:=List.mem_iff_getElem.mp a;simpa[hi] using h i hi
 intro h i hi;simpa[hi] using h _ (kC hi)
def znR(n:X.calm=true):fR X (.builtin "all") (λxs H Q=>∃(p:ag)(bs:List Bool),xs=[.ref p]/\bU X.K H p (bs.map V.bl)/\Q (.bl (bs.all id)) H):=by
 intro y s σ H xs us Q I r h;symm;let⟨p,bs,rfl,j,q⟩:=h;let⟨u,rfl,g⟩:=gy r;cases g;let⟨its,d,pl,hz⟩:=I.list j;have t:p< *...*:=by let⟨l,l,e,l⟩:=pl;show bI e
 have hl:its.length=bs.length:=by rw[<-d.length,aL]
 show call_all_walk (wx pl.isList ?_);show⟨*...*,[*...*,p],[*...*],its.toArray.size,_,_,λi=>(bs[i]?).getD true,rfl,Cv (A:=X.A.in1) (I.ok.hd n) _ p (cg t) its.toArray,
  ⟨⟨_,cV _ rfl,rfl,rfl⟩,pl.isList.push _⟩,λi v w x z o f=>?_,λh' tk m=>?_⟩
 .let⟨b,e,rfl⟩:=zqA d (i:=i) (v:=v) (by simpa using o);simp![e,uc] at f;show oU f
 rw[dh,hl,zsX];show⟨.bl _,H,I.kept (zsW m),rfl,q⟩
def Im:bg:=λds Q=>match ds with
 | [.lst a]=>match uE a with
  | some bs=>Q (.fz (.bl (bs.all id)))
  | none=>False
 | _=>False
def zwn(e:X.calm=true):j9 X (.builtin "all") Im:=by
 show⟨_,znR e,λG H g ds Q P s rs h k=>?_⟩;unfold Im at h;split at h
 .split at h
  .rename_i i bs f;let⟨v,rfl,d⟩:=gQ rs;let⟨a,xs,rfl,c,b⟩:=d;rw[VM f] at b;rw[Uh b] at c;show⟨a,bs,rfl,(s.cF c).sq,k _ _ _ G (.refl s) (cK (ip _ _ _)) h⟩
  show h.elim
 show h.elim
end
section
variable{e:ay}
def ot:D->String
 | .non=>"NoneType"
 | .bl _=>"bool"
 | .int _=>"int"
 | .str _=>"str"
 | .tup _=>"tuple"
 | .lst _=>"list"
 | .obj _ _=>"object"
 | .dic _=>"dict"
 | .dit _=>"dict"
 | .exc _ _=>"object"
 | .idn _ _=>"object"
end
section
variable{P:aG}{w:aF}{K:ar}{mg:aa->Option af}{base:aB}
structure Known(P:aG)(w:aF)(K:ar)(mg:aa->Option af)(base:aB)(k:Nat)(x:aa)(n:Nat)(t:bg):Prop where
 ex:∃(f:ag)(fd:gH)(ps:List aa),jU P w K mg base iw k f fd ps (vF K n t)/\mg x\.ref f/\nK K (.ref f)=true/\Binds K fd ps []
structure At(K:ar)(mg:aa->Option af)(x:aa)(st:bY):Prop where
 ex:∃(f:ag)(fd:gH),Gb K x x st f fd/\mg x=some (.ref f)
theorem abA{st:bY}{kV b pm d ct:af}(X:K.In h)(G:h.Ns mainGlobals mg)(a:y7 K mainGlobals x\some (.ref f))
  (l:K.lookup f\⟨g,e,.func (lJ x x (oJ st) (iu st) (de st) .none kV b pm j d ct),i⟩) (c:vY K d x=true) (k:nK K (.ref f)=true):At K mg x st:=
 ⟨f,_,Je l c k,Hb X G a⟩
end
def bC(C:Known X.prog X.w X.K X.mg X.base k x n t)(d:eF k' X.A)(m:iP X (e::es) ts)(g:k<=k':=by decide)(h:Gl X x:=by rfl)(b:(x==("__debug__":aa))=false:=by decide)
  (i:starEach (e::es) X.env=(false,eval e X.env)::starEach es X.env:=by rfl) (o:(backTo pos (starEach es X.env)).any (·.1)=false:=by rfl):PD X (.Call (.Name x p) (e::es) [] pos) (fS n t ts):=by
 symm;let⟨f,fd,ps,F,hm,kp,j⟩:=C.ex;show zsT F (d.mono g) hm kp j m h b i o
def Ug(a:aa->Option NameKind)(N N':List aa)(m:List (Option Nat))(scope:gG):Bool:=
 (scope.kind==.function)&&(m.length==N'.length)&&(scope.names.all λy=>scope.names.lookup y.1==some y.2) &&
 (scope.names.all λy=>y.2 != .free||a y.1==some .cell||a y.1==some .free) &&
 ((m.zip N').all λp=>match p.1 with
   | none=>true
   | some j=>N[j]?==some p.2&&scope.names.lookup p.2==some .free)
def iQ.of(h:Ug X.env.kindOf X.N N' m scope=true):iQ X N' m scope:=by
 unfold Ug at h;simp![mK,beq_iff_eq,ud,CP,bne_iff_ne,ne_eq] at h;obtain⟨⟨⟨⟨g,f⟩,d⟩,c⟩,b⟩:=h;show⟨g,f,λy a=>d y a,λy a e=>?_,λi j x hm hN=>?_⟩
 .rcases c y a with(z | z) | z
  .exact absurd e z
  .exact .inl z
  show .inr z
 have hz:(some j,x)∈m.zip N':=by
  apply cP (i:=i);rw[Ie];show⟨hm,hN⟩
 have:=b _ hz;simpa using this
def zmr{K:ar}{ns:List Int}(h:gv K G a (ns.map V.int)):Rep K G (.ref a) (.lst (ns.map D.int)):=by
 show⟨a,_,rfl,h,?_⟩;clear h;induction ns with
 | nil=>show av.nil
 | cons n r b=>show av.cons (fm _ _ _) b
def IM(n:Nat):bg:=λds Q=>∃ns:List Int,ds=[.lst (ns.map .int)]/\ns.length<=n/\Q (.fz (.bl true))
def aac{l:PySem.W.OpenLaw}{K:Params->ar}
  (I:l.most\n) (D:n<=sizeLine) (X:d.params.defaults=[]) (E:eF k callerA) (M:∀w h,A w h->(K w.params).In h)
  (F:∀w mg fa h,(K w.params).In h->h.Ns mainGlobals mg->mg d.name\.ref fa->
   ∃fd:gH,(∀s u,BindsTo s fd ⟨[u],[]⟩ [(x,u)])/\∀base:aB,jU l.prog w (K w.params) mg base iw k fa fd [x] (vF (K w.params) 1 (IM n))) :
  PySem.W.WalkO q i U A l.row.toRowW d [] (λf j=>OI f j):=by
 show Y0.aby I X λw gm bZ mg mb fa o pm cd doc a j ns G Y ho hd iL rf B hints hlen J=>?_
 have KX:=M w _ Y;symm;let⟨fd,L,O⟩:=F w mg fa _ KX G.T.g rf;show zqd KX G.T.g G.T.b G.T.builtins G.T.nolimit J B hints (bX hlen D) E (λbase _ _=>O base) L (λH hO p=>?_) λH e Z z=>z
 have N:gv (K w.params) H a (ns.map V.int):=by
  symm;rcases p with p | ⟨o,its,m,y,h2,h3,R,Q,P⟩
  .exact .inl p
  have e:=KX a o y;rw[B] at e;cases e;have t:Cs j.toArray _=Cs its m:=R;injection t with S e2
  subst S;show .inr ⟨_,_,y,Q,P⟩
 show⟨H,[.lst (ns.map .int)],λr=>r=.fz (.bl true),aZ.refl _,av.cons (zmr N) av.nil,rfl,⟨ns,rfl,hlen,rfl⟩,λv H' r G' _ C e=>?_⟩;subst e;simpa only[dY,Rep] using C
def zuY{K:ar}{st:bY}{T:aB->TX}(h:At K mg "law" st)(rf:mg "law"=some (.ref fa))(S:nF N [x] (de st))
  (g:∀kV doc pm an b ct us,us.length=1->bindArgs (lJ "law" "law" (oJ st) (iu st) (de st) .none kV doc pm an b ct) ⟨us,[]⟩=pure ([x].zip us))
  (body:∀base f b A outer s H E,eF k (A.deeper (envOfC "law" (de st) *...* f b))->hJ (kP iw P w K mg base N "law" (de st) f b A outer s H E).nc (iu st) (T base))
  (d:∀base ds e,ds.length=1->t ds e->T base { nx:=λ_=>e (.fz .non),rt:=e } (pf N ds)) :
  ∃fd:gH,(∀s u,BindsTo s fd ⟨[u],[]⟩ [(x,u)])/\∀base:aB,jU P w K mg base iw (k+1) fa fd [x] (vF K 1 t):=by
 symm;let⟨f,fd,F,hm⟩:=h.ex;rw[rf] at hm;cases hm;show⟨fd,λs u=>?_,λbase=>Jn F S (body base fa) (d base)⟩;symm;let⟨j,i,kV,doc,pm,an,b,ct,m,rfl,lk,n⟩:=F.ex;show .of_eq (g kV doc pm an b ct [u] rfl)
def RM(i:Nat)(t:TX):TX:=λD ρ=>t D (fP i ρ)
theorem sA(d):(R.fz d).val=d:=rfl
theorem zZ(ds):(R.ow ds).val=.lst ds:=rfl
theorem zwo(d):(R.fz d).sl=.fz d:=rfl
theorem zwp(ds):(R.ow ds).sl=.ow ds:=rfl
def JA{c:Type}(L:List c)(j f)(hw:∀n:List D->Prop,n (L.map j)->k ρ n)(s:L.length<=sizeLine)
  (h:∀x∈L,∀(o:D->Prop) p,(∀e,f x\e->o e)->(f x=none->p)->g (j x) (cR m ρ) λl=>tc l λb=>if b=true then te l λr=>o r.val else p)
  (q:Q (.ow (L.filterMap f))):jB k m g tc te ρ Q:=by
 show hw _ ⟨λi acc=>acc=(L.take i).filterMap f,rfl,λi d acc hd a=>?_,λacc a=>?_⟩
 .rw[cx] at hd;cases hx:L[i]? with
  | none=>rw[hx] at hd;cases hd
  | some x=>
   rw[hx] at hd;cases hd;have e:L.take (i+1)=L.take i++[x]:=by rw[fB,hx];rfl
   have hlen:acc.length<sizeLine:=by
    rw[a];show nQ (HY _ _) ?_;grind
   show h x (cP hx) (λe=>acc.length<sizeLine/\acc++[e]=(L.take (i+1)).filterMap f) (acc=(L.take (i+1)).filterMap f)
    (λz hz=>⟨hlen,by rw[e,QM,a];simp[hz]⟩) (λhz=>by rw[e,QM,a];simp[hz])
 rw[aL,f6] at a;rw[a];show q
def g4{d:Type}(L:List d)(c f)(hw:∀j:List D->Prop,j (L.map c)->i ρ j)(k:L.length<=sizeLine)
  (h:∀x∈L,∀(b:D->Prop),b (f x)->g (c x) (cR m ρ) λn=>te n λr=>b r.val) (q:Q (.ow (L.map f))):jB i m g qp te ρ Q:=by
 show JA L c (λx=>some (f x)) hw k (λx hx b p l _=>?_) ?_
 .have:=h x hx b (l _ rfl);trivial
 have e:L.filterMap (λx=>some (f x))=L.map f:=by
  induction L with
  | nil=>rfl
  | cons a r o=>simp
 rw[e];show q
def lW{j:Type}(L:List j)(i f p)(hw:∀o:List D->Prop,o (L.map i)->k ρ o)(l:L.length<=sizeLine)
  (h:∀x∈L,∀(c:D->Prop) d,(p x=true->c (f x))->(p x=false->d)->g (i x) (cR m ρ) λn=>tc n λb=>if b=true then te n λr=>c r.val else d)
  (q:Q (.ow ((L.filter p).map f))):jB k m g tc te ρ Q:=by
 show JA L i (λx=>if p x=true then some (f x) else none) hw l (λx hx c d t h0=>h x hx c d (λz=>t _ (by show if_pos ‹_›)) (λz=>h0 (by simp[z]))) ?_;have e:L.filterMap (λx=>if p x=true then some (f x) else none)=(L.filter p).map f:=by
  clear h l hw q;induction L with
  | nil=>rfl
  | cons a r s=>by_cases z:p a=true<;>simp[z,s]
 rw[e];show q
theorem UA{D:DE}(ds)(hw:∀e:List L2.D->Prop,e ds->b ρ e)(a:Nat->Ev->Prop)(f:a 0 ρ)
  (turn:∀i d ρ',ds[i]?\d->a i ρ'->g d ρ' λh=>c { D with nx:=a (i+1),ct:=a (i+1),bk:=D.nx } h) (fin:∀ρ',a ds.length ρ'->D.nx ρ'):nX b g c D ρ:=hw _ ⟨a,f,turn,fin⟩
def kU{c:Type}{D:DE}(L:List c)(b)(hw:∀h:List L2.D->Prop,h (L.map b)->e ρ h)(a:Nat->Ev->Prop)(j:a 0 ρ)
  (turn:∀i x ρ',L[i]?\x->a i ρ'->g (b x) ρ' λk=>f { D with nx:=a (i+1),ct:=a (i+1),bk:=D.nx } k) (fin:∀ρ',a L.length ρ'->D.nx ρ'):nX e g f D ρ:=by
 show UA (L.map b) hw a j (λi d ρ' hd iv=>?_) (λρ' iv=>fin ρ' (by simpa using iv));rw[cx] at hd;cases hx:L[i]? with
 | none=>rw[hx] at hd;cases hd
 | some x=>rw[hx] at hd;cases hd;show turn i x ρ' hx iv
def qL{D:DE}(n)(hw:∀d:List L2.D->Prop,d ((aV n).map λ(i:Nat)=>.int (0+i))->b ρ d)(a:Nat->Ev->Prop)(k:a 0 ρ)
  (turn:∀i ρ',i<n->a i ρ'->g (.int i) ρ' λl=>c { D with nx:=a (i+1),ct:=a (i+1),bk:=D.nx } l) (fin:∀ρ',a n ρ'->D.nx ρ'):nX b g c D ρ:=by
 show kU (aV n) (λ(i:Nat)=>.int (0+i)) hw a k (λi x ρ' hx iv=>?_) (λρ' iv=>fin ρ' (by simpa using iv));let⟨j,h⟩:=cH.mp hx;have f:i<n:=by simpa using j
 have e:x=i:=by rw[<-h];simp
 subst e;rw[t4];show turn x ρ' f iv
def p24:(10:Int) ^ OC 24=1000000000000000000000000:=by cbv
def p30:(10:Int) ^ OC 30=1000000000000000000000000000000:=by cbv
def zuZ:wX 10 24=True:=by simp![wX,eq_iff_iff,iff_true];decide
def zu0:wX 10 30=True:=by simp![wX,eq_iff_iff,iff_true];decide
def zqB:100000<=sizeLine:=by decide
section
variable{X:Cx}{pos:aN}{e:ay}{te:TD}{es:List ay}{ts:eZ}
def RL(t:TD):TD:=λρ Q=>t ρ λr=>match r.val with
 | .int i=>Q (.fz (.int (-i)))
 | _=>False
def zY(h:PD X e te):PD X (.UnaryOp .USub e pos) (RL te):=by
 let⟨t,p,q⟩:=h;show⟨_,zv6 zuA p,λρ σ l g G H Q P E h k=>q ρ σ l g G H _ _ E h λv H' r m x d a=>?_⟩;obtain⟨j,c,b,_⟩:=d.freeze x;split at a
 .rename_i i f;rw[f] at b;show⟨i,b,k _ _ _ j c (cK (fm _ _ _)) a⟩
 show a.elim
def jb:bg:=λds Q=>match ds with
 | [.lst es]=>Q (.ow es)
 | [.tup es]=>Q (.ow es)
 | _=>False
def lS:j9 X (.type "list") jb:=by
 show⟨_,zjt,λG H e ds Q P s rs h k=>?_⟩;unfold jb at h;split at h
 .let⟨v,rfl,b⟩:=gQ rs;let⟨a,xs,rfl,d,c⟩:=b;show⟨a,xs,rfl,.inl (s.cF d).sq,sC s c h k⟩
 .let⟨v,rfl,b⟩:=gQ rs;let⟨a,xs,rfl,d,c⟩:=b;show⟨a,xs,rfl,.inr (s.pD d),sC s c h k⟩
 show h.elim
def Il:bg:=λds Q=>match ds with
 | [.int i]=>Q (.fz (.int i))
 | [.bl b]=>Q (.fz (.int (if b then 1 else 0)))
 | _=>False
def zwr:j9 X (.type "int") Il:=by
 show⟨_,zni,λG H b ds Q P s rs h k=>?_⟩;unfold Il at h;split at h
 .let⟨v,rfl,a⟩:=gQ rs;subst a;show .inl ⟨_,rfl,k _ _ _ G (.refl s) (cK (fm _ _ _)) h⟩
 .let⟨v,rfl,a⟩:=gQ rs;subst a;show .inr ⟨_,rfl,k _ _ _ G (.refl s) (cK (fm _ _ _)) h⟩
 show h.elim
def kS:List D->Option (List Int)
 | []=>some []
 | .int b::r=>(kS r).map (b::·)
 | _=>none
theorem sN:∀{ds bs},kS ds\bs->ds=bs.map D.int
 | [],bs,h=>by simp[kS] at h;subst h;rfl
 | .int b::r,bs,h=>by
  simp![kS,mF] at h;let⟨c,a,rfl⟩:=h;rw[sN a];rfl
 | .non::r,bs,h=>by trivial
 | .bl _::r,bs,h=>by trivial
 | .str _::r,bs,h=>by trivial
 | .tup _::r,bs,h=>by trivial
 | .lst _::r,bs,h=>by trivial
 | .obj _ _::r,bs,h=>by trivial
 | .dic _::r,bs,h=>by trivial
 | .dit _::r,bs,h=>by trivial
 | .exc _ _::r,bs,h=>by trivial
 | .idn _ _::r,bs,h=>by trivial
def sM(bs):kS (bs.map D.int)\bs:=by
 induction bs with
 | nil=>rfl
 | cons b r a=>simp[kS,a]
theorem sI{K:ar}:∀{bs:List Int}{a},av K G a (bs.map D.int)->a=bs.map V.int
 | [],[],_=>rfl
 | b::bs,v::a,h=>by
  rw[h.1,sI h.2];rfl
 | [],_::_,h=>by trivial
 | _::_,[],h=>by trivial
def K9(hi:IntsAre a ns):∃xs:Array (Int×Tok),a.toArray=intItems xs/\ns=xs.toList.map (·.1):=by
 let⟨xs,e⟩:=hi.allInts.items;show⟨xs,e,by rw[<-hi.numsOf,<-nums_intItems,<-e]⟩
def znT(j:X.calm=true):fR X (.builtin "sum") (λxs H Q=>∃(p:ag)(ns:List Int),xs=[.ref p]/\bU X.K H p (ns.map V.int)/\Q (.int ns.sum) H):=by
 intro n s σ H xs us Q I r h;symm;let⟨p,ns,rfl,g,q⟩:=h;let⟨u,rfl,d⟩:=gy r;cases d;symm;let⟨its,b,pl,hz⟩:=I.list g;let⟨ys,e,f⟩:=K9 (qM b);have hl:=pl.isList;rw[e] at hl;show sum_intListG (I.ok.hd j) hl λh' tk t' i=>?_
 have m:preSum (numAt ys) ys.size=ns.sum:=by
  rw[preSum_eq,mG ∅,f]
 rw[m];show⟨.int _,H,I.kept i,⟨_,rfl⟩,q⟩
def znU(o:X.calm=true):fR X (.builtin "min") (λxs H Q=>∃(p:ag)(ns:List Int),xs=[.ref p]/\bU X.K H p (ns.map V.int)/\ns≠[]/\∀M,M∈ns->(∀a∈ns,M<=a)->Q (.int M) H):=by
 intro z s σ H xs us Q I r h;symm;let⟨p,ns,rfl,i,y,q⟩:=h;let⟨u,rfl,g⟩:=gy r;cases g;symm;let⟨its,f,pl,hz⟩:=I.list i;let⟨ys,e,b⟩:=K9 (qM f);have hl:=pl.isList;rw[e] at hl;have hsz:0<ys.size:=by
  grind
 show min_intList (I.ok.hd o) hl hsz λv h' tk hv m=>?_
 symm;let⟨t,rfl⟩:=intItems_at hv;let⟨x,w⟩:=argBest_lt (numAt ys) (ys.size-1);show⟨.int _,H,I.kept m,⟨_,rfl⟩,q _ ?_ λa d=>?_⟩
 .rw[b,Cr];show getD_mem (by rw[aL,di];ext)
 rw[b] at d;let⟨j,n,rfl⟩:=Gs d;rw[aL,di] at n;rw[<-Cr];show w j (by lia)
def znV(o:X.calm=true):fR X (.builtin "max") (λxs H Q=>∃(p:ag)(ns:List Int),xs=[.ref p]/\bU X.K H p (ns.map V.int)/\ns≠[]/\∀M,M∈ns->(∀a∈ns,a<=M)->Q (.int M) H):=by
 intro z s σ H xs us Q I r h;symm;let⟨p,ns,rfl,i,y,q⟩:=h;let⟨u,rfl,g⟩:=gy r;cases g;symm;let⟨its,f,pl,hz⟩:=I.list i;let⟨ys,e,b⟩:=K9 (qM f);have hl:=pl.isList;rw[e] at hl;have hsz:0<ys.size:=by
  grind
 show max_intList (I.ok.hd o) hl hsz λv h' tk hv m=>?_
 symm;let⟨t,rfl⟩:=intItems_at hv;let⟨x,w⟩:=argBest_gt (numAt ys) (ys.size-1);show⟨.int _,H,I.kept m,⟨_,rfl⟩,q _ ?_ λa d=>?_⟩
 .rw[b,Cr];show getD_mem (by rw[aL,di];ext)
 rw[b] at d;let⟨j,n,rfl⟩:=Gs d;rw[aL,di] at n;rw[<-Cr];show w j (by lia)
def DG:bg:=λds Q=>match ds with
 | [.lst es]=>match kS es with
  | some ns=>Q (.fz (.int ns.sum))
  | none=>False
 | _=>False
def zS(e:X.calm=true):j9 X (.builtin "sum") DG:=by
 show⟨_,znT e,λG H g ds Q P s rs h k=>?_⟩;unfold DG at h;split at h
 .split at h
  .rename_i es bs f;let⟨v,rfl,d⟩:=gQ rs;let⟨a,xs,rfl,c,b⟩:=d;rw[sN f] at b;rw[sI b] at c;show⟨a,bs,rfl,(s.cF c).sq,k _ _ _ G (.refl s) (cK (fm _ _ _)) h⟩
  show h.elim
 show h.elim
def zG:bg:=λds Q=>match ds with
 | [.lst es]=>match kS es with
  | some ns=>ns≠[]/\∀M,M∈ns->(∀a∈ns,M<=a)->Q (.fz (.int M))
  | none=>False
 | [.int i,.int j]=>Q (.fz (.int (if j<i then j else i)))
 | _=>False
def DF:bg:=λds Q=>match ds with
 | [.lst es]=>match kS es with
  | some ns=>ns≠[]/\∀M,M∈ns->(∀a∈ns,a<=M)->Q (.fz (.int M))
  | none=>False
 | [.int i,.int j]=>Q (.fz (.int (if j>i then j else i)))
 | _=>False
def IL(c:X.calm=true):j9 X (.builtin "min") zG:=by
 show⟨_,(znU c).or (znh c),λG H l ds Q P s rs h k=>?_⟩;unfold zG at h;split at h
 .split at h
  .rename_i es bs g;let⟨v,rfl,b⟩:=gQ rs;let⟨a,xs,rfl,e,d⟩:=b;rw[sN g] at d;rw[sI d] at e;show .inl ⟨a,bs,rfl,(s.cF e).sq,h.1,λM j i=>k _ _ _ G (.refl s) (cK (fm _ _ _)) (h.2 M j i)⟩
  show h.elim
 .let⟨v,u,rfl,b,f⟩:=DK rs;subst b f;show .inr ⟨_,_,rfl,k _ _ _ G (.refl s) (cK (fm _ _ _)) h⟩
 show h.elim
def IU(c:X.calm=true):j9 X (.builtin "max") DF:=by
 show⟨_,(znV c).or (zng c),λG H l ds Q P s rs h k=>?_⟩;unfold DF at h;split at h
 .split at h
  .rename_i es bs g;let⟨v,rfl,b⟩:=gQ rs;let⟨a,xs,rfl,e,d⟩:=b;rw[sN g] at d;rw[sI d] at e;show .inl ⟨a,bs,rfl,(s.cF e).sq,h.1,λM j i=>k _ _ _ G (.refl s) (cK (fm _ _ _)) (h.2 M j i)⟩
  show h.elim
 .let⟨v,u,rfl,b,f⟩:=DK rs;subst b f;show .inr ⟨_,_,rfl,k _ _ _ G (.refl s) (cK (fm _ _ _)) h⟩
 show h.elim
def sv:List D->Option (List aa)
 | []=>some []
 | .str b::r=>(sv r).map (b::·)
 | _=>none
theorem K8:∀{ds bs},sv ds\bs->ds=bs.map D.str
 | [],bs,h=>by simp[sv] at h;subst h;rfl
 | .str b::r,bs,h=>by
  simp![sv,mF] at h;let⟨c,a,rfl⟩:=h;rw[K8 a];rfl
 | .non::r,bs,h=>by trivial
 | .bl _::r,bs,h=>by trivial
 | .int _::r,bs,h=>by trivial
 | .tup _::r,bs,h=>by trivial
 | .lst _::r,bs,h=>by trivial
 | .obj _ _::r,bs,h=>by trivial
 | .dic _::r,bs,h=>by trivial
 | .dit _::r,bs,h=>by trivial
 | .exc _ _::r,bs,h=>by trivial
 | .idn _ _::r,bs,h=>by trivial
def EJ(bs):sv (bs.map D.str)\bs:=by
 induction bs with
 | nil=>rfl
 | cons b r a=>simp[sv,a]
theorem JO{K:ar}:∀{bs:List aa}{a},av K G a (bs.map D.str)->a=bs.map V.str
 | [],[],_=>rfl
 | b::bs,v::a,h=>by
  rw[h.1,JO h.2];rfl
 | [],_::_,h=>by trivial
 | _::_,[],h=>by trivial
def VL{K:ar}(bs:List aa):av K G (bs.map V.str) (bs.map D.str):=by
 induction bs with
 | nil=>show av.nil
 | cons b r a=>show av.cons (xg _ _ _) a
def V4:∀{us},Vals (c.map V.str) us->StrsAre us c:=by
 induction c with
 | nil=>
  intro us h;cases h;show .nil
 | cons n r d=>
  intro us h;cases h with
  | cons a b=>
   let⟨t,rfl⟩:=a;show .cons _ _ (d b)
theorem Ki:∀{a ss},StrsAre a ss->Vals (ss.map V.str) a
 | _,_,.nil=>.nil
 | _,_,.cons _ _ h=>.cons ⟨_,rfl⟩ (Ki h)
def abw:fR X (.builtin "sorted") (λxs H Q=>∃p ss,xs=[.ref p]/\bU X.K H p (ss.map V.str)/\ss.length<64/\∀d:List aa,d.Perm ss->sortedS d=true->∀l,H l=none->Q (.ref l) (upd H l (.lst (d.map V.str)))):=by
 intro t s σ H xs us Q I r h;symm;let⟨p,ss,rfl,i,n,q⟩:=h;let⟨u,rfl,g⟩:=gy r;cases g;symm;let⟨its,f,pl,hz⟩:=I.list i;have hl:its.length=ss.length:=by rw[<-f.length,aL]
 show sorted_strs pl.isList (V4 f) (by cbv) λout d a1 a2 m=>?_
 symm;let⟨j,he⟩:=GR s.heap its out;have hf:H (*...*+1)=none:=I.aX.fresh (iC _);show⟨.ref (*...*+1),_,I.laid (a:=*...*+1) (o:=.lst (d.map V.str)) (t':=s.toks) (λb o e=>Ha e) (iC _) ?_,rfl,q d a2 m _ hf⟩;show⟨by rw[aL,a2.length_eq];cbv,out.toList,j,Ki a1,?_⟩;show he
def zms:fR X (.builtin "sorted") (λxs H Q=>∃p ns,xs=[.ref p]/\bU X.K H p (ns.map V.int)/\ns.length<64/\∀d:List Int,d.Perm ns->d.Pairwise (·<=·)->∀l,H l=none->Q (.ref l) (upd H l (.lst (d.map V.int)))):=by
 intro v s σ H xs us Q I r h;symm;let⟨p,ss,rfl,j,t,q⟩:=h;let⟨u,rfl,i⟩:=gy r;cases i;symm;let⟨its,f,pl,hz⟩:=I.list j;have hl:its.length=ss.length:=by rw[<-f.length,aL]
 show sorted_ints pl.isList (qM f) (by cbv) λout g a1 a2 n=>?_
 symm;let⟨m,he⟩:=GR s.heap its out;have hf:H (*...*+1)=none:=I.aX.fresh (iC _);show⟨.ref (*...*+1),_,I.laid (a:=*...*+1) (o:=.lst (g.map V.int)) (t':=s.toks) (λb o e=>Ha e) (iC _) ?_,rfl,q g a2 n _ hf⟩;show⟨by rw[aL,a2.length_eq];cbv,out.toList,m,Kk a1,?_⟩;show he
def z6:bg:=λds Q=>match ds with
 | [.lst es]=>match sv es with
  | some ss=>ss.length<64/\∀b:List aa,b.Perm ss->sortedS b=true->Q (.ow (b.map D.str))
  | none=>match kS es with
   | some ns=>ns.length<64/\∀a:List Int,a.Perm ns->a.Pairwise (·<=·)->Q (.ow (a.map D.int))
   | none=>False
 | _=>False
def VJ{K:ar}(bs:List Int):av K G (bs.map V.int) (bs.map D.int):=by
 induction bs with
 | nil=>show av.nil
 | cons b r a=>show av.cons (fm _ _ _) a
def Uz(_:X.calm=true):j9 X (.builtin "sorted") z6:=by
 show⟨_,abw.or zms,λG H j ds Q P s rs h k=>?_⟩;unfold z6 at h;split at h
 .split at h
  .rename_i es bs i;let⟨v,rfl,e⟩:=gQ rs;let⟨a,xs,rfl,c,b⟩:=e;rw[K8 i] at b;rw[JO b] at c;show .inl ⟨a,bs,rfl,(s.cF c).sq,h.1,λd g f=>sC s (VL d) (h.2 d g f) k⟩
  split at h
  .rename_i es _ bs i;let⟨v,rfl,e⟩:=gQ rs;let⟨a,xs,rfl,c,b⟩:=e;rw[sN i] at b;rw[sI b] at c;show .inr ⟨a,bs,rfl,(s.cF c).sq,h.1,λd g f=>sC s (VJ d) (h.2 d g f) k⟩
  show h.elim
 show h.elim
def YV(X:Cx)(e:String)(o:D->List D->(R->Prop)->Prop):Prop:=∃r,Og X e r/\∀G H x d a ds Q P,aZ G H->Rep X.K G x d->av X.K G a ds->o d ds Q->
 (∀v H' b c,Ext G H c H'->dY X.K c H' H v b->Q b->P v H')->r x a H P
def dM(T:String)(o:D->List D->(R->Prop)->Prop)(te:TD)(ts:eZ):TD:=λρ Q=>te ρ λr=>ot r.val=T/\ts ρ λds=>o r.val ds Q
def zs1{K:ar}(s:aZ G H)(r:Rep K G x d)(h:ot d=T)(b:T="list"\/T="str"):Ba K T x H:=by
 cases d with
 | str z=>subst r;show h.symm
 | lst ds=>
  let⟨a,xs,rfl,c,y⟩:=r;show .inl ⟨h.symm,xs,(s.cF c).sq⟩
 | non=>subst h;rcases b with h | h<;>simp[ot] at h
 | bl=>subst h;rcases b with h | h<;>simp[ot] at h
 | int=>subst h;rcases b with h | h<;>simp[ot] at h
 | tup=>subst h;rcases b with h | h<;>simp[ot] at h
 | obj=>subst h;rcases b with h | h<;>simp[ot] at h
 | dic=>subst h;rcases b with h | h<;>simp[ot] at h
 | dit=>subst h;rcases b with h | h<;>simp[ot] at h
 | exc=>subst h;rcases b with h | h<;>simp[ot] at h
 | idn=>subst h;rcases b with h | h<;>simp[ot] at h
def zs2(S:YV X j o)(W:T="list"\/T="str")(J:PlainAttrs T)(slot:Slot T name j)(BC:typeOf (.builtin j)=pure (.type "method_descriptor"))
  (U:PD X e te) (V:iP X (b::es) ts) (BX:attributeBase e name X.env (eval e X.env)=eval e X.env:=by rfl)
  (MU:((backTo pos (starEach (b::es) X.env)).all (λx=>!x.1)&&(backToKw pos (keywordEach [] X.env)).all (λx=>x.1.isSome)
   && decide ((b::es).length+([]:List Keyword).length+(if ([]:List Keyword).isEmpty then 0 else 1)<30))=true:=by rfl)
  (BM:(n.endLine==pos.line)=true:=by rfl) (N:starEach (b::es) X.env=(false,eval b X.env)::starEach es X.env:=by rfl) (Z:(backTo pos (starEach es X.env)).any (·.1)=false:=by rfl) :
  PD X (.Call (.Attribute e name n) (b::es) [] pos) (dM T o te ts):=by
 symm;let⟨r,O,M⟩:=S;let⟨t1,L,I⟩:=U;let⟨t2,K,F⟩:=V;show⟨_,uB J slot BC O L K BX MU BM N Z,λρ σ t q G H Q P E h k=>I ρ σ t q G H _ _ E h λv H' B G' x z p=>?_⟩;symm;let⟨G2,f,m,l⟩:=z.freeze x;show⟨zs1 f.s m p.1 W,F ρ σ t q G2 H' _ _ (E.ext f) p.2 λy H3 ds G3 d rs Y=>?_⟩;show M G3 H3 v B.val y ds Q P d.s (m.mono d.g) rs Y λw H4 A G4 u i C=>k w H4 A G4 ((f.trans d).trans u) (i.m8 (f.trans d).h) C
def nV(d:D)(ds:List D):Nat:=ds.countP λe=>bS e d
def Jg:D->List D->(R->Prop)->Prop:=λd ds Q=>match d,ds with
 | .lst es,[x]=>bH 8 x/\(∀e∈es,bH 8 e)/\Q (.fz (.int (nV x es)))
 | _,_=>False
theorem Ue{c:St}(I:Inv X f c H s):∀{es b us},(∀e∈es,bH 8 e)->Vals b us->av X.K H b es->us.countP (i5 X H d)=nV d es
 | [],_,_,_,a,re=>by
  cases a
  .rfl
  simp![av] at re
 | e::es,_,_,h,a,re=>by
  cases a with
  | nil=>simp![av] at re
  | cons r t=>
   unfold nV;rw[we,we,Jk I (h e (by show .head _)) r re.1,Ue I (λx hx=>h x (by show .tail _ ‹_›)) t re.2];rfl
def zs3(D:X.A.units+64<cLine):YV X "list.count" Jg:=by
 show⟨λx f H Q=>∃p d es ws y,x=.ref p/\f=[y]/\bU X.K H p ws/\bH 8 d/\(∀e∈es,bH 8 e)/\Rep X.K H y d/\av X.K H ws es/\Q (.int (nV d es)) H,λJ s σ H x xs v us Q I b rs h=>?_,λG H x d f ds Q P s b rs h k=>?_⟩
 .symm;let⟨p,d,es,ws,y,rfl,rfl,w,hd,he,t,re,q⟩:=h;cases b;symm;let⟨u,rfl,r⟩:=gy rs;let⟨its,g,pl,hz⟩:=I.list w;obtain⟨⟨cls,C,data,sl⟩,n,i,j,E,m⟩:=id pl;simp only at j m;subst j m;show tX QY ⟨_,i,rfl⟩ PySem.F.entry_list_count (PySem.F.args_list_count_2 _ _) (SeqAt.list_countAt p its.toArray n C sl u (i5 X H d)) ⟨i,Af (A:=X.A.in1) I hd (by show X.A.units+1+8<cLine;lia) t r he g re,?_⟩;rw[Ue I he g re];show⟨.int _,H,I.tok _,⟨_,rfl⟩,q⟩
 unfold Jg at h;split at h
 .symm;let⟨y,rfl,o⟩:=gQ rs;let⟨a,xs,rfl,B,z⟩:=b;show⟨a,_,_,xs,y,rfl,rfl,(s.cF B).sq,h.1,h.2.1,o.mono s,z.mono s,k _ _ _ G (.refl s) (cK (fm _ _ _)) h.2.2⟩
 show h.elim
end
theorem V3(k:l≠a):
  ∀n i s Q,s.heap.IsListIter a l i->s.heap.IsList l items->i+n<=items.size->
   (∀h':aB,h'.IsListIter a l (i+n)->j4 a s.heap h'->Q ((items.toList.drop i).take n) { s with heap:=h' })->↥(draw (.ref a) n) Q E s
 | 0,i,s,Q,st,f,r,q=>by
  show aE (by have:=q s.heap st ⟨rfl,λ_ _=>rfl⟩;simpa using this)
 | n+1,i,s,Q,st,f,r,q=>by
  have hi:i<items.size:=by lia
  show aq (QU st f (x:=items[i]) (by simp[hi]) λj m d=>?_);have p:j.IsList l items:=by
   let⟨o,e,c⟩:=f;show⟨o,(d.2 l k).trans e,c⟩
  show aq (fZ (V3 k n (i+1) { s with heap:=j } _ m p (by lia) λt u g=>aE ?_));have:=q t (by rw[show i+(n+1)=i+1+n by lia];show u) ⟨g.1.trans d.1,λb h=>(g.2 b h).trans (d.2 b h)⟩;have e:(items.toList.drop i).take (n+1)=items[i]::(items.toList.drop (i+1)).take n:=by
   rw[pY (by simpa using hi)];rfl
  rw[e] at this;show this
def ze0(hd:A.handled=none)(a:s.heap.IsList l items)
  (q:∀h':aB,yZ *...* s.heap h'->Q items.toList { s with heap:=h' }):↥(unpackItems (.ref l) items.size none) Q E s:=by
 have h:l< *...*:=by let⟨o,e,z⟩:=a;show bI e
 have ty:s.TypeIs (.ref l) "list":=by let⟨o,e,c,z⟩:=a;show⟨o,e,c⟩
 show aq ?_;show aq (Hq ty F.slot_list_iter.lookup ?_);show aE ?_;show aq (fZ (wx a ?_));have f:(s.heap.push { cls:=j3 "list_iterator",data:=ON #[fM l,tW 0 0] }).IsList l items:=by
  let⟨o,e,c⟩:=a;show⟨o,bW _ e,c⟩
 show aq (fZ (V3 (cg h) items.size 0 _ _ ⟨_,cV _ rfl,rfl,rfl⟩ f (by cbv) λk n d=>?_));have i:k.IsList l items:=by
  let⟨o,e,c⟩:=f;show⟨o,(d.2 l (cg h)).trans e,c⟩
 have el:List.take items.size (Ct 0 items.toList)=items.toList:=by rw[Hj,show items.size=items.toList.length by simp,f6]
 rw[el,if_neg ∅];show aq (fZ (QN hd n i ∅ λj m=>?_));show aE (q j λb o g e=>m b o g ?_);rw[d.2 b g];show bW _ e
def Z2(K:ar)(n:Nat)(t:rC):TG:=λv σ H Q=>∃a xs,v=.ref a/\bU K H a xs/\xs.length=n/\t xs σ H Q
def zs4(m:X.calm=true)(h:yh X d t)
  (j:(assignEach d X.env).length=n:=by rfl) (q:(assignEach d X.env).findIdx? (·.1)=none:=by rfl):PG X (.Tuple d k pos) (Z2 X.K n t):=by
 intro g s σ H v u Q I r hw;symm;let⟨a,xs,p,i,hl,hw⟩:=hw;subst p;cases r;symm;let⟨its,f,pl,hz⟩:=I.list i;show aq (za ?_);unfold unpack;have hlen:(assignEach d X.env).length=its.toArray.size:=by rw[j,<-hl,f.length];rfl
 rw[hlen,q];show aq (fZ (ze0 (I.ok.hd m) pl.isList λh' hx=>?_));have w:Inv X g σ H { s with heap:=h' }:=I.kept (t':=s.toks) λb o e=>hx b o (cg (bI e)) e
 show h g _ σ H xs _ Q w (by simpa using f) hw
def Ik(n:Nat)(t:lM):du:=λd ρ Q=>match d with
 | .lst ds=>ds.length=n/\t ds ρ Q
 | _=>False
def zs5(j:X.calm=true)(h:zD X b t)(i:(assignEach b X.env).length=n:=by rfl)(l:(assignEach b X.env).findIdx? (·.1)=none:=by rfl):nE X (.Tuple b k pos) (Ik n t):=by
 let⟨t1,f,c⟩:=h;show⟨_,zs4 j f i l,λρ σ o m G H d v Q P E r h k=>?_⟩;unfold Ik at h;split at h
 .let⟨a,xs,rfl,g,rs⟩:=r;show⟨a,xs,rfl,(E.e.s.cF g).sq,by rw[rs.length];show h.1,c ρ σ o m G H _ xs Q P E rs h.2 k⟩
 show h.elim
def zqC{k:Int}:∀a,a∈step_dedup acc k↔a∈acc\/a=k:=by
 intro a;unfold step_dedup;split
 .rename_i h;constructor
  .exact .inl
  rintro(h' | rfl)
  .exact h'
  simpa using h
 simp
def zmt{k:Int}(h:acc.Nodup):(step_dedup acc k).Nodup:=by
 unfold step_dedup;split
 .exact h
 rename_i c;rw[kH];show⟨h,by show fE _ _,λa e b d=>?_⟩;have:b=k:=by simpa using d
 subst this;rintro rfl;show c (by simpa using e)
def zmu(l acc:List Int)(h:acc.Nodup):(l.foldl step_dedup acc).Nodup/\∀a,a∈l.foldl step_dedup acc↔a∈acc\/a∈l:=by
 induction l generalizing acc with
 | nil=>show⟨h,λa=>by simp⟩
 | cons k r b=>
  let⟨d,c⟩:=b (step_dedup acc k) (zmt h);show⟨d,λa=>?_⟩;rw[lK,c a,zqC a,bM,or_assoc]
def zit(ns:List Int):firstMet (λi=>ns.getD i 0) ns.length=ns.foldl step_dedup []:=by
 unfold firstMet;congr 1
 apply qh
 .simp
 intro i b a;simp[List.getD,a]
section
variable{X:Cx}{e:ay}{te:TD}{es:List ay}
def Jl(ns:List Int):List Int:=ns.foldl step_dedup []
def zn1(m:X.calm=true):fR X (.type "set") (λxs H Q=>∃(p:ag)(ns:List Int),xs=[.ref p]/\bU X.K H p (ns.map V.int)/\ns.length<4000/\∀q,H q=none->∀S:Int->Bool,Q (.ref q) (upd H q (.set S (Jl ns).length))):=by
 intro n s σ H xs us Q I r h;symm;let⟨p,ns,rfl,i,hsz,q⟩:=h;let⟨u,rfl,g⟩:=gy r;cases g;symm;let⟨its,d,pl,hz⟩:=I.list i;have hl:its.toArray.size=ns.length:=by rw[dh,<-d.length,aL]
 show call_set_list (I.ok.hd m) pl.isList (by simpa using qM d) (by have:scanBound=4096:=(by rfl);lia) λh' tk f j=>?_
 have hf:H *...*=none:=I.aX.fresh (bB _);rw[hl] at f;show⟨.ref *...*,_,I.laid (a:=*...*) (t':=tk) (λb o e=>j b o (bI e) e) (bB _) (o:=.set _ _) f,rfl,?_⟩;rw[zit];show q _ hf _
def zn2:fR X (.builtin "len") (λxs H Q=>∃p S n,xs=[.ref p]/\H p=some (.set S n)/\Q (.int n) H):=by
 intro z s σ H xs us Q I r h;symm;let⟨p,S,n,rfl,d,q⟩:=h;let⟨u,rfl,b⟩:=gy r;cases b;symm;let⟨o,es,y,t,j,i,g,x,v,m,f,rfl⟩:=(show s.heap.SetOf (intKind X.prog X.w) p S n from I.aX p _ d)
 show call_len_set j i g f ?_ ⟨.int _,H,I.tok _,⟨_,rfl⟩,q⟩;have:scanBound=4096:=by rfl
 have e:es.size<4096:=by trivial
 show OX.mpr (y4 e (by cbv))
def VI:bootBuiltins "set"=some (.type "set"):=by rfl
def Jz:bg:=λds Q=>match ds with
 | [.lst es]=>match kS es with
  | some ns=>ns.length<4000/\∀l:List Int,l.Nodup->(∀k,k∈l↔k∈ns)->Q (.fz (.int l.length))
  | none=>False
 | _=>False
def zn3(y:X.calm=true)(m:X.mg "len"=none)(r:X.mg "set"=none)(z:iP X [e] ts)(D:Gl X "len":=by rfl)(l:Gl X "set":=by rfl)
  (w:starEach [e] X.env=(false,eval e X.env)::starEach [] X.env:=by rfl) (f:starEach [.Call (.Name "set" c) [e] [] d] X.env=(false,eval (.Call (.Name "set" c) [e] [] d) X.env)::starEach [] X.env:=by rfl):PD X (.Call (.Name "len" o) [.Call (.Name "set" c) [e] [] d] [] pos) (fW Jz ts):=by
 let⟨t,pp,q⟩:=z;show⟨_,JU zn2 D m ig (pj (Vp (zn1 y) l r VI pp (by decide) (by rfl) w rfl) og f) (by decide) (by rfl) f rfl,λρ σ B A G H Q P E h k=>?_⟩;show q ρ σ B A G H _ _ E h λF H' ds C x rs b=>?_
 unfold Jz at b;split at b
 .split at b
  .rename_i es ns u;let⟨v,rfl,j⟩:=gQ rs;let⟨a,xs,rfl,i,g⟩:=j;rw[sN u] at g;rw[sI g] at i;show⟨a,ns,rfl,(x.s.cF i).sq,b.1,λn p S=>⟨n,S,_,rfl,cW,?_⟩⟩;let⟨f1,f2⟩:=zmu ns [] vX;show k _ _ _ C (x.trans (.own x.s p)) (cK (fm _ _ _)) (b.2 (Jl ns) f1 λk=>by rw[Jl,f2];simp)
  show b.elim
 show b.elim
theorem df.look{K:ar}:∀{a fs d},df K H a fs->fs.lookup f\d->∃v,a.lookup f\v/\Rep K H v d
 | [],[],d,_,h=>by trivial
 | (x,v)::a,(y,d')::fs,d,r,h=>by
  obtain⟨⟨rfl,e⟩,c⟩:=r;rw[CW] at h ⊢;cases b:f==x with
  | true=>rw[b] at h;cases h;show⟨v,rfl,e⟩
  | false=>rw[b] at h;show df.look c h
 | [],_::_,_,r,_=>by simp![df] at r
 | _::_,[],_,r,_=>by simp![df] at r
theorem Uy:∀{fs:List (aa×D)}{d},fs.lookup f\d->∃p∈fs,p.1=f
 | [],d,h=>by trivial
 | (y,d')::fs,d,h=>by
  rw[CW] at h;cases a:f==y with
  | true=>show⟨(y,d'),by show .head _,(beq_iff_eq.mp a).symm⟩
  | false=>
   rw[a] at h;let⟨p,c,b⟩:=Uy h;show⟨p,by show .tail _ ‹_›,b⟩
def sf(f:aa)(te:TD):TD:=λρ Q=>te ρ λr=>match r.val with
 | .obj _ fs=>∃d,fs.lookup f\d/\Q (.fz d)
 | _=>False
def gh(n:PD X e te)(o:attributeBase e f X.env (eval e X.env)=eval e X.env:=by rfl):PD X (.Attribute e f pos) (sf f te):=by
 symm;let⟨t,p,q⟩:=n;show⟨_,zuC p o,λρ σ J F G H Q P E h k=>q ρ σ J F G H _ _ E h λv H' r L x j b=>?_⟩;symm;obtain⟨I,i,g,_⟩:=j.freeze x;split at b
 .rename_i K fs B;rw[B] at g;symm;let⟨a,C,D,A,rfl,z,y,w,u⟩:=g;let⟨d,hd,b⟩:=b;let⟨v,hv,g⟩:=u.look hd;let⟨pr,m,rfl⟩:=Uy hd;show⟨a,C,D,A,v,rfl,i.s _ _ z,y.cls,w pr m,hv,k _ _ _ I i (cK g) b⟩
 show b.elim
def wQ(f:aa)(v:D):List (aa×D)->List (aa×D)
 | []=>[(f,v)]
 | (g,x)::r=>if g=f then(g,v)::r else(g,x)::wQ f v r
theorem df.put{K:ar}(a:Rep K H v d):∀{b fs},df K H b fs->df K H (iV f v b) (wQ f d fs)
 | [],[],_=>by simp![iV,wQ,df,and_true,true_and];show a
 | (x,u)::b,(y,d')::fs,r=>by
  obtain⟨⟨rfl,e⟩,c⟩:=r;simp![iV,wQ];split
  .simp![df,true_and];show⟨a,c⟩
  simp![df,true_and];show⟨e,df.put a c⟩
 | [],_::_,r=>by simp![df] at r
 | _::_,[],r=>by simp![df] at r
theorem df.length{K:ar}:∀{a fs},df K H a fs->a.length=fs.length
 | [],[],_=>rfl
 | (x,u)::a,(y,d')::fs,r=>by
  simp[df.length r.2]
 | [],_::_,r=>by simp![df] at r
 | _::_,[],r=>by simp![df] at r
structure Making(K:ar)(C:ag)(x dx:ag)(G0 H0:Hp)(ρ:Ev)(σ:St)(G H:Hp)(fs:List (aa×D))(gs:List (aa×V)):Prop where
 e:aU K G0 H0 ρ σ G H
 sl:σ[0]?\some (.ref x)
 hx:H x\.ins C dx gs
 md:H dx\.own x
 gx:G x=none
 B3:G dx=none
 r:df K G gs fs
theorem Making.ext{K:ar}(M:Making K C x c f d ρ a G H fs b)(y:Ext G H i H'):Making K C x c f d ρ a i H' fs b:=
 ⟨M.e.ext y,M.sl,y.h _ _ M.hx,y.h _ _ M.md,y.n _ M.gx (by rw[M.hx];show nofun),y.n _ M.B3 (by rw[M.md];show nofun),df.mono y.g _ _ M.r⟩
abbrev tQ:=Ev->List (aa×D)->(List (aa×D)->Prop)->Prop
def F7(X:Cx)(C:ag)(g:List bY)(t:tQ):Prop:=∃tt,kB X g tt/\∀x a ρ σ e b G H fs h Q E,b x=none->b a=none->a≠x->(∀i o,gt ρ i≠.ov o)->
 Making X.K C x a e b ρ σ G H fs h->t ρ fs Q->(∀d j H' f c,Making X.K C x a e b ρ d j H' f c->Q f->E.nx d H')->tt E σ H
def DD:tQ:=λ_ fs Q=>Q fs
def j7(f:aa)(te:TD)(u:tQ):tQ:=λρ fs Q=>te ρ λr=>fs.length<1000/\u ρ (wQ f r.val fs) Q
theorem Up:F7 X C [] DD:=⟨_,Ut,λx b ρ σ d c G H fs a Q E _ _ _ _ M h k=>k σ G H fs a M h⟩
def lU(c:tU X.K C)(n:fY X.K C f)(W:PD X e te)(V:F7 X C w u)(hN:X.N[0]?\x:=by rfl)(hv:rB X.env.scope x:=by first | show Or.inl rfl | show Or.inr (Or.inl rfl) | show Or.inr (Or.inr rfl))
  (U:swapsWith e (some (.Attribute (.Name x t) f q)) pos.line X.env=pure false:=by rfl) (hd:(x==("__debug__":aa))=false:=by decide) (T:(x==("__classdict__":aa))=false:=by decide) :
  F7 X C (.Assign [.Attribute (.Name x t) f q] e pos::w) (j7 f te u):=by
 symm;let⟨t1,Z,S⟩:=W;let⟨t2,Y,R⟩:=V;show⟨_,JV (zuD (uH hN hv hd T) Z U) Y,λx B ρ σ I F G H fs A Q E m J j d M h k=>?_⟩;show S ρ σ I F G H _ _ M.e h λv H' r G' y P z=>?_
 symm;let⟨G2,L,O,l⟩:=P.freeze y;have M2:=M.ext L;show⟨_,M.sl,x,C,B,A,rfl,M2.hx,c,n,by rw[M.r.length];show z.1,?_⟩;show R x B ρ σ I F G2 _ (wQ f r.val fs) (iV f v A) Q E m J j d ?_ z.2 k;show⟨⟨⟨M2.e.e.g,λb o e=>by rw[br (fT e m)];show M2.e.e.h b o e,λb o e=>by rw[br (fT e M2.gx)];show M2.e.e.s b o e,M2.e.e.n⟩,M2.e.len,M2.e.fz,λi ds h=>?_,M2.e.dj,?_⟩,M2.sl,cW,by rw[br j];show M2.md,M2.gx,M2.B3,M2.r.put O⟩
 .symm;let⟨p,xs,b1,D,b3,b4,b5⟩:=M2.e.ow i ds h;show⟨p,xs,b1,by rw[br (R5 D M2.hx ∅)];show D,b3,b4,b5⟩
 symm;let⟨own,o1,o2⟩:=M2.e.on;show⟨own,o1,λi o h=>(d i o h).elim⟩
end
def YY(K:ar)(C:ag)(n:Nat)(t:bg):Sp:=λe H Q _=>∃x a H1 G ds d b,e=.ref x::d/\H=upd (upd H1 a (.own x)) x (.ins C a [])/\H1 x=none/\H1 a=none/\a≠x/\aZ G H1/\av K G d ds/\ds.length=n/\t ds b/\
 ∀H' r c,Ext G H1 c H'->dY K c H' H1 (.ref x) r->b r->Q .non H'
section
variable{P:aG}{w:aF}{K:ar}{mg:aa->Option af}{base:aB}
def qG(N:List aa)(ds:List D):Ev:=.un::(ds.map Sl.fz++fi (N.length-1-ds.length) .un)
def zn5(s:aZ G H)(r:av K G b ds):aU K G H (qG N ds) (iX N (x::b)) G H:=by
 have E:=UB (N:=N.drop 1) s r;have u:qG N ds=.un::pf (N.drop 1) ds:=by simp[qG,pf]
 have t:iX N (x::b)=some x::iX (N.drop 1) b:=by simp[iX,Nat.sub_sub,OW]
 rw[u,t];show⟨E.e,congrArg (·+1) E.len,λi d h=>?_,λi d h=>?_,λi j d d' v h h'=>?_,?_⟩
 .cases i with
  | zero=>cases h
  | succ i=>show E.fz i d h
 .cases i with
  | zero=>cases h
  | succ i=>show E.ow i d h
 .cases i with
  | zero=>cases h
  | succ i=>
   cases j with
   | zero=>cases h'
   | succ j=>show E.dj i j d d' (λz=>v (by rw[z])) h h'
 symm;let⟨own,o1,m⟩:=E.on;show⟨λq=>(own q).map (·+1),λi ds p h n=>?_,λi o h=>?_⟩
 .cases i with
  | zero=>cases h
  | succ i=>
   dsimp only;rw[o1 i ds p h n];rfl
 cases i with
 | zero=>cases h
 | succ i=>
  symm;let⟨p,fp,A,y,w,g⟩:=m i o h;show⟨p,fp,A,y,w,λq f=>⟨(g q f).1,(g q f).2.1,?_⟩⟩;dsimp only;rw[(g q f).2.2];rfl
def zkF(N ds):∀i o,gt (qG N ds) i≠.ov o:=by
 have key:∀(l:List Sl),(∀s∈l,∀o,s≠.ov o)->∀i o,gt l i≠.ov o:=by
  intro l;induction l with
  | nil=>intro _ i o h;cases h
  | cons a r c=>
   intro h i o;cases i with
   | zero=>show h a (by show .head _) o
   | succ i=>show c (λs b=>h s (by show .tail _ ‹_›)) i o
 show key _ λs b o e=>?_
 subst e;unfold qG at b;simp at b
def VH{st:bY}(F:Gb K x j st f fd)(S:nF N ("self"::ps) (de st))(hC:ClsAt K O C)
  (body:∀I A outer s H E,eF k (A.deeper (envOfC j (de st) *...* f I))->F7 (kP iw P w K mg base N j (de st) f I A outer s H E).nc C (iu st) T)
  (m:∀ds v,ds.length=ps.length->t ds v->T (qG N ds) [] λfs=>(∀p∈fs,fY K C p.1)/\v (.fz (.obj O fs))):jU P w K mg base iw (k+1) f fd ("self"::ps) (YY K C ps.length t):=by
 show F.ok S (λvs H Q E h=>?_) (λI A outer s H vs Q E hr h=>?_)
 .let⟨x,d,H1,G,ds,A9,v,rfl,l,l,l,l,l,r,hl,l⟩:=h;simp[r.length,hl]
 symm;let⟨x,d,H1,G,ds,A9,v,rfl,rfl,hx,md,aY,s0,r,hl,ht,k0⟩:=h;let⟨tt,p,q⟩:=body I A outer s _ E hr;have E0:=zn5 (N:=N) (x:=.ref x) s0 r;have gx:=s0.free hx;have B3:=s0.free md;have B:aZ H1 (upd (upd H1 d (.own x)) x (.ins C d [])):=λb o e=>by rw[br (fT e hx),br (fT e md)];show e
 have M0:Making K C x d G H1 (qG N ds) (iX N (.ref x::A9)) G (upd (upd H1 d (.own x)) x (.ins C d [])) [] []:=
  ⟨⟨⟨aZ.refl _,B,s0.trans B,λ_ h _=>h⟩,E0.len,E0.fz,λi ds h=>let⟨p,xs,X,W,V,U,b5⟩:=E0.ow i ds h;⟨p,xs,X,B _ _ W,V,U,b5⟩,E0.dj,let⟨own,o1,o2⟩:=E0.on;⟨own,o1,λi o h=>let⟨p,fp,X,W,V,U⟩:=o2 i o h;⟨p,fp,X,W,V.mono (aZ.refl _) λq _ u e=>B q u e,U⟩⟩⟩,by rfl,cW,by rw[br aY];show cW,gx,B3,by simp![df]⟩
 show⟨tt,p,q x d _ _ G H1 G _ [] [] _ _ hx md aY (zkF _ _) M0 (m ds v hl ht) λaK Y H' fs L M hq=>?_⟩;have y:=M.e.e;have Z:aZ Y (upd (upd Y d (.own x)) x (.ins C d L)):=λb o e=>by rw[br (fT e M.gx),br (fT e M.B3)];show e
 show k0 H' (.fz (.obj O fs)) (upd (upd Y d (.own x)) x (.ins C d L)) ⟨y.g.trans Z,y.h,λb o e=>?_,λb h1 J=>?_⟩ ?_ hq.2
 .by_cases hb:b=x
  .subst hb;rw[cW] at e;rw[M.hx];show e
  rw[br hb] at e;by_cases BY:b=d
  .subst BY;rw[cW] at e;rw[M.md];show e
  rw[br BY] at e;show y.s b o e
 .rw[br (λz=>J (by rw[z];show hx)),br (λz=>J (by rw[z];show md))];show y.n b h1 J
 show⟨x,C,d,L,rfl,cW,hC,hq.1,df.mono Z _ _ M.r⟩
structure vG(P:aG)(w:aF)(K:ar)(mg:aa->Option af)(base:aB)(k:Nat)(x:aa)(n:Nat)(t:bg):Prop where
 ex:∃(C f:ag)(fd:gH)(ps:List aa),Mk K C f/\jU P w K mg base iw k f fd ps (YY K C n t)/\mg x\.ref C/\Binds K fd ps []
end
def Ux(C:vG X.prog X.w X.K X.mg X.base k x n t)(u:eF k' X.A)(b:iP X (e::es) ts)(v:k+1<=k':=by decide)(z:Gl X x:=by rfl)(o:(x==("__debug__":aa))=false:=by decide)
  (B:starEach (e::es) X.env=(false,eval e X.env)::starEach es X.env:=by rfl) (I:(backTo pos (starEach es X.env)).any (·.1)=false:=by rfl):PD X (.Call (.Name x p) (e::es) [] pos) (fS n t ts):=by
 symm;let⟨C,f,fd,ps,M,F,hm,D⟩:=C.ex;let⟨tt,pp,q⟩:=b;show⟨_,zsB M F (u.mono v) z hm D .nil IT pp o B I,λρ σ S O G H Q P E h k=>q ρ σ S O G H _ _ E h λi H' ds T y rs d=>?_⟩;intro a J b md L;rw[i8];show⟨a,J,H',T,ds,i,Q,rfl,rfl,b,md,L,y.s,rs,d.1,d.2,λN r R g j m=>⟨rfl,k _ N r R (y.trans g) (j.m8 y.h) m⟩⟩
def yj(K:ar)(C:ag):List aa->Prop
 | []=>True
 | x::r=>fY K C x/\yj K C r
theorem yj.all{K:ar}:∀{l},yj K C l->∀x∈l,fY K C x
 | [],_,x,h=>by cases h
 | y::r,n,x,h=>by
  rcases bM.mp h with rfl | h
  .exact n.1
  show yj.all n.2 x h
structure vN(K:ar)(mg:aa->Option af)(cn qual:aa)(st:bY)(fields:List aa):Prop where
 ex:∃(C f:ag)(fd:gH),ClsAt K cn C/\Mk K C f/\Gb K "__init__" qual st f fd/\mg cn=some (.ref C)/\yj K C fields
theorem YS{K:ar}{st:bY}{kV b pm d ct:af}(X:K.In h)(G:h.Ns mainGlobals mg)
  (aC:y7 K mainGlobals c=some (some (.ref C))) (a1:qd K (.ref C) "__init__"=some (some (.ref f))) (i1:OZ K (.ref f)=true)
  (l1:K.lookup f=some ⟨g,e,.func (lJ "__init__" a (oJ st) (iu st) (de st) .none kV b pm k d ct),j⟩) (c1:vY K d a=true) (k1:nK K (.ref f)=true)
  (pg:CY K C OE=true) (hd:C5 K C=true) (po:HD K C=true) (sa:qd K (.ref C) "__setattr__"=some (some (.builtin "object.__setattr__"))) (mk:Hs K C=true) (kc:nK K (.ref C)=true)
  (i:yj K C fields):vN K mg c a st fields:=
 ⟨C,f,_,⟨aC,⟨pg,hd,po,sa⟩⟩,⟨mk,a1,i1,kc⟩,Je l1 c1 k1,Hb X G aC,i⟩
def nY:D->Bool
 | .non=>true
 | .bl _=>true
 | .int _=>true
 | .str _=>true
 | _=>false
def Se(i:Nat)(te:TD):TD:=λρ Q=>te (fP i ρ) λr=>match r with
 | .fz d=>nY d=true/\Q (.fz d)
 | _=>False
def Sd(i:Nat)(t:dF):dF:=λρ Q=>t (fP i ρ) Q
def Eu{K:ar}(h:nY d=true)(r:Rep K G v d):Rep K a v d:=by
 cases d<;>first | (show r) | cases h
def less(G:Hp)(L:List ag):Hp:=λa=>if a∈L then none else G a
def JN(j:∀q∈L,G q=none)(x:Ext (jz G H L) H c H'):Ext G H (less c L) H':=by
 show⟨λb u e=>?_,x.h,λb u e=>?_,λq i f=>?_⟩
 .have a:b∉L:=λz=>by rw[j b z] at e;cases e
  unfold less;rw[if_neg a];show x.g b u (by rw[oo a];show e)
 .unfold less at e;split at e
  .cases e
  show x.s b u e
 unfold less;split
 .rfl
 rename_i d;show x.n q (by rw[oo d];show i) f
theorem aU.Xh{K:ar}(i)(E:aU K d b ρ a G H):∃c,aU K d b (fP i ρ) a c H/\∀e H',Ext c H e H'->∃g,Ext G H g H':=
 let⟨L,f,h,_⟩:=E.FW i
 ⟨_,h,λe H' x=>⟨_,JN f x⟩⟩
def Uo(i)(h:PD X e te):PD X e (Se i te):=by
 let⟨tt,p,q⟩:=h;show⟨tt,p,λρ σ l f G H Q P E h k=>?_⟩;let⟨j,n,back⟩:=E.Xh i;show q _ σ l f j H _ _ n h λv H' r m x c a=>?_
 split at a
 .rename_i d;let⟨g,b⟩:=back m H' x;show k v H' (.fz d) g b (Eu a.1 c) a.2
 show a.elim
def zs6(i)(h:PB X e t):PB X e (Sd i t):=by
 let⟨tt,p,q⟩:=h;show⟨tt,p,λρ σ j d G H Q P E h k=>?_⟩;let⟨g,m,back⟩:=E.Xh i;show q _ σ j d g H _ _ m h λb H' l x c=>?_
 let⟨f,a⟩:=back l H' x;show k b H' f a c
def Lf:bg:=λds Q=>match ds with
 | [.lst a]=>match sv a with
  | some ss=>ss.length<4000/\(∀l:List aa,l.Nodup->(∀w∈l,w∈ss)->l.length<64)/\∀l:List aa,l.Nodup->(∀w,w∈l↔w∈ss)->sortedS l=true->Q (.ow (l.map D.str))
  | none=>False
 | _=>False
def ziv(t:SetTable)(n):(t.orStandIn n).led=t.led:=by
 unfold SetTable.orStandIn;split<;>rfl
def zmv(t a h x):(layNew t a h x).2.1.led=t.led:=by
 unfold layNew;split
 .exact ziv _ _
 rfl
def zjK{t t':SetTable}(h:t.relaid b a\(t',order)):t'.led=t.led/\t'.plain=t.plain:=by
 unfold SetTable.relaid SetTable.laid at h;cases c:SetTable.layClean (SetTable.sizeAbove a-1) b with
 | none=>rw[c] at h;cases h
 | some owner=>
  rw[c] at h;cases h;show⟨rfl,rfl⟩
def zhp(t b a)(d:t.plain=false):(relayAll t b a).2.1.led=t.led/\(relayAll t b a).2.1.plain=false:=by
 unfold relayAll;split
 .rename_i t' order c;let⟨f,e⟩:=zjK c;dsimp only;split
  .exact⟨f,e.trans d⟩
  show⟨rfl,rfl⟩
 show⟨rfl,rfl⟩
section
variable{prog:aG}{w:aF}{A:bh}{E:af->aj->Prop}{s:aj}
structure abD(w:aF)(es:Array (Int×af))(t:SetTable):Prop where
 led:t.led=!(w.params.followText "set-order")
 plain:es.size=0\/t.plain=false
structure fw(prog:aG)(w:aF)(h:aB)(a:ag)(es:Array (Int×af))(ep:Nat)(t:SetTable):Prop where
 at_:h.get? a=some { cls:=.type "set",dict:=none,data:=.set es ep t,slots:=#[] }
 el:ElemsOf (strKind prog w) es.toList
 small:es.size<scanBound
 fits:t.fits es.size=true
 marks:abD w es t
def Mem(prog:aG)(w:aF)(a:Array (Int×af))(k:aa):Prop:=∃e∈a.toList,(strKind prog w).is k e.2=true
def VG(c:s.heap.get? a=some { cls:=.type "set",dict:=none,data:=.set f d t,slots:=#[] })(e:b.size<scanBound)
  (h:∀h',j4 a s.heap h'->h'.get? a=some { cls:=.type "set",dict:=none,data:=.set b (d+1) t',slots:=#[] }->Q () { s with heap:=h' }):↥(storeSet a b t') Q E s:=by
 show wpAny_storeSet_of c rfl ?_ (C3 e);show h _ (wD s.heap a (OH b t')) ?_;have:=oO (OH b t') c (by rfl);show this
def zs7{R:Nat}(S:fw prog w s.heap a f R t)(K:f.size+1<scanBound)
  (h:∀h' B ir t',j4 a s.heap h'->fw prog w h' a B ir t'->((B=f/\Mem prog w f x)\/(¬Mem prog w f x/\yY B.toList (f.toList++[(hashStr w x,.str x tk)])))->∀b,Q b { s with heap:=h' }) :
  ↥(setAddHashed a (.str x tk) ((strKind prog w).hash x)) Q E s:=by
 have N:(strKind prog w).is x (.str x tk)=true:=by show CL x (.str x tk)=true;show mL _
 have V:(vP x tk).scannable=true:=rfl;have v:=S.at_;show fZ (aq (ue v rfl S.fits ?_));dsimp only;rw[byScan_of V S.small S.el];show aq (aq (mI (aq (wpAny_setScan_of N v rfl S.fits S.el ?_))));cases hr:List.findIdx? (λe=>(strKind prog w).is x e.2) f.toList with
 | some j=>
  symm;let⟨hj,u,l⟩:=Ii.mp hr;show aE (aE ?_);show h s.heap f R t (Zb a s.heap) S (.inl ⟨rfl,f.toList[j],kC hj,u⟩) _
 | none=>
  have T:¬Mem prog w f x:=λ⟨e,he,o⟩=>by
   grind
  have way:∀(b:Bool){s1:aj}{m:Unit->aj->Prop},m () s1->↥(match b with | true=>rule "set.scan.the-table-gave-way" | false=>pure ()) m E s1:=λb s1 m q=>by
   cases b
   .exact aE q
   show mI q
  have n:=layNew_perm t f ((strKind prog w).hash x) (.str x tk);have F:=layNew_fits t f ((strKind prog w).hash x) (.str x tk);have H:=zmv t f ((strKind prog w).hash x) (.str x tk);generalize layNew t f ((strKind prog w).hash x) (.str x tk)=L at n F H ⊢;let⟨d,t1,C,acX⟩:=L;rw[nO] at n;have U:ElemsOf (strKind prog w) d.toList:=(S.el.push N V).perm n;have hsz:d.size=f.size+1:=by rw[<-di,n.length_eq,cD,di];rfl
  have p:d.size<scanBound:=by cbv
  show aq (way _ ?_)
  -- jK table,not plain any more
  have tail:∀(g:Bool->Sem Unit),(∀(b:Bool)(s1:aj)(m:Unit->aj->Prop),m () s1->↥(g b) m E s1)->∀i:SetTable,i.fits d.size=true->i.led=t.led->i.plain=false->↥(do
    storeSet a d i
    if (!C&&i.tooFull)=true then do
        g (relayAll i d (t6 d.size)).2.2
        storeSet a (relayAll i d (t6 d.size)).1 (relayAll i d (t6 d.size)).2.1
        pure (some true)
     else pure (some true)) (λr Z=>↥(match r with | some added=>pure added | none=>setAddHashedIn a (vP x tk) ((strKind prog w).hash x) 99999) Q E Z) E s:=by
   intro g hg i f2 O M;show aq (VG v p λy W g1=>?_);have D:∀b,Q b { s with heap:=y }:=h y d _ i W ⟨g1,U,p,f2,⟨O.trans S.marks.led,.inr M⟩⟩ (.inr ⟨T,n⟩)
   split
   .have o:=relayAll_perm i d (t6 d.size);have J:=relayAll_fits i d (t6 d.size);have I:=zhp i d (t6 d.size) M;generalize relayAll i d (t6 d.size)=Rl at o J I ⊢;let⟨X,t3,acW⟩:=Rl;have P:X.size=d.size:=by rw[<-di,o.length_eq,di]
    show aq (hg _ _ _ ?_);show aq (VG (s:={ s with heap:=y }) g1 (by rw[P];show p) λh2 Y g2=>aE (aE ?_));show h h2 X _ t3 (W.trans Y) ⟨g2,U.perm o,by rw[P];show p,J,⟨(I.1.trans O).trans S.marks.led,.inr I.2⟩⟩ (.inr ⟨T,o.trans n⟩) _
   show aE (aE (D _))
  by_cases z:t1.plain=true
  .rw[if_pos z];show aq ?_;show aE ?_;show tail _ (λb s1 m q=>by cases b<;>first | show aE q | show mI q) { t1 with plain:=false } (SetTable.fits_plain_off F) H rfl
  rw[if_neg z];show aq (aE ?_);show tail _ (λb s1 m q=>by cases b<;>first | show aE q | show mI q) t1 F H (by simpa using z)
def keysOf(a:Array (Int×af)):List aa:=a.toList.map λe=>strOf e.2
def Uw(el:ElemsOf (strKind prog w) c.toList)(k):Mem prog w c k↔k∈keysOf c:=by
 unfold Mem keysOf;rw[bQ];constructor
 .rintro⟨e,he,b⟩;let⟨t,a⟩:=Dh b;show⟨e,he,by rw[a];rfl⟩
 rintro⟨e,he,rfl⟩;obtain⟨⟨k,b,_⟩,_⟩:=el e he;let⟨t,a⟩:=Dh b;show⟨e,he,?_⟩;rw[a];show CL k (.str k t)=true;show mL _
def zn7(p:yY b.toList (a.toList++[(c,.str x tk)])):yY (keysOf b) (keysOf a++[x]):=by
 have:=p.map λe=>strOf e.2
 rw[c9] at this;show this
structure Holds(es:Array (Int×af))(xs:List aa):Prop where
 nd:(keysOf es).Nodup
 mem:∀x,x∈keysOf es↔x∈xs
 len:es.size<=xs.length
def Holds.put(H:Holds d xs)(el:ElemsOf (strKind prog w) d.toList)
  (h:(e=d/\Mem prog w d x)\/(¬Mem prog w d x/\yY e.toList (d.toList++[(hashStr w x,.str x tk)]))):Holds e (xs++[x]):=by
 rcases h with⟨rfl,hm⟩ | ⟨hm,g⟩
 .refine⟨H.nd,λy=>?_,by simp;have:=H.len;room⟩;rw[bJ,<-H.mem,fj];constructor
  .exact .inl
  rintro(h | rfl)
  .exact h
  show(Uw el _).mp hm
 have f:=zn7 g;show⟨f.nodup_iff.mpr ?_,λy=>?_,?_⟩
 .rw[kH];show⟨H.nd,by show fE _ _,λa j b i=>?_⟩;rw[fj.mp i];rintro rfl;show hm ((Uw el _).mpr j)
 .rw[f.mem_iff,bJ,bJ,H.mem]
 have o:=f.length_eq;have n:(keysOf e).length=e.size:=by show aL ..
 have m:(keysOf d).length=d.size:=by show aL ..
 have:=H.len;cbv
theorem fw.kept(S:fw prog w h a b c t)(k:∀o,h.get? a\o->h'.get? a\o):fw prog w h' a b c t:=⟨k _ S.at_,S.el,S.small,S.fits,S.marks⟩
end
section
variable{R:Result->aj->Prop}{St:Nat->aj->Prop}
def zn8(W:WalksS prog w A.in1 I fp wr G n P St)(S)(B:S∉fp)(xs)(hx:xs.length=n)(F:∀i v,P i v->∃x t,xs[i]?\x/\v=.str x t)(f:n+1<scanBound) :
  ∀k i s g j t,n-i=k->i<=n->St i s->fw prog w s.heap S g j t->Holds g (xs.take i)->
   (∀d m p t',Moved (S::wr) G s d->fw prog w d.heap S m p t'->Holds m xs->R (.ok (.ret .none)) d)->codeAny (model prog w) A (.builtin "set.update.loop" ⟨[.ref S,.ref I],[]⟩) R s:=by
 have D:S∉wr:=λh=>B (W.sub _ h)
 have more:∀b∈wr,b∈S::wr:=λb f=>fL _ f
 intro k;induction k with
 | zero=>
  intro i s g j t L hi st T H q;have e:i=n:=by grind
  subst e;show kN Rq ?_;show aq (W.done s _ _ st λd hm=>?_);rw[<-hx,f6] at H;show aE (q d g j t (hm.mono more) (T.kept λo e=>hm.heap S _ D e) H)
 | succ k K=>
  intro i s g j t L hi st T H q;have C:i<n:=by lia
  show kN Rq ?_;show aq (W.item i s _ _ C st λv d M N hm=>?_);symm;let⟨x,tk,r,rfl⟩:=F i v M;have V:fw prog w d.heap S g j t:=T.kept λo e=>hm.heap S _ D e
  show aq (fZ ?_);show fZ (aq ((strKind prog w).pyHash (k:=x) (by show CL x (.str x tk)=true;show mL _) ?_));have hl:=H.len;rw[eK] at hl;show zs7 (s:={ d with toks:=d.toks+1 }) V (by lia) λh' m p t' y U u b=>?_
  have ET:xs.take (i+1)=xs.take i++[x]:=by rw[fB,r];rfl
  have Y:Holds m (xs.take (i+1)):=by rw[ET];show H.put T.el u
  show aE ⟨kM ZF _,K (i+1) _ m p t' (by grind) C (W.frame _ d _ _ N (iC _) λb f o e=>?_) U Y λs2 Z O E J Q X=>?_⟩
  .rw[y.2 b (λz:b=S=>B (by rw[<-z];show f))];show e
  show q s2 Z O E (Moved.trans W.gtrans ((hm.mono more).then_heap (iC _) λb o f e=>?_) J) Q X;rw[y.2 b (λz:b=S=>f (by rw[z];show nP))];show e
end
section
variable{w:aF}{s:aj}
abbrev oj(w:aF):aR:={ cls:=.type "set",dict:=none,data:=.set #[] 0 (.fresh 0 0 (!(w.params.followText "set-order"))) }
def zqD(a)(h:Q1 (.ref *...*) { s with heap:=s.heap.push (oj w) }) :
  codeAny (model prog w) A (.call (.builtin "set.__new__") ⟨[.type "set",a],[]⟩) (wants Q1 E) s:=by
 show Pz ?_;show aq (CC (PySem.F.newCall_set_1 a) (aE ⟨kM PySem.F.plain_set_new _,kN PySem.F.entry_set_new ?_⟩));have c:=PySem.sub_set_self;let⟨b,g,d,tk,os⟩:=s;wp_walk
 show wb (aE ?_);show aq (wpAny_alloc (aE ?_));show aE h
theorem zs8(e:h.get? a=some (oj w)):fw prog w h a #[] 0 (.fresh 0 0 (!(w.params.followText "set-order"))):=
 ⟨e,λx hx=>by simp at hx,by show iy _,by rfl,⟨rfl,.inl rfl⟩⟩
def zn9(X:A.handled=none)(hl:s.heap.IsList l items.toArray)(hi:StrsAre items xs)(g:xs.length+1<scanBound)
  (h:∀h' tk d f t,fw prog w h' *...* d f t->L2.Holds d xs->(∀b o,b< *...*->s.heap.get? b\o->h'.get? b\o)->Q (.ref *...*) { s with heap:=h',toks:=tk }) :
  ↥(call (.type "set") [.ref l]) Q E s:=by
 let⟨c,tl,acQ⟩:=PySem.F.called_set.mro;have acR:=PySem.F.called_set.made;have MA:=PySem.F.called_set.sub;show Cy (Pz ?_);show wpAny _ _ (callAny (.type "set") _) _ _ _;show aE ⟨Code.quiet_builtin _ (by decide +kernel),kN PySem.F.entry_type_call ?_⟩;rw[Around.under_plain (weight_type_call_type "set" [.ref l] []) rfl];have h1:=PySem.F.called_set.notType;have h2:=PySem.F.called_set.canCreate;have Y:=PySem.F.typeCall_set_1 (.ref l);repeat(any_goals (first | assumption | wp_step))
 show rN (zqD (.ref l) (E:=E) (Q1:=λobj s1=>obj=.ref *...*/\s1={ s with heap:=s.heap.push (oj w) }) ⟨rfl,rfl⟩) λr s1 n=>?_
 cases r with
 | error e=>show n
 | ok fl=>
  cases fl with
  | ret obj=>
   let⟨rfl,rfl⟩:=n;have L:(s.heap.push (oj w)).get? *...*=some (oj w):=cV _ rfl;have hT:Shared.TypeIs { s with heap:=s.heap.push (oj w) } (.ref *...*) "set":=⟨_,L,rfl⟩
   have W:=PySem.F.called_set.init.lookup;have Z:=PySem.F.called_set.init.bind (.ref *...*);repeat(any_goals (first | assumption | wp_step))
   show rN (QE (R:=wants (λr s2=>r=.none/\∃h' tk d f t,s2={ s with heap:=h',toks:=tk }/\fw prog w h' *...* d f t/\L2.Holds d xs/\
     (∀b o,b< *...*->s.heap.get? b\o->h'.get? b\o)) E) PySem.F.called_set.init.plain PySem.F.entry_set_init (check_set_init_1 hT ?_)) λP s2 D=>?_
   .let⟨ol,j,J,nl,M⟩:=hl;let⟨acD,B,acC,C⟩:=ol;simp only at J M;subst J M;have p:(s.heap.push (oj w)).get? l=some { cls:=.type "list",dict:=B,data:=.seq items.toArray nl,slots:=C }:=bW _ j;have acM:=PySem.F.sub_list_set;have acN:=PySem.F.sub_list_frozenset;have aY:(j3 "list"==j3 "dict")=false:=by assumption
    have m:(s.heap.push (oj w)).IsList l items.toArray:=⟨_,p,rfl,nl,rfl⟩
    unfold Builtin.«set.__init__» noKeywords ZC;generalize y:pyIter=PI;wp_walk
    subst y;show wx m (aq (Hi ?_));have I:l< *...*:=bI j;have u:A.in1.in1.in1.handled=none:=by show X
    have hsz:(s.heap.push (oj w)).objs.size=*...*+1:=nL ..;have MJ:l≠(s.heap.push (oj w)).objs.size:=by rw[hsz];show cg (lE I)
    have V:*...*∉[(s.heap.push (oj w)).objs.size,l]:=by
     rw[hsz];simp![bM,gN,or_false,not_or];show⟨cg (rR _),nJ I⟩
    have K:xs.length=items.toArray.size:=by
     rw[dh];clear j p m h g;induction hi with
     | nil=>rfl
     | cons _ _ _ q=>simp[q]
    have S:∀(i:Nat)(v:af),items.toArray[i]?\v->∃x t,xs[i]?\x/\v=.str x t:=λi v hv=>by
     rw[HS] at hv;clear j p m h g K;induction hi generalizing i with
     | nil=>trivial
     | cons x t n q=>
      cases i with
      | zero=>simp at hv;show⟨x,t,rfl,hv.symm⟩
      | succ i=>simp![wJ] at hv ⊢;show q i hv
    show zn8 ((Cv u _ l MJ items.toArray).toS) *...* V xs K S (by cbv) (items.toArray.size-0) 0 _ #[] 0 _ (by room) (cA _)
     ⟨⟨_,cV _ rfl,rfl,rfl⟩,(m.push _)⟩ (zs8 (bW _ L)) ⟨by show .nil,by simp[keysOf],by show bB _⟩ ?hR
    case hR=>
     intro O d f t hm T H;let⟨h',g',d',U,Bk⟩:=O;have eg:g'=s.gens:=hm.gens;have ed:d'=s.drawn:=hm.drawn;have eo:Bk=s.os:=hm.os;subst eg ed eo;show wpAny _ _ _ _ _ _;show aE ?_;show wpAny _ _ (ret jx) _ _ _;show aE ⟨rfl,h',U,d,f,t,rfl,T,H,λb o g e=>?_⟩;show hm.heap b o ?_ (bW _ (bW _ e));rw[hsz];simp![bM,gN,or_false,not_or];show⟨cg g,cg (lE g)⟩
   cases P with
   | error e=>show D
   | ok z=>
    cases z with
    | ret r=>
     let⟨rfl,h',tk,d,f,t,rfl,T,H,N⟩:=D;repeat(any_goals (first | assumption | wp_step))
     show h _ _ d f t T H N
    | _=>show D.elim
  | _=>show n.elim
end
theorem u4:Slot "set_iterator" "__next__" "set_iterator.__next__":=
 .of (owner:="set_iterator") (n:="__next__") (by kernel_rfl) (by decide +kernel) (by decide +kernel) (by decide +kernel) (by first | show .inl (by decide +kernel) | show .inr (by decide +kernel)) (by kernel_rfl)
theorem TC:Slot "set_iterator" "__iter__" "set_iterator.__iter__":=
 .of (owner:="set_iterator") (n:="__iter__") (by kernel_rfl) (by decide +kernel) (by decide +kernel) (by decide +kernel) (by first | show .inl (by decide +kernel) | show .inr (by decide +kernel)) (by kernel_rfl)
theorem TB:entryFor table "set_iterator.__next__"=some Builtin.«set_iterator.__next__»:=entryFor_of_fast (by kernel_rfl)
theorem zs9:entryFor table "set_iterator.__iter__"=some Builtin.«dict_keyiterator.__iter__»:=Pn (id':="dict_keyiterator.__iter__") (by kernel_rfl) rfl (by decide +kernel) (by kernel_rfl)
theorem zqE:entryFor table "set.__iter__"=some Builtin.«frozenset.__iter__»:=Pn (id':="frozenset.__iter__") (by kernel_rfl) rfl (by decide +kernel) (by kernel_rfl)
def Tz(a):argsOk "set_iterator.__next__" ⟨[a],[]⟩:=by kernel_rfl
def zta(a):argsOk "set_iterator.__iter__" ⟨[a],[]⟩:=by kernel_rfl
section
variable{s:aj}
theorem Le{b:Type}:∀{l:List b}{i} h,(l[i]::l.eraseIdx i).Perm l
 | a::r,0,_=>.refl _
 | a::r,i+1,h=>by
  show(Pm _ _ _).trans ((Le (by simpa using h)).cons a)
theorem zmw(a:n≠0)(h:∀i d,i<n->Q i { s with drawn:=d }):wpAny M A (choose src n) Q E s:=λb p _=>by
 show⟨a,h _ _ (Gy _ (Nat.pos_of_ne_zero a))⟩
theorem VF:∀n xs s (Q:List b->aj->Prop),xs.length<=n->(∀ys d,ys.Perm xs->Q ys { s with drawn:=d })->wpAny M A (drawOrder n xs) Q E s
 | 0,xs,s,Q,a,q=>by
  have:xs=[]:=zq (by cbv);subst this;show aE (q [] s.drawn (.refl _))
 | n+1,[],s,Q,a,q=>by
  show aE (q [] s.drawn (.refl _))
 | n+1,x::r,s,Q,a,q=>by
  show aq (zmw ∅ λi d hi=>?_);rw[bO hi];show aq (VF n _ _ _ (by rw[QD];split<;>simp at a ⊢<;>cbv) λys d' c=>aE ?_);show q _ d' ((c.cons _).trans (Le hi))
theorem Tx(f):∀n k left (out:Array b),left.length=n->(GQ f n k left out).toList.Perm (out.toList++left)
 | 0,k,left,out,h=>by
  have:left=[]:=zq h;subst this;simp[GQ]
 | n+1,k,left,out,h=>by
  unfold GQ;have a:f k%left.length<left.length:=Gy _ (by cbv);rw[bO a];show(Tx f n (k+1) _ _ (by rw[QD,if_pos a];cbv)).trans ?_;rw[nO,mM];show(CN _).append (Le a)
def VE(f)(xs:Array a):(pickOrder f xs).toList.Perm xs.toList:=by
 have:=Tx f xs.size 0 xs.toList #[] ∅;simpa[pickOrder] using this
abbrev o8(first:af)(i:Nat)(S:ag)(n a:Nat):aR:={ cls:=.type "set_iterator",data:=.fields #[first,.int i 0,.ref S,.int n 0,.int a 0] }
def Ld(S:fw prog w s.heap a b c t)(h:Q b s):↥(setEntries a) Q E s:=by
 show aq (ue S.at_ rfl S.fits (aE h))
def Uv{K:Fin->aj->Prop}(g:A.handled=none)(f:s.heap.get? I\o)(hd:o.data=.fields c)(hv:2<c.size)
  (h:∀h',yZ I s.heap h'->Q none { s with heap:=h' }) :
  wpAny (model prog w) A.in1 (do setField (.ref I) 2 .none;raiseNew (<-newExc (.type "StopIteration") []):Sem Fin) K (λe d=>↥(do if <-isInstance e (.type "StopIteration") then pure none else throw e:Sem (Option af)) Q E d) s:=by
 show aq (Hh f hd hv ?_);show aq ?_;show aq (kI ?_ (by size_fits));show aq (m:=firstArgMember _ _) (CC (a:=jx) (by first | rfl | (rfl)) ?_);show kI ?_ (by size_fits);show aq (O8 ?_);rw[show A.in1.handled=none from g];show aq (aE (wpAny_throw ?_));show aq (Hy (T:="StopIteration") (b:=true) ⟨_,cV _ rfl,rfl⟩ Pk ?_);show aE (h _ (((wD ..).extBut.push _).push _))
end
section
variable{prog:aG}{w:aF}{A:bh}{E:af->aj->Prop}{s:aj}
def Et{sl i:Nat}(h:A.handled=none)(a:s.heap.get? I\o8 (.int sl 0) i S c.size b)(T:fw prog w s.heap S c b t)(r)
  (hN:∀(e:Option (af×Nat)->aj->Prop) o,e r s->wpAny (model prog w) A.in1 (setNext S sl i b) e o s)
  (f:∀x j,r\(x,j)->∀h',j4 I s.heap h'->h'.get? I\o8 (.int j 0) (i+1) S c.size b->Q (some x) { s with heap:=h' })
  (g:r=none->∀h',yZ I s.heap h'->Q none { s with heap:=h' }):↥(pyNext (.ref I)) Q E s:=by
 have d:s.TypeIs (.ref I) "set_iterator":=⟨_,a,rfl⟩
 show aq (y9 (zi (name:=fh "__next__") d u4 (nN u4 d TB ?_ (Tz _))));show wpAny _ _ (fieldsOf (.ref I) >>= _) _ _ s;show aq (CM a rfl ?_);show aq (Ld T ?_);simp![bne_self_eq_false,cO,cC];show aq (hN _ _ ?_);cases r with
 | none=>show Uv h a rfl ∅ (g rfl)
 | some p=>
  let⟨x,j⟩:=p;show aq (wpAny_setField_rec a (by show iy _) λl g1 n=>?_);show aq (wpAny_setField_rec (s:={ s with heap:=l }) g1 ∅ λk g2 m=>?_);show aE ⟨x,rfl,aE (f x j rfl k (n.trans m) ?_)⟩;rw[g2];rfl
def U8{ps:List Nat}(o:A.handled=none)(b:s.heap.get? I\o8 (.ref j) i S a.size g)(T:fw prog w s.heap S a g t)
  (d:s.heap.get? j=some { cls:=.type "tuple",data:=.seq (ps.map λ(p:Nat)=>rawInt p).toArray })
  (m:∀p e,ps[i]?\p->a[p]?\e->∀h',j4 I s.heap h'->h'.get? I\o8 (.ref j) (i+1) S a.size g->Q (some e.2) { s with heap:=h' })
  (l:∀p∈ps,p<a.size) (n:ps[i]?=none->∀h',yZ I s.heap h'->Q none { s with heap:=h' }):↥(pyNext (.ref I)) Q E s:=by
 have k:s.TypeIs (.ref I) "set_iterator":=⟨_,b,rfl⟩
 show aq (y9 (zi (name:=fh "__next__") k u4 (nN u4 k TB ?_ (Tz _))));show wpAny _ _ (fieldsOf (.ref I) >>= _) _ _ s;show aq (CM b rfl ?_);show aq (Ld T ?_);simp![bne_self_eq_false,cO,cC];show aq (vW d rfl ?_);simp![wu,HS,cx];cases c:ps[i]? with
 | none=>
  show aq (wpAny_setField_rec b (by show iy _) λf g1 h=>?_);show Uv (s:={ s with heap:=f }) o g1 rfl ∅ λh' x=>n c h' (h.extBut.trans x)
 | some p=>
  simp![hZ,rawInt,wu];have q:=l p (cP c);have he:a[p]?=some a[p]:=by simp[q]
  show aq (aq (ue T.at_ rfl T.fits ?_));simp![bne_self_eq_false,cO,cC,he];show aE ?_;show aq (wpAny_setField_rec b ∅ λf g1 h=>?_);show aE ⟨_,rfl,aE (m p a[p] c he f h ?_)⟩;rw[g1];rfl
def VD(T:fw prog w s.heap S c a t)(sl i)(b:w.params.followText "set-order"=true)(Q)
  (q:Q (((pickOrder (w.params.setOrder S a) c)[i]?).map λe=>(e.2,sl)) s):↥(setNext S sl i a) Q E s:=by
 show aq (ue T.at_ rfl T.fits ?_);show aq (aq (wb (aE ?_)));rw[show(model prog w).w.params.followText "set-order"=true from b];simp![bne_self_eq_false,cO,cC,cy];show aq (aq (ue T.at_ rfl T.fits ?_));show aq (aq (wb (aE ?_)));rw[show(model prog w).w.params.followText "set-order"=true from b];show aq (wb (aE (aE q)))
def V2{S:ag}{b:Array (Int×af)}{e:Nat}{t:SetTable}(T:fw prog w s.heap S b e t)(sl i:Nat)(d:w.params.followText "set-order"=false)(f:b.size<=1)(Q:Option (af×Nat)->aj->Prop)
  (q:Q (match b[zb t.place sl]?,t.place[zb t.place sl]? with | some (_,x),some j=>some (x,j+1) | _,_=>none) s):↥(setNext S sl i e) Q E s:=by
 show aq (ue T.at_ rfl T.fits ?_);show aq (aq (wb (aE ?_)));rw[show(model prog w).w.params.followText "set-order"=false from d];simp![cO,cC];have hl:t.led=true:=by rw[T.marks.led,d];rfl
 have hd:(!t.plain&&decide (b.size>1))=false:=by
  rw[decide_eq_false (by room)];simp
 show v7 (λh=>absurd (show(!t.plain&&decide (b.size>1))=true from h) (by rw[hd];simp)) λ_=>?_
 show aq ?_;show wpAny _ _ (ite ((!t.led&&!b.isEmpty)=true) _ _) _ _ _;rw[hl];show aE (aE q)
theorem JM(T:fw prog w h S a c t)(d:S≠I)(b:j4 I h h'):fw prog w h' S a c t:=T.kept λo e=>by rw[b.2 S d];show e
abbrev Gn(vals:List af):Nat->af->Prop:=λi v=>vals[i]?=some v
def Jy(b:s.heap.get? I\o8 first i S n c)(q:Q (.ref I) s):↥(pyIter (.ref I)) Q E s:=by
 have a:s.TypeIs (.ref I) "set_iterator":=⟨_,b,rfl⟩
 show HA a TC (nN TC a zs9 ?_ (zta _));show aE ⟨_,rfl,"set_iterator",_,a,u4.lookup,q⟩
def zoe(B:S≠I)(v:w.params.followText "set-order"=true)(u:A.handled=none) :
  Walks prog w A I [I,S] [I] d.size (Gn ((pickOrder (w.params.setOrder S f) d).toList.map (·.2))) (λi h=>h.get? I\o8 (.int 0 0) i S d.size f/\fw prog w h S d f t):=by
 have z:=VE (w.params.setOrder S f) d;have hl:(pickOrder (w.params.setOrder S f) d).size=d.size:=by rw[<-di,z.length_eq,di]
 show⟨λb y=>by simp at y;show y▸.head _,λi h h' st k=>⟨k I (by room) _ st.1,st.2.kept (k S (by room))⟩,λi s Q E hi st q=>?_,λs Q E st q=>?_,λi s Q E st q=>Jy st.1 q⟩
 .have r:i<(pickOrder (w.params.setOrder S f) d).size:=by cbv
  show Et (sl:=0) u st.1 st.2 _ (λp C m=>VD st.2 0 i v p m) (λx j e h' b g=>?_) (λe=>?_)
  .rw[rX r] at e;let⟨rfl,rfl⟩:=e;show q _ h' s.toks (by show(bT _ _)[i]?=_;rw[cx,qk,rX r];rfl) ⟨g,JM st.2 B b⟩ λc o n e=>by rw[b.2 c (by simpa using n)];show e
  rw[rX r] at e;cases e
 show Et (sl:=0) u st.1 st.2 _ (λp C m=>VD st.2 0 _ v p m) (λx j e=>?_) (λ_ h' b=>q h' s.toks λc o n e=>b c o (by simpa using n) e);rw[Dm (by cbv)] at e;cases e
def S0(p j):zb #[p] j=if p<j then 1 else 0:=by
 unfold zb;unfold P9;simp;split<;>unfold P9<;>rfl
theorem Tw{b:Type}{a:Array b}(h:a.size=1):∃e,a=#[e]:=⟨a[0]'(by cbv),Array.ext (by trivial) λi hi _=>by
 have:i=0:=by cbv
 subst this;rfl⟩
def zmx(M:S≠I)(C:w.params.followText "set-order"=false)(F:d.size<=1)(B:A.handled=none) :
  Walks prog w A I [I,S] [I] d.size (Gn (d.toList.map (·.2))) (λi h=>∃sl:Nat,h.get? I\o8 (.int sl 0) i S d.size H/\fw prog w h S d H t/\(i=0->sl=0)/\(1<=i->∃p,t.place=#[p]/\sl=p+1)):=by
 show⟨λb D=>by simp at D;show D▸.head _,λi h h' st k=>?_,λi s Q E hi st q=>?_,λs Q E st q=>?_,λi s Q E st q=>?_⟩
 .symm;let⟨sl,a,T,b,c⟩:=st;show⟨sl,k I (by room) _ a,T.kept (k S (by room)),b,c⟩
 .let⟨sl,a,T,b,c⟩:=st;have r:d.size=1:=by lia
  have u:i=0:=by cbv
  subst u;have m:=b rfl;subst m;let⟨e,rfl⟩:=Tw r;have K:=T.fits;simp![SetTable.fits,mK,beq_iff_eq] at K;let⟨p,f⟩:=Tw (show t.place.size=1 from K.1);show Et B a T (some (e.2,p+1)) (λy N n=>V2 T _ _ C F y ?_) (λx j L h' J g=>?_) (λz=>nomatch z)
  .rw[f,S0,if_neg (Py _)];show n
  cases L;show q _ h' s.toks rfl ⟨p+1,g,JM T M J,λz=>by room,λ_=>⟨p,f,rfl⟩⟩ λc o v e=>by rw[J.2 c (by simpa using v)];show e
 .let⟨sl,a,T,b,c⟩:=st;show Et B a T none (λy N n=>V2 T _ _ C F y ?_) (λx j e=>nomatch e) (λ_ h' b=>q h' s.toks λc o v e=>b c o (by simpa using v) e);have he:d[zb t.place sl]?=none:=by
   by_cases h0:d.size=0
   .exact Dm (by cbv)
   let⟨p,f,m⟩:=c (by lia);rw[f,m,S0,if_pos (rR _)];show Dm (by cbv)
  rw[he];show n
 let⟨sl,a,T,b,c⟩:=st;show Jy a q
def zmy{ps:List Nat}(C:S≠I)(n:f≠I)(u:ps.Perm (aV d.size))(v:A.handled=none) :
  Walks prog w A I [I,f,S] [I] d.size (Gn (ps.map λp=>(d.getD p (0,.none)).2)) (λi h=>h.get? I=some (o8 (.ref f) i S d.size y)/\fw prog w h S d y t/\h.get? f=some { cls:=.type "tuple",data:=.seq (ps.map λ(p:Nat)=>rawInt p).toArray }):=by
 have r:∀p∈ps,p<d.size:=λp h=>eG.mp (u.mem_iff.mp h)
 have hl:ps.length=d.size:=by rw[u.length_eq,jv]
 show⟨λb x=>by simp at x;show x▸.head _,λi h h' st k=>⟨k I (by room) _ st.1,st.2.1.kept (k S (by room)),k f (by room) _ st.2.2⟩,λi s Q E hi st q=>?_,λs Q E st q=>?_,λi s Q E st q=>Jy st.1 q⟩
 .have D:i<ps.length:=by cbv
  show U8 v st.1 st.2.1 st.2.2 (λp e j B h' b g=>?_) r (λz=>by rw[bO D] at z;cases z);show q _ h' s.toks ?_ ⟨g,JM st.2.1 C b,by rw[b.2 f n];show st.2.2⟩ λc o m e=>by rw[b.2 c (by simpa using m)];show e
  show(bT _ _)[i]?=_;rw[cx,j];simp[B]
 show U8 v st.1 st.2.1 st.2.2 (λp e j=>?_) r (λ_ h' b=>q h' s.toks λc o m e=>b c o (by simpa using m) e);rw[uk (by cbv)] at j;cases j
end
section
variable{prog:aG}{w:aF}{A:bh}{E:af->aj->Prop}{s:aj}
structure Laid(prog:aG)(w:aF)(h:aB)(a:ag)(es:Array (Int×af))(I:ag)(h':aB):Prop where
 ex:∃(fp:List ag)(vals:List af)(St:Nat->aB->Prop),vals.Perm (es.toList.map (·.2))/\(∀A:bh,A.handled=none->Walks prog w A I fp [I] es.size (Gn vals) St)/\St 0 h'/\∀b∈fp,b=a\/h.objs.size<=b
 old:∀b o,h.get? b\o->h'.get? b=some o
 new:h.objs.size<=I
 type:∃o,h'.get? I=some o/\o.cls=.type "set_iterator"
def zog{a:Array (Int×af)}{ps:List Nat}(b:ps.Perm (aV a.size)):(ps.map λp=>(a.getD p (0,.none)).2).Perm (a.toList.map (·.2)):=by
 show(b.map _).trans ?_;have e:(aV a.size).map (λp=>(a.getD p (0,.none)).2)=a.toList.map (·.2):=by
  apply qh;all_goals cbv
 rw[e]
def zqF(T:fw prog w s.heap a f i t)
  (q:∀I h' d,Laid prog w s.heap a f I h'->Q (.ref I) { s with heap:=h',drawn:=d }):↥(pyIter (.ref a)) Q E s:=by
 have y:s.TypeIs (.ref a) "set":=⟨_,T.at_,rfl⟩
 have B:a< *...*:=bI T.at_;show HA y QL (nN QL y zqE ?_ (PySem.F.args_set_iter_1 _));show wpAny _ _ (Zv a >>= _) _ _ s;show aq (aq (Ld T (aE ?_)));show aq (aq (ue T.at_ rfl T.fits ?_));show aq (aq (wb (aE ?_)));show aE ?_;have here:∀(first:af)(s1:aj)(Q1:Fin->aj->Prop)(g:fw prog w s1.heap a f i t),(∀o,o=o8 first 0 a f.size i->Q1 (.done (.ret (.ref s1.heap.objs.size))) { s1 with heap:=s1.heap.push o })->wpAny (model prog w) A.in1 (do
   let e <-setEpoch a
   let v <-newFields "set_iterator" [first,rawInt 0,fM a,rawInt f.size,rawInt e]
   ret v) Q1 E s1:=by
  intro first s1 Q1 g H;show aq (wpAny_setEpoch_of g.at_ rfl g.fits ?_);show aq (kI (aE (H _ rfl)) (by size_fits))
 show v7 (λx=>?_) λx=>?_
 .refine aq (VF f.size _ _ _ ∅ λps d r=>?_);have n:ps.length<=sizeLine:=by rw[r.length_eq,jv];show C3 T.small
  show aq (Pj ?_ (by rw[aL];show n));have g:fw prog w (s.heap.push { cls:=.type "tuple",data:=.seq (ps.map λ(p:Nat)=>rawInt p).toArray }) a f i t:=T.kept λo e=>bW _ e
  show here _ _ _ g λo u=>?_
  subst u;show⟨_,rfl,"set_iterator",_,⟨_,cV _ rfl,rfl⟩,u4.lookup,?_⟩;have hsz:(s.heap.push { cls:=.type "tuple",data:=.seq (ps.map λ(p:Nat)=>rawInt p).toArray }).objs.size=*...*+1:=nL ..
  show q _ _ d ⟨⟨[_, *...*,a],_,_,zog r,λA j=>zmy (t:=t) (by rw[hsz];show cg (lE B)) (by rw[hsz];show cg (rR _)) r j,
   ⟨cV _ rfl,g.kept λo e=>bW _ e,bW _ (cV _ rfl)⟩,λb J=>?_⟩,λb o e=>bW _ (bW _ e),by rw[hsz];show iC _,⟨_,cV _ rfl,rfl⟩⟩
  grind
 show aq (aE ?_);show here _ _ _ T λo u=>?_
 subst u;show⟨_,rfl,"set_iterator",_,⟨_,cV _ rfl,rfl⟩,u4.lookup,?_⟩;have D:∀b∈[*...*,a],b=a\/*...*<=b:=λb J=>by
  grind
 have C:a≠*...*:=cg B;have g:fw prog w (s.heap.push (o8 (rawInt 0) 0 a f.size i)) a f i t:=T.kept λo e=>bW _ e
 cases hf:w.params.followText "set-order" with
 | true=>
  show q _ _ s.drawn ⟨⟨_,_,_,(VE (w.params.setOrder a i) f).map _,λA j=>zoe (t:=t) C hf j,⟨cV _ rfl,g⟩,D⟩,λb o e=>bW _ e,bB _,⟨_,cV _ rfl,rfl⟩⟩
 | false=>
  have m:¬((!t.plain&&decide (f.size>1))=true):=λz=>x (by
   show(!(w.params.followText "set-order")&&(!t.plain&&decide (f.size>1)))=true;rw[hf,z];rfl)
  have K:f.size<=1:=by
   rcases T.marks.plain with h | h
   .simp_all
   rw[h] at m;simp at m;show m
  show q _ _ s.drawn ⟨⟨_,_,_,.refl _,λA j=>zmx (t:=t) C hf K j,⟨0,cV _ rfl,g,λ_=>rfl,λz=>by room⟩,D⟩,λb o e=>bW _ e,bB _,⟨_,cV _ rfl,rfl⟩⟩
def zqG(d:s.TypeIs (.ref a) "set")(h:Q false s):↥(ZA (.ref a)) Q E s:=by
 show aq (Hq d PySem.F.slot_set_len.lookup ?_);generalize c:("set.__len__":String)=f;wp_delta
 subst c;show aq (Hy (T:="set") (b:=true) d (by kernel_rfl) ?_);show v7 (λe=>absurd e (by decide)) (λ_=>v7 (λ_=>?_) (λe=>absurd (by rfl) e));show aq (vT d (aE h))
def zmz{R:Result->aj->Prop}{a:ag}{p:Array (Int×af)}{U:Nat}{t:SetTable}(T:fw prog w s.heap a p U t)(x:A.handled=none)(S:ag)(N:S≠a)(res:af)(C:Nat)(y:s.heap.get? S=some { cls:=.type "list",data:=.seq #[] C })
  (hR:∀h' d tk (acc:Array af) m,(∀b o,b≠S->s.heap.get? b=some o->h'.get? b=some o)->h'.get? S=some { cls:=.type "list",dict:=none,data:=.seq acc m,slots:=#[] }->acc.toList.Perm (p.toList.map (·.2))->R (.ok (.ret res)) { s with heap:=h',drawn:=d,toks:=tk }) :
  wpAny (model prog w) A.in1 (Rg (.ref S) (.ref a) res) (λfin g=>match fin with | .done f=>R (.ok f) g | .again m=>m.quiet=true/\codeAny (model prog w) A m R g) (λe g=>R (.error e) g) s:=by
 have M:s.TypeIs (.ref a) "set":=⟨_,T.at_,rfl⟩
 have Yp:S< *...*:=bI y;show aq (vT (T:="set") M ?_);have Q:Q4 (.ref S) (.ref a)=false:=by show if_neg ‹_›
 have P:(j3 "set"==j3 "list")=false:=by rfl
 have O:(j3 "set"==j3 "tuple")=false:=by assumption
 simp![Q,P,O,G9,cO,cC];show aq (zqF T λI h0 d L=>?_);symm;let⟨fp,vals,St,hv,W,st,K⟩:=L.ex;have v:S∉fp:=λz=>by
  grind
 have go:∀(h:aB)(c1 tk:Nat),St 0 h->(∀b o,b≠S->s.heap.get? b=some o->h.get? b=some o)->h.get? S=some { cls:=.type "list",data:=.seq #[] c1 }->
   codeAny (model prog w) A (.builtin "list.extend.loop" ⟨[.ref S,.ref I,res],[]⟩) R { s with heap:=h,drawn:=d,toks:=tk }:=by
  intro h c1 tk X H E;show QC (W A.in1 x).toS (C3 T.small) S v res p.size 0 _ #[] c1 rfl (cA _) X E (OM _) λg n m hm F B=>?_
  rw[O7 hm];show hR g.heap d g.toks n m (λb o i e=>hm.heap b o (λr=>?_) (H b o i e)) F ?_
  .symm;rcases bM.mp r with V | r
   .exact i V
   show absurd (bI e) (by rw[fj.mp r];show Cw.mpr L.new)
  have e:n.toList=vals:=by
   apply qi;intro j;by_cases J:j<n.size
   .have:=B.2 j n[j] (by simp[J]);rw[this];show bO ‹_›
   have Z:vals.length=p.size:=by rw[hv.length_eq];show aL ..
   have:=B.1;rw[uk (by simp;show qg ‹_›),uk (by cbv)]
  rw[e];show hv
 have q:=L.old _ _ y;show aq (fZ (zqG (s:={ s with heap:=h0,drawn:=d }) ⟨_,L.old _ _ T.at_,rfl⟩ ?_));show v7 (λ_=>?_) (λ_=>aE ⟨kM Dt _,go _ C _ st (λb o _ e=>L.old b o e) q⟩);show aq (mI (aq ?_));show aq (t7 q rfl ?_);have D:=oO (jZ (·.push jx)) q rfl;show t7 (hz:=by seq_fits) D rfl ?_;have Y:=oO (jZ (·.pop)) D rfl;show aE ⟨kM Dt _,go _ _ _ ?_ (λb o i e=>?_) Y⟩
 .refine(W A.in1 x).frame 0 _ _ st λb i o e=>?_
  have u:b≠S:=λh=>v (h▸i)
  show(jw _ _ (Ne.symm u)).trans ((jw _ _ (Ne.symm u)).trans e)
 show(jw _ _ (Ne.symm i)).trans ((jw _ _ (Ne.symm i)).trans (L.old _ _ e))
end
section
variable{s:aj}
def zkH{R:List af->aj->Prop}(T:fw prog w s.heap a p z t)(v:A.handled=none)
  (h:∀h' d tk r, *...*<h'.objs.size->(∀b o,s.heap.get? b\o->h'.get? b\o)->r.Perm (p.toList.map (·.2))->R r { s with heap:=h',drawn:=d,toks:=tk }):↥(collect (.ref a)) R E s:=by
 have C:a< *...*:=bI T.at_;show aq (Hi (kN QB ?_));show aq (kI (aE ⟨kM QX _,kN PY ?_⟩));have u:(s.heap.push { cls:=.type "list",data:=.seq ([]:List af).toArray }).get? *...*=some { cls:=.type "list",data:=.seq #[] }:=cV _ rfl;have key:=zmz (A:=A) (s:={ s with heap:=s.heap.push { cls:=.type "list",data:=.seq ([]:List af).toArray } })
  (R:=λ(q:Result)(n:aj)=>∃(h':aB)(d:Drawn)(tk:Nat)(acc:Array af)(m:Nat),q=.ok (.ret (.ref *...*))/\n={ s with heap:=h',drawn:=d,toks:=tk }/\
   (∀b o,s.heap.get? b=some o->h'.get? b=some o)/\h'.get? *...*=some { cls:=.type "list",dict:=none,data:=.seq acc m,slots:=#[] }/\acc.toList.Perm (p.toList.map (·.2)))
  (T.kept λo e=>bW _ e) v *...* (nJ C) (.ref *...*) 0 u
  (λh' d tk acc m i g j=>⟨h',d,tk,acc,m,rfl,rfl,λb o e=>i b o (cg (bI e)) (bW _ e),g,j⟩)
 show ja key (λfin n x=>?_) λe n x=>?_
 .cases fin with
  | done f=>
   symm;let⟨h',d,tk,acc,m,e,rfl,i,g,j⟩:=x;cases e;show aq (vR g (aE (h h' d tk acc.toList (bI g) i j)))
  | again c1=>
   show⟨x.1,rN x.2 λq s2 y=>?_⟩;symm;let⟨h',d,tk,acc,m,rfl,rfl,i,g,j⟩:=y;show aq (vR g (aE (h h' d tk acc.toList (bI g) i j)))
 symm;let⟨l,l,l,l,l,B,l⟩:=x;cases B
theorem VC:∀{a},(∀v∈a,∃x t,v=.str x t)->StrsAre a (a.map strOf)
 | [],_=>.nil
 | v::r,h=>by
  let⟨x,t,rfl⟩:=h v (by show .head _);show .cons x t (VC λu b=>h u (by show .tail _ ‹_›))
def zmA(T:fw prog w s.heap a g F t)(C:A.handled=none)(O:g.size<64)
  (h:∀(p:ag) h' d tk out e ss, *...*<=p->(∀b o,s.heap.get? b=some o->h'.get? b=some o)->h'.get? p=some (seqObj "list" out e)->StrsAre out.toList ss->ss.Perm (keysOf g)->sortedS ss=true->Q (.ref p) { s with heap:=h',drawn:=d,toks:=tk }) :
  ↥(call (.builtin "sorted") [.ref a]) Q E s:=by
 show Ic GH GP GO (GN _) ?_;show aq (m:=checkCount "sorted" 1 1 _) (aE (aq (zkH (A:=A.in1) T C λh' d tk f I q n=>?_)));have z:f.length=g.size:=by rw[n.length_eq];show aL ..
 have j:∀v∈f,∃x t,v=.str x t:=λv hv=>by
  symm;let⟨e,he,rfl⟩:=bQ.mp (n.mem_iff.mp hv);obtain⟨⟨k,q,_⟩,_⟩:=T.el e he;let⟨t,B⟩:=Dh q;show⟨k,t,B⟩
 have r:=VC j;show aq (CI ?_ (by rw[z];show C3 T.small));have i:(h'.push (seqObj "list" f.toArray 0)).get? h'.objs.size=some (seqObj "list" f.toArray 0):=cV _ rfl;show aq (fZ (nN Hg ⟨_,i,rfl⟩ Ho (list_sort_treeK (s:={ s with heap:=h'.push (seqObj "list" f.toArray 0),drawn:=d,toks:=tk }) strKind_oneLt i r.keysOf (λv1 v2 rest e=>keyKind_strs (by rw[<-e];show r)) (by cbv) λM a1 a2=>⟨_,rfl,?_⟩) (Hf _)));symm;let⟨D,L,K,J⟩:=sorted_out_str r a1 a2;let⟨H,N⟩:=O6 (out:=(arrOf M).map (·.2)) i;have hle:*...*<=h'.objs.size:=gw I;show aE ⟨_,rfl,h _ _ d tk _ H D hle (λb o e=>?_) N L (K.trans ?_) J⟩
 .have y:=q b o e;have u:b<h'.objs.size:=bI y;rw[Ph (cg u) (by rw[Cu];show lE u)];show bW _ y
 have:=n.map strOf;rw[cJ] at this;show this
theorem Inv.draw{a:St}(I:Inv X b a H s)(d):Inv X b a H { s with drawn:=d }:=
 ⟨I.ok,I.os,I.bare,I.base,I.loc,I.cell,I.free,I.oH,I.pin,I.aX,I.len⟩
end
section
variable{e:ay}{te:TD}{t:TA}
def zqH(K:ar)(t:TA):TE:=λσ H Q=>t σ H λa H1=>∃(p:ag)(ss:List aa),a=[.ref p]/\bU K H1 p (ss.map V.str)/\ss.length<4000/\(∀l:List aa,l.Nodup->(∀x∈l,x∈ss)->l.length<64)/\
 ∀l:List aa,l.Nodup->(∀x,x∈l↔x∈ss)->sortedS l=true->∀q,H1 q=none->Q (.ref q) (upd H1 q (.lst (l.map V.str)))
def zmB(y:X.calm=true)(P:X.mg "sorted"=none)(Z:X.mg "set"=none)(ha:PA X [e] t)(BV:Gl X "sorted":=by rfl)(O:Gl X "set":=by rfl)
  (he:starEach [e] X.env=(false,eval e X.env)::starEach [] X.env:=by rfl) (E:starEach [.Call (.Name "set" n) [e] [] g] X.env=(false,eval (.Call (.Name "set" n) [e] [] g) X.env)::starEach [] X.env:=by rfl) :
  PE X (.Call (.Name "sorted" U) [.Call (.Name "set" n) [e] [] g] [] pos) (zqH X.K t):=by
 intro B s σ H Q I h;show ug (qH I BV P vS ?_ (by decide) (by rfl));show Ro ?_ E rfl;show C9 ?_;show ug (qH I O Z VI ?_ (by decide) (by rfl));show wL (aW (ha g B s σ H _ I h) λus s1 aA=>?_) he rfl;let⟨vs,H1,i,R,S⟩:=aA;symm;let⟨p,ss,rfl,hq,hn,F,q⟩:=S;let⟨u,rfl,N⟩:=gy R;cases N;symm;let⟨its,M,pl,hz⟩:=i.list hq;have hS:=V4 M;show zn9 (i.ok.hd y) pl.isList hS (by have:scanBound=4096:=rfl;lia) λz D A ep tb T j W=>?_
 have C:Inv X B σ H1 { s1 with heap:=z,toks:=D }:=i.kept λb o e=>W b o (bI e) e
 show HC ?_;have hsz:A.size<64:=by
  have:=F (keysOf A) j.nd λx hx=>(j.mem x).mp hx
  simpa[keysOf] using this
 show zmA (s:={ s1 with heap:=z,toks:=D }) T (i.ok.hd y) hsz λpp h2 d J out en f w Y gK r m v=>?_
 have L:f.Nodup:=m.nodup_iff.mpr j.nd;have xW:f.length<64:=by rw[m.length_eq];simpa[keysOf] using hsz
 have hf:H1 pp=none:=C.aX.fresh w;show⟨.ref pp,upd H1 pp (.lst (f.map V.str)),?_,rfl,q f L (λx=>by rw[m.mem_iff];show j.mem x) v pp hf⟩;have I3:=Inv.laid (t':=J) (Inv.draw C d) (h':=h2) (a:=pp) (o:=.lst (f.map V.str)) Y w ?_
 .exact I3
 show⟨by rw[aL];have:=zqB;lia,out.toList,en,Ki r,?_⟩;show gK
def zjQ(B:X.calm=true)(p:X.mg "sorted"=none)(y:X.mg "set"=none)(C:iP X [e] ts)(K:Gl X "sorted":=by rfl)(o:Gl X "set":=by rfl)
  (A:starEach [e] X.env=(false,eval e X.env)::starEach [] X.env:=by rfl) (i:starEach [.Call (.Name "set" c) [e] [] d] X.env=(false,eval (.Call (.Name "set" c) [e] [] d) X.env)::starEach [] X.env:=by rfl) :
  PD X (.Call (.Name "sorted" w) [.Call (.Name "set" c) [e] [] d] [] pos) (fW Lf ts):=by
 let⟨t,pp,q⟩:=C;show⟨_,zmB B p y pp K o A i,λρ σ J F G H Q P E h k=>q ρ σ J F G H _ _ E h λL H' ds N x rs b=>?_⟩;unfold Lf at b;split at b
 .split at b
  .rename_i M ss z;let⟨v,rfl,m⟩:=gQ rs;let⟨a,xs,rfl,g,f⟩:=m;rw[K8 z] at f;rw[JO f] at g;show⟨a,ss,rfl,(x.s.cF g).sq,b.1,b.2.1,λl nd hm so=>?_⟩;show sC x.s (VL l) (b.2.2 l nd hm so) λv D r I j n u=>k v D r I (x.trans j) (n.m8 x.h) u
  show b.elim
 show b.elim
end
section
variable{X:Cx}{e i':ay}{te ti:TD}
def zw8(i:Nat):TX:=λD ρ=>match gt ρ i with
 | .ow _=>D.nx (ρ.set i (.ow []))
 | _=>False
def JL(i:Nat):TX:=λD ρ=>match gt ρ i with
 | .ow ds=>D.nx (ρ.set i (.ow ds.reverse))
 | _=>False
def zmC(i)(hN:Nm X i x:=by walk_at"nm")
  (o:∀{e},PE X (.Name x f) e->PE X (.Call (.Attribute (.Name x f) "reverse" j) [] [] b) (RC X.K "list" UK e):=by intro e d;show zuJ rW PySem.F.slot_list_reverse PySem.F.type_list_reverse zml d) :
  PX X (.Expr (.Call (.Attribute (.Name x f) "reverse" j) [] [] b) pos) (JL i):=by
 show⟨_,uM (o (jH hN)),λρ σ t s G H D E k h g=>?_⟩;unfold JL at h;split at h
 .rename_i ds m;symm;let⟨a,xs,d,n,r,q,p⟩:=k.ow i ds m;show⟨_,d,.inl ⟨rfl,xs,bU.of n⟩,a,xs,rfl,rfl,n,g.nx _ _ G _ (aZ.refl _) (k.change m d p.reverse) h⟩
 show h.elim
def wO(i:Nat)(te:TD):TX:=λD ρ=>match gt ρ i with
 | .ow ds=>te ρ λr=>match r with
  | .ow a=>ds.length+a.length<=sizeLine/\D.nx (ρ.set i (.ow (ds++a)))
  | _=>False
 | _=>False
def D5(i)(C:PD X e te)(hN:Nm X i x:=by walk_at"nm")
  (J:starEach [e] X.env=(false,eval e X.env)::starEach [] X.env:=by rfl)
  (I:∀{o t},PE X (.Name x s) o->PA X [e] t->PE X (.Call (.Attribute (.Name x s) "extend" u) [e] [] d) (uZ X.K "list" Ua o t):=by intro o t n m;show uB rW PySem.F.slot_list_extend PySem.F.type_list_extend znr n m) :
  PX X (.Expr (.Call (.Attribute (.Name x s) "extend" u) [e] [] d) pos) (wO i te):=by
 symm;let⟨t,p,q⟩:=C;show⟨_,uM (I (jH hN) (pj p og J)),λρ σ N M G H D E k h g=>?_⟩;unfold wO at h;split at h
 .rename_i ds w;symm;let⟨a,xs,n,m,Q,P,y⟩:=k.ow i ds w;show⟨_,n,.inl ⟨rfl,xs,bU.of m⟩,q ρ σ N M G H _ _ k h λv H' r O f A j=>?_⟩;split at j
  .rename_i R;symm;let⟨b,zs,rfl,T,S,L,z⟩:=A;have B:=k.ext f;show⟨a,b,xs,zs,rfl,rfl,f.h _ _ m,L,by rw[y.length,z.length];show j.1,?_⟩;show g.nx _ _ O _ f.g (B.change w n ((y.mono f.g).append z)) j.2
  show j.elim
 show h.elim
def uF(i:Nat)(ti te:TD):TX:=λD ρ=>match gt ρ i with
 | .ow ds=>te ρ λr=>ti ρ λrk=>match rk.val with
  | .int k=>∃j,iI ds.length k\j/\D.nx (ρ.set i (.ow (ds.set j r.val)))
  | _=>False
 | _=>False
def zev(i)(hi:PD X i' ti)(Q:PD X e te)(hN:Nm X i x:=by walk_at"nm")
  (R:∀v,assign (.Subscript (.Name x d) i' b) X.env v=(do
   let ov <-holding [v] (eval (.Name x d) X.env)
   let iv <-holding [v,ov] (eval i' X.env)
   standAt b
   holding [v,ov,iv] (setItem ov iv v)
   release [v,ov,iv] []):=by intro _;rfl)
  (N:swapsWithSole [.Subscript (.Name x d) i' b] e pos.line X.env=pure false:=by rfl) (hw:swappedStores [.Subscript (.Name x d) i' b] e X.env=pure none:=by rfl)
  (m:(assignEach [.Subscript (.Name x d) i' b] X.env).map (·.2)=[assign (.Subscript (.Name x d) i' b) X.env]:=by rfl) :
  PX X (.Assign [.Subscript (.Name x d) i' b] e pos) (uF i ti te):=by
 symm;let⟨t,p,q⟩:=Q;let⟨W,I,L⟩:=hi;show⟨_,SN p (zur (jH hN) I zqb R) N hw m,λρ σ B A G H D E k h g=>?_⟩;unfold uF at h;split at h
 .rename_i ds y;symm;let⟨a,xs,m,S,Z,Y,z⟩:=k.ow i ds y;show q ρ σ B A G H _ _ k h λv H' r G' F K O=>?_
  symm;obtain⟨V,s,J,_⟩:=K.freeze F;show⟨_,m,L ρ σ B A V H' _ _ (k.ext s) O λu H3 rk G3 C M f=>?_⟩;symm;obtain⟨U,o,w,_⟩:=M.freeze C;split at f
  .rename_i kk T;symm;let⟨j,P,f⟩:=f;rw[T] at w;have n:=s.trans o;show⟨a,xs,kk,j,rfl,w,n.h _ _ S,by rw[z.length];show P,?_⟩;show g.nx _ _ U _ n.g ((k.ext n).change y m ((z.mono n.g).set j (J.mono o.g))) f
  show f.elim
 show h.elim
def zu4:TX:=λ_ _=>False
theorem zqI{st:bY}:PX X st zu4:=⟨_,zp1,λ_ _ _ _ _ _ _ _ _ h _=>h.elim⟩
end
section
variable{κ:Type}[DecidableEq κ]
def fk(kvs:List (κ×V))(k:κ):Option V:=(kvs.find? λkv=>decide (kv.1=k)).map (·.2)
def qw(kvs:List (κ×V))(k:κ)(v:V):List (κ×V):=
 if (kvs.any λkv=>decide (kv.1=k))=true then kvs.map (λkv=>if kv.1=k then(kv.1,v) else kv) else kvs++[(k,v)]
def U7{p:κ×V}{r:List (κ×V)}{k:κ}(e:p.1=k):fk (p::r) k\p.2:=by simp[fk,ju,e]
def U6{p:κ×V}{r:List (κ×V)}{k:κ}(e:¬p.1=k):fk (p::r) k=fk r k:=by simp[fk,ju,e]
def zkI(kvs:List (κ×V))(k:κ)(v:V):(qw kvs k v).length<=kvs.length+1:=by
 unfold qw;grind
def ml.aaN(r:ml o u):o.isSome=u.isSome:=by
 cases o with
 | none=>cases u with
  | none=>rfl
  | some _=>show(show False from r).elim
 | some _=>cases u with
  | none=>show(show False from r).elim
  | some _=>rfl
def KV.val{kvs:List (κ×V)}{d:List (κ×af)}(r:KV kvs d)(k:κ):ml (fk kvs k) (valueAt d k):=by
 unfold KV at r;induction r with
 | nil=>show vQ
 | @cons p q ps a h t g=>
  let⟨f,i⟩:=h;by_cases e:p.1=k
  .have c:q.1=k:=f.symm.trans e;have b:valueAt (q::a) k\q.2:=by simp[valueAt,ju,c]
   rw[U7 e,b];show i
  have c:¬q.1=k:=λz=>e (f.trans z)
  have b:valueAt (q::a) k=valueAt a k:=by simp[valueAt,ju,c]
  rw[U6 e,b];show g
def KV.any{kvs:List (κ×V)}{a:List (κ×af)}(r:KV kvs a)(k:κ):(kvs.any λkv=>decide (kv.1=k))=a.any λkv=>decide (kv.1=k):=by
 unfold KV at r;induction r with
 | nil=>rfl
 | cons h t b=>rw[oS,oS,b,h.1]
def KV.Fb{kvs:List (κ×V)}{a:List (κ×af)}(r:KV kvs a)(k:κ){y:V}{u:af}(c:RelV y u) :
  KV (kvs.map λkv=>if kv.1=k then(kv.1,y) else kv) (a.map λkv=>if kv.1=k then(kv.1,u) else kv):=by
 unfold KV at r ⊢;induction r with
 | nil=>show .nil
 | @cons p q ps d h t b=>
  rw[c8,c8];show .cons ?_ b;grind
def KV.put{kvs:List (κ×V)}{a:List (κ×af)}(r:KV kvs a)(k:κ){y:V}{u:af}(b:RelV y u):KV (qw kvs k y) (stored a k u):=by
 unfold qw stored;rw[r.any k];by_cases e:(a.any λkv=>decide (kv.1=k))=true
 .rw[if_pos e,if_pos e];show r.Fb k b
 rw[if_neg e,if_neg e];show OL r ⟨rfl,b⟩
def KV.keys{kvs:List (κ×V)}{a:List (κ×af)}(r:KV kvs a):kvs.map (·.1)=a.map (·.1):=by
 unfold KV at r;induction r with
 | nil=>rfl
 | cons h t b=>rw[c8,c8,b,h.1]
theorem KV.length{kvs:List (κ×V)}{a:List (κ×af)}(r:KV kvs a):kvs.length=a.length:=CK r
end
def zN(r:RelV (kV k) u):(gf P w).is k u=true:=by
 cases k with
 | inl i=>let⟨t,e⟩:=(show ∃t,u=tW i t from r);subst e;show zkq P w i t
 | inr x=>let⟨t,e⟩:=(show ∃t,u=vP x t from r);subst e;show zkr P w x t
def wN(i:ay):Prop:=∀ov iv,subscripted i false ov iv=operate [ov,iv] (getItem ov iv)
def Tv
  (m:typeLookup (.type T) "__getitem__"=pure (some (.builtin k))) (l:wN slice)
  (h:↥(eval a env) (λo g=>↥(eval slice env) (λi b=>b.TypeIs o T/\↥(getItem o i) Q E b) E g) E s) :
  ↥(eval (.Subscript a slice c) env) Q E s:=by
 show GD (ja h (λo g j=>ja j (λi b d=>?_) λ_ _ x=>x) λ_ _ x=>x);let⟨f,d⟩:=d;unfold subscriptTail;show aq ?_;rw[getitemInPython_of_ne f.not_modules];show aq (Hq f m ?_);have fin:↥(subscripted slice false o i) (λr e=>↥(letTemporaryGo a o r >>= λ_=>pure r) Q E e) E b:=by
  rw[l o i];show wpAny_operating (ja d (λr e n=>aq (wpAny_letTemporaryGo (aE n))) λ_ _ x=>x)
 first
  | show aE (aq fin)
  | show aq (aE (aq fin))
  | show aq fin
structure M2(X:Cx)(o:ay)(m:aa)(apos:aN)(e f:ay)(gL:aN):Prop where
 base:attributeBase o m X.env (eval o X.env)=eval o X.env
 B4:((backTo gL (starEach [e,f] X.env)).all (λx=>!x.1)&&(backToKw gL (keywordEach [] X.env)).all (λx=>x.1.isSome)
  && decide (([e,f]:List ay).length+([]:List Keyword).length+(if ([]:List Keyword).isEmpty then 0 else 1)<30))=true
 line:(apos.endLine==gL.line)=true
 trees:backTo gL (starEach [e,f] X.env)=[(false,eval e X.env),(false,eval f X.env)]
theorem DU(ok:eX P w H h)(e:Rd H a (.dK kvs b)):kvs.length<=sizeLine/\(a==sysModules)=false/\∃c,KV kvs c/\h.DictAt (gf P w) a c b:=
 show fQ P w H h a (.dK kvs b) from e.ok ok
theorem zM(ok:eX P w H h)(e:Rd H a (.dK kvs i)):kvs.length<=sizeLine/\(a==sysModules)=false/\∃b,KV kvs b/\h.DictOf (gf P w) a b:=
 let⟨g,f,b,d,c⟩:=DU ok e
 ⟨g,f,b,d,c.dictOf⟩
theorem Sb(ok:eX P w H h)(e:H a\.dK kvs c):kvs.length<=sizeLine/\(a==sysModules)=false/\∃b,KV kvs b/\h.DictOf (gf P w) a b:=zM ok (.inl e)
def rL(H:Hp)(a:ag)(y:V)(r:Option V):Prop:=∃kvs b k,Rd H a (.dK kvs b)/\y=kV k/\r=fk kvs k
theorem rL.k{k:Key}(e:H a\.dK kvs b):rL H a (kV k) (fk kvs k):=⟨kvs,b,k,.inl e,rfl,rfl⟩
section
variable{σ:St}
def Inv.big(I:Inv X J' σ H s):sysModules< *...*:=by
 have h:mainGlobals< *...*:=(I.mod.glob.keeps I.bk).lt;show y4 (by decide) h
def zok(I:Inv X J' σ H s)(g:rL H a y (some v))(i:RelV y u)(h:∀b d,Inv X J' σ H d->RelV v b->Q b d):wpAny (model X.prog X.w) A (getItem (.ref a) u) Q E s:=by
 symm;let⟨kvs,p,k,e,m,l⟩:=g;subst m;symm;let⟨z,hd,f,rel,n⟩:=zM I.aX e;let⟨b,hw,j⟩:=ml.some_of (v:=v) (o:=valueAt f k) (by rw[l];show rel.val k);show wpAny_getItem_of (zN i) n.mapOf hw (h b _ (I.tok _) j)
def ztb(I:Inv X J' σ H s)(g:rL H a y o)(d:RelV y u)(h:∀b,Inv X J' σ H b->Q (.bool (!o.isSome)) b):wpAny (model X.prog X.w) A (compareOp .NotIn u (.ref a)) Q E s:=by
 symm;let⟨kvs,m,k,e,f,l⟩:=g;subst f;symm;let⟨z,hd,j,rel,i⟩:=zM I.aX e;show wpAny_notIn_of (zN d) hd i.mapOf ?_;rw[<-(rel.val k).aaN,<-l];show h _ (I.tok _)
theorem Tu(I:Inv X J' σ H s)(c:Ci (H a))(d:j4 a s.heap h')(f:∃q,h'.get? a\q)(new:fQ X.prog X.w (upd H a ob) h' a ob) :
  Inv X J' σ (upd H a ob) { s with heap:=h',toks:=t' }:=
 I.write (x:=a) (e:=a) c (.inl rfl) (λb q g z=>(d.2 b g).trans z) f new
theorem Sa{h':aB}(e:h'.DictOf (gf P w) a c):∃b,h'.DictAt (gf P w) a c b:=let⟨o,d,b,r⟩:=e;⟨b,o,d,r⟩
theorem SY(z:kvs.length<=sizeLine)(hd:(a==sysModules)=false)(c:KV kvs b)(e:h'.DictAt (gf P w) a b d) :
  fQ P w H' h' a (.dK kvs d):=⟨z,hd,b,c,e⟩
def zom{o:Nat}(I:Inv X J' σ H s)(e:H a\.dK kvs o)(l:kvs.length<sizeLine)(i:RelV (kV k) u)(j:RelV v r)(h:∀d b,Inv X J' σ (upd H a (.dK (qw kvs k v) b)) d->Q () d) :
  wpAny (model X.prog X.w) A (setItem (.ref a) u r) Q E s:=by
 symm;let⟨z,hd,g,rel,p⟩:=Sb I.aX e;have hz:g.length<=sizeLine:=by rw[<-rel.length];show z
 have hl:(qw kvs k v).length<=sizeLine:=by have:=zkI kvs k v;room
 show wpAny_setItem_pairs (hsz:=hz) (zN i) p λh' f m=>?_
 have he:∃q,h'.get? a\q:=let⟨q,_,_,n,_⟩:=f;⟨q,n⟩
 let⟨b,t⟩:=Sa f;show h _ b (Tu I (by rw[e];show vQ) m he (SY hl hd (rel.put k j) t))
end
def zwt(c ty:TE):TE:=λσ H Q=>c σ H λx H1=>ty σ H1 λy b=>∃a v,x=.ref a/\rL b a y (some v)/\Q v b
def zwu(d ty c:TE):TS:=λD σ H=>c σ H λv H1=>d σ H1 λx g=>ty σ g λy b=>∃a kvs f k,x=.ref a/\b a\.dK kvs f/\y=kV k/\kvs.length<sizeLine/\∀e,D.nx σ (upd b a (.dK (qw kvs k v) e))
def IsD(H:Hp)(a:ag):Prop:=∃kvs b,Rd H a (.dK kvs b)
def zu7{g:St}(I:Inv X j g H s)(d:IsD H a) :
  s.TypeIs (.ref a) "dict"/\(∀b,fM a=.ref b->∃ob,s.heap.get? b=some ob/\ob.dict=none)/\(a==sysModules)=false:=by
 symm;let⟨kvs,n,e⟩:=d;let⟨z,hd,m,z,f⟩:=zM I.aX e;show⟨f.typeIs,λb q=>?_,hd⟩;cases q;symm;let⟨ob,z,z,i,h,z⟩:=f;show⟨ob,i,h.2.1⟩
section
variable{o i e value:ay}
def Tt(t:PE X o td)(hi:PE X i ty)(r:wN i):PE X (.Subscript o i pos) (zwt td ty):=by
 intro d s σ H Q I h;show Tv PySem.F.slot_dict_getitem.lookup r (aW (t d s σ H _ I h) λu s1 b=>?_);let⟨x,H1,z,m,q⟩:=b;show aW (hi d s1 σ H1 _ z q) λiv s2 b=>?_
 let⟨y,B,f,j,a,v,ex,g,p⟩:=b;subst ex;obtain rfl:u=fM a:=m;symm;let⟨kvs,w,k,e,l⟩:=id g;show⟨(zu7 f ⟨kvs,w,e⟩).1,zok f g j λC D A n=>⟨v,B,A,n,p⟩⟩
def Tq(t:PE X o td)(hi:PE X i ty)(hv:PE X value tv)(q:swapsWith value (some (.Subscript o i pos')) pos.line X.env=pure false) :
  PS X (.Assign [.Subscript o i pos'] value pos) (zwu td ty tv):=by
 intro c s σ H D I h;show wpAny_Assign_Subscript (aW (hv c s σ H _ I h) λr s1 b=>?_) q;let⟨v,H1,C,f,n⟩:=b;show aW (t c s1 σ H1 _ C n) λu s2 b=>?_
 let⟨x,E,B,e,m⟩:=b;show aW (hi c s2 σ E _ B m) λiv s3 b=>?_
 let⟨y,G,A,d,a,kvs,F,k,ex,g,w,l,j⟩:=b;subst ex w;obtain rfl:u=fM a:=e;show zom A g l d f λs4 p z=>⟨σ,_,z,j p⟩
theorem zqL(h:aB)(a:sysModules<h.objs.size):fQ P w H (h.push { cls:=.type "dict",data:=.dict #[] }) h.objs.size (.dK [] 0):=
 ⟨cA _,beq_eq_false_iff_ne.mpr (Ne.symm (cg a)),[],.nil,_,#[],cV _ rfl,⟨rfl,rfl,rfl⟩,rfl,λ_ he=>by simp at he,Pairs.nil,vX⟩
def zu8:TE:=λ_ H Q=>∀p,H p=none->Q (.ref p) (upd H p (.dK [] 0))
theorem zqM:PE X (.Dict [] [] pos) zu8:=λb s σ H Q I h=>
 PV ⟨.ref *...*,_,I.laid (a:=*...*) (o:=.dK [] 0) (t':=s.toks) (λ_ _ q=>bW _ q) (bB _) (zqL s.heap I.big),rfl,h _ (I.aX.fresh (bB _))⟩
end
def zop:fR X (.builtin "len") (λxs H Q=>∃a kvs b,xs=[V.ref a]/\H a=some (.dK kvs b)/\Q (.int kvs.length) H):=by
 intro i s σ H xs us Q I r h;symm;let⟨a,kvs,b,rfl,e,q⟩:=h;let⟨u,rfl,d⟩:=gy r;cases d;symm;let⟨z,hd,g,rel,f⟩:=zM I.aX (.inl e);show call_len_dict hd f (by rw[<-rel.length];rw[GK] at z;lia) ?_;rw[<-rel.length];show⟨.int kvs.length,H,I.tok _,⟨_,rfl⟩,q⟩
end L2
namespace PySem
open Sem (wp)
def zjR:typeLookup (.type "list") "keys"=pure none:=by kernel_rfl
def zew
  (hx:s.heap.get? a=some o) (j:o.cls=.type "list") (n:o.data=.seq xs k) (hd:o.dict=none) (b:typeLookup (.type "list") name=pure none) (f:(["__module__","__name__","__qualname__","__doc__","__annotations__"]:List aa).contains name=false) (q:A.handled=none)
  (h:∀h' tk e,Heap.NewExcOf s.heap h' e "AttributeError"->Q none { s with heap:=h',toks:=tk }) (hsz:name.length+100<=sizeLine:=by size_fits) :
  ↥(getAttr? (.ref a) name) Q E s:=by
 let⟨c,r,dat,sl⟩:=o;simp only at j n hd;subst j n hd;let⟨p,g,d,tk,os⟩:=s;have l:∀i,(⟨p,g,d,i,os⟩:aj).TypeIs (.ref a) "list":=λ_=>⟨_,hx,rfl⟩
 have f1:=sub_AttributeError;have v:=F.slot_list_getattribute.lookup;have f4:=F.slot_list_getattribute.bind (.ref a);have u:=am_list_getattr_none;unfold getAttr? getAttrBy? getAttrBy;repeat(any_goals (first | assumption | show l _ | ((with_reducible show wpAny _ _ (call (Value.builtin "list.__getattribute__") _ _) _ _ _);show tX F.slot_list_getattribute (l _) am_entry_list_getattribute (F.args_list_getattribute_2 _ _) (meets_getattribute_miss_list a xs k sl name _ b f hsz) ⟨hx,q,λh' i e m=>?_⟩) | wp_step))
 let⟨t',t,he⟩:=m.there;show wpAny _ _ (getattributeRaised _ _ _ _ _ _ _) _ _ _;unfold getattributeRaised;repeat(any_goals (first | assumption | wp_step))
 show h _ _ _ m.of
theorem Wr:entryFor table "dict.update.loop"=some Builtin.«dict.update.loop»:=entryFor_of_tree (by kernel_rfl)
def Wq:plainId "dict.update.loop"=true:=by decide +kernel
section
variable{prog:aG}{w:aF}{K:Type}[DecidableEq K]{knd:KeyKind prog w K}{A:bh}{R:Result->aj->Prop}{I:ag}{fp wr:List ag}{G:Array GenState->Array GenState->Prop}{n:Nat}{P:Nat->af->Prop}{St:Nat->aj->Prop}
def zkJ{kvs:List (K×af)}(c:(kvs.map (·.1)).Nodup){i:Nat}{k:K}{y:af}(e:kvs[i]?\(k,y)):stored (kvs.take i) k y=kvs.take (i+1):=by
 have g:(kvs.take i).any (λkv=>kv.1=k)=false:=by
  rw[P8];intro z;rw[wa] at z;let⟨p,b,d⟩:=z;let⟨j,f,a⟩:=jW b;rw[eK] at f;have hi:i<kvs.length:=(cH.mp e).1;have h:(kvs.map (·.1))[j]'(by grind)=(kvs.map (·.1))[i]'(by cbv):=by
   rw[ub,ub];rw[wj] at a;rw[a,(cH.mp e).2];simpa using d
  show pX.mp c j i (by rw[aL];lia) (by cbv) (by grind) h
 unfold stored;rw[g];rw[fB,e];rfl
def zqN(W:WalksS prog w A.in1 I fp wr G n P St)(S:ag)(u:S∉fp)(B:aB)(kvs:List (K×af))(hx:kvs.length=n)(U:(kvs.map (·.1)).Nodup)(hsz:kvs.length<=sizeLine)
  (L:∀i v,P i v->∃k y key a,kvs[i]?\(k,y)/\v=.ref a/\knd.is k key=true/\B.IsTuple a #[key,y]/\a≠S/\a∉wr) :
  ∀(m i:Nat)(s:aj),n-i=m->i<=n->St i s->s.heap.DictOf knd S (kvs.take i)->(∀b o,b≠S->b∉wr->B.get? b\o->s.heap.get? b\o)->
   (∀c,Moved (S::wr) G s c->c.heap.DictOf knd S kvs->R (.ok (.ret .none)) c)->codeAny (model prog w) A (.builtin "dict.update.loop" ⟨[.ref S,.ref I,rawInt (i:Int),.none],[]⟩) R s:=by
 have H:S∉wr:=λh=>u (W.sub _ h)
 have more:∀b∈wr,b∈S::wr:=λb d=>fL _ d
 intro m;induction m with
 | zero=>
  intro i s V hi st T nT q;have e:i=n:=by grind
  subst e;show kN Wr ?_;show aq (W.done s _ _ st λc hm=>?_);rw[<-hx,f6] at T;show aq (aE (aE (q c (hm.mono more) ?_)));let⟨o,l,p,j,r⟩:=T;show⟨o,l,p,hm.heap S _ H j,r⟩
 | succ m O=>
  intro i s V hi st T nT q;have C:i<n:=by grind
  show kN Wr ?_;show aq (W.item i s _ _ C st λv c Z aw hm=>?_);let⟨k,y,key,a,J,rfl,M,Y,g,D⟩:=L i v Z;have T':c.heap.DictOf knd S (kvs.take i):=by
   let⟨o,l,p,j,r⟩:=T;show⟨o,l,p,hm.heap S _ H j,r⟩
  let⟨o,Q,X,nn,hd⟩:=Y;have x:c.heap.get? a=some o:=hm.heap a o D (nT a o g D Q);show aq (fZ ?_);show aq (vV ?_);show aq (vT (T:="tuple") ⟨o,x,X⟩ ?_);show aq (vW x hd ?_);show aE ?_;show fZ (wpAny_dictSet_pairs (hsz:=by rw[eK];lia) M T' λh' F f=>?_);rw[zkJ U J] at F;show aE ⟨kM Wq _,O (i+1) _ (by grind) C (W.frame _ c _ _ aw (iC _) λb d o e=>?_) F (λb o t E e=>?_) λs2 N T3=>?_⟩
  .rw[f.2 b (λz:b=S=>u (by rw[<-z];show d))];show e
  .rw[f.2 b t];show hm.heap b o E (nT b o t E e)
  show q s2 (Moved.trans W.gtrans ((hm.mono more).then_heap (iC _) λb o d e=>?_) N) T3;rw[f.2 b (λz:b=S=>d (by rw[z];show nP))];show e
end
section
variable{prog:aG}{w:aF}{K:Type}[DecidableEq K]{knd:KeyKind prog w K}{A:bh}{E:af->aj->Prop}{s:aj}
def zmD{l:ag}{items:List af}{kvs:List (K×af)}{Q:af->aj->Prop}(C:A.handled=none)(S:∃o n,s.heap.get? l=some o/\o.cls=.type "list"/\o.dict=none/\o.data=.seq items.toArray n)(hx:kvs.length=items.length)(R:(kvs.map (·.1)).Nodup)(hsz:kvs.length<=sizeLine)
  (M:∀(i:Nat)(v:af),items[i]?\v->∃k y key a,kvs[i]?\(k,y)/\v=.ref a/\knd.is k key=true/\s.heap.IsTuple a #[key,y])
  (h:∀h' tk,h'.DictOf knd *...* kvs->(∀b o,s.heap.get? b\o->h'.get? b\o)->Q (.ref *...*) { s with heap:=h',toks:=tk }) :
  ↥(call (.type "dict") [.ref l]) Q E s:=by
 let⟨ol,nl,x,m,Z,z⟩:=S;show callType_codes (Q₁:=λobj I=>obj=.ref *...*/\I={ s with heap:=s.heap.push { cls:=.type "dict",data:=.dict #[] } }) F.kt_called_dict (F.kt_typeCall_dict_1 _) F.entry_dict_init (kt_code_dict_new _ ⟨rfl,rfl⟩) ?_;rintro obj I ⟨rfl,rfl⟩;have t:(s.heap.push { cls:=.type "dict",data:=.dict #[] }).DictOf knd *...* []:=Y3 s.heap;show⟨t.typeIs,F.args_dict_init_2 _ _,?_⟩;have j:(s.heap.push { cls:=.type "dict",data:=.dict #[] }).get? l=some ol:=bW _ x;show aq ?_;show aq (HR t.typeIs ?_);show aE ?_;show aq (vT (T:="list") ⟨_,j,m⟩ ?_);show aq (zew j m z Z zjR (by rfl) (by simpa using C) ?_);intro h' tk e ne;show aq (mI ?_);have kp:∀b o,(s.heap.push { cls:=.type "dict",data:=.dict #[] }).get? b=some o->h'.get? b=some o:=ne.keeps
 have B:h'.IsList l items.toArray:=⟨_,kp _ _ j,m,nl,z⟩
 have J:h'.DictOf knd *...* []:=by
  let⟨o,d,f,c,r⟩:=t;show⟨o,d,f,kp _ _ c,r⟩
 have u:l< *...*:=bI x;have g:*...*<h'.objs.size:=by
  let⟨o,d,f,c,r⟩:=J;show bI c
 show aq (wx B (aE ⟨kM Wq _,?_⟩));have Y:l≠h'.objs.size:=cg (y4 u g);have O:*...*∉[h'.objs.size,l]:=by
  simp![bM,gN,or_false,not_or];show⟨cg g,nJ u⟩
 have p:A.in1.in1.handled=none:=by simpa using C
 show zqN ((Cv p _ l Y items.toArray).toS) *...* O s.heap kvs (by trivial) R hsz (λi v hv=>?_) (items.toArray.size-0) 0 _ rfl (cA _)
  ⟨⟨_,cV _ rfl,rfl,rfl⟩,(B.push _)⟩ (by
   let⟨o,d,f,c,r⟩:=J;show⟨o,d,f,bW _ c,r⟩) (λb o BZ BY e=>bW _ (kp _ _ (bW _ e))) ?_
 .rw[HS] at hv;let⟨k,y,key,a,c,q,U,H⟩:=M i v hv;have G:a< *...*:=by obtain⟨o,P,_⟩:=H;show bI P
  show⟨k,y,key,a,c,q,U,H,cg G,?_⟩;simp![fj];show cg (y4 G g)
 intro L hm T;let⟨q,g',d',N,Bk⟩:=L;have W:g'=s.gens:=hm.gens;have X:d'=s.drawn:=hm.drawn;have V:Bk=s.os:=hm.os;subst W X V;show⟨rfl,h q N T λb o e=>?_⟩;have D:b< *...*:=bI e;show hm.heap b o ?_ (bW _ (kp _ _ (bW _ e)));simp![bM,gN,or_false,not_or];show⟨cg D,cg (y4 D g)⟩
end
end PySem
namespace L2
open PySem PySem.Spec PyProof.Rows
def kR:D->Option Key
 | .int i=>some (.inl i)
 | .str x=>some (.inr x)
 | _=>none
def ur:Key->D
 | .inl i=>.int i
 | .inr x=>.str x
def uO{K:ar}(r:Rep K G v d)(h:kR d\k):v=kV k:=by
 cases d<;>simp only[kR,fJ,reduceCtorEq] at h<;>subst h<;>simp only[Rep] at r<;>subst r<;>rfl
def look(kvs:List (Key×D))(k:Key):Option D:=(kvs.find? λkv=>decide (kv.1=k)).map (·.2)
def oY(kvs:List (Key×D))(k:Key)(d:D):List (Key×D):=
 if (kvs.any λkv=>decide (kv.1=k))=true then kvs.map (λkv=>if kv.1=k then(kv.1,d) else kv) else kvs++[(k,d)]
section
variable{K:ar}{G:Hp}
theorem bp.length:∀{ks kvs},bp K G ks kvs->ks.length=kvs.length
 | [],[],_=>rfl
 | a::ks,b::kvs,h=>by
  simp![eh,bp.length h.2]
 | [],_::_,h=>by simp![bp] at h
 | _::_,[],h=>by simp![bp] at h
def bp.nil:bp K G [] []:=by simp![bp]
theorem bp.any(k):∀{ks kvs},bp K G ks kvs->(ks.any λkv=>decide (kv.1=k))=kvs.any λkv=>decide (kv.1=k)
 | [],[],_=>rfl
 | a::ks,b::kvs,h=>by
  rw[oS,oS,h.1.1,bp.any k h.2]
 | [],_::_,h=>by simp![bp] at h
 | _::_,[],h=>by simp![bp] at h
theorem bp.snoc(r:Rep K G v d):∀{ks kvs},bp K G ks kvs->bp K G (ks++[(k,v)]) (kvs++[(k,d)])
 | [],[],_=>by simp![t8,bp];show⟨⟨trivial,r⟩,trivial⟩
 | a::ks,b::kvs,h=>by
  show⟨h.1,bp.snoc r h.2⟩
 | [],_::_,h=>by simp![bp] at h
 | _::_,[],h=>by simp![bp] at h
theorem bp.Fb(r:Rep K G v d):∀{ks kvs},bp K G ks kvs->bp K G (ks.map λkv=>if kv.1=k then(kv.1,v) else kv) (kvs.map λkv=>if kv.1=k then(kv.1,d) else kv)
 | [],[],_=>by trivial
 | a::ks,b::kvs,h=>by
  simp![c8,bp];show⟨?_,bp.Fb r h.2⟩;rw[h.1.1];split
  .exact⟨rfl,r⟩
  show⟨h.1.1,h.1.2⟩
 | [],_::_,h=>by assumption
 | _::_,[],h=>by assumption
def bp.put(h:bp K G ks kvs)(r:Rep K G v d):bp K G (qw ks k v) (oY kvs k d):=by
 unfold qw oY;rw[h.any k];split
 .exact h.Fb r
 show h.snoc r
theorem bp.look{k:Key}{d:D}:∀{ks:List (Key×V)}{kvs:List (Key×D)},bp K G ks kvs->look kvs k\d->∃v,fk ks k\v/\Rep K G v d
 | [],[],_,e=>by trivial
 | a::ks,b::kvs,h,e=>by
  simp![bp] at h;unfold L2.look at e;unfold fk;rw[ju] at e ⊢;rw[h.1.1];by_cases c:b.1=k
  .simp_all
  simp![c,fA] at e ⊢;show bp.look h.2 e
 | [],_::_,h,_=>by simp![bp] at h
 | _::_,[],h,_=>by simp![bp] at h
theorem bp.isSome(k):∀{ks kvs},bp K G ks kvs->(fk ks k).isSome=(L2.look kvs k).isSome
 | [],[],_=>rfl
 | a::ks,b::kvs,h=>by
  unfold L2.look fk;rw[ju,ju,h.1.1];by_cases c:b.1=k
  .simp![c,gF,hZ,HK]
  simp![c,fA];show bp.isSome k h.2
 | [],_::_,h=>by simp![bp] at h
 | _::_,[],h=>by simp![bp] at h
end
section
variable{X:Cx}{e i':ay}{te ti tv:TD}
def DT:TD:=λ_ Q=>Q (.ov (.dc []))
def D8:PD X (.Dict [] [] pos) DT:=by
 show⟨_,zqM,λρ σ c b G H Q P E h k=>λd hd=>?_⟩;show k _ _ (.ov (.dc [])) G (.own E.e.s hd) ⟨d,[],rfl,by show fE _ _,⟨rfl,[],0,cW,bp.nil⟩,λq a=>?_⟩ h;simp![fj] at a;subst a;show⟨hd,E.e.s.free hd⟩
def zF(a:Bool):O2:=λd e Q=>match e with
 | .dic kvs=>∃k,kR d\k/\Q (.fz (.bl (if a then !(look kvs k).isSome else(look kvs k).isSome)))
 | _=>False
def zoq(i:X.A.units+64<cLine):dG X (compareOp .NotIn) (λx y H Q=>∃a o,y=.ref a/\rL H a x o/\Q (.bl (!o.isSome)) H):=by
 intro j s σ H x y v u Q I d b h;symm;let⟨a,o,rfl,g,q⟩:=h;cases b;show ztb I g d λf e=>⟨.bl _,H,e,rfl,q⟩
def JK(g:X.A.units+64<cLine):hU X (compareOp .NotIn) (zF true):=by
 show⟨_,zoq g,λG H x y d e Q P s c b h k=>?_⟩;unfold zF at h;split at h
 .let⟨a,ks,j,rfl,f,rk⟩:=b;let⟨key,i,q⟩:=h;rw[uO c i];show⟨a,_,rfl,rL.k (k:=key) (s _ _ f),?_⟩;rw[rk.isSome key];show k _ _ _ G (.refl s) (cK (ip _ _ _)) q
 show h.elim
def DS(te ti:TD):TD:=λρ Q=>te ρ λr=>ti ρ λrk=>match r.val with
 | .dic kvs=>∃k d,kR rk.val\k/\look kvs k\d/\Q (.fz d)
 | _=>False
def xm(U:X.A.units+64<cLine)(K:PD X e te)(hi:PD X i' ti)(D:wN i':=by intro _ _;rfl):PD X (.Subscript e i' pos) (DS te ti):=by
 let⟨t,p,q⟩:=K;let⟨T,z,y⟩:=hi;show⟨_,Tt p z D,λρ σ l j G H Q P E h k=>q ρ σ l j G H _ _ E h λv H1 r Y n x F=>?_⟩;obtain⟨S,f,i,_⟩:=x.freeze n;show y ρ σ l j S H1 _ _ (E.ext f) F λu O rk W m B b=>?_
 obtain⟨R,c,C,_⟩:=B.freeze m;split at b
 .rename_i kvs N;let⟨key,d,J,I,b⟩:=b;rw[N] at i;let⟨a,ks,V,rfl,L,o⟩:=i;rw[uO C J];let⟨w,hw,M⟩:=(bp.mono c.g _ _ o).look I;show⟨a,w,rfl,?_,k w O (.fz d) R (f.trans c) M b⟩;rw[<-hw];show rL.k (k:=key) (c.s _ _ (c.g _ _ L))
 show b.elim
def zL(i:Nat)(ti:TD):TD:=λρ Q=>match gt ρ i with
 | .ov (.dc kvs)=>ti ρ λrk=>∃k d,kR rk.val\k/\look kvs k\d/\Q (.fz d)
 | _=>False
def ztd(K:X.A.units+64<cLine)(i)(hi:PD X i' ti)(s:wN i':=by intro _ _;rfl)(hN:Nm X i x:=by walk_at"nm"):PD X (.Subscript (.Name x o) i' pos) (zL i ti):=by
 let⟨J,n,m⟩:=hi;show⟨_,Tt (jH hN) n s,λρ σ I D G H Q P E h k=>?_⟩;unfold zL at h;split at h
 .rename_i kvs v;let⟨own,o1,p⟩:=E.on;obtain⟨a,fp,B,N,⟨rfl,ks,L,y,j⟩,M⟩:=p i _ v;show⟨_,B,m ρ σ I D G H _ _ E h λu C rk O f q e=>?_⟩;obtain⟨F,b,r,_⟩:=q.freeze f;let⟨key,d,t,hl,e⟩:=e;rw[uO r t];let⟨w,hw,z⟩:=(bp.mono b.g _ _ j).look hl;show⟨a,w,rfl,?_,k w C (.fz d) F b z e⟩;rw[<-hw];show rL.k (k:=key) (b.h _ _ y)
 show h.elim
def zz(i:Nat)(ti tv:TD):TX:=λD ρ=>match gt ρ i with
 | .ov (.dc kvs)=>tv ρ λr=>ti ρ λrk=>∃k,kR rk.val\k/\kvs.length<sizeLine/\D.nx (ρ.set i (.ov (.dc (oY kvs k r.val))))
 | _=>False
def D4(hu:X.A.units+64<cLine)(i)(hi:PD X i' ti)(Z:PD X e tv)(hN:Nm X i x:=by walk_at"nm")
  (W:swapsWith e (some (.Subscript (.Name x w) i' s)) pos.line X.env=pure false:=by rfl) :
  PX X (.Assign [.Subscript (.Name x w) i' s] e pos) (zz i ti tv):=by
 symm;let⟨t,p,q⟩:=Z;let⟨t2,M,Q⟩:=hi;show⟨_,Tq (jH hN) M p W,λρ σ I F G H D E k h g=>?_⟩;unfold zz at h;split at h
 .rename_i kvs y;symm;let⟨own,o1,R⟩:=k.on;obtain⟨a,fp,C,b2,⟨rfl,ks,ep,B,N⟩,b4⟩:=R i _ y;show q ρ σ I F G H _ _ k h λv H' r G' K P f=>?_
  symm;obtain⟨G2,o,O,_⟩:=P.freeze K;show⟨_,C,Q ρ σ I F G2 H' _ _ (k.ext o) f λu H3 rk G3 J T j=>?_⟩;symm;obtain⟨G4,n,V,_⟩:=T.freeze J;let⟨key,Y,hlen,j⟩:=j;have d:=o.trans n;show⟨a,ks,ep,key,rfl,d.h _ _ B,uO V Y,by rw[N.length];show hlen,λU=>?_⟩;show g.nx _ _ G4 _ d.g ((k.ext d).tO y C λfp nd ow=>?_) j;symm;let⟨rfl,L,YF,S,m⟩:=ow;have e1:L=ks:=by
   have:=(d.h _ _ B).symm.trans S;injection this with this
   injection this with this
   show this.symm
  subst e1;show⟨[],by trivial,⟨rfl,_,U,cW,m.put (O.mono n.g)⟩,λq f=>.inl f,λb hb _=>br λz=>hb (by show z▸.head _)⟩
 show h.elim
def zK:bg:=λds Q=>match ds with
 | [.dic kvs]=>Q (.fz (.int kvs.length))
 | _=>False
def zvb:j9 X (.builtin "len") zK:=by
 show⟨_,zop,λG H b ds Q P s r h k=>?_⟩;unfold zK at h;split at h
 .rename_i kvs;cases b with
  | nil=>simp![av] at r
  | cons v b=>
   cases b with
   | cons=>show r.2.elim
   | nil=>
    symm;obtain⟨⟨a,ks,e,rfl,d,rk⟩,_⟩:=r;show⟨a,ks,e,rfl,s _ _ d,?_⟩;rw[rk.length];show k _ _ _ G (.refl s) (cK (fm _ _ _)) h
 show h.elim
def zJ(i:Nat):TX:=λD ρ=>match gt ρ i with
 | .ov o=>D.rt (.ov o)
 | _=>False
def Jx(i)(hN:Nm X i x:=by walk_at"nm"):PX X (.Return (some (.Name x f)) pos) (zJ i):=by
 show⟨_,Jm (jH hN),λρ σ t s G H D E k h g=>?_⟩;unfold zJ at h;split at h
 .rename_i o m;let⟨own,o1,j⟩:=k.on;let⟨a,fp,r,p,n,d⟩:=j i _ m;show⟨_,r,g.rt _ H (.ov o) G k.e ⟨a,fp,rfl,p,n,λq b=>⟨(d q b).2.1,(d q b).1⟩⟩ h⟩
 show h.elim
end
section
variable{K:ar}
theorem cv.length:∀{a dss},cv K G H a dss->a.length=dss.length
 | [],[],_=>rfl
 | q::a,ds::dss,h=>by
  simp![eh,cv.length h.2]
 | [],_::_,h=>by simp![cv] at h
 | _::_,[],h=>by simp![cv] at h
theorem cv.snoc:∀{a dss},cv K G H a dss->H p\.lst zs->av K G zs ds->cv K G H (a++[p]) (dss++[ds])
 | [],[],_,c,b=>by show⟨⟨zs,c,b⟩,trivial⟩
 | q::a,d::dss,h,c,b=>by
  show⟨h.1,cv.snoc h.2 c b⟩
 | [],_::_,h,_,_=>by simp![cv] at h
 | _::_,[],h,_,_=>by simp![cv] at h
theorem cv.get:∀{a dss}{j:Nat}{ds},cv K G H a dss->dss[j]?\ds->∃q xs,a[j]?\q/\H q\.lst xs/\av K G xs ds
 | [],[],j,ds,_,e=>by trivial
 | q::a,b::dss,0,ds,h,e=>by
  simp![cv] at h;cbv
 | q::a,b::dss,j+1,ds,h,e=>by
  simp![wJ] at e ⊢;show cv.get h.2 e
 | [],_::_,_,_,h,_=>by simp![cv] at h
 | _::_,[],_,_,h,_=>by simp![cv] at h
theorem cv.set(b:av K G ys c):∀{a dss j},cv K G H a dss->a.Nodup->a[j]?\q->cv K G (upd H q (.lst ys)) a (dss.set j c)
 | [],[],j,_,_,e=>by trivial
 | r::a,ds::dss,0,h,nd,e=>by
  simp![wI,fJ] at e;subst e;show⟨⟨ys,cW,b⟩,h.2.mono (aZ.refl _) λp d xs e=>?_⟩;rw[br (λz:p=r=>(eH.mp nd).1 (z▸d))];show e
 | r::a,ds::dss,j+1,h,nd,e=>by
  show⟨?_,cv.set b h.2 (eH.mp nd).2 e⟩;obtain⟨⟨xs,g,f⟩,_⟩:=h;show⟨xs,?_,f⟩;rw[br (λz:r=q=>(eH.mp nd).1 (z▸cP e))];show g
 | [],_::_,_,h,_,_=>by simp![cv] at h
 | _::_,[],_,h,_,_=>by assumption
end
def Jb(e:fI)(m:List (Option Nat))(g:du)(tc:dF)(te:TD):TD:=λρ Q=>e ρ λds=>∃a:Nat->List (List D)->Prop,a 0 []/\
 (∀i d acc,ds[i]?\d->a i acc->g d (cR m ρ) λc=>tc c λb=>if b=true then te c λr=>match r with
  | .ow f=>acc.length<sizeLine/\a (i+1) (acc++[f])
  | _=>False
  else a (i+1) acc)/\∀acc,a ds.length acc->Q (.ov (.ll acc))
section
variable{m:List (Option Nat)}{wi:fI}{g:du}{tc:dF}
def Z9(K):vI K (List D) where
 B:=λG H xs fp acc=>xs=fp.map V.ref/\cv K G H fp acc
 sel:=λr k=>match r with
  | .ow j=>k j
  | _=>False
 res:=λacc=>.ov (.ll acc)
 nil:=λ_ _=>⟨rfl,by simp![cv]⟩
 len:=λh=>by rw[h.1,aL,h.2.length]
 here:=λh=>h.2.here
 mono:=λg n h=>⟨h.1,h.2.mono g λq e _=>n q e _⟩
 snoc:=λ{G H u H' v r k xs fp acc} x m i h=>by
  cases r with
  | ow j=>
   symm;let⟨p,zs,rfl,c1,t,s,o⟩:=m;show⟨j,u,[p],i,x,⟨by rw[h.1,c9];rfl,h.2.snoc s o⟩,fE _ _,λq e=>by rw[fj.mp e];show⟨c1,t⟩⟩
  | fz=>show i.elim
  | ov=>show i.elim
 fin:=λd b nd f=>⟨_,_,rfl,nd,⟨by rw[<-b.1];show d,b.2⟩,f⟩
theorem zqQ(x:iQ X N' m scope)(s:jD m g)
  (r:∀ρ σ f e G H Q P,aU X.K f e ρ σ G H->wi ρ Q->(∀J H' ds a,Ext G H a H'->Walk X.K J a ds->Q ds->P J H')->ww σ H P)
  (q:∀s3 c ex ρ σ f e G H d v Q P,aU X.K f e ρ σ G H->Rep X.K G v d->g d ρ Q->(∀ρ' j a H',aU X.K f e ρ' j a H'->Ext G H a H'->Q ρ'->P j H')->n s3 c ex v σ H P)
  (p:∀s3 c ex ρ σ f e G H Q P,aU X.K f e ρ σ G H->tc ρ Q->(∀b H' a,Ext G H a H'->Q b->P b H')->l s3 c ex σ H P)
  (o:∀s3 c ex,lq X.K te (i s3 c ex)):lq X.K (Jb wi m g tc te) (nZ ww m n l i):=λρ σ f e G H Q P E h k=>JP (Z9 X.K) s r q p (λs3 c ex ρ' j w H1 a H' t u _=>o s3 c ex ρ' j w H1 a H' t u) E h k
def zqR(i)(y:X.calm=true)(j:iQ X N' m scope)(u:jD m g)(hi:PId X tg iter wi)(d:∀s3 a ex,nE (fH X N' scope s3 a ex) tg g)(c:∀s3 a ex,rF (fH X N' scope s3 a ex) ifs tc)
  (e:∀s3 a ex,PD (fH X N' scope s3 a ex) elt te) (hN:X.N.Nodup:=by assumption) (q:X.N[i]?\x:=by rfl) (hx:Loc X.env.scope x:=by first | show Or.inl rfl | show Or.inr rfl) (s:∀x,foldedSetIterable iter X.env x=pure x:=by intro _;rfl)
  (p:swapsWith (.ListComp elt [⟨tg,iter,ifs,0⟩] scope pos) (some (.Name x b)) f.line X.env=pure true:=by rfl)
  (w:X.fn x=true\/X.env.scope.names.lookup x\.local:=by first | show .inl rfl | show .inr rfl | assumption) :
  PX X (.Assign [.Name x b] (.ListComp elt [⟨tg,iter,ifs,0⟩] scope pos) f) (uy i (Jb wi m g tc te)):=by
 let⟨ww,o,n⟩:=hi;show⟨_,xh (g:=λs3 a ex=>(d s3 a ex).choose) (tc:=λs3 a ex=>(c s3 a ex).choose) (te:=λs3 a ex=>(e s3 a ex).choose) hN q hx y j o (λs3 a ex=>(d s3 a ex).choose_spec.1) (λs3 a ex=>(c s3 a ex).choose_spec.1) (λs3 a ex=>(e s3 a ex).choose_spec.1) s p w,λρ σ B A G H D E k h z=>?_⟩;show zqQ j u n (λs3 a ex=>(d s3 a ex).choose_spec.2) (λs3 a ex=>(c s3 a ex).choose_spec.2) (λs3 a ex=>(e s3 a ex).choose_spec.2) ρ σ B A G H _ _ k h λv H' r C x l t=>z.nx _ _ C H' x.g (k.put x l) t
end
section
variable{X:Cx}{e i':ay}{te ti:TD}
def zI(i:Nat)(ti te:TD):TX:=λD ρ=>match gt ρ i with
 | .ov (.ll dss)=>ti ρ λrk=>match rk.val with
  | .int k=>∃j ds,iI dss.length k\j/\dss[j]?\ds/\te ρ λr=>ds.length<sizeLine/\D.nx (ρ.set i (.ov (.ll (dss.set j (ds++[r.val])))))
  | _=>False
 | _=>False
def zte(i)(hi:PD X i' ti)(he:PD X e te)(hN:Nm X i x:=by walk_at"nm")(MF:z7 i':=by intro _ _;rfl)(cY:starEach [e] X.env=(false,eval e X.env)::starEach [] X.env:=by rfl)
  (A:∀{o t},PE X (.Subscript (.Name x y) i' w) o->PA X [e] t->PE X (.Call (.Attribute (.Subscript (.Name x y) i' w) "append" C) [e] [] d) (uZ X.K "list" uL o t):=by intro o t h1 h2;show uB rW zk zj xx h1 h2) :
  PX X (.Expr (.Call (.Attribute (.Subscript (.Name x y) i' w) "append" C) [e] [] d) pos) (zI i ti te):=by
 symm;let⟨t,p,q⟩:=he;let⟨t2,Z,q2⟩:=hi;show⟨_,uM (A (zQ Fp (jH hN) Z MF) (pj p og cY)),λρ σ T S G H D E k h g=>?_⟩;unfold zI at h;split at h
 .rename_i dss J;symm;let⟨own,o1,o2⟩:=k.on;obtain⟨a,fp,R,b2,⟨L,I⟩,b4⟩:=o2 i _ J;show⟨_,R,q2 ρ σ T S G H _ _ k h λu H1 rk G1 Y Bh f=>?_⟩;symm;obtain⟨G2,n,B,_⟩:=Bh.freeze Y;split at f
  .rename_i kk e1;symm;let⟨j,ds,hj,i3,f⟩:=f;rw[e1] at B;symm;let⟨s,xs,c1,P,O⟩:=I.get i3;have gK:bE (fp.map V.ref) kk=some (.ref s):=by
    unfold bE;rw[aL,I.length,hj];simp[c1]
   show⟨a,fp.map V.ref,kk,_,rfl,B,bU.of (n.h _ _ L),gK,.inl ⟨rfl,xs,bU.of (n.h _ _ P)⟩,?_⟩;show q ρ σ T S G2 H1 _ _ (k.ext n) f λv H3 r G3 W ji Q=>?_
   symm;obtain⟨G4,U,iG,_⟩:=ji.freeze W;have m:=n.trans U;show⟨s,xs,v,rfl,rfl,m.h _ _ P,by rw[O.length];show Q.1,?_⟩;show g.nx _ _ G4 _ m.g ((k.ext m).tO J R λN nd ow=>?_) Q.2;symm;let⟨F,iZ⟩:=ow;have e3:N=fp:=by
    have:=(m.h _ _ L).symm.trans F;injection this with this
    injection this with this
    show((wB λa b h=>by cases h;rfl).mp this).symm
   subst e3;have M:=eH.mp nd;show⟨N,nd,⟨?_,iZ.set ((O.mono m.g).append (av.cons iG av.nil)) M.2 c1⟩,λq hq=>.inl hq,λb A _=>br λz=>A (by rw[z];show fL _ (cP c1))⟩;rw[br (λz:a=s=>M.1 (z▸cP c1))];show F
  show f.elim
 show h.elim
end
def DR:R->Bool
 | .fz d=>nY d
 | .ow ds=>ds.all nY
 | .ov (.dc kvs)=>kvs.all λp=>nY p.2
 | _=>false
def D3(i:Nat)(te:TD):TD:=λρ Q=>te (fP i ρ) λr=>DR r=true/\Q r
theorem VB{K:ar}:∀{a ds},ds.all nY=true->av K G a ds->av K b a ds
 | [],[],_,_=>av.nil
 | v::a,d::ds,h,r=>by
  rw[CJ,mK] at h;show av.cons (Eu h.1 r.1) (VB h.2 r.2)
 | [],_::_,_,r=>by simp![av] at r
 | _::_,[],_,r=>by simp![av] at r
theorem VA{K:ar}:∀{ks kvs},(kvs.all λp=>nY p.2)=true->bp K G ks kvs->bp K a ks kvs
 | [],[],_,_=>bp.nil
 | v::b,d::ds,h,r=>by
  rw[CJ,mK] at h;show⟨⟨r.1.1,Eu h.1 r.1.2⟩,VA h.2 r.2⟩
 | [],_::_,_,r=>by simp![bp] at r
 | _::_,[],_,r=>by simp![bp] at r
def To{K:ar}(i)(q:lq K te j):lq K (D3 i te) j:=by
 intro ρ σ t s G H Q P E h k;let⟨L,m,w,z⟩:=E.FW i;show q _ σ t s _ H _ _ w h λv H' r u x e b=>?_
 have l:=JN m x;show k v H' r (less u L) l ?_ b.2;have a:=b.1;cases r with
 | fz d=>show Eu a e
 | ow ds=>
  let⟨p,xs,rfl,c1,g,f,c⟩:=e;show⟨p,xs,rfl,c1,?_,f,VB a c⟩;unfold less;split
  .rfl
  show g
 | ov o=>
  cases o with
  | dc kvs=>
   obtain⟨p,fp,rfl,c1,⟨rfl,ks,n,g,f⟩,c⟩:=e;show⟨p,[],rfl,c1,⟨rfl,ks,n,g,VA a f⟩,λq b=>⟨(c q b).1,?_⟩⟩;unfold less;split
   .rfl
   show(c q b).2
  | ll=>cases a
  | dl=>cases a
  | tl=>cases a
  | ld=>cases a
  | dt=>cases a
  | tp=>cases a
  | ob=>cases a
  | dq=>cases a
  | li=>cases a
theorem zqT(i)(h:PD X e te):PD X e (D3 i te):=let⟨tt,p,q⟩:=h;⟨tt,p,To i q⟩
def J9(j i)(z:X.calm=true)(l:iQ X N' m scope)(w:jD m g)(hi:PId X tg iter wi)(d:∀s3 a ex,nE (fH X N' scope s3 a ex) tg g)(c:∀s3 a ex,rF (fH X N' scope s3 a ex) ifs tc)
  (e:∀s3 a ex,PD (fH X N' scope s3 a ex) elt te) (hN:X.N.Nodup:=by assumption) (s:X.N[i]?\x:=by rfl) (hx:Loc X.env.scope x:=by first | show Or.inl rfl | show Or.inr rfl) (t:∀x,foldedSetIterable iter X.env x=pure x:=by intro _;rfl)
  (q:swapsWith (.ListComp elt [⟨tg,iter,ifs,0⟩] scope pos) (some (.Name x b)) f.line X.env=pure true:=by rfl)
  (y:X.fn x=true\/X.env.scope.names.lookup x\.local:=by first | show .inl rfl | show .inr rfl | assumption) :
  PX X (.Assign [.Name x b] (.ListComp elt [⟨tg,iter,ifs,0⟩] scope pos) f) (uy i (D3 j (jB wi m g tc te))):=by
 let⟨ww,p,o⟩:=hi;show⟨_,xh (g:=λs3 a ex=>(d s3 a ex).choose) (tc:=λs3 a ex=>(c s3 a ex).choose) (te:=λs3 a ex=>(e s3 a ex).choose) hN s hx z l p (λs3 a ex=>(d s3 a ex).choose_spec.1) (λs3 a ex=>(c s3 a ex).choose_spec.1) (λs3 a ex=>(e s3 a ex).choose_spec.1) t q y,λρ σ C B G H D E k h A=>?_⟩;show To j (Ea l w o (λs3 a ex=>(d s3 a ex).choose_spec.2) (λs3 a ex=>(c s3 a ex).choose_spec.2) (λs3 a ex=>(e s3 a ex).choose_spec.2)) ρ σ C B G H _ _ k h λv H' r F x n u=>A.nx _ _ F H' x.g (k.put x n) u
section
variable{e i':ay}{te ti:TD}
def xk:List (Key×D)->Option (List Int)
 | []=>some []
 | (.inl i,_)::r=>(xk r).map (i::·)
 | _=>none
def qK:List (Key×V)->Option (List Int)
 | []=>some []
 | (.inl i,_)::r=>(qK r).map (i::·)
 | _=>none
theorem Wa{K:ar}:∀{ks kvs},bp K G ks kvs->qK ks=xk kvs
 | [],[],_=>rfl
 | (a,v)::ks,(b,d)::kvs,h=>by
  obtain⟨⟨rfl,_⟩,c⟩:=h;cases a with
  | inl i=>simp![qK,xk,Wa c]
  | inr x=>rfl
 | [],_::_,h=>by simp![bp] at h
 | _::_,[],h=>by simp![bp] at h
theorem V9:∀{ks ns},qK ks\ns->∀(i:Nat) k x,ks[i]?\(k,x)->∃n,ns[i]?\n/\k=.inl n
 | [],ns,h,i,k,x,e=>by trivial
 | (.inl a,v)::ks,ns,h,i,k,x,e=>by
  simp![qK,mF] at h;let⟨ms,b,rfl⟩:=h;cases i with
  | zero=>
   cbv
  | succ i=>
   show V9 b i k x e
 | (.inr a,v)::ks,ns,h,i,k,x,e=>by trivial
theorem Wk:∀{ks ns},qK ks\ns->ns.length=ks.length
 | [],ns,h=>by simp[qK] at h;subst h;rfl
 | (.inl a,v)::ks,ns,h=>by
  simp![qK,mF] at h;let⟨ms,b,rfl⟩:=h;simp[Wk b]
 | (.inr a,v)::ks,ns,h=>by trivial
def zox(U:X.calm=true):fR X (.builtin "min") (λxs H Q=>∃a ks B ns,xs=[V.ref a]/\H a=some (.dK ks B)/\qK ks=some ns/\ns≠[]/\∀M,M∈ns->(∀b∈ns,M<=b)->Q (.int M) H):=by
 intro J' s σ H xs us Q I r h;symm;let⟨a,ks,Y,ns,rfl,W,J,aY,q⟩:=h;let⟨u,rfl,T⟩:=gy r;cases T;symm;let⟨z,hd,f,rel,Z⟩:=Sb I.aX W;let⟨o,L,B,C,E⟩:=Z;have dat:s.heap.DictAt (gf X.prog X.w) a f B:=⟨o,L,C,E⟩
 have P:a< *...*:=bI C;have hlen:f.length=ns.length:=by rw[<-rel.length,Wk J]
 have acO:0<ns.length:=Df.mpr aY;have F:∀(i:Nat) k x,f[i]?\(k,x)->∃n,ns[i]?\n/\k=.inl n:=λi k x e=>by
  have hi:i<ks.length:=by rw[rel.length];show(cH.mp e).1
  symm;let⟨n,y,d⟩:=V9 J i ks[i].1 ks[i].2 (by rw[bO hi]);show⟨n,y,?_⟩;have m:ks.map (·.1)=f.map (·.1):=rel.keys;have N:=congrArg (λl=>l[i]?) m;simp![cx,bO hi,e,hZ,fJ] at N;rw[<-N,d]
 show call_min_walk (P7 hd dat ?_)
 show⟨_,_,_,_,_,_,_,rfl,He (knd:=gf X.prog X.w) (A:=X.A.in1) (by simpa using I.ok.hd U) _ a (cg P) f B,⟨⟨_,cV _ rfl,rfl,rfl⟩,?_⟩,λb p=>?_,by cbv,
  CmpOf.ints_lt (λi=>ns.getD i 0) (λi v D=>?_),λv h' tk D m=>?_⟩
 .exact⟨o,L,bW _ C,E⟩
 .show b<(s.heap.push _).objs.size;rw[nL];simp![bM,gN,or_false] at p;symm;rcases p with rfl | rfl
  .exact rR _
  show lE P
 .let⟨k,x,e,m⟩:=D;let⟨n,y,rfl⟩:=F i k x e;rw[uq,y];symm;rcases mW (show uD (.inl n) v=true from m) with⟨j,t,d,g⟩ | ⟨j,t,d,g⟩
  .cases d;show⟨t,g⟩
  cases d
 symm;let⟨y,d⟩:=argBest_lt (λi=>ns.getD i 0) (f.length-1);let⟨k,x,e,S⟩:=D;let⟨n,R,rfl⟩:=F _ k x e;obtain⟨j,t,K,rfl⟩:∃j t,(eJ n:Key)=eJ j/\v=tW j t:=by
  symm;rcases mW (show uD (.inl n) v=true from S) with⟨j,t,d,g⟩ | ⟨j,t,d,g⟩
  .exact⟨j,t,d,g⟩
  cases d
 cases K;show⟨.int n,H,I.kept (λb o' O=>m b o' ?_ (bW _ O)),⟨_,rfl⟩,q n (cP R) λb p=>?_⟩
 .simp![fj];show cg (bI O)
 let⟨j,K,rfl⟩:=Gs p;have g:=d j (by lia);rw[show n=ns.getD (argBest (λi j=>decide (ns.getD i 0<ns.getD j 0)) (f.length-1)) 0 by rw[uq,R];rfl];show g
def IF:bg:=λds Q=>match ds with
 | [.dic kvs]=>match xk kvs with
  | some ns=>ns≠[]/\∀M,M∈ns->(∀b∈ns,M<=b)->Q (.fz (.int M))
  | none=>False
 | _=>False
def zvc(g:X.calm=true):j9 X (.builtin "min") IF:=by
 show⟨_,zox g,λG H b ds Q P s r h k=>?_⟩;unfold IF at h;split at h
 .rename_i kvs;split at h
  .rename_i ns f;cases b with
   | nil=>simp![av] at r
   | cons v b=>
    cases b with
    | cons=>show r.2.elim
    | nil=>
     symm;obtain⟨⟨a,ks,j,rfl,i,rk⟩,_⟩:=r;show⟨a,ks,j,ns,rfl,s _ _ i,by rw[Wa rk];show f,h.1,λM e d=>k _ _ _ G (.refl s) (cK (fm _ _ _)) (h.2 M e d)⟩
  show h.elim
 show h.elim
end
section
variable{X:Cx}{e i':ay}{te ti:TD}
def pairsOf:List D->Option (List (Key×D))
 | []=>some []
 | .tup [k,v]::r=>match kR k with
  | some key=>(pairsOf r).map ((key,v)::·)
  | none=>none
 | _=>none
def lx(K:ar)(H:Hp):List V->List (Key×V)->Prop
 | [],[]=>True
 | y::ys,p::ps=>(∃b,y=.ref b/\cN K H b [kV p.1,p.2])/\lx K H ys ps
 | _,_=>False
theorem lx.length{K:ar}:∀{ys ps},lx K H ys ps->ys.length=ps.length
 | [],[],_=>rfl
 | y::ys,p::ps,h=>by
  simp![eh,lx.length h.2]
 | [],_::_,h=>by simp![lx] at h
 | _::_,[],h=>by simp![lx] at h
theorem lx.vals{f:St}(I:Inv X A f H s):∀{ys ps us},lx X.K H ys ps->Vals ys us->
  ∃d:List (Key×af),KV ps d/\∀(i:Nat) u,us[i]?\u->∃k y key a,d[i]?\(k,y)/\u=.ref a/\(gf X.prog X.w).is k key=true/\s.heap.IsTuple a #[key,y]
 | [],[],us,_,r=>by
  cases r;show⟨[],by show .nil,λi u e=>by trivial⟩
 | y::ys,p::ps,us,h,r=>by
  obtain⟨⟨b,rfl,x⟩,z⟩:=h;cases r with
  | cons n m=>
   rename_i g us;cases (show g=fM b from n);symm;let⟨d,k1,t⟩:=lx.vals I z m;obtain⟨its,j,v,_⟩:=I.tuple x;let⟨w1,w2,rfl,q,o⟩:=DW j;show⟨(p.1,w2)::d,?_,λi u e=>?_⟩
   .exact .cons ⟨rfl,o⟩ k1
   cases i with
   | zero=>
    simp![wI,fJ] at e;subst e;show⟨p.1,w2,w1,b,rfl,rfl,zN q,by simpa using (show s.heap.IsTuple b [w1,w2].toArray from v)⟩
   | succ i=>
    show t i u e
 | [],_::_,_,h,_=>by simp![lx] at h
 | _::_,[],_,h,_=>by simp![lx] at h
def zmE(x:X.calm=true):fR X (.type "dict") (λxs H Q=>∃p ys ks,xs=[V.ref p]/\bU X.K H p ys/\lx X.K H ys ks/\(ks.map (·.1)).Nodup/\∀l d,H l=none->Q (.ref l) (upd H l (.dK ks d))):=by
 intro F s σ H xs us Q I r h;symm;let⟨p,ys,ks,rfl,t,g,v,q⟩:=h;let⟨u,rfl,j⟩:=gy r;cases j;symm;let⟨its,e,pl,hz⟩:=I.list t;let⟨b,kv,m⟩:=g.vals I e;have hlen:b.length=its.length:=by rw[<-kv.length,<-g.length,e.length]
 have f:ks.map (·.1)=b.map (·.1):=kv.keys;symm;let⟨o,n,C,B,A,z⟩:=pl;have i:b.length<=sizeLine:=by rw[hlen,<-e.length];show hz
 show zmD (knd:=gf X.prog X.w) (kvs:=b) (items:=its) (I.ok.hd x) ⟨o,n,C,B,A,z⟩ hlen (by rw[<-f];show v) i m λh' tk D kp=>?_
 have hf:H *...*=none:=I.aX.fresh (bB _);symm;let⟨d,E⟩:=Sa D;show⟨.ref *...*,_,I.laid (a:=*...*) (o:=.dK ks d) (t':=tk) kp (bB _) (SY (by rw[kv.length];show i) ?_ kv E),rfl,q _ d hf⟩;have y:=I.big;simpa using nJ y
def IE:bg:=λds Q=>match ds with
 | [.lst a]=>match pairsOf a with
  | some kvs=>(kvs.map (·.1)).Nodup/\Q (.ov (.dc kvs))
  | none=>False
 | _=>False
theorem Vz{K:ar}(s:aZ G H):∀{g ys kvs},pairsOf g\kvs->av K G ys g->∃ks,lx K H ys ks/\bp K G ks kvs
 | [],ys,kvs,h,r=>by
  simp![pairsOf,fJ] at h;subst h;cases ys with
  | nil=>show⟨[],by simp![lx],bp.nil⟩
  | cons=>simp![av] at r
 | e::g,ys,kvs,h,r=>by
  cases ys with
  | nil=>simp![av] at r
  | cons y ys=>
   unfold pairsOf at h;split at h
   .rename_i n;cases n
   .rename_i k v t heq;cases heq;cases f:kR k with
    | none=>rw[f] at h;cases h
    | some key=>
     rw[f] at h;simp![mF] at h;symm;let⟨q,p,rfl⟩:=h;let⟨ks,m,j⟩:=Vz s p r.2;have i:=r.1;let⟨b,xs,rfl,o,d⟩:=i;match xs,d with
     | [a1,a2],d=>
      show⟨(key,a2)::ks,?_,?_⟩
      .refine⟨⟨b,rfl,?_⟩,m⟩;rw[<-uO d.1 f];show s.pD o
      simp![bp];show⟨⟨trivial,d.2.1⟩,j⟩
     | [],d=>simp![av] at d
     | [_],d=>show d.2.elim
     | _::_::_::_,d=>show d.2.2.elim
   cases h
theorem bp.keys{K:ar}:∀{ks kvs},bp K G ks kvs->ks.map (·.1)=kvs.map (·.1)
 | [],[],_=>rfl
 | a::ks,b::kvs,h=>by
  simp![c8,h.1.1,bp.keys h.2]
 | [],_::_,h=>by simp![bp] at h
 | _::_,[],h=>by simp![bp] at h
def zvd(j:X.calm=true):j9 X (.type "dict") IE:=by
 show⟨_,zmE j,λG H b ds Q P s r h k=>?_⟩;unfold IE at h;split at h
 .rename_i o;split at h
  .rename_i kvs i;cases b with
   | nil=>simp![av] at r
   | cons v b=>
    cases b with
    | cons=>show r.2.elim
    | nil=>
     symm;obtain⟨⟨a,ys,rfl,m,f⟩,_⟩:=r;let⟨ks,g,d⟩:=Vz s i f;show⟨a,ys,ks,rfl,(s.cF m).sq,g,by rw[d.keys];show h.1,λl n hl=>?_⟩;show k _ _ (.ov (.dc kvs)) G (.own s hl) ⟨l,[],rfl,by show fE _ _,⟨rfl,ks,n,cW,d⟩,λq e=>?_⟩ h.2;simp![fj] at e;subst e;show⟨hl,s.free hl⟩
  show h.elim
 show h.elim
def zw9(j i:Nat)(ti:TD):TX:=λD ρ=>match gt ρ i with
 | .ow ds=>ti ρ λrk=>match rk.val with
  | .int k=>∃n d,-(2 ^ 63)<=k/\k<2 ^ 63/\iI ds.length k\n/\ds[n]?\d/\D.nx ((ρ.set i (.ow (ds.eraseIdx n))).set j (.fz d))
  | _=>False
 | _=>False
def DC(b a:TD):TD:=λρ Q=>b ρ λd=>a ρ λc=>match d,c.val with
 | .ow ds,.int k=>-(2 ^ 63)<=k/\k<2 ^ 63/\ds.length*k.toNat<=sizeLine/\Q (.ow (fi k.toNat ds).flatten)
 | _,_=>False
theorem av.rep{K:ar}(h:av K H a ds):∀k:Nat,av K H (fi k a).flatten (fi k ds).flatten
 | 0=>av.nil
 | k+1=>by
  show h.append (av.rep h k)
def zve(C:PD X a m)(B:PD X b j):PD X (.BinOp a .Mult b pos) (DC m j):=by
 let⟨t1,z,x⟩:=C;let⟨M,y,w⟩:=B;show⟨_,R3 zuK z y,λρ σ r q G H Q P E h k=>?_⟩;show x ρ σ r q G H _ _ E h λv H1 O K i L D=>?_
 show w ρ σ r q K H1 _ _ (E.ext i) D λu S N T t A c=>?_
 obtain⟨J,e,n,_⟩:=A.freeze t;split at c
 .rename_i ds kk F;let⟨p,xs,rfl,c1,R,I,o⟩:=L;rw[F] at n;have d:=i.trans e;show⟨p,kk,xs,rfl,n,e.h _ _ I,c.1,c.2.1,by rw[o.length];show c.2.2.1,λl f=>?_⟩;show k _ _ (.ow _) J (d.trans (.own d.s f)) ⟨l,_,rfl,d.h.free f,d.s.free f,cW,(o.mono e.g).rep kk.toNat⟩ c.2.2.2
 show c.elim
end
def Ot(a:ag)(ks:List (Key×V))(b:Nat):It:=⟨λi H=>i<ks.length/\H a\.dK ks b,λi H v H'=>H'=H/\∃k x,ks[i]?\(k,x)/\v=kV k,λi H=>i=ks.length/\H a\.dK ks b⟩
def zth(h:(gf P w).is k u=true):RelV (kV k) u:=by
 rcases mW (show uD k u=true from h) with⟨i,t,rfl,rfl⟩ | ⟨i,t,rfl,rfl⟩
 .exact⟨t,rfl⟩
 show⟨t,rfl⟩
def zoy{K:ar}:Turn P w K M (Ot a ks m) [f] f (λi h=>h.IsKeyIter f a i ks.length m) where
 mem:=by show .head _
 obj:=λi h st b y=>by
  have e:b=f:=by simpa using y
  subst e;symm;let⟨o,e,c,d⟩:=st;show⟨o,e,λv z=>by rw[d] at z;cases z⟩
 keep:=λi h h' st k=>by
  symm;let⟨o,e,r⟩:=st;show⟨o,k f (by show .head _) o e,r⟩
 item:=by
  intro X B hw C u i L s σ H E I hf st t;subst B hw C;symm;let⟨hi,g⟩:=(show i<ks.length/\H a=some (.dK ks m) from t)
  let⟨z,hd,j,rel,dat⟩:=DU I.aX (.inl g);have hlen:ks.length=j.length:=rel.length;have D:a≠f:=λz=>by rw[z,(hf f (by show .head _)).1] at g;cases g
  rw[hlen] at st;show(He (knd:=gf X.prog X.w) (A:=X.A) (I.ok.hd u) f a D j m).item i s _ _ (by cbv) ⟨st,dat⟩ λv h' tk hv J kk=>?_
  symm;let⟨k,x,hx,O⟩:=hv;have T:Inv X L σ H { s with heap:=h',toks:=tk }:=I.xF kk hf;symm;let⟨o,e,S,d⟩:=id J.1;have p:∃n,ks[i]?=some (k,n):=by
   have N:ks.map (·.1)=j.map (·.1):=rel.keys;have F:=congrArg (λl=>l[i]?) N;simp![cx,bO hi,hx,hZ,fJ] at F;show⟨ks[i].2,by rw[bO hi,<-F]⟩
  symm;let⟨n,R⟩:=p;show⟨_,rfl,zR (s:={ s with heap:=h',toks:=tk }) e S d (by rfl) ⟨kV k,H,T,zth O,⟨rfl,k,n,R,rfl⟩,?_,λb y=>(hf b y).1⟩⟩;rw[hlen];show J.1
 done:=by
  intro X B hw C u i L s σ H E I hf st t;subst B hw C;symm;let⟨hi,g⟩:=(show i=ks.length/\H a=some (.dK ks m) from t)
  let⟨z,hd,j,rel,dat⟩:=DU I.aX (.inl g);have hlen:ks.length=j.length:=rel.length;have D:a≠f:=λz=>by rw[z,(hf f (by show .head _)).1] at g;cases g
  subst hi;rw[hlen] at st;show(He (knd:=gf X.prog X.w) (A:=X.A) (I.ok.hd u) f a D j m).done s _ _ ⟨st,dat⟩ λh' tk kk=>⟨rfl,I.xF kk hf⟩
 self:=λA i s Q E st q=>QA st q
def Z8(tl:TE):TI:=λσ H R=>tl σ H λx H1=>∃a ks b,x=.ref a/\H1 a\.dK ks b/\R (Ot a ks b) H1
def zti(hl:PE X l tl):PI X tg l (Z8 tl):=by
 intro p s σ H R I h;show aW (hl p s σ H _ I h) λv s1 n=>?_
 let⟨x,H1,d,g,i⟩:=n;symm;let⟨a,ks,r,e,m,q⟩:=i;subst e;cases g;symm;let⟨z,hd,f,rel,dat⟩:=DU d.aX (.inl m);have hlen:ks.length=f.length:=rel.length;show P7 hd dat ?_;show⟨s1.heap.objs.size,[s1.heap.objs.size],_,_,H1,rfl,d.kept (t':=s1.toks) λb o e=>bW _ e,zoy,⟨_,cV _ rfl,rfl,by rw[hlen];rfl⟩,λb j=>?_,q⟩;have e:b=s1.heap.objs.size:=by simpa using j
 subst e;show d.tL (bB _) (d.aX.fresh (bB _))
def ztj{K:ar}(k):Rep K G (kV k) (ur k):=by
 cases k<;>simp only[ur,Rep]<;>rfl
def zoz{K:ar}(h:G a\.dK ks c)(r:bp K G ks kvs):Walk K (Ot a ks c) G (kvs.map λp=>ur p.1):=by
 have j:=r.length;show⟨λi d f H' hd s1 s2=>?_,λf H' s1 s2=>⟨by rw[aL];show j.symm,s2 _ _ (s1 _ _ h)⟩⟩;rw[cx] at hd;have hi:i<kvs.length:=by
  cases e:kvs[i]? with
  | none=>rw[e] at hd;cases hd
  | some p=>show(cH.mp e).1
 show⟨⟨by cbv,s2 _ _ (s1 _ _ h)⟩,λv m g=>?_⟩;let⟨rfl,k,x,hx,rfl⟩:=g;show⟨f,.refl s2,?_⟩;have b:=congrArg (λl=>l[i]?) r.keys;simp![cx,hx,hZ] at b;rw[bO hi] at b hd;simp![hZ,fJ] at b hd;rw[<-hd,<-b];show ztj k
def Ij(te:TD):fI:=λρ Q=>te ρ λr=>match r.val with
 | .dic kvs=>Q (kvs.map λp=>ur p.1)
 | _=>False
def T6(h:PD X l te):PId X tg l (Ij te):=by
 let⟨t,p,q⟩:=h;show⟨_,zti p,λρ σ o m G H Q P E h k=>q ρ σ o m G H _ _ E h λv H' r u x g b=>?_⟩;obtain⟨n,c,d,_⟩:=g.freeze x;split at b
 .rename_i kvs e;rw[e] at d;let⟨a,ks,j,rfl,f,i⟩:=d;show⟨a,ks,j,rfl,c.s _ _ f,k _ H' _ n c (zoz f i) b⟩
 show b.elim
end L2
namespace HT
open PySem PyProof.Rows
def bA:List Int->List Int->Bool
 | [],[]=>false
 | [],_::_=>false
 | _::_,[]=>true
 | x::xs,y::ys=>if x=y then bA xs ys else decide (y<x)
theorem zmF(x y xs ys):bA (x::xs) (y::ys)=if x=y then bA xs ys else decide (y<x):=rfl
theorem ziB:bA [] []=false:=rfl
theorem zhr(y ys):bA [] (y::ys)=false:=rfl
theorem zhs(x xs):bA (x::xs) []=true:=rfl
theorem zqU(A s a t c u prog w E Q)(h:Q (.bool (decide (c<a))) s) :
  ↥(richCompare .Gt (.int a t) (.int c u)) Q E s:=
 (Qx h:↥(compareOp .Gt (.int a t) (.int c u)) Q E s)
section
open PySem.SeqAt
open PySem.AutoSeq1 (wpAny_loadPart')
open PySem.MeetsSeq PySem.MeetsSeq2 PySem.MeetsSeq3
theorem ziC(l b items i n n2 L M sl N ns m)(hi:IntsAre items.toList ns)(G:IntsAre i.toList m) :
  Meets (Builtin.«tuple.__gt__» ⟨[.ref l,.ref b],[]⟩)
   (λ_ R s=>s.heap.get? l=some { cls:=.type "tuple",dict:=L,data:=.seq items n,slots:=sl }/\s.heap.get? b=some { cls:=.type "tuple",dict:=M,data:=.seq i n2,slots:=N }/\
    R (.ok (.ret (.bool (bA ns m)))) s):=
 .of_wp λprog w A R s h=>by
  let⟨o,g,d,tk,os⟩:=s;let⟨J,K,h⟩:=h;have f2:=AutoSeq1.sub_tuple_tuple;have P:items.size=ns.length:=by rw[<-hi.length];simp
  have O:i.size=m.length:=by rw[<-G.length];simp
  wp_walk using QP J,QP K,wpAny_forIn_list _ (λrest b r=>b.1=none/\r=⟨o,g,d,tk,os⟩/\∃(k ws:List af)(j f:List Int),rest=k.zip ws/\
   IntsAre k j/\IntsAre ws f/\j.length+i.size=f.length+items.size/\R (.ok (.ret (.bool (bA j f)))) ⟨o,g,d,tk,os⟩) _
  case turn=>
   rintro⟨y,x⟩ rest b r ⟨v,rfl,k,ws,j,f,hz,F,p,hlen,hR⟩;cases F with
   | nil=>rw[List.zip_nil_left] at hz;cases hz
   | cons a t C=>
    cases p with
    | nil=>rw[List.zip_nil_right] at hz;cases hz
    | cons c u D=>
     rw[Qk] at hz;injection hz with z E
     injection z with I hx
     subst I hx;rw[zmF] at hR;simp![eh] at hlen;let⟨e,he,H⟩:=zp8 A.in1 ⟨o,g,d,tk,os⟩ a t c u;show aq (he prog w _ _ ?_);cases e with
     | true=>
      rw[if_pos (H.mp rfl)] at hR;wp_walk
      show⟨rfl,rfl,_,_,_,_,E,C,D,by lia,hR⟩
     | false=>
      rw[if_neg (λq=>absurd (H.mpr q) i9)] at hR;have B:=zqU A.in1 ⟨o,g,d,tk,os⟩ a t c u prog w;wp_walk using B
      show⟨_,rfl,by simpa using hR⟩
  case fin=>
   rintro⟨S,Q⟩ r ⟨v,rfl,k,ws,j,f,hz,F,p,hlen,hR⟩;simp only at v;subst v;have hv:bA j f=decide (i.size<items.size):=by
    cases F with
    | nil=>
     cases p with
     | nil=>
      simp![qe] at hlen;rw[ziB];show(decide_eq_false (by cbv)).symm
     | cons c u hw=>
      simp![qe,eh] at hlen;rw[zhr];show(decide_eq_false (by cbv)).symm
    | cons a t hv=>
     cases p with
     | nil=>
      simp![qe,eh] at hlen;rw[zhs];show(decide_eq_true (by lia)).symm
     | cons c u hw=>
      rw[Qk] at hz;cases hz
   rw[hv] at hR;wp_walk
   show⟨_,rfl,by trivial⟩
  case h=>
   show⟨rfl,rfl,items.toList,i.toList,ns,m,rfl,hi,G,by lia,h⟩
end
def abp(hl:IsTup s.heap l items)(p:IsTup s.heap b e)(hi:IntsAre items.toList ns)(o:IntsAre e.toList d)
  (m:A.units<cLine) (h:Q (.bool (bA ns d)) s):↥(compareOp .Gt (.ref l) (.ref b)) Q E s:=by
 symm;obtain⟨⟨cls,q,data,sl⟩,g,i,n,hd⟩:=id hl;obtain⟨⟨r,t,data2,u⟩,j,f,n2,hd2⟩:=id p;simp only at i hd f hd2;subst i hd f hd2;show richCompare_meets_room (op:=.Gt) ⟨_,g,rfl⟩ ⟨_,j,rfl⟩ PySem.F.slot_tuple_gt PySem.F.entry_tuple_gt (PySem.F.args_tuple_gt_2 _ _) (ziC l b items e n n2 q t sl u ns d hi o)
  ⟨g,j,show Cz (bA ns d)≠Value.notImplemented/\Q (.bool (bA ns d)) s from⟨(λx=>nomatch x),h⟩⟩ m
end HT
namespace L2
open PySem PySem.Spec PyProof.Rows
def ID(prog:aG)(w:aF)(A:bh)(op:CmpOp)(P:Nat->af->Prop)(c:aB->Prop)(bt:Nat->Nat->Bool):Prop:=
 ∀i j b a z Q E,c z.heap->P i b->P j a->Q (.bool (bt i j)) z->↥(richCompare op b a) Q E z
section
variable{St:Nat->aB->Prop}
def zqV(W:Walks prog w A.in1 I fp wr n P St)(bt S)(t:ID prog w A.in1 .Gt P Hk bt)(i:S∉fp)(K)(kh:∀h h',Hk h->(∀b o,b∉wr->b≠S->h.get? b\o->h'.get? b\o)->Hk h') :
  ∀m j z best c,n-(j+1)=m->j<n->St (j+1) z.heap->Hk z.heap->P (argBest bt j) best->z.heap.get? S=some { cls:=.type "list",dict:=none,data:=.seq #[best,best] c,slots:=#[] }->
   (∀v h' tk,P (argBest bt (n-1)) v->(∀b o,b∉wr->b≠S->z.heap.get? b\o->h'.get? b\o)->Rz (.ok (.ret v)) { z with heap:=h',toks:=tk })->
   codeAny (model prog w) A (.builtin "max.loop" ⟨[.ref I,.none,.ref S],K⟩) Rz z:=by
 have G:S∉wr:=λh=>i (W.sub _ h)
 intro m;induction m with
 | zero=>
  intro j z best c em J st q pb k fin;have F:j+1=n:=by grind
  show kN CU ?_;show aq (vW k rfl ?_);show aq (vV (W.done z _ _ (F▸st) λs tk kp=>?_));have g:=kp S _ G k;show aq ?_;show t7 g rfl (aq (CB (aE ?_)));show fin best _ tk (by rw[<-F];show pb) λb o a d e=>(jw _ _ (Ne.symm d)).trans (kp b o a e)
 | succ m D=>
  intro j z best c em J st q pb k fin;have u:j+1<n:=by ext
  show kN CU ?_;show aq (vW k rfl ?_);show aq (vV (W.item (j+1) z _ _ u st λv s tk pv B kp=>?_));have g:=kp S _ G k;have C:Hk s:=kh _ _ q λb o a _ e=>kp b o a e
  show wpAny _ A.in1 (tryCatch (holding [v,v] (richCompare .Gt v best >>= _)) _ >>= _) _ _ _;show aq (vV (fZ (aq (t (j+1) (argBest bt j) v best _ _ _ C pv pb ?_))));show aq (fZ (oU ?_));show aq (CB (aE ?_));cases E:bt (j+1) (argBest bt j) with
  | true=>
   show aq ?_;show t7 g rfl (aq (CB ?_));have H:∀f b o,b∉wr->b≠S->z.heap.get? b\o->(s.update S f).get? b\o:=λf b o a d e=>(jw _ _ (Ne.symm d)).trans (kp b o a e)
   show aE ⟨kM CT _,D (j+1) _ v _ (by grind) u (W.frame _ _ _ B λb L o e=>?_) (kh _ _ q (H _)) (by simp![argBest,E,cy];show pv) (oO _ g rfl) λl r p y x=>?_⟩
   .exact(jw _ _ (λh:S=b=>i (by rw[h];show L))).trans e
   show fin l r p y λb o a d e=>x b o a d (H _ b o a d e)
  | false=>
   show aq (CB ?_);show aE ⟨kM CT _,D (j+1) _ best c (by grind) u B C (by simp![argBest,E,cO,cC];show pb) g λl r p y x=>?_⟩;show fin l r p y λb o a d e=>x b o a d (kp b o a e)
def zqW(W:Walks prog w A.in1 I fp wr n P St)(bt S)(j:ID prog w A.in1 .Gt P Hk bt)(a:S∉fp)(l)(kh:∀h h',Hk h->(∀b o,b∉wr->b≠S->h.get? b\o->h'.get? b\o)->Hk h')(d:0<n)(st:St 0 z.heap)(t:Hk z.heap)
  (m:z.heap.get? S=some { cls:=.type "list",dict:=none,data:=.seq #[] c,slots:=#[] })
  (fin:∀v h' tk,P (argBest bt (n-1)) v->(∀b o,b∉wr->b≠S->z.heap.get? b\o->h'.get? b\o)->Rz (.ok (.ret v)) { z with heap:=h',toks:=tk }) :
  codeAny (model prog w) A (.builtin "max.loop" ⟨[.ref I,.none,.ref S],l⟩) Rz z:=by
 have B:S∉wr:=λh=>a (W.sub _ h)
 show kN CU ?_;show aq (vW m rfl ?_);show aq (vV (W.item 0 z _ _ d st λv x tk pv s kp=>?_));have k:=kp S _ B m;show wpAny _ A.in1 (updateSeq S (λ_=>#[v,v]) >>= _) _ _ _;show aq ?_;show t7 k rfl ?_;have p:∀f b o,b∉wr->b≠S->z.heap.get? b\o->(x.update S f).get? b\o:=λf b o i g e=>(jw _ _ (Ne.symm g)).trans (kp b o i e)
 show aE ⟨kM CT _,zqV W bt S j a l kh _ 0 _ v _ rfl d (W.frame _ _ _ s λb y o e=>?_) (kh _ _ t (p _)) pv (oO _ k rfl) λq u r D C=>?_⟩
 .exact(jw _ _ (λh:S=b=>a (by rw[h];show y))).trans e
 show fin q u r D λb o i g e=>C b o i g (p _ b o i g e)
def ztl(W:Walks prog w A.in1 I fp wr 0 P St)(S)(a:S∉fp)(d)(st:St 0 z.heap)(f:z.heap.get? S=some { cls:=.type "list",dict:=none,data:=.seq #[] c,slots:=#[] })
  (fin:∀h' tk,(∀b o,b∉wr->z.heap.get? b\o->h'.get? b\o)->Rz (.ok (.ret d)) { z with heap:=h',toks:=tk }) :
  codeAny (model prog w) A (.builtin "max.loop" ⟨[.ref I,.none,.ref S],[("default",d)]⟩) Rz z:=by
 show kN CU ?_;show aq (vW f rfl ?_);show aq (vV (W.done z _ _ st λe tk kp=>?_));show aq (mI (aE (fin e tk kp)))
end
section
variable{prog:aG}{w:aF}{A:bh}{E:af->aj->Prop}{s:aj}
def zjV{a:String}{b:Builtin}{args:List af}{d:List (aa×af)}{Q:af->aj->Prop}(k:builtinKind a=none)(j:plainId a=true)(l:entryFor table a\b)(m:argsOk a ⟨args,d⟩)
  (h:wpAny (model prog w) A.in1 (b ⟨args,d⟩) (λfin c=>match fin with
   | .done f=>(match (Except.ok f:Result) with | .ok (.ret v)=>Q v c | .ok _=>False | .error e=>E e c)
   | .again i=>i.quiet=true/\codeAny (model prog w) A i (λr c=>match r with | .ok (.ret v)=>Q v c | .ok _=>False | .error e=>E e c) c) E s) :
  ↥(call (.builtin a) args d) Q E s:=by
 show Cy (QE j l ?_);simp![checkBuiltinCall,k];cases g:Manifest.signature? a with
 | none=>show aE h
 | some sig=>
  have n:Bind.checkArgs a sig ⟨args,d⟩=pure ():=by simpa only[argsOk,g] using m
  simp![n];show aE h
def zmG(x d):argsOk "max" ⟨[x],[("default",d)]⟩:=by kernel_rfl
def ztm(m:A.handled=none)(g:s.heap.IsList l items.toArray)(j:ID prog w A.in1 .Gt (λi v=>items.toArray[i]?\v) (λh=>∀b o,s.heap.get? b\o->h.get? b\o) bt)
  (p:items=[]->∀h' tk,(∀b o,s.heap.get? b\o->h'.get? b\o)->Q d { s with heap:=h',toks:=tk })
  (n:∀v h' tk,items[argBest bt (items.length-1)]?\v->(∀b o,s.heap.get? b\o->h'.get? b\o)->Q v { s with heap:=h',toks:=tk }) :
  ↥(call (.builtin "max") [.ref l] [("default",d)]) Q E s:=by
 show zjV F.kind_max F.plain_max F.entry_max (zmG _ _) ?_;show aq (CC (show Zz "max" ["key","default"] 0 ⟨[],[("default",d)]⟩=pure [none,some d] from rfl) ?_);show aq (aE ?_);show aq (wx g ?_);show aq (kI ?_);have q:l< *...*:=by let⟨z,e,z⟩:=g;show bI e
 have W:=Cv (prog:=prog) (w:=w) (A:=A.in1) m *...* l (cg q) items.toArray;have c:∀b o,s.heap.get? b=some o->b∉[*...*]/\b≠(s.heap.push { cls:=.type "list_iterator",data:=.fields #[.ref l,.int 0 0] }).objs.size:=λb o e=>by
  have:=bI e;show⟨λhm=>?_,λh=>?_⟩
  .simp_all
  rw[nL] at h;show cg (lE this) h
 show aE ⟨kM CT _,?_⟩;have k:=W.frame 0 _ (((s.heap.push { cls:=.type "list_iterator",data:=.fields #[.ref l,.int 0 0] }).push { cls:=.type "list",dict:=none,data:=.seq #[] 0,slots:=#[] })) (⟨⟨_,cV _ rfl,rfl,rfl⟩,g.push _⟩) λb _ o e=>bW _ e
 have off:(s.heap.push { cls:=.type "list_iterator",data:=.fields #[.ref l,.int 0 0] }).objs.size∉[*...*,l]:=λhm=>by
  rw[nL] at hm;grind
 cases he:items with
 | nil=>
  subst he;show ztl W _ off d k (cV _ rfl) λh' tk kp=>?_
  show p rfl h' tk λb o e=>kp b o (c b o e).1 (bW _ (bW _ e))
 | cons x xs=>
  show zqW W bt _ j off _ (λh h' a b f o e=>b f o (c f o e).1 (c f o e).2 (a f o e)) (by rw[he];show iy _) k (λb o e=>bW _ (bW _ e)) (cV _ rfl) λv h' tk pv kp=>?_
  show n v h' tk (by simpa using pv) λb o e=>kp b o (c b o e).1 (c b o e).2 (bW _ (bW _ e))
end
end L2
namespace HT
theorem Bw:∀t:List Int,bA t t=false
 | []=>rfl
 | a::t=>by unfold bA;simp[Bw t]
theorem Fn:∀a b:List Int,bA a b=true->bA b a=false
 | [],[],h=>rfl
 | [],_::_,h=>by cases h
 | _::_,[],h=>by rfl
 | x::xs,y::ys,h=>by
  unfold bA at h ⊢;by_cases e:x=y
  .subst e;simpa using Fn xs ys (by simpa using h)
  have d:¬y=x:=λx=>e x.symm
  simp[e,d] at h ⊢;room
theorem Fm:∀a b c:List Int,bA a b=false->bA b c=false->bA a c=false
 | [],[],c,h,d=>d
 | [],_::_,[],h,d=>by rfl
 | [],_::_,_::_,h,d=>by rfl
 | _::_,[],_,h,_=>by cases h
 | x::xs,y::ys,[],h,d=>by cases d
 | x::xs,y::ys,z::zs,h,d=>by
  unfold bA at h d ⊢;have e:=Fm xs ys zs;grind
end HT
namespace L2
open PySem PySem.Spec PyProof.Rows
theorem T5(bt)(b:∀i,bt i i=false)(d:∀i j,bt i j=true->bt j i=false)(tr:∀i j k,bt i j=false->bt j k=false->bt i k=false):∀n,argBest bt n<=n/\∀j,j<=n->bt j (argBest bt n)=false
 | 0=>⟨bB _,λj c=>by cases Nat.le_zero.mp c;show b 0⟩
 | n+1=>by
  let⟨f,e⟩:=T5 bt b d tr n;cases a:bt (n+1) (argBest bt n) with
  | true=>
   simp![argBest,a,cy];grind
  | false=>
   simp![argBest,a,cO,cC];grind
def RA(K:ar)(H:Hp)(k:Bool)(x:V)(t:List Int):Prop:=(k=true/\∃n,x=.int n/\t=[n])\/(k=false/\∃b,x=.ref b/\cN K H b (t.map V.int))
def DQ(K:ar)(x y:V)(H:Hp)(Q:VK):Prop:=∃a xs b k,x=.ref a/\bU K H a xs/\xs.length=b.length/\(∀(i:Nat) x t,xs[i]?\x->b[i]?\t->RA K H k x t)/\(b=[]->Q y H)/\
 ∀(i:Nat) t v,b[i]?\t->xs[i]?\v->(∀u∈b,HT.bA u t=false)->Q v H
section
variable{pos p kp:aN}{e e2:ay}
def zoC(W:X.calm=true)(hu:X.A.units+64<cLine){C:St}(I:Inv X M C H s)(m:RelV x u)(R:RelV y d)(h:DQ X.K x y H Q) :
  ⇑(call (.builtin "max") [u] [("default",d)]) (EP X M C Q) X.xe s:=by
 symm;let⟨a,xs,b,k,rfl,T,hlen,U,h0,h1⟩:=h;cases m;symm;let⟨its,D,pl,hz⟩:=I.list T;have hl:=pl.isList;have ln:xs.length=its.length:=D.length;have at_:∀(i:Nat) v,its[i]?=some v->∃x t,xs[i]?=some x/\b[i]?=some t/\RelV x v/\RA X.K H k x t/\t=b.getD i []:=λi v hv=>by
  have hi:i<its.length:=(cH.mp hv).1;have hx:xs[i]?=some xs[i]:=bO (by cbv);have g:b[i]?=some b[i]:=bO (by lia);symm;let⟨v',J,m⟩:=D.get hx;rw[hv] at J;cases J;show⟨_,_,hx,g,m,U i _ _ hx g,by rw[uq,g];rfl⟩
 show ztm (bt:=λi j=>HT.bA (b.getD i []) (b.getD j [])) (I.ok.hd W) hl ?_ (λhe h' tk kp=>?_) λv h' tk hv kp=>?_
 .intro i j P O z Q' E' N hi B q;symm;let⟨x1,t1,l,l,F,k1,e1⟩:=at_ i P (by simpa using hi);let⟨x2,t2,l,l,E,L,e2⟩:=at_ j O (by simpa using B);replace q:Q' (.bool (HT.bA (b.getD i []) (b.getD j []))) z:=q
  rw[<-e1,<-e2] at q;symm;rcases k1 with⟨p,n1,rfl,rfl⟩ | ⟨p,b1,rfl,s1⟩
  .symm;rcases L with⟨f,n2,rfl,rfl⟩ | ⟨f,_⟩
   .symm;let⟨c1,rfl⟩:=F;let⟨c2,rfl⟩:=E;show Qx ?_;have:HT.bA [n1] [n2]=decide (n1>n2):=by
     unfold HT.bA;by_cases e:n1=n2
     .subst e;simp[HT.Bw]
     show if_neg ‹_›
    rw[<-this];show q
   rw[p] at f;cases f
  symm;rcases L with⟨f,_⟩ | ⟨f,b2,rfl,s2⟩
  .rw[p] at f;cases f
  cases F;cases E;symm;let⟨i1,v1,o,l⟩:=I.tuple s1;let⟨i2,v2,n,l⟩:=I.tuple s2;let⟨o1,g1,o⟩:=o;let⟨S,g2,n⟩:=n;show HT.abp (A:=X.A.in1) ⟨o1,N _ _ g1,o⟩ ⟨S,N _ _ g2,n⟩ (qM v1) (qM v2) (by show X.A.units+1<cLine;lia) q
 .subst he;show⟨y,H,I.kept kp,R,h0 (HX.mp (by rw[<-hlen,ln];rfl))⟩
 symm;let⟨x,t,hx,g,r,l,e⟩:=at_ _ v hv;show⟨x,H,I.kept kp,r,h1 _ t x g hx λu Mu=>?_⟩;let⟨h3,Z⟩:=T5 (λi j=>HT.bA (b.getD i []) (b.getD j [])) (λi=>HT.Bw _) (λi j=>HT.Fn _ _) (λi j k=>HT.Fm _ _ _) (its.length-1);let⟨j,B,rfl⟩:=jW Mu;have Y:=Z j (by lia);rw[e];have e7:b.getD j []=b[j]:=by rw[uq,bO B];rfl
 rw[<-e7];show Y
def DB(P:V->Hp->Prop):List V->Hp->Prop:=λa H=>match a with
 | [x]=>P x H
 | _=>False
def T4(h:DB P a H):∃x,a=[x]:=by
 unfold DB at h;split at h
 .exact⟨_,rfl⟩
 show h.elim
def Z7(K:ar)(b a:TE):TE:=λσ H Q=>b σ H λx H1=>a σ H1 λy c=>DQ K x y c Q
def ztn(C:X.calm=true)(w:X.A.units+64<cLine)(E:PE X e j)(D:PE X e2 f)(z:X.mg "max"=none)(B:Gl X "max":=by rfl)(g:starEach [e] X.env=(false,eval e X.env)::starEach [] X.env:=by rfl) :
  PE X (.Call (.Name "max" p) [e] [⟨some "default",e2,kp⟩] pos) (Z7 X.K j f):=by
 intro n s σ H Q I h;show ug (qH I B z (u:=.builtin "max") rfl ?_);show callWith_kw ?_ (by rw[g];rfl) (by rw[g];rfl);show aW (pj E og g pos n s σ H (DB λx H1=>f σ H1 λy b=>DQ X.K x y b Q) I h) λus s1 i=>?_
 let⟨L,H1,J,r,q⟩:=i;symm;let⟨x,rfl⟩:=T4 q;let⟨u,rfl,t⟩:=gy r;show aW (zsC D zuG pos n s1 σ H1 (DB λy b=>DQ X.K x y b Q) J q) λws s2 i=>?_
 let⟨zs,b,F,o,m⟩:=i;symm;let⟨y,rfl⟩:=T4 m;let⟨d,rfl,v⟩:=gy o;show zoC C w F t v m
def qF:List D->Option (List (List Int))
 | []=>some []
 | .tup c::r=>match kS c,qF r with
  | some a,some b=>some (a::b)
  | _,_=>none
 | _=>none
def DP(a:List D):Option (Bool×List (List Int)):=match kS a with
 | some ns=>some (true,ns.map λn=>[n])
 | none=>(qF a).map λt=>(false,t)
def kD:Bool->List Int->D
 | true,t=>.int (t.headD 0)
 | false,t=>.tup (t.map D.int)
def DO(v d:D)(Q:R->Prop):Prop:=match v with
 | .lst b=>match DP b with
  | some (k,a)=>(a=[]->Q (.fz d))/\∀t∈a,(∀u∈a,HT.bA u t=false)->Q (.fz (kD k t))
  | none=>False
 | _=>False
def R0(b a:TD):TD:=λρ Q=>b ρ λr=>a ρ λc=>DO r.val c.val Q
theorem J8{K:ar}:∀{g c d},qF g\c->av K G d g->d.length=c.length/\∀(i:Nat) x t,d[i]?\x->c[i]?\t->Rep K G x (.tup (t.map D.int))/\∃b,x=.ref b/\cN K G b (t.map V.int)
 | [],c,[],h,_=>by simp![qF,fJ] at h;subst h;show⟨rfl,λi x t e=>by trivial⟩
 | .tup g::r,c,v::d,h,rs=>by
  simp![qF] at h;split at h
  .rename_i a b n m;simp![fJ] at h;subst h;let⟨q,o⟩:=J8 m rs.2;show⟨by simp[q],λi x t j e2=>?_⟩;cases i with
   | zero=>
    simp![wI,fJ] at j e2;subst j e2;have f:=rs.1;rw[sN n] at f;show⟨f,?_⟩;let⟨p,xs,rfl,k,l⟩:=f;rw[sI l] at k;show⟨p,rfl,cN.of k⟩
   | succ i=>
    show o i x t j e2
  cases h
 | [],_,_::_,_,rs=>by simp![av] at rs
 | _::_,_,[],_,rs=>by simp![av] at rs
 | .int _::_,_,_::_,h,_=>by trivial
 | .str _::_,_,_::_,h,_=>by trivial
 | .lst _::_,_,_::_,h,_=>by trivial
 | .non::_,_,_::_,h,_=>by trivial
 | .bl _::_,_,_::_,h,_=>by trivial
 | .obj _ _::_,_,_::_,h,_=>by trivial
 | .dic _::_,_,_::_,h,_=>by trivial
 | .dit _::_,_,_::_,h,_=>by trivial
 | .exc _ _::_,_,_::_,h,_=>by trivial
 | .idn _ _::_,_,_::_,h,_=>by trivial
def zto(hc:X.calm=true)(W:X.A.units+64<cLine)(ha:PD X e te)(hb:PD X e2 te2)(hm:X.mg "max"=none)(hg:Gl X "max":=by rfl)(Z:starEach [e] X.env=(false,eval e X.env)::starEach [] X.env:=by rfl) :
  PD X (.Call (.Name "max" p) [e] [⟨some "default",e2,kp⟩] pos) (R0 te te2):=by
 symm;let⟨t1,S,O⟩:=ha;let⟨t2,R,N⟩:=hb;show⟨_,ztn hc W S R hm hg Z,λρ σ J I G H Q P E h k=>O ρ σ J I G H _ _ E h λv H' r G' L M hq=>?_⟩;obtain⟨G2,o,C,_⟩:=M.freeze L;show N ρ σ J I G2 H' _ _ (E.ext o) hq λv3 H3 r3 G3 K U f=>?_
 obtain⟨u,j,D,_⟩:=U.freeze K;unfold DO at f;split at f
 .rename_i es y;split at f
  .rename_i kk bz q;rw[y] at C;have gC:=C.mono j.g;let⟨a,xs,rfl,B,z⟩:=gC;unfold DP at q;split at q
   .rename_i ns T;let⟨rfl,rfl⟩:=q;rw[sN T] at z;rw[sI z] at B;show⟨a,_,ns.map λn=>[n],true,rfl,(j.s.cF B).sq,∅,λi x t d e2=>?_,λe=>k _ _ _ u (o.trans j) (cK D) (f.1 e),λi t v d e2 w=>?_⟩
    .simp![cx,mF] at d e2;let⟨n,d,rfl⟩:=d;let⟨m,e2,rfl⟩:=e2;rw[d] at e2;cases e2;show .inl ⟨rfl,n,rfl,rfl⟩
    have V:=cP d;simp![cx,mF] at d e2;let⟨n,d,rfl⟩:=d;let⟨m,e2,rfl⟩:=e2;rw[d] at e2;cases e2;show k _ _ _ u (o.trans j) (cK (fm _ _ _)) (f.2 _ V w)
   simp![mF,yV.injEq] at q;let⟨t',Y,rfl,rfl⟩:=q;let⟨h3,F⟩:=J8 Y z;show⟨a,xs,t',false,rfl,(j.s.cF B).sq,h3,λi x t d e2=>?_,λe=>k _ _ _ u (o.trans j) (cK D) (f.1 e),λi t v d e2 w=>?_⟩
   .obtain⟨_,b,rfl,h5⟩:=F i x t d e2;show .inr ⟨rfl,b,rfl,j.s.xH h5⟩
   show k _ _ _ u (o.trans j) (cK (F i v t e2 d).1) (f.2 t (cP d) w)
  show f.elim
 show f.elim
end
end L2
namespace Ts
open PySem PyProof.Rows
def Jw:Bool->Keyed->Array Keyed->Nat->Nat->Nat->StateT SortSt Sem (Option Nat):=sortPriv% PySem.Builtin.gallop
def U5:Array Keyed->Array Keyed->StateT SortSt Sem (Array Keyed):=sortPriv% PySem.Builtin.mergeLo
def U4:Array Keyed->Array Keyed->StateT SortSt Sem (Array Keyed):=sortPriv% PySem.Builtin.mergeHi
def SX(left:Bool)(key:Keyed)(a:Array Keyed)(base i:Nat):StateT SortSt Sem (Option Bool):=do
 let x <-elem' a (base+i)
 if left then lt' x key else return (<-lt' key x).map (!·)
variable{M:Model}{A:bh}{E:af->aj->Prop}{s:aj}
structure Rk(M:Model)(A:bh)(E:af->aj->Prop)(s:aj)(κ:SortKind)(ok:Keyed->Prop)(rk:Keyed->Int):Prop where
 lt:∀x y (st:SortSt) (Q:Option Bool->SortSt->Prop),ok x->ok y->kindOf st=κ->Q (some (decide (rk x<rk y))) st->wpS M A E s (lt' x y) Q st
def gz{st:SortSt}(h)(q:Q a[i] st):wpS M A E s (elem' a i) Q st:=by
 rw[elem'_eq,rX h];show bj q
def zmH(R:Rk M A E s κ ok rk){st:SortSt}(c:kindOf st=κ)(b:∀x∈a,ok x)(d:ok key)(h)
  (q:Q (some (if left=true then decide (rk a[base+i]<rk key) else !decide (rk key<rk a[base+i]))) st):wpS M A E s (SX left key a base i) Q st:=by
 show aQ (gz h ?_);cases left with
 | true=>show R.lt _ _ st _ (b _ (kG h)) d c q
 | false=>show aQ (R.lt _ _ st _ d (b _ (kG h)) c (bj q))
def Cut(b:Nat->Bool)(n k:Nat):Prop:=k<=n/\∀i,i<n->(b i=true↔i<k)
def xu(R:Rk M A E s κ ok rk){st:SortSt}(y:kindOf st=κ)(v:∀x∈g,ok x)(B:ok key)(C:base+n<=g.size)(z:a<n)
  (u:Cut (λi=>if left=true then decide (rk (g.getD (base+i) (jx,jx))<rk key) else !decide (rk key<rk (g.getD (base+i) (jx,jx)))) n k) (q:Q (some k) st):wpS M A E s (Jw left key g base n a) Q st:=by
 have p:∀i,i<n->∀{t:Option Bool->SortSt->Prop},t (some (decide (i<k))) st->wpS M A E s (SX left key g base i) t st:=λi hi t h=>by
  show zmH R y v B (by lia) ?_;have f:=u.2 i hi;have e:g.getD (base+i) (jx,jx)=g[base+i]'(by lia):=by simp[OG,show base+i<g.size by lia]
  dsimp only at f;rw[e] at f;rw[show(if left=true then decide (rk (g[base+i]'(by lia))<rk key) else !decide (rk key<rk (g[base+i]'(by lia))))=decide (i<k) by rw[v8,f,ic]];show h
 have w:=u.1;show aQ (p a z ?_);by_cases h0:a<k
 .simp![h0,gF,cy];show aQ (iB (iU (Q:=λc j=>j=st/\c.1=none/\a+c.2.1<k/\k<=a+min c.2.2 (n-a)) (λi c j=>j=st/\c.1=none/\a+c.2.1<k/\i+1<=c.2.2) ?_ ?_ ⟨rfl,rfl,⋯,by show 0+1<=1;show iy _⟩) ?_)
  .rintro i ⟨c1,la,of⟩ j _ r ⟨rfl,b,d,f⟩;dsimp only at b d f ⊢;subst b;by_cases hd:of>=n-a
   .rw[if_pos hd];show bj ⟨rfl,rfl,d,by dsimp only;lia⟩
   rw[if_neg hd];show aQ (p _ (by lia) ?_);by_cases hm:a+of<k
   .simp![hm,gF,oR,cO,cC];show bj ⟨rfl,rfl,hm,by dsimp only;lia⟩
   simp![hm,fA,qc,cy];show bj ⟨rfl,rfl,d,by dsimp only;ext⟩
  .rintro⟨c1,la,of⟩ j ⟨rfl,b,d,f⟩;show⟨rfl,b,d,by lia⟩
  rintro⟨c1,la,of⟩ j ⟨rfl,b,d,f⟩;dsimp only at b d f ⊢;subst b;show aQ (iB (iU (Q:=λc l=>l=j/\c.1=none/\c.2.2=k) (λi c l=>l=j/\c.1=none/\c.2.1<=k/\k<=c.2.2/\c.2.2<=n/\c.2.2-c.2.1+i<=n) ?_ ?_ ⟨rfl,rfl,by dsimp only;trivial,⋯,by dsimp only;lia,by dsimp only;ext⟩) ?_)
  .rintro i ⟨c1,lo,hi⟩ l _ r ⟨rfl,b,d,f,m,o⟩;dsimp only at b d f m o ⊢;subst b;by_cases hd:lo>=hi
   .rw[if_pos hd];show bj ⟨rfl,rfl,by dsimp only;lia⟩
   rw[if_neg hd];show aQ (p _ (by lia) ?_);by_cases hm:lo+(hi-lo)/2<k
   .simp![hm,gF,cy];show bj ⟨rfl,rfl,by dsimp only;trivial,f,m,by dsimp only;lia⟩
   simp![hm,fA,cO,cC];show bj ⟨rfl,rfl,d,by dsimp only;cbv,by dsimp only;lia,by dsimp only;ext⟩
  .rintro⟨c1,lo,hi⟩ l ⟨rfl,b,d,f,m,o⟩;show⟨rfl,b,by lia⟩
  rintro⟨c1,lo,hi⟩ l ⟨rfl,b,d⟩;subst b d;show bj q
 simp![h0,fA,cO,cC];show aQ (iB (iU (Q:=λc j=>j=st/\c.1=none/\k<=a-c.2.1/\c.2.1<=a/\a+1-min c.2.2 (a+1)<=k) (λi c j=>j=st/\c.1=none/\k<=a-c.2.1/\c.2.1<=a/\i+1<=c.2.2) ?_ ?_ ⟨rfl,rfl,by show k<=a-0;cbv,cA _,by show 0+1<=1;show iy _⟩) ?_)
 .rintro i ⟨c1,la,of⟩ j _ r ⟨rfl,b,d,f,m⟩;dsimp only at b d f m ⊢;subst b;by_cases hd:of>=a+1
  .rw[if_pos hd];show bj ⟨rfl,rfl,d,f,by dsimp only;cbv⟩
  rw[if_neg hd];show aQ (p _ (by lia) ?_);by_cases hm:a-of<k
  .simp![hm,gF,cy];show bj ⟨rfl,rfl,d,f,by dsimp only;ext⟩
  simp![hm,fA,cO,cC];show bj ⟨rfl,rfl,by dsimp only;cbv,by dsimp only;show qg ‹_›,by dsimp only;lia⟩
 .rintro⟨c1,la,of⟩ j ⟨rfl,b,d,f,m⟩;show⟨rfl,b,d,f,by lia⟩
 rintro⟨c1,la,of⟩ j ⟨rfl,b,d,f,m⟩;subst b;show aQ (iB (iU (Q:=λc l=>l=j/\c.1=none/\c.2.2=k) (λi c l=>l=j/\c.1=none/\c.2.1<=k/\k<=c.2.2/\c.2.2<=n/\c.2.2-c.2.1+i<=n) ?_ ?_ ⟨rfl,rfl,⋯,⋯,by dsimp only;lia,by dsimp only;ext⟩) ?_)
 .rintro i ⟨c1,lo,hi⟩ l _ r ⟨rfl,b,d,f,m,o⟩;dsimp only at b d f m o ⊢;subst b;by_cases hd:lo>=hi
  .rw[if_pos hd];show bj ⟨rfl,rfl,by dsimp only;lia⟩
  rw[if_neg hd];show aQ (p _ (by lia) ?_);by_cases hm:lo+(hi-lo)/2<k
  .simp![hm,gF,cy];show bj ⟨rfl,rfl,by dsimp only;trivial,f,m,by dsimp only;lia⟩
  simp![hm,fA,cO,cC];show bj ⟨rfl,rfl,d,by dsimp only;cbv,by dsimp only;lia,by dsimp only;ext⟩
 .rintro⟨c1,lo,hi⟩ l ⟨rfl,b,d,f,m,o⟩;show⟨rfl,b,by lia⟩
 rintro⟨c1,lo,hi⟩ l ⟨rfl,b,d⟩;subst b d;show bj q
variable{α:Type}(rk:α->Int)
structure MI(a b out:List α)(ia ib:Nat):Prop where
 la:ia<=a.length
 lb:ib<=b.length
 pm:out.Perm (a.take ia++b.take ib)
 so:out.Pairwise λx y=>rk x<=rk y
 ga:∀x∈out,∀y∈a.drop ia,rk x<=rk y
 gb:∀x∈out,∀y∈b.drop ib,rk x<=rk y
variable{rk}
def MI.len(h:MI rk a b out d c):out.length=d+c:=by
 have:=h.pm.length_eq;rw[cD,eK,eK] at this;have:=h.la;have:=h.lb;cbv
def V1{l:List α}:l.drop i=(l.drop i).take k++l.drop (i+k):=by
 rw[<-List.drop_drop,lH]
def MI.rq(h:MI rk a b out c f)(sa:a.Pairwise λx y=>rk x<=rk y)(i:c+k<=a.length)(j:∀x∈(a.drop c).take k,∀y∈b.drop f,rk x<=rk y):MI rk a b (out++(a.drop c).take k) (c+k) f:=by
 have e:(a.drop c).Pairwise λx y=>rk x<=rk y:=sa.sublist (C2 _ _)
 rw[V1 (k:=k),iT] at e;have g:=h.ga;rw[V1 (k:=k)] at g;show⟨i,h.lb,?_,?_,λx hx y d=>?_,λx hx y d=>?_⟩
 .rw[List.take_add];have:=h.pm.append_right ((a.drop c).take k);show this.trans ?_;rw[mM,mM];show zh _ wG
 .rw[iT];show⟨h.so,e.1,λx hx y d=>g x hx y (ie _ d)⟩
 .rcases bJ.mp hx with hx | hx
  .exact g x hx y (gO _ d)
  show e.2.2 x hx y d
 rcases bJ.mp hx with hx | hx
 .exact h.gb x hx y d
 show j x hx y d
theorem MI.swap(h:MI rk a b out d c):MI rk b a out c d:=⟨h.lb,h.la,h.pm.trans wG,h.so,h.gb,h.ga⟩
theorem MI.Cc(h:MI rk a b out d c)(e:b.Pairwise λx y=>rk x<=rk y)(f:c+k<=b.length)(g:∀x∈(b.drop c).take k,∀y∈a.drop d,rk x<=rk y):MI rk a b (out++(b.drop c).take k) d (c+k):=(h.swap.rq e f g).swap
def U3{l:List α}(h):(l.drop i).take 1=[l[i]]:=by
 rw[pY h];rfl
def zmI{l:List α}(s:l.Pairwise λx y=>rk x<=rk y)(h):∀y∈l.drop i,rk l[i]<=rk y:=by
 intro y a;rw[pY h] at a;rcases bM.mp a with rfl | a
 .exact dv _
 have b:(l.drop i).Pairwise λx y=>rk x<=rk y:=s.sublist (C2 _ _)
 rw[pY h,lG] at b;show b.1 y a
def MI.sZ(h:MI rk a b out c d)(sa:a.Pairwise λx y=>rk x<=rk y)(f:b.Pairwise λx y=>rk x<=rk y)(hi)(i:d<b.length)(e:rk a[c]<=rk b[d]):MI rk a b (out++[a[c]]) (c+1) d:=by
 have:=h.rq sa (k:=1) (by trivial) (λx hx y g=>by
  rw[U3 hi] at hx;simp at hx;subst hx;show GY e (zmI f i y g))
 rwa [U3 hi] at this
theorem MI.xI(h:MI rk a b out d c)(sa:a.Pairwise λx y=>rk x<=rk y)(f:b.Pairwise λx y=>rk x<=rk y)(hi g)(e:rk b[c]<=rk a[d]):MI rk a b (out++[b[c]]) d (c+1):=(h.swap.sZ f sa g hi e).swap
def MI.B8(h:MI rk a b out c d)(sa:a.Pairwise λx y=>rk x<=rk y)(j:b.Pairwise λx y=>rk x<=rk y)(e:∀x∈a.drop c,∀y∈b.drop d,rk x<=rk y) :
  (out++a.drop c++b.drop d).Perm (a++b)/\(out++a.drop c++b.drop d).Pairwise λx y=>rk x<=rk y:=by
 have i:=h.rq sa (k:=a.length-c) (by have:=h.la;cbv) (λx hx=>e x (uj hx));have m:(a.drop c).take (a.length-c)=a.drop c:=mG ∅;rw[m] at i
 have f:=i.Cc j (k:=b.length-d) (by have:=h.lb;cbv) (λx hx y g=>by
  rw[show c+(a.length-c)=a.length by have:=h.la;cbv,Hx] at g;cases g)
 have l:(b.drop d).take (b.length-d)=b.drop d:=mG ∅;rw[l] at f;show⟨?_,f.so⟩;have:=f.pm;rwa [show c+(a.length-c)=a.length by have:=h.la;cbv,show d+(b.length-d)=b.length by have:=h.lb;cbv,f6,f6] at this
def MI.Nn(h:MI rk a b out d c)(sa:a.Pairwise λx y=>rk x<=rk y)(f:b.Pairwise λx y=>rk x<=rk y)(e:∀x∈b.drop c,∀y∈a.drop d,rk x<=rk y) :
  (out++b.drop c++a.drop d).Perm (a++b)/\(out++b.drop c++a.drop d).Pairwise λx y=>rk x<=rk y:=by
 let⟨i,g⟩:=h.swap.B8 f sa e;show⟨i.trans wG,g⟩
abbrev jI(st:SortSt)(g:Nat):SortSt:=oP (kindOf st) (arrOf st) (pendingOf st) g (failedOf st)
variable{M:Model}{A:bh}{E:af->aj->Prop}{s:aj}
theorem xr{st:SortSt}(q:Q () st):wpS M A E s (liftM (rule x):StateT SortSt Sem Unit) Q st:=wpS_lift (mI ⟨rfl,q⟩)
def bV(rk:Keyed->Int)(l:List Keyed):Prop:=l.Pairwise λx y=>rk x<=rk y
def kQ(rk:Keyed->Int)(a b r:Array Keyed):Prop:=r.toList.Perm (a.toList++b.toList)/\bV rk r.toList
structure Mw(rk:Keyed->Int)(a b out:Array Keyed)(ia ib:Nat):Prop where
 mi:MI rk a.toList b.toList out.toList ia ib
 la:ia+1<a.size
 lb:ib<b.size
section
variable{rk:Keyed->Int}{a b out:Array Keyed}{ia ib:Nat}
def El(a:Array Keyed)(i):(a.extract i a.size).toList=a.toList.drop i:=by
 rw[Dj];show mG ∅
def TZ(a:Array Keyed)(i k):(a.extract i (i+k)).toList=(a.toList.drop i).take k:=by
 simp[CG]
def U2(a:Array Keyed):a.toList.drop a.size=[]:=by simp
def Ak(h:MI rk a.toList b.toList out.toList ia ib)(sa:bV rk a.toList)(d:bV rk b.toList)(hi:ia=a.size\/ib=b.size):kQ rk a b (out++a.extract ia a.size++b.extract ib b.size):=by
 let⟨g,f⟩:=h.B8 sa d (λx hx y c=>by
  rcases hi with e | e
  .rw[e,U2] at hx;cases hx
  .rw[e,U2] at c;cases c)
 unfold kQ bV;rw[mD,mD,El,El];show⟨g,f⟩
def Ez(h:MI rk a.toList b.toList out.toList ia ib)(sa:bV rk a.toList)(d:bV rk b.toList)(k:0<a.size)(hi:ia+1=a.size)(g:∀x∈b,rk x<rk (a[a.size-1])):kQ rk a b (out++b.extract ib b.size++a.extract ia a.size):=by
 let⟨j,i⟩:=h.Nn sa d (λx hx y c=>by
  have e:a.toList.drop ia=[a[a.size-1]]:=by
   have f:ia<a.toList.length:=by simp;lia
   rw[pY f,QR (by simp;cbv)];simp[show ia=a.size-1 by lia]
  rw[e] at c;simp at c;have:=g x (by simpa using rV hx);rw[c];show kL ‹_›)
 unfold kQ bV;rw[mD,mD,El,El];show⟨j,i⟩
end
theorem sr(p):∀n,(∀i j,i<=j->j<n->p j=true->p i=true)->∃k,Cut p n k
 | 0,_=>⟨0,bB _,λi hi=>absurd hi (Py i)⟩
 | n+1,h=>by
  let⟨k,k1,b⟩:=sr p n λi j c d=>h i j c (by lia)
  cases a:p n with
  | true=>
   show⟨n+1,bB _,λi hi=>⟨λ_=>hi,λ_=>?_⟩⟩;show h i n (by lia) (by show bB _) a
  | false=>
   show⟨k,by lia,λi hi=>?_⟩;by_cases e:i=n
   .subst e;rw[a];show⟨λz=>(by cases z),λz=>by lia⟩
   show b i (by lia)
abbrev dk:Keyed:=(jx,jx)
def gW{a:Array Keyed}(h):a.getD i dk=a[i]:=by simp[OG,h]
def sF{rk:Keyed->Int}{a:Array Keyed}(sa:bV rk a.toList)(h:i<=j)(b:j<a.size):rk (a.getD i dk)<=rk (a.getD j dk):=by
 rw[gW b,gW (by show nQ ‹_› ‹_›)];by_cases e:i=j
 .subst e;show dv _
 have:=pX.mp sa i j (by simp;show nQ ‹_› ‹_›) (by simpa using b) (by lia);trivial
def TY{a:Array Keyed}(h:i+k<=a.size)(hx:x∈(a.toList.drop i).take k):∃t,t<k/\x=a.getD (i+t) dk:=by
 let⟨t,b,e⟩:=jW hx;have c:t<k:=by simp at b;ext
 show⟨t,c,?_⟩;rw[gW (by lia),<-e];simp
def TV{a:Array Keyed}(hx:x∈a.toList.drop i):∃t,i+t<a.size/\x=a.getD (i+t) dk:=by
 let⟨t,c,e⟩:=jW hx;have b:i+t<a.size:=by simp at c;ext
 show⟨t,b,?_⟩;rw[gW b,<-e];simp
theorem Z1{rk:Keyed->Int}{a:Array Keyed}(sa:bV rk a.toList)(b key):∃k,Cut (λi=>if false=true then decide (rk (a.getD (b+i) dk)<rk key) else !decide (rk key<rk (a.getD (b+i) dk))) (a.size-b) k:=
 sr _ _ λi j d c h=>by
  have:=sF (rk:=rk) sa (show b+i<=b+j by cbv) ⋯;simp![cO,cC,kF,kJ] at h ⊢;ext
theorem Z6{rk:Keyed->Int}{b:Array Keyed}(c:bV rk b.toList)(a key):∃k,Cut (λi=>if true=true then decide (rk (b.getD (a+i) dk)<rk key) else !decide (rk key<rk (b.getD (a+i) dk))) (b.size-a) k:=
 sr _ _ λi j e d h=>by
  have:=sF (rk:=rk) c (show a+i<=a+j by cbv) ⋯;simp![cy,ic] at h ⊢;ext
def MI.Na{rk:Keyed->Int}{a b out:Array Keyed}(h:MI rk a.toList b.toList out.toList c d)(sa:bV rk a.toList)(g:bV rk b.toList)(la:c<a.size)(lb)(e:Cut (λi=>if false=true then decide (rk (a.getD (c+i) dk)<rk b[d]) else !decide (rk b[d]<rk (a.getD (c+i) dk))) (a.size-c) k) :
  MI rk a.toList b.toList (out++a.extract c (c+k)).toList (c+k) d/\c+k<=a.size/\(c+k<a.size->rk b[d]<rk (a.getD (c+k) dk)):=by
 have p:=e.1;show⟨?_,by lia,λo=>?_⟩
 .rw[mD,TZ];show h.rq sa (by simp;lia) λx hx y j=>?_
  let⟨t,m,rfl⟩:=TY (by lia) hx;let⟨u,l,rfl⟩:=TV j;have f:=(e.2 t (by show bX ‹_› ‹_›)).mpr m;have n:=sF (rk:=rk) g (show d<=d+u by cbv) l;rw[gW lb] at n;simp![cO,cC,kF,kJ] at f;ext
 have f:=mt (e.2 k (by lia)).mp (pZ k);simpa using f
def MI.M9{rk:Keyed->Int}{a b out:Array Keyed}(h:MI rk a.toList b.toList out.toList d c)(sa:bV rk a.toList)(g:bV rk b.toList)(la)(lb:c<=b.size)(e:Cut (λi=>if true=true then decide (rk (b.getD (c+i) dk)<rk a[d]) else !decide (rk a[d]<rk (b.getD (c+i) dk))) (b.size-c) k) :
  MI rk a.toList b.toList (out++b.extract c (c+k)).toList d (c+k)/\c+k<=b.size/\(c+k<b.size->rk a[d]<=rk (b.getD (c+k) dk)):=by
 have p:=e.1;show⟨?_,by lia,λo=>?_⟩
 .rw[mD,TZ];show h.Cc g (by simp;lia) λx hx y j=>?_
  let⟨t,m,rfl⟩:=TY (by lia) hx;let⟨u,l,rfl⟩:=TV j;have f:=(e.2 t (by show bX ‹_› ‹_›)).mpr m;have n:=sF (rk:=rk) sa (show d<=d+u by cbv) l;rw[gW la] at n;simp![cy,ic] at f;ext
 have f:=mt (e.2 k (by lia)).mp (pZ k);simpa using f
def TU{a:Type}{f:Nat->StateT SortSt Sem a}{c:Prop}{_:Decidable c}{x y:Nat}{Q:a->SortSt->Prop}{st:SortSt}(h:∀n,wpS M A E s (f n) Q st):wpS M A E s (if c then f x else f y) Q st:=by split<;>show h _
def TR{a:Type}{f:Array Keyed->Nat->StateT SortSt Sem a}{c c1:Prop}{_:Decidable c}{_:Decidable c1}{b:StateT SortSt Sem a}{o1 o0:Array Keyed}{i1 i0:Nat}{Q:a->SortSt->Prop}{st:SortSt}(P:Array Keyed->Nat->Prop)(h:∀o i,P o i->wpS M A E s (f o i) Q st)(j:c->c1->wpS M A E s b Q st)
  (g:c->¬c1->P o1 i1) (e:¬c->P o0 i0):wpS M A E s (if c then(if c1 then b else f o1 i1) else f o0 i0) Q st:=by
 split
 .rename_i d;split
  .rename_i h;show j d h
  rename_i z;show h _ _ (g d z)
 rename_i z;show h _ _ (e z)
def TQ{b:Type}{f:Array Keyed->Nat->StateT SortSt Sem b}{c c1 a:Prop}{_:Decidable c}{_:Decidable c1}{_:Decidable a}{g e:StateT SortSt Sem b}{o1 o0:Array Keyed}{i1 i0:Nat}{Q:b->SortSt->Prop}{st:SortSt}(P:Array Keyed->Nat->Prop)(h:∀o i,P o i->wpS M A E s (f o i) Q st)
  (m:c->c1->wpS M A E s g Q st) (l:c->¬c1->a->wpS M A E s e Q st) (k:c->¬c1->¬a->P o1 i1) (j:¬c->P o0 i0):wpS M A E s (if c then(if c1 then g else if a then e else f o1 i1) else f o0 i0) Q st:=by
 split
 .rename_i d;split
  .rename_i h;show m d h
  rename_i z;split
  .rename_i y;show l d z y
  rename_i y;show h _ _ (k d z y)
 rename_i z;show h _ _ (j z)
def zkM{κ:SortKind}{ok:Keyed->Prop}{rk:Keyed->Int}(R:Rk M A E s κ ok rk){a b:Array Keyed}{Q:Array Keyed->SortSt->Prop}{st:SortSt}(K:kindOf st=κ)(H:∀x∈a,ok x)(ob:∀x∈b,ok x)(sa:bV rk a.toList)(m:bV rk b.toList)(w:0<a.size)(T:0<b.size)
  (h0:rk b[0]<rk a[0]) (F:∀x∈b,rk x<rk (a[a.size-1])) (q:∀(r:Array Keyed) g,r.toList.Perm (a.toList++b.toList)->bV rk r.toList->Q r (jI st g)):wpS M A E s (U5 a b) Q st:=by
 show aQ (xr ?_);show aQ (gz T ?_);have cY:st=jI st (gallopOf st):=rfl;have m0:MI rk a.toList b.toList (#[b[0]]:Array Keyed).toList 0 1:=by
  have n0:MI rk a.toList b.toList [] 0 0:=⟨cA _,cA _,by rfl,.nil,λx hx=>(by cases hx),λx hx=>(by cases hx)⟩
  have:=n0.xI sa m (by simpa using w) (by simpa using T) (by simp![jX];show kL ‹_›);trivial
 by_cases c1:1=b.size
 .rw[if_pos (by show if_pos ‹_›)];show bj ?_;let⟨g1,g2⟩:=Ak m0 sa m (.inr c1);show q _ _ g1 g2
 rw[if_neg (by simpa using c1)];by_cases Y:0+1=a.size
 .rw[if_pos (by show if_pos ‹_›)];show bj ?_;let⟨g1,g2⟩:=Ez m0 sa m w Y F;show q _ _ g1 g2
 rw[if_neg (by simpa using Y)];show aQ (nI ?_);let Q1:Option (Array Keyed)×Array Keyed×Nat×Nat×Nat->SortSt->Prop:=λc l=>∃g r,l=jI st g/\c.1\r/\kQ rk a b r
 let I1:Nat->Option (Array Keyed)×Array Keyed×Nat×Nat×Nat->SortSt->Prop:=λi c l=>(∃g,l=jI st g)/\c.1=none/\Mw rk a b c.2.1 c.2.2.1 c.2.2.2.1/\i<c.2.1.size
 show aQ (iB (iU (Q:=Q1) I1 ?_ ?_ ⟨⟨_,cY⟩,rfl,⟨m0,by dsimp only;lia,by dsimp only;lia⟩,by show iy _⟩) ?_)
 .rintro i ⟨c1,out,h,d,mg⟩ l _ jO ⟨⟨g,rfl⟩,n,f,hsz⟩;subst n;let Q2:Option (Array Keyed)×Array Keyed×Nat×Nat×Nat×Nat->SortSt->Prop:=λc l=>(l=jI st g)/\((∃r,c.1\r/\kQ rk a b r)\/(c.1=none/\Mw rk a b c.2.1 c.2.2.1 c.2.2.2.1/\i+1<c.2.1.size))
  let I2:Nat->Option (Array Keyed)×Array Keyed×Nat×Nat×Nat×Nat->SortSt->Prop:=λj c l=>(l=jI st g)/\c.1=none/\Mw rk a b c.2.1 c.2.2.1 c.2.2.2.1/\i+j<c.2.1.size
  show aQ (iB (iU (Q:=Q2) I2 ?_ ?_ ⟨rfl,rfl,f,⋯⟩) ?_)
  .rintro j ⟨c1,out,h,d,ac,B⟩ l _ MP ⟨rfl,n,f,hsz⟩;dsimp only at n f hsz ⊢;subst n;have la:=f.la;have lb:=f.lb;have Xk:h<a.toList.length:=by simp;show gw ‹_›
   have Xi:d<b.toList.length:=by simpa using lb
   show aQ (gz lb (aQ (gz (show h<a.size by ext) (aQ (R.lt _ _ _ _ (ob _ (kG _)) (H _ (kG _)) K ?_)))));by_cases Z:rk b[d]<rk (a[h]'⋯)
   .simp![Z,gF,cy];have p:=f.mi.xI sa m Xk Xi (by simp![jX];show kL ‹_›);rw[jX,<-nO] at p;show aQ (gz lb ?_);by_cases u:d+1=b.size
    .rw[if_pos (by show if_pos ‹_›)];show bj ⟨rfl,.inl ⟨_,rfl,Ak p sa m (.inr u)⟩⟩
    rw[if_neg (by simpa using u)];split
    .exact bj ⟨rfl,.inr ⟨rfl,⟨p,la,by dsimp only;lia⟩,by simp;lia⟩⟩
    show bj ⟨rfl,rfl,⟨p,la,by dsimp only;lia⟩,by simp;lia⟩
   simp![Z,fA,cO,cC];have C:=f.mi.sZ sa m Xk Xi (by simp![jX];lia);rw[jX,<-nO] at C;show aQ (gz (show h<a.size by ext) ?_);by_cases u:h+1+1=a.size
   .rw[if_pos (by show if_pos ‹_›)];show bj ⟨rfl,.inl ⟨_,rfl,Ez C sa m w u F⟩⟩
   rw[if_neg (by simpa using u)];split
   .exact bj ⟨rfl,.inr ⟨rfl,⟨C,by dsimp only;lia,lb⟩,by simp;lia⟩⟩
   show bj ⟨rfl,rfl,⟨C,by dsimp only;lia,lb⟩,by simp;lia⟩
  .rintro⟨c1,out,h,d,ac,B⟩ l ⟨rfl,n,f,hsz⟩;show⟨rfl,.inr ⟨n,f,by lia⟩⟩
  rintro⟨c1,out,h,d,ac,B⟩ l ⟨rfl,L⟩;rcases L with⟨r,rfl,N⟩ | ⟨rfl,f,hsz⟩
  .exact bj ⟨g,r,rfl,rfl,N⟩
  show aQ (xr ?_);let Q3:Option (Array Keyed)×Array Keyed×Nat×Nat×Nat×Nat×Nat->SortSt->Prop:=λc l=>(∃g,l=jI st g)/\((∃r,c.1\r/\kQ rk a b r)\/(c.1=none/\Mw rk a b c.2.1 c.2.2.1 c.2.2.2.1/\i+1<c.2.1.size))
  let I3:Nat->Option (Array Keyed)×Array Keyed×Nat×Nat×Nat×Nat×Nat->SortSt->Prop:=λj c l=>(∃g,l=jI st g)/\c.1=none/\Mw rk a b c.2.1 c.2.2.1 c.2.2.2.1/\i+1<c.2.1.size
  show aQ (iB (iU (Q:=Q3) I3 ?_ ?_ ⟨⟨_,rfl⟩,rfl,f,hsz⟩) ?_)
  .rintro j ⟨c1,out,h,d,mg,ac,B⟩ l _ MP ⟨⟨g,rfl⟩,n,f,hsz⟩;dsimp only at n f hsz ⊢;subst n;have la:=f.la;have lb:=f.lb;have ol:=f.mi.len;rw[di] at ol;generalize mg-1=Mc;apply TU (x:=Mc) (y:=mg);intro mg2;show aQ (mH (aQ (gz lb ?_)));let⟨k,X⟩:=Z1 sa h b[d];show aQ (xu R K H (ob _ (kG _)) (by lia) (by lia) X ?_);dsimp only;let⟨v,m2,D⟩:=f.mi.Na sa m (by show gw ‹_›) lb X;have P:¬k>0->h+k=h:=λz=>by lia
   generalize out++a.extract h (h+k)=o1 at v ⊢;have lo1:h<=h+k:=CV _ _;generalize h+k=i1 at v m2 D P lo1 ⊢;apply TQ (o1:=o1) (i1:=i1) (o0:=out) (i0:=h) (λo i=>MI rk a.toList b.toList o.toList i d/\i+1<a.size/\h<=i/\rk b[d]<rk (a.getD i dk));rotate_left
   .exact λ_ e=>bj ⟨⟨_,rfl⟩,.inl ⟨_,rfl,Ez v sa m w (by simpa using e) F⟩⟩
   .exact λ_ _ e=>bj ⟨⟨_,rfl⟩,.inl ⟨_,rfl,Ak v sa m (.inl (by simpa using e))⟩⟩
   .intro _ u W;have u:¬i1+1=a.size:=by simpa using u
    have W:¬i1=a.size:=by simpa using W
    show⟨v,by lia,lo1,D (by lia)⟩
   .intro z;have:=P z;rw[this] at D;show⟨f.mi,la,bB _,D (by show gw ‹_›)⟩
   rintro o t ⟨mo,li,lo,lr⟩;rw[gW (by show gw ‹_›)] at lr;have p:=mo.xI sa m (show t<a.toList.length by simp;show gw ‹_›) (show d<b.toList.length by simpa using lb) (by simp![jX];show kL ‹_›);rw[jX,<-nO] at p;show aQ (gz lb ?_);by_cases V:d+1=b.size
   .rw[if_pos (by show if_pos ‹_›)];show bj ⟨⟨_,rfl⟩,.inl ⟨_,rfl,Ak p sa m (.inr V)⟩⟩
   rw[if_neg (by simpa using V)];show aQ (gz (show t<a.size by show gw ‹_›) ?_);let⟨k1,YM⟩:=Z6 m (d+1) (a[t]'(by show gw ‹_›));show aQ (xu R K ob (H _ (kG _)) (by lia) (by lia) YM ?_);dsimp only;let⟨n1,n2,n3⟩:=p.M9 sa m (by show gw ‹_›) (by trivial) YM;have O:¬k1>0->d+1+k1=d+1:=λz=>by lia
   generalize o.push b[d]++b.extract (d+1) (d+1+k1)=o2 at n1 ⊢;generalize o.push b[d]=o3 at p ⊢;have Xd:d+1<=d+1+k1:=CV _ _;generalize d+1+k1=S at n1 n2 n3 O Xd ⊢;have Xc:d<d+1:=rR _;have I:d+1<b.size:=by lia
   generalize d+1=j0 at p n3 O Xd Xc I ⊢;apply TR (o1:=o2) (i1:=S) (o0:=o3) (i0:=j0) (λo j=>MI rk a.toList b.toList o.toList t j/\j<b.size/\d<j/\rk (a[t]'(by show gw ‹_›))<=rk (b.getD j dk));rotate_left
   .exact λ_ e=>bj ⟨⟨_,rfl⟩,.inl ⟨_,rfl,Ak n1 sa m (.inr (by simpa using e))⟩⟩
   .intro _ e;have e:¬S=b.size:=by simpa using e
    show⟨n1,by lia,by show bX ‹_› ‹_›,n3 (by lia)⟩
   .intro z;have:=O z;rw[this] at n3;show⟨p,I,Xc,n3 I⟩
   rintro o J ⟨Mb,G,lo4,Me⟩;rw[gW G] at Me;have nn:=Mb.sZ sa m (show t<a.toList.length by simp;show gw ‹_›) (show J<b.toList.length by simpa using G) (by trivial);rw[jX,<-nO] at nn;show aQ (gz (show t<a.size by show gw ‹_›) ?_);by_cases U:t+1+1=a.size
   .rw[if_pos (by show if_pos ‹_›)];show bj ⟨⟨_,rfl⟩,.inl ⟨_,rfl,Ez nn sa m w U F⟩⟩
   rw[if_neg (by simpa using U)];have nl:=nn.len;rw[di] at nl;split
   .exact bj ⟨⟨_,rfl⟩,.inr ⟨rfl,⟨nn,by dsimp only;lia,G⟩,by dsimp only;lia⟩⟩
   show bj ⟨⟨_,rfl⟩,rfl,⟨nn,by dsimp only;lia,G⟩,by dsimp only;lia⟩
  .rintro⟨c1,out,h,d,mg,ac,B⟩ l ⟨⟨g,rfl⟩,n,f,hsz⟩;show⟨⟨g,rfl⟩,.inr ⟨n,f,hsz⟩⟩
  rintro⟨c1,out,h,d,mg,ac,B⟩ l ⟨⟨g,rfl⟩,L⟩;rcases L with⟨r,rfl,N⟩ | ⟨rfl,f,hsz⟩
  .exact bj ⟨g,r,rfl,rfl,N⟩
  show aQ (mH (bj ⟨⟨_,rfl⟩,rfl,f,hsz⟩))
 .rintro⟨c1,out,h,d,mg⟩ l ⟨⟨g,rfl⟩,n,f,hsz⟩;exfalso
  have h1:=f.mi.len;have h2:=f.la;have h3:=f.lb;rw[di] at h1;lia
 rintro⟨c1,out,h,d,mg⟩ l ⟨g,r,rfl,rfl,g1,g2⟩;show bj (q r g g1 g2)
section
variable{α:Type}(rk:α->Int)
structure MH(a b out:List α)(na nb:Nat):Prop where
 la:na<=a.length
 lb:nb<=b.length
 pm:out.reverse.Perm (a.drop na++b.drop nb)
 so:out.reverse.Pairwise λx y=>rk x<=rk y
 ga:∀y∈a.take na,∀x∈out,rk y<=rk x
 gb:∀y∈b.take nb,∀x∈out,rk y<=rk x
variable{rk}
def MH.len(h:MH rk a b out d c):out.length+d+c=a.length+b.length:=by
 have:=h.pm.length_eq;rw[cD,kE,kE,HL] at this;have:=h.la;have:=h.lb;lia
theorem MH.swap(h:MH rk a b out d c):MH rk b a out c d:=⟨h.lb,h.la,h.pm.trans wG,h.so,h.gb,h.ga⟩
def V0{l:List α}(a:t<=n):l.take n=l.take t++(l.take n).drop t:=by
 have:=(lH t (l.take n)).symm;rwa [List.take_take,vZ a] at this
def MH.rq(h:MH rk a b out c g)(sa:a.Pairwise λx y=>rk x<=rk y)(i:t<=c)(k:∀x∈(a.take c).drop t,∀y∈b.take g,rk y<=rk x):MH rk a b (out++((a.take c).drop t).reverse) t g:=by
 have l:=h.la;have f:(a.take c).Pairwise λx y=>rk x<=rk y:=sa.sublist (HB _ _)
 rw[V0 i,iT] at f;have ga:=h.ga;rw[V0 i] at ga;have j:(out++((a.take c).drop t).reverse).reverse=(a.take c).drop t++out.reverse:=by rw[List.reverse_append,List.reverse_reverse]
 show⟨by show bX ‹_› ‹_›,h.lb,?_,?_,λy d x hx=>?_,λy d x hx=>?_⟩
 .rw[j];show(h.pm.append_left _).trans ?_;rw[<-mM];show Zt _ ?_;have:a.drop t=(a.take c).drop t++a.drop c:=by
   have e:a=a.take c++a.drop c:=(lH c a).symm;rw[show a.drop t=(a.take c++a.drop c).drop t by rw[<-e],Dx (by simp;lia)]
  rw[this]
 .rw[j,iT];show⟨f.2.1,h.so,λx hx y d=>ga x (gO _ hx) y (CS.mp d)⟩
 .rcases bJ.mp hx with hx | hx
  .exact ga y (ie _ d) x hx
  show f.2.2 y d x (CS.mp hx)
 rcases bJ.mp hx with hx | hx
 .exact h.gb y d x hx
 show k x (CS.mp hx) y d
theorem MH.Cc(h:MH rk a b out d c)(e:b.Pairwise λx y=>rk x<=rk y)(f:t<=c)(g:∀x∈(b.take c).drop t,∀y∈a.take d,rk y<=rk x):MH rk a b (out++((b.take c).drop t).reverse) d t:=(h.swap.rq e f g).swap
def Vy{l:List α}(h):(l.take (n+1)).drop n=[l[n]]:=by
 rw[fB,bO h,Dx (by simp;lia),QR (by rw[eK];lia)];rfl
def zmJ{l:List α}(s:l.Pairwise λx y=>rk x<=rk y)(h):∀y∈l.take (n+1),rk y<=rk l[n]:=by
 intro y a;let⟨i,hi,rfl⟩:=jW a;have b:i<=n:=by simp at hi;lia
 rw[wj];by_cases e:i=n
 .subst e;show dv _
 show pX.mp s i n (by show nQ ‹_› ‹_›) h (by lia)
def MH.sZ(h:MH rk a b out (c+1) (d+1))(sa:a.Pairwise λx y=>rk x<=rk y)(f:b.Pairwise λx y=>rk x<=rk y)(hi i)(e:rk b[d]<=rk a[c]):MH rk a b (out++[a[c]]) c (d+1):=by
 have:=h.rq sa (t:=c) (by show iC _) (λx hx y g=>by
  rw[Vy hi] at hx;simp at hx;subst hx;show GY (zmJ f i y g) e)
 rwa [Vy hi] at this
theorem MH.xI(h:MH rk a b out (d+1) (c+1))(sa:a.Pairwise λx y=>rk x<=rk y)(f:b.Pairwise λx y=>rk x<=rk y)(hi)(g:c<b.length)(e:rk a[d]<=rk b[c]):MH rk a b (out++[b[c]]) (d+1) c:=(h.swap.sZ f sa g hi e).swap
def MH.B8(h:MH rk a b out d c)(sa:a.Pairwise λx y=>rk x<=rk y)(j:b.Pairwise λx y=>rk x<=rk y)(g:∀x∈a.take d,∀y∈b.take c,rk x<=rk y) :
  (a.take d++b.take c++out.reverse).Perm (a++b)/\(a.take d++b.take c++out.reverse).Pairwise λx y=>rk x<=rk y:=by
 have k:=h.Cc j (t:=0) (cA _) (λx hx y f=>g y f x (by trivial));have i:=k.rq sa (t:=0) (cA _) (λx hx y f=>by simp at f);have e:(out++((b.take c).drop 0).reverse++((a.take d).drop 0).reverse).reverse=a.take d++b.take c++out.reverse:=by simp
 have p:=i.pm;have s:=i.so;rw[e] at p s;show⟨by trivial,s⟩
def MH.Nn(h:MH rk a b out d c)(sa:a.Pairwise λx y=>rk x<=rk y)(f:b.Pairwise λx y=>rk x<=rk y)(e:∀x∈b.take c,∀y∈a.take d,rk x<=rk y) :
  (b.take c++a.take d++out.reverse).Perm (a++b)/\(b.take c++a.take d++out.reverse).Pairwise λx y=>rk x<=rk y:=by
 let⟨i,g⟩:=h.swap.B8 f sa e;show⟨i.trans wG,g⟩
end
def D2(a:Array Keyed)(n):(a.extract 0 n).toList=a.toList.take n:=by
 simp[CG]
def U1(a:Array Keyed)(h:n<=a.size):(a.extract t n).toList=(a.toList.take n).drop t:=by
 rw[Dj];rw[List.drop_take]
structure Mv(rk:Keyed->Int)(a b out:Array Keyed)(na nb:Nat):Prop where
 mh:MH rk a.toList b.toList out.toList na nb
 la:0<na
 lb:1<nb
section
variable{rk:Keyed->Int}{a b out:Array Keyed}
def Ax(h:MH rk a.toList b.toList out.toList na nb)(sa:bV rk a.toList)(d:bV rk b.toList)(hi:na=0\/nb=0):kQ rk a b (a.extract 0 na++b.extract 0 nb++out.reverse):=by
 let⟨g,f⟩:=h.B8 sa d (λx hx y c=>by
  rcases hi with e | e
  .rw[e] at hx;simp at hx
  .rw[e] at c;simp at c)
 unfold kQ bV;rw[mD,mD,D2,D2,Di];show⟨g,f⟩
def EH(h:MH rk a.toList b.toList out.toList na nb)(sa:bV rk a.toList)(c:bV rk b.toList)(g)(hi:nb=1)(k:∀x∈a,rk b[0]<rk x):kQ rk a b (b.extract 0 nb++a.extract 0 na++out.reverse):=by
 let⟨j,i⟩:=h.Nn sa c (λx hx y d=>by
  have e:b.toList.take nb=[b[0]]:=by
   have f:0<b.toList.length:=by simpa using g
   rw[hi,fB,bO f];simp
  rw[e] at hx;simp at hx;subst hx;have:=k y (by simpa using uj d);show kL ‹_›)
 unfold kQ bV;rw[mD,mD,D2,D2,Di];show⟨j,i⟩
def J7(d:n<=a.size)(hx:x∈(a.toList.take n).drop t):∃u,t<=u/\u<n/\x=a.getD u dk:=by
 let⟨u,c,e⟩:=jW hx;have b:t+u<n:=by simp at c;lia
 show⟨t+u,by cbv,b,?_⟩;rw[gW (by show bX ‹_› ‹_›),<-e];simp
def SW(b:n<=a.size)(hx:x∈a.toList.take n):∃u,u<n/\x=a.getD u dk:=by
 let⟨u,z,d,c⟩:=J7 (a:=a) (t:=0) b (x:=x) (by trivial);show⟨u,d,c⟩
def MH.Na(h:MH rk a.toList b.toList out.toList na (c+1))(sa:bV rk a.toList)(j:bV rk b.toList)(lb)(d:Cut (λi=>if false=true then decide (rk (a.getD (0+i) dk)<rk b[c]) else !decide (rk b[c]<rk (a.getD (0+i) dk))) na t) :
  MH rk a.toList b.toList (out++(a.extract t na).reverse).toList t (c+1)/\t<=na/\∀u,u+1=t->rk (a.getD u dk)<=rk b[c]:=by
 have f:=h.la;show⟨?_,d.1,λu n=>?_⟩
 .rw[mD,Di,U1 a f];show h.rq sa d.1 λx hx y k=>?_
  let⟨u,m,g,rfl⟩:=J7 f hx;let⟨v,v1,rfl⟩:=SW (by trivial) k;have e:=mt (d.2 u g).mp (by cbv);have l:=sF (rk:=rk) j (show v<=c by lia) lb;rw[gW lb] at l;simp![cO,cC,kF,kJ,y3] at e;ext
 have:=d.1;have e:=(d.2 u (by lia)).mpr (by lia);simpa using e
def MH.M9(h:MH rk a.toList b.toList out.toList (c+1) nb)(sa:bV rk a.toList)(j:bV rk b.toList)(la)(d:Cut (λi=>if true=true then decide (rk (b.getD (0+i) dk)<rk a[c]) else !decide (rk a[c]<rk (b.getD (0+i) dk))) nb t) :
  MH rk a.toList b.toList (out++(b.extract t nb).reverse).toList (c+1) t/\t<=nb/\∀u,u+1=t->rk (b.getD u dk)<rk a[c]:=by
 have f:=h.lb;show⟨?_,d.1,λu n=>?_⟩
 .rw[mD,Di,U1 b f];show h.Cc j d.1 λx hx y k=>?_
  let⟨u,m,g,rfl⟩:=J7 f hx;let⟨v,v1,rfl⟩:=SW (by trivial) k;have e:=mt (d.2 u g).mp (by cbv);have l:=sF (rk:=rk) sa (show v<=c by lia) la;rw[gW la] at l;simp![cy,ic,y3] at e;ext
 have:=d.1;have e:=(d.2 u (by lia)).mpr (by lia);simpa using e
end
theorem zwA{rk:Keyed->Int}{a:Array Keyed}(sa:bV rk a.toList)(b:n<=a.size)(key):∃k,Cut (λi=>if false=true then decide (rk (a.getD (0+i) dk)<rk key) else !decide (rk key<rk (a.getD (0+i) dk))) n k:=
 sr _ _ λi j d c h=>by
  have:=sF (rk:=rk) sa (show 0+i<=0+j by cbv) (by lia);simp![cO,cC,kF,kJ] at h ⊢;ext
theorem zwB{rk:Keyed->Int}{b:Array Keyed}(a:bV rk b.toList)(c:n<=b.size)(key):∃k,Cut (λi=>if true=true then decide (rk (b.getD (0+i) dk)<rk key) else !decide (rk key<rk (b.getD (0+i) dk))) n k:=
 sr _ _ λi j e d h=>by
  have:=sF (rk:=rk) a (show 0+i<=0+j by cbv) (by lia);simp![cy,ic] at h ⊢;ext
variable{M:Model}{A:bh}{E:af->aj->Prop}{s:aj}
def zkN{κ:SortKind}{ok:Keyed->Prop}{rk:Keyed->Int}(R:Rk M A E s κ ok rk){a b:Array Keyed}{Q:Array Keyed->SortSt->Prop}{st:SortSt}(J:kindOf st=κ)(F:∀x∈a,ok x)(ob:∀x∈b,ok x)(sa:bV rk a.toList)(h:bV rk b.toList)(ha:0<a.size)(C:0<b.size)
  (D:∀x∈a,rk b[0]<rk x) (h9:rk (b[b.size-1])<rk (a[a.size-1])) (q:∀(r:Array Keyed) g,r.toList.Perm (a.toList++b.toList)->bV rk r.toList->Q r (jI st g)):wpS M A E s (U4 a b) Q st:=by
 show aQ (xr ?_);show aQ (gz (show a.size-1<a.size by lia) ?_);have cY:st=jI st (gallopOf st):=rfl;have m0:MH rk a.toList b.toList (#[a[a.size-1]]:Array Keyed).toList (a.size-1) b.size:=by
  have n0:MH rk a.toList b.toList [] (a.size-1+1) (b.size-1+1):=⟨by simp;lia,by simp;lia,by
   rw[show a.size-1+1=a.size by lia,show b.size-1+1=b.size by lia];simp,.nil,λy _ x hx=>(by cases hx),λy _ x hx=>(by cases hx)⟩
  have:=n0.sZ sa h (by simp;lia) (by simp;lia) (by simp![jX];show kL ‹_›);rw[show b.size-1+1=b.size by lia] at this;trivial
 by_cases c1:a.size-1=0
 .rw[if_pos (by show if_pos ‹_›)];show bj ?_;let⟨g1,g2⟩:=Ax m0 sa h (.inl c1);show q _ _ g1 g2
 rw[if_neg (by simpa using c1)];by_cases W:b.size=1
 .rw[if_pos (by show if_pos ‹_›)];show bj ?_;let⟨g1,g2⟩:=EH m0 sa h C W D;show q _ _ g1 g2
 rw[if_neg (by simpa using W)];show aQ (nI ?_);let Q1:Option (Array Keyed)×Nat×Nat×Array Keyed×Nat->SortSt->Prop:=λc f=>∃g r,f=jI st g/\c.1\r/\kQ rk a b r
 let I1:Nat->Option (Array Keyed)×Nat×Nat×Array Keyed×Nat->SortSt->Prop:=λi c f=>(∃g,f=jI st g)/\c.1=none/\Mv rk a b c.2.2.2.1 c.2.1 c.2.2.1/\i<c.2.2.2.1.size
 show aQ (iB (iU (Q:=Q1) I1 ?_ ?_ ⟨⟨_,cY⟩,rfl,⟨m0,by dsimp only;lia,by dsimp only;lia⟩,by show iy _⟩) ?_)
 .rintro i ⟨c1,na,nb,out,mg⟩ f _ jO ⟨⟨g,rfl⟩,k,d,hsz⟩;subst k;let Q2:Option (Array Keyed)×Nat×Nat×Array Keyed×Nat×Nat->SortSt->Prop:=λc f=>(f=jI st g)/\((∃r,c.1\r/\kQ rk a b r)\/(c.1=none/\Mv rk a b c.2.2.2.1 c.2.1 c.2.2.1/\i+1<c.2.2.2.1.size))
  let I2:Nat->Option (Array Keyed)×Nat×Nat×Array Keyed×Nat×Nat->SortSt->Prop:=λj c f=>(f=jI st g)/\c.1=none/\Mv rk a b c.2.2.2.1 c.2.1 c.2.2.1/\i+j<c.2.2.2.1.size
  show aQ (iB (iU (Q:=Q2) I2 ?_ ?_ ⟨rfl,rfl,d,⋯⟩) ?_)
  .rintro j ⟨c1,na,nb,out,ac,w⟩ f _ MP ⟨rfl,k,d,hsz⟩;dsimp only at k d hsz ⊢;subst k;have la:=d.la;have lb:=d.lb;have I:=d.mh.la;have p:=d.mh.lb;rw[di] at I p;obtain⟨na,rfl⟩:∃n,na=n+1:=⟨na-1,by lia⟩
   obtain⟨nb,rfl⟩:∃n,nb=n+1:=⟨nb-1,by lia⟩
   simp![Qj];show aQ (gz (show nb<b.size by trivial) (aQ (gz (show na<a.size by trivial) (aQ (R.lt _ _ _ _ (ob _ (kG _)) (F _ (kG _)) J ?_)))));by_cases X:rk (b[nb]'(by trivial))<rk (a[na]'(by trivial))
   .simp![X,gF,cy];have B:=d.mh.sZ sa h (show na<a.toList.length by simp;trivial) (show nb<b.toList.length by simp;trivial) (by simp![jX];show kL ‹_›);rw[jX,<-nO] at B;show aQ (gz (show na<a.size by trivial) ?_);by_cases m:na=0
    .rw[if_pos (by show if_pos ‹_›)];show bj ⟨rfl,.inl ⟨_,rfl,Ax B sa h (.inl m)⟩⟩
    rw[if_neg (by simpa using m)];split
    .exact bj ⟨rfl,.inr ⟨rfl,⟨B,by dsimp only;lia,lb⟩,by simp;lia⟩⟩
    show bj ⟨rfl,rfl,⟨B,by dsimp only;lia,lb⟩,by simp;lia⟩
   simp![X,fA,cO,cC];have l:=d.mh.xI sa h (show na<a.toList.length by simp;trivial) (show nb<b.toList.length by simp;trivial) (by simp![jX];ext);rw[jX,<-nO] at l;show aQ (gz (show nb<b.size by trivial) ?_);by_cases m:nb=1
   .rw[if_pos (by show if_pos ‹_›)];show bj ⟨rfl,.inl ⟨_,rfl,EH l sa h C m D⟩⟩
   rw[if_neg (by simpa using m)];split
   .exact bj ⟨rfl,.inr ⟨rfl,⟨l,la,by dsimp only;lia⟩,by simp;lia⟩⟩
   show bj ⟨rfl,rfl,⟨l,la,by dsimp only;lia⟩,by simp;lia⟩
  .rintro⟨c1,na,nb,out,ac,w⟩ f ⟨rfl,k,d,hsz⟩;show⟨rfl,.inr ⟨k,d,by lia⟩⟩
  rintro⟨c1,na,nb,out,ac,w⟩ f ⟨rfl,K⟩;rcases K with⟨r,rfl,L⟩ | ⟨rfl,d,hsz⟩
  .exact bj ⟨g,r,rfl,rfl,L⟩
  show aQ (xr ?_);let Q3:Option (Array Keyed)×Nat×Nat×Array Keyed×Nat×Nat×Nat->SortSt->Prop:=λc f=>(∃g,f=jI st g)/\((∃r,c.1\r/\kQ rk a b r)\/(c.1=none/\Mv rk a b c.2.2.2.1 c.2.1 c.2.2.1/\i+1<c.2.2.2.1.size))
  let I3:Nat->Option (Array Keyed)×Nat×Nat×Array Keyed×Nat×Nat×Nat->SortSt->Prop:=λj c f=>(∃g,f=jI st g)/\c.1=none/\Mv rk a b c.2.2.2.1 c.2.1 c.2.2.1/\i+1<c.2.2.2.1.size
  show aQ (iB (iU (Q:=Q3) I3 ?_ ?_ ⟨⟨_,rfl⟩,rfl,d,hsz⟩) ?_)
  .rintro j ⟨c1,na,nb,out,mg,ac,w⟩ f _ MP ⟨⟨g,rfl⟩,k,d,hsz⟩;dsimp only at k d hsz ⊢;subst k;have la:=d.la;have lb:=d.lb;have Y:=d.mh.la;have N:=d.mh.lb;have ol:=d.mh.len;simp![di] at Y N ol;obtain⟨nb,rfl⟩:∃n,nb=n+1:=⟨nb-1,by lia⟩
   have p:nb<b.size:=by trivial
   generalize mg-1=Mc;apply TU (x:=Mc) (y:=mg);intro mg2;show aQ (mH (aQ (gz p ?_)));let⟨t,ct⟩:=zwA sa Y b[nb];show aQ (xu R J F (ob _ (kG _)) (by lia) (by lia) ct ?_);dsimp only;let⟨H,m2,G⟩:=d.mh.Na sa h p ct;generalize MX:na-t=ac2;generalize out++(a.extract t na).reverse=o1 at H ⊢;apply TR (o1:=o1) (i1:=t) (o0:=out) (i0:=na) (λo i=>MH rk a.toList b.toList o.toList i (nb+1)/\0<i/\i<=na/\∀u,u+1=i->rk (a.getD u dk)<=rk b[nb]);rotate_left
   .exact λ_ e=>bj ⟨⟨_,rfl⟩,.inl ⟨_,rfl,Ax H sa h (.inl (by simpa using e))⟩⟩
   .intro _ e;have e:¬t=0:=by simpa using e
    show⟨H,by lia,m2,G⟩
   .intro z;have e:t=na:=by lia
    rw[e] at G;show⟨d.mh,⋯,bB _,G⟩
   rintro o O ⟨mo,pos,hle,lr⟩;obtain⟨t,rfl⟩:∃v,O=v+1:=⟨O-1,by lia⟩
   simp![Qj];have m4:=lr t rfl;rw[gW (by show bX ‹_› ‹_›)] at m4;have l:=mo.xI sa h (show t<a.toList.length by simp;show bX ‹_› ‹_›) (show nb<b.toList.length by simpa using p) (by trivial);rw[jX,<-nO] at l;show aQ (gz p ?_);by_cases T:nb=1
   .rw[if_pos (by show if_pos ‹_›)];show bj ⟨⟨_,rfl⟩,.inl ⟨_,rfl,EH l sa h C T D⟩⟩
   rw[if_neg (by simpa using T)];show aQ (gz (show t<a.size by show bX ‹_› ‹_›) ?_);let⟨u,V⟩:=zwB h (show nb<=b.size by show gw ‹_›) (a[t]'(by show bX ‹_› ‹_›));show aQ (xu R J ob (F _ (kG _)) (by lia) (by lia) V ?_);dsimp only;let⟨n1,n2,n3⟩:=l.M9 sa h (by show bX ‹_› ‹_›) V;generalize hbc:nb-u=bc2;generalize o.push b[nb]++(b.extract u nb).reverse=o2 at n1 ⊢;generalize o.push b[nb]=Z at l ⊢;apply TQ (o1:=o2) (i1:=u) (o0:=Z) (i0:=nb) (λo j=>MH rk a.toList b.toList o.toList (t+1) j/\1<j/\j<=nb/\∀v,v+1=j->rk (b.getD v dk)<rk (a[t]'(by show bX ‹_› ‹_›)));rotate_left
   .exact λ_ e=>bj ⟨⟨_,rfl⟩,.inl ⟨_,rfl,EH n1 sa h C (by simpa using e) D⟩⟩
   .exact λ_ _ e=>bj ⟨⟨_,rfl⟩,.inl ⟨_,rfl,Ax n1 sa h (.inr (by simpa using e))⟩⟩
   .intro _ m U;have m:¬u=1:=by simpa using m
    have U:¬u=0:=by simpa using U
    show⟨n1,by lia,n2,n3⟩
   .intro z;have e:u=nb:=by lia
    rw[e] at n3;show⟨l,by lia,bB _,n3⟩
   rintro o P ⟨Mb,Yv,le2,Me⟩;obtain⟨u,rfl⟩:∃v,P=v+1:=⟨P-1,by lia⟩
   have n4:=Me u rfl;rw[gW (by lia)] at n4;have nn:=Mb.sZ sa h (show t<a.toList.length by simp;show bX ‹_› ‹_›) (show u<b.toList.length by simp;lia) (by show kL ‹_›);rw[jX,<-nO] at nn;show aQ (gz (show t<a.size by show bX ‹_› ‹_›) ?_);by_cases S:t=0
   .rw[if_pos (by show if_pos ‹_›)];show bj ⟨⟨_,rfl⟩,.inl ⟨_,rfl,Ax nn sa h (.inl S)⟩⟩
   rw[if_neg (by simpa using S)];have nl:=nn.len;simp![di] at nl;split
   .exact bj ⟨⟨_,rfl⟩,.inr ⟨rfl,⟨nn,by dsimp only;lia,⋯⟩,by dsimp only;ext⟩⟩
   show bj ⟨⟨_,rfl⟩,rfl,⟨nn,by dsimp only;lia,⋯⟩,by dsimp only;ext⟩
  .rintro⟨c1,na,nb,out,mg,ac,w⟩ f ⟨⟨g,rfl⟩,k,d,hsz⟩;show⟨⟨g,rfl⟩,.inr ⟨k,d,hsz⟩⟩
  rintro⟨c1,na,nb,out,mg,ac,w⟩ f ⟨⟨g,rfl⟩,K⟩;rcases K with⟨r,rfl,L⟩ | ⟨rfl,d,hsz⟩
  .exact bj ⟨g,r,rfl,rfl,L⟩
  show aQ (mH (bj ⟨⟨_,rfl⟩,rfl,d,hsz⟩))
 .rintro⟨c1,na,nb,out,mg⟩ f ⟨⟨g,rfl⟩,k,d,hsz⟩;dsimp only at k d hsz ⊢;exfalso
  have h1:=d.mh.len;simp![di] at h1;lia
 rintro⟨c1,na,nb,out,mg⟩ f ⟨g,r,rfl,rfl,g1,g2⟩;show bj (q r g g1 g2)
theorem zkO(i:Nat):mergeAt' i=(do
 let s <-get
 let(some (sa,na,power),some (b,nb,_)):=((pendingOf s)[i]?,(pendingOf s)[i+1]?) | unsupported "internal:list.sort.pending"
 set (setPending s (((pendingOf s).setIfInBounds i (sa,na+nb,power)).eraseIdxIfInBounds (i+1)))
 let some k <-Jw false (<-elem' (arrOf s) b) (arrOf s) sa na 0 | return false
 let(sa,na):=(sa+k,na-k)
 if na==0 then return true
 let some nb <-Jw true (<-elem' (arrOf s) (sa+na-1)) (arrOf s) b nb (nb-1) | return false
 if nb==0 then return true
 let x:=(arrOf s).extract sa b
 let y:=(arrOf s).extract b (b+nb)
 let merged <-if na<=nb then U5 x y else U4 x y
 modify λs=>setArr s (merged.toList.zipIdx.foldl (λa (p,j)=>a.setIfInBounds (sa+j) p) (arrOf s))
 return (failedOf (<-get)).isNone):=rfl
variable{M:Model}{A:bh}{E:af->aj->Prop}{s:aj}
theorem Vx(b):∀(m l:List Keyed) k,b+k+m.length<=l.length->
  (m.zipIdx k).foldl (λ(a:Array Keyed)(q:Keyed×Nat)=>a.setIfInBounds (b+q.2) q.1) l.toArray=(l.take (b+k)++m++l.drop (b+k+m.length)).toArray
 | [],l,k,h=>by simp
 | x::m,l,k,h=>by
  simp![eh] at h;rw[List.zipIdx_cons,lK];rw[show l.toArray.setIfInBounds (b+k) x=(l.set (b+k) x).toArray by simp];rw[Vx b m (l.set (b+k) x) (k+1) (by rw[qf];lia)];congr 1
  have c:(l.set (b+k) x).take (b+(k+1))=l.take (b+k)++[x]:=by
   rw[show b+(k+1)=b+k+1 by rfl,fB,List.take_set,HW (by lia)];rw[List.set_eq_of_length_le (by simp;lia)];rfl
  rw[c,List.drop_set_of_lt (by lia)];simp![eh,mM,oT,t8];rw[show b+(k+1)+m.length=b+k+(m.length+1) by lia]
theorem ztp{st:SortSt}(q:Q ⟨⟩ x):wpS M A E s (set x:StateT SortSt Sem PUnit) Q st:=mH (f:=λ_=>x) q
def D0{rk:Keyed->Int}(h:bV rk l)(b:i<=j)(a:j<l.length):rk (l[i]'(by show nQ ‹_› ‹_›))<=rk l[j]:=by
 by_cases e:i=j
 .subst e;show dv _
 show pX.mp h i j (by show nQ ‹_› ‹_›) a (by lia)
theorem bV.app{rk:Keyed->Int}(b:bV rk l)(a:bV rk m)(h:∀x∈l,∀y∈m,rk x<=rk y):bV rk (l++m):=iT.mpr ⟨b,a,h⟩
def zkP{rk:Keyed->Int}(R:Rk M A E s κ ok rk){st:SortSt}(l:kindOf st=κ)(O:failedOf st=none)(N:∀x∈arrOf st,ok x)
  (dec:(arrOf st).toList=P++(X++(Y++S))) (p1:(pendingOf st)[i]?\(P.length,X.length,p)) (p2:(pendingOf st)[i+1]?\(P.length+X.length,Y.length,pb)) (ha:0<X.length) (hb:0<Y.length) (o:bV rk X) (n:bV rk Y)
  (q:∀Z g,Z.Perm (X++Y)->bV rk Z->Q true (oP κ (P++(Z++S)).toArray (((pendingOf st).setIfInBounds i (P.length,X.length+Y.length,p)).eraseIdxIfInBounds (i+1)) g none)):wpS M A E s (mergeAt' i) Q st:=by
 rw[zkO];show aQ (nI ?_);rw[p1,p2];show aQ (ztp ?_);have hsz:(arrOf st).size=P.length+(X.length+(Y.length+S.length)):=by rw[<-di,dec];simp
 have G:arrOf st=(P++(X++(Y++S))).toArray:=by rw[<-dec]
 have D:∀t,(h:t<X.length)->(arrOf st).getD (P.length+t) dk=X[t]:=λt h=>by
  rw[gW (by lia)];simp[G,Ib,Q0,h]
 have C:∀t,(h:t<Y.length)->(arrOf st).getD (P.length+X.length+t) dk=Y[t]:=λt h=>by
  rw[gW (by lia)];have W:P.length+X.length+t-P.length-X.length=t:=by ext
  simp![G,List.getElem_toArray];rw[Ib (by lia),Ib (by lia),Q0 (by cbv)];congr 1
 have V:(arrOf st)[P.length+X.length]'(by lia)=Y[0]:=by
  have:=C 0 hb;rw[gW (by lia)] at this;simpa using this
 show aQ (gz (show P.length+X.length<(arrOf st).size by ext) ?_);rw[V]
 have F:∀x,x∈P\/x∈X\/x∈Y\/x∈S->ok x:=λx hx=>N x (by
  rw[<-oW,dec];simp![bJ];show hx)
 obtain⟨k,I⟩:∃k,Cut (λi=>if false=true then decide (rk ((arrOf st).getD (P.length+i) dk)<rk Y[0]) else !decide (rk Y[0]<rk ((arrOf st).getD (P.length+i) dk))) X.length k:=by
  show sr _ _ λi j dR B h=>?_
  have:=D0 o dR B;rw[D j B] at h;rw[D i (by show nQ ‹_› ‹_›)];simp![cO,cC,kF,kJ] at h ⊢;ext
 have YL:=I.1;show aQ (xu R l N (F _ (.inr (.inr (.inl (kC _))))) (by cbv) ha I ?_);dsimp only;have J:∀x∈X.take k,∀y∈Y,rk x<=rk y:=λx hx y v=>by
  let⟨t,f,rfl⟩:=jW hx;let⟨u,hu,rfl⟩:=jW v;have c:t<k:=by simp at f;cbv
  have b:=(I.2 t (by show bX ‹_› ‹_›)).mpr c;dsimp only at b;rw[D t (by show bX ‹_› ‹_›)] at b;have h2:=D0 n (cA u) hu;simp![cO,cC,kF,kJ] at b;rw[wj];ext
 have x2:∀x∈X.drop k,rk Y[0]<rk x:=λx hx=>by
  let⟨t,f,rfl⟩:=jW hx;have c:k+t<X.length:=by simp at f;lia
  have b:=mt (I.2 (k+t) c).mp (by cbv);dsimp only at b;rw[D _ c] at b;simpa using b
 have same:∀g,oP κ (P++((X++Y)++S)).toArray (((pendingOf st).setIfInBounds i (P.length,X.length+Y.length,p)).eraseIdxIfInBounds (i+1)) g none=oP κ (arrOf st) (((pendingOf st).setIfInBounds i (P.length,X.length+Y.length,p)).eraseIdxIfInBounds (i+1)) g none:=λg=>by
  rw[G];simp
 have whole:bV rk (X++Y)->Q true (setPending st (((pendingOf st).setIfInBounds i (P.length,X.length+Y.length,p)).eraseIdxIfInBounds (i+1))):=λh=>by
  have:=q (X++Y) (gallopOf st) (CN _) h;rw[same] at this;show Q true (oP (kindOf st) (arrOf st) _ (gallopOf st) (failedOf st));rw[l,O];show this
 by_cases e1:X.length-k=0
 .rw[if_pos (by show if_pos ‹_›)];show bj (whole (o.app n λx hx=>J x ?_));rw[mG (by lia)];show hx
 rw[if_neg (by simpa using e1)];have gl:(arrOf st)[P.length+k+(X.length-k)-1]'⋯=X[X.length-1]:=by
  have:=D (X.length-1) (by lia);rw[gW (by lia)] at this;rw[<-this];congr 1
  lia
 show aQ (gz (show P.length+k+(X.length-k)-1<(arrOf st).size by ext) ?_);rw[gl];obtain⟨m,H⟩:∃m,Cut (λi=>if true=true then decide (rk ((arrOf st).getD (P.length+X.length+i) dk)<rk X[X.length-1]) else !decide (rk X[X.length-1]<rk ((arrOf st).getD (P.length+X.length+i) dk))) Y.length m:=by
  show sr _ _ λi j dR B h=>?_
  have:=D0 n dR B;rw[C j B] at h;rw[C i (by show nQ ‹_› ‹_›)];simp![cy,ic] at h ⊢;ext
 have Nl:=H.1;show aQ (xu R l N (F _ (.inr (.inl (kC _)))) (by lia) ⋯ H ?_);dsimp only;have y1:∀y∈Y.take m,rk y<rk X[X.length-1]:=λy v=>by
  let⟨t,f,rfl⟩:=jW v;have c:t<m:=by simp at f;cbv
  have b:=(H.2 t (by show bX ‹_› ‹_›)).mpr c;dsimp only at b;rw[C t (by show bX ‹_› ‹_›)] at b;simpa using b
 have y2:∀x∈X,∀y∈Y.drop m,rk x<=rk y:=λx hx y v=>by
  let⟨t,f,rfl⟩:=jW v;let⟨u,hu,rfl⟩:=jW hx;have c:m+t<Y.length:=by simp at f;lia
  have b:=mt (H.2 (m+t) c).mp (by cbv);dsimp only at b;rw[C _ c] at b;have h2:=D0 o (show u<=X.length-1 by lia) (by lia);rw[C1];simp![cy,ic] at b;ext
 by_cases W:m=0
 .rw[if_pos (by show if_pos ‹_›)];show bj (whole (o.app n λx hx y v=>y2 x hx y ?_));rw[W];trivial
 rw[if_neg (by simpa using W)];have ex:((arrOf st).extract (P.length+k) (P.length+X.length)).toList=X.drop k:=by
  rw[Dj,dec];simp![CG];rw[zo,Dx YL,show P.length+X.length-(P.length+k)=(X.drop k).length by rw[kE];lia,Pg]
 have e:((arrOf st).extract (P.length+X.length) (P.length+X.length+m)).toList=Y.take m:=by
  rw[Dj,dec];simp![CG];rw[zo,show X.length=X.length+0 from rfl,zo,Hj,show P.length+(X.length+0)+m-(P.length+(X.length+0))=m by cbv,Ih Nl]
 have zx:((arrOf st).extract (P.length+k) (P.length+X.length)).size=X.length-k:=by rw[<-di,ex,kE]
 have zy:((arrOf st).extract (P.length+X.length) (P.length+X.length+m)).size=m:=by rw[<-di,e,eK];show if_pos ‹_›
 generalize (arrOf st).extract (P.length+k) (P.length+X.length)=x at ex zx ⊢;generalize (arrOf st).extract (P.length+X.length) (P.length+X.length+m)=y at e zy ⊢;have ox:∀z∈x,ok z:=λz hz=>F z (.inr (.inl (rV (by rw[<-ex];show oW.mpr hz))))
 have oy:∀z∈y,ok z:=λz hz=>F z (.inr (.inr (.inl (uj (by rw[<-e];show oW.mpr hz)))))
 have sx:bV rk x.toList:=by rw[ex];show o.sublist (C2 _ _)
 have sy:bV rk y.toList:=by rw[e];show n.sublist (HB _ _)
 have Xt:0<x.size:=by lia
 have Mp:0<y.size:=by lia
 have T:y[0]=Y[0]:=by
  have:y.toList[0]'(by simpa using Mp)=Y[0]:=by simp![e,wj]
  simpa using this
 have U:x[x.size-1]=X[X.length-1]:=by
  have:x.toList[x.size-1]'(by simp;lia)=X[X.length-1]:=by
   simp![ex,C1];congr 1
   lia
  simpa using this
 have fx:∀z∈x,rk y[0]<rk z:=λz hz=>by
  rw[T];show x2 z (by rw[<-ex];show oW.mpr hz)
 have fy:∀z∈y,rk z<rk (x[x.size-1]):=λz hz=>by
  rw[U];show y1 z (by rw[<-e];show oW.mpr hz)
 have fin:∀(r:Array Keyed) g,r.toList.Perm (x.toList++y.toList)->bV rk r.toList->Q true (oP κ (r.toList.zipIdx.foldl (λ(a:Array Keyed)(z:Keyed×Nat)=>a.setIfInBounds (P.length+k+z.2) z.1) (arrOf st)) (((pendingOf st).setIfInBounds i (P.length,X.length+Y.length,p)).eraseIdxIfInBounds (i+1)) g none):=λr g d rs=>by
  have rl:=d.length_eq;rw[cD,ex,e,kE,eK,vZ Nl] at rl;rw[ex,e] at d;have e9:=Vx (P.length+k) r.toList (P++(X++(Y++S))) 0 (by simp![cD];lia);rw[<-G] at e9;rw[e9];have t1:(P++(X++(Y++S))).take (P.length+k+0)=P++X.take k:=by
   rw[CF,List.take_length_add_append,Ih YL]
  have t2:(P++(X++(Y++S))).drop (P.length+k+0+r.toList.length)=Y.drop m++S:=by
   rw[show P.length+k+0+r.toList.length=P.length+(X.length+m) by lia,zo,zo,Dx Nl]
  rw[t1,t2];have:=q (X.take k++(r.toList++Y.drop m)) g ?_ ?_
  .simpa[mM] using this
  .have b:(X.take k++(r.toList++Y.drop m)).Perm (X.take k++((X.drop k++Y.take m)++Y.drop m)):=zh _ (d.append_right _);show b.trans ?_;rw[mM,lH,<-mM,lH]
  have mr:∀z∈r.toList,z∈X.drop k\/z∈Y.take m:=λz hz=>bJ.mp (d.mem_iff.mp hz)
  have L:bV rk (X.take k++X.drop k):=by rw[lH];show o
  have K:bV rk (Y.take m++Y.drop m):=by rw[lH];show n
  have d1:=(iT.mp L)
  have d2:=(iT.mp K)
  show bV.app d1.1 (rs.app d2.2.1 λz hz w hw=>?_) λz hz w hw=>?_
  .rcases mr z hz with h | h
   .exact y2 z (rV h) w hw
   show d2.2.2 z h w hw
  rcases bJ.mp hw with hw | hw
  .rcases mr w hw with h | h
   .exact d1.2.2 z hz w h
   show J z hz w (uj h)
  show J z hz w (rV hw)
 split
 .refine aQ (zkM R l ox oy sx sy Xt Mp (fx _ (kG _)) fy λr g d rs=>?_);show aQ (mH (aQ (nI (bj ?_))));have:=fin r g d rs;show Q (failedOf st).isNone (oP (kindOf st) _ _ g (failedOf st));rw[O,l];show this
 show aQ (zkN R l ox oy sx sy Xt Mp fx (fy _ (kG _)) λr g d rs=>?_);show aQ (mH (aQ (nI (bj ?_))));have:=fin r g d rs;show Q (failedOf st).isNone (oP (kindOf st) _ _ g (failedOf st));rw[O,l];show this
def kr(rk:Keyed->Int)(xs:Array Keyed)(i:Nat):Int:=rk (xs.getD i dk)
def kA(rk:Keyed->Int)(xs:Array Keyed)(lo n:Nat):Prop:=∀i j,i<=j->j<n->kr rk xs (lo+i)<=kr rk xs (lo+j)
structure Sl(xs ys:Array Keyed)(lo n:Nat):Prop where
 pm:ys.Perm xs
 out:∀j,j<lo\/lo+n<=j->ys[j]?=xs[j]?
theorem Sl.size{lo n:Nat}(h:Sl xs ys lo n):ys.size=xs.size:=h.pm.size_eq
theorem Sl.refl(xs lo n):Sl xs xs lo n:=⟨Y2 _,λ_ _=>rfl⟩
theorem Sl.trans{lo n:Nat}(h:Sl xs ys lo n)(h':Sl ys zs lo n):Sl xs zs lo n:=⟨h'.pm.trans h.pm,λj a=>(h'.out j a).trans (h.out j a)⟩
def Ac{rk:Keyed->Int}(h:ys[i]?=xs[j]?):kr rk ys i=kr rk xs j:=by
 unfold kr;rw[Rf,Rf,h]
variable{M:Model}{A:bh}{E:af->aj->Prop}{s:aj}
def xv{rk:Keyed->Int}(R:Rk M A E s κ ok rk){st:SortSt}(c:kindOf st=κ)(a:∀x∈arrOf st,ok x)(hi:i<(arrOf st).size)(b:j<(arrOf st).size)
  (q:Q (some (decide (kr rk (arrOf st) i<kr rk (arrOf st) j))) st):wpS M A E s (ltAt' i j) Q st:=by
 show aQ (nI (aQ (gz hi (aQ (gz b ?_)))));show R.lt _ _ _ _ (a _ (kG _)) (a _ (kG _)) c ?_;unfold kr at q;rwa [gW hi,gW b] at q
theorem Sl.ok{lo n:Nat}(h:Sl xs ys lo n){ok:Keyed->Prop}(a:∀x∈xs,ok x):∀x∈ys,ok x:=λx hx=>a x (h.pm.mem_iff.mp hx)
def zmK{rk:Keyed->Int}(R:Rk M A E s κ ok rk){lo n t:Nat}{st:SortSt}(P:kindOf st=κ)(L:∀x∈arrOf st,ok x)(W:lo+n<=(arrOf st).size)(N:kA rk (arrOf st) lo t)(O:t<=n)
  (q:∀ys,Sl (arrOf st) ys lo n->kA rk ys lo n->Q true (setArr st ys)):wpS M A E s (binarySort' lo n t) Q st:=by
 show aQ (iB (iU (I:=λk (c:Option Bool×Unit) b=>c.1=none/\∃ys,b=setArr st ys/\Sl (arrOf st) ys lo n/\kA rk ys lo (min k n))
  (Q:=λc b=>c.1=none/\∃ys,b=setArr st ys/\Sl (arrOf st) ys lo n/\kA rk ys lo n) ?step ?fin ?init) ?post)
 case post=>
  rintro⟨c,⟨⟩⟩ b ⟨a,ys,rfl,g,f⟩;subst a;show bj (q ys g f)
 case init=>
  show⟨rfl,arrOf st,rfl,Sl.refl _ _ _,λi j v u=>?_⟩;by_cases g:t=0
  .have:i=j:=by lia
   subst this;show dv _
  show N i j v (by lia)
 case fin=>
  rintro c b ⟨a,ys,rfl,g,f⟩;show⟨a,ys,rfl,g,by rwa [show min (max (max t 1) n) n=n by lia] at f⟩
 case step=>
  rintro k ⟨c,⟨⟩⟩ b U V ⟨a,ys,rfl,g,f⟩;subst a;rw[show min k n=k by lia] at f;have hsz:=g.size;have K:=g.ok L;obtain⟨p,y⟩:∃p,Cut (λm=>!decide (kr rk ys (lo+k)<kr rk ys (lo+m))) k p:=by
   show sr _ _ λi j v u h=>?_
   have:=f i j v u;simp![kF,kJ] at h ⊢;lia
  have C:=y.1;show aQ (iB (iU (I:=λj (c:Option Bool×Nat×Nat) b=>b=setArr st ys/\c.1=none/\c.2.1<=p/\p<=c.2.2/\c.2.2<=k/\c.2.2-c.2.1+j<=k)
   (Q:=λ(c:Option Bool×Nat×Nat) b=>b=setArr st ys/\c.1=none/\c.2.1=p) ?_ ?_ ⟨rfl,rfl,cA _,C,bB _,by show k-0+0<=k;cbv⟩) ?_)
  .rintro j ⟨c,l,r⟩ b _ u ⟨rfl,a,o,B,z,F⟩;dsimp only at a o B z F ⊢;subst a;by_cases hd:l>=r
   .rw[if_pos hd];show bj ⟨rfl,rfl,by dsimp only;lia⟩
   rw[if_neg hd];have S:l<=(l+r)/2/\(l+r)/2<r:=by lia
   generalize (l+r)/2=d at S ⊢;show aQ (xv R P K (show lo+k<ys.size by lia) (show lo+d<ys.size by lia) ?_);have hm:=y.2 (d) (by lia);simp![kF,kJ] at hm;by_cases H:kr rk ys (lo+k)<kr rk ys (lo+d)
   .rw[show decide (kr rk (arrOf (setArr st ys)) (lo+k)<kr rk (arrOf (setArr st ys)) (lo+d))=true from decide_eq_true H];show bj ⟨rfl,rfl,o,by dsimp only;cbv,by dsimp only;lia,by dsimp only;lia⟩
   rw[show decide (kr rk (arrOf (setArr st ys)) (lo+k)<kr rk (arrOf (setArr st ys)) (lo+d))=false from decide_eq_false H];show bj ⟨rfl,rfl,by dsimp only;lia,B,z,by dsimp only;lia⟩
  .rintro⟨c,l,r⟩ b ⟨rfl,a,o,B,z,F⟩;show⟨rfl,a,by lia⟩
  rintro⟨c,l,r⟩ b ⟨rfl,a,o⟩;dsimp only at a o ⊢;subst a o;show aQ (mH (bj ⟨rfl,bubble ys (lo+k) (lo+k-(lo+l)),rfl,g.trans ⟨bubble_perm _ _ _,λj u=>?_⟩,?_⟩))
  .rw[Px (by lia) _ (by cbv),if_neg ⋯,if_neg (by lia)]
  have D:∀j,kr rk (bubble ys (lo+k) (lo+k-(lo+l))) (lo+j)=if j=l then kr rk ys (lo+k) else if l<j/\j<=k then kr rk ys (lo+(j-1)) else kr rk ys (lo+j):=λj=>by
   have e:=Px (xs:=ys) (src:=lo+k) (by lia) (lo+k-(lo+l)) (by cbv) (lo+j);by_cases c1:j=l
   .rw[if_pos ⋯] at e;rw[if_pos c1];show Ac e
   rw[if_neg (by lia)] at e;rw[if_neg c1];by_cases G:l<j/\j<=k
   .rw[if_pos ⋯,show lo+j-1=lo+(j-1) by lia] at e;rw[if_pos G];show Ac e
   rw[if_neg ⋯] at e;rw[if_neg G];show Ac e
  have below:∀m,m<l->kr rk ys (lo+m)<=kr rk ys (lo+k):=λm hm=>by
   have:=(y.2 m (by show bX ‹_› ‹_›)).mpr hm;simp![kF,kJ] at this;cbv
  have above:∀m,l<=m->m<k->kr rk ys (lo+k)<=kr rk ys (lo+m):=λm hm T=>by
   have:=mt (y.2 m T).mp (by cbv);simp![kF,kJ] at this;lia
  intro i j v u;rw[D,D];by_cases a1:i=l
  .rw[if_pos a1];by_cases w:j=l
   .rw[if_pos w];show dv _
   rw[if_neg w,if_pos (by lia)];show above _ (by lia) (by lia)
  rw[if_neg a1];by_cases a2:l<i/\i<=k
  .rw[if_pos a2,if_neg (by lia),if_pos (by lia)];show f _ _ (by lia) (by lia)
  rw[if_neg a2];by_cases w:j=l
  .rw[if_pos w];show below i (by lia)
  rw[if_neg w];by_cases J:l<j/\j<=k
  .rw[if_pos J];show f _ _ (by lia) ⋯
  rw[if_neg J];show f _ _ v (by lia)
def Kh{rk:Keyed->Int}(b:j<=xs.size)(k):kr rk (mirror xs i j ((j-i)/2)) k=if i<=k/\k<j then kr rk xs (i+j-1-k) else kr rk xs k:=by
 have e:=Qw (i:=i) b k;by_cases a:i<=k/\k<j
 .rw[if_pos a] at e ⊢;show Ac e
 rw[if_neg a] at e ⊢;show Ac e
theorem Ey{i j lo n:Nat}(a:j<=xs.size)(hi:lo<=i)(b:j<=lo+n):Sl xs (mirror xs i j ((j-i)/2)) lo n:=
 ⟨mirror_perm _ _ _ _,λk c=>by rw[Qw a,if_neg (by lia)]⟩
def Lk{rk:Keyed->Int}(b:j<=xs.size)(a:∀k,i<=k->k<j->kr rk xs k=kr rk xs (j-1))(k):kr rk (mirror xs i j ((j-i)/2)) k=kr rk xs k:=by
 rw[Kh b];split
 .rw[a _ ⋯ ⋯,a k (by cbv) (by cbv)]
 rfl
def Dec(rk:Keyed->Int)(xs:Array Keyed)(lo n:Nat):Prop:=∀i j,i<=j->j<n->kr rk xs (lo+j)<=kr rk xs (lo+i)
theorem kA.more{rk:Keyed->Int}{lo n:Nat}(h:kA rk xs lo n)(c:1<=n)(d:kr rk xs (lo+n-1)<=kr rk xs (lo+n)):kA rk xs lo (n+1):=λi j b f=>by
 by_cases e:j=n
 .subst e;by_cases a:i=j
  .subst a;show dv _
  have:=h i (j-1) (by lia) ⋯;rw[show lo+(j-1)=lo+j-1 by lia] at this;lia
 show h i j b (by lia)
theorem Dec.more{rk:Keyed->Int}{lo n:Nat}(h:Dec rk xs lo n)(c:1<=n)(d:kr rk xs (lo+n)<=kr rk xs (lo+n-1)):Dec rk xs lo (n+1):=λi j b f=>by
 by_cases e:j=n
 .subst e;by_cases a:i=j
  .subst a;show dv _
  have:=h i (j-1) (by lia) ⋯;rw[show lo+(j-1)=lo+j-1 by lia] at this;lia
 show h i j b (by lia)
theorem Dec.turn{rk:Keyed->Int}{lo n:Nat}(h:Dec rk xs lo n)(a:lo+n<=xs.size):kA rk (mirror xs lo (lo+n) ((lo+n-lo)/2)) lo n:=λi j c b=>by
 rw[Kh a,Kh a,if_pos (by lia),if_pos (by cbv)];have:=h (n-1-j) (n-1-i) ⋯ ⋯;rw[show lo+(lo+n)-1-(lo+i)=lo+(n-1-i) by lia,show lo+(lo+n)-1-(lo+j)=lo+(n-1-j) by lia];show this
variable{M:Model}{A:bh}{E:af->aj->Prop}{s:aj}
def Ek{st:SortSt}(h:Q () (setArr st (mirror (arrOf st) i j ((j-i)/2)))):wpS M A E s (reverseSlice' i j) Q st:=by
 show mH h
def zoK{rk:Keyed->Int}(R:Rk M A E s κ ok rk){lo d:Nat}{st:SortSt}(C:kindOf st=κ)(y:∀x∈arrOf st,ok x)(X:lo+d<=(arrOf st).size)(Y:1<=d)
  (q:∀ys n,1<=n->n<=d->Sl (arrOf st) ys lo d->kA rk ys lo n->Q (some n) (setArr st ys)):wpS M A E s (countRun' lo d) Q st:=by
 rw[countRun'_eq];show aQ (iB (iU (I:=λi (c:Option (Option Nat)×Nat) a=>a=st/\c.1=none/\c.2=i/\kA rk (arrOf st) lo i)
  (Q:=λ(c:Option (Option Nat)×Nat) a=>a=st/\c.1=none/\1<=c.2/\c.2<=d/\kA rk (arrOf st) lo c.2/\(c.2<d->kr rk (arrOf st) (lo+c.2)<kr rk (arrOf st) (lo+c.2-1))) ?_ ?_ ⟨rfl,rfl,rfl,λi j v u=>by rw[show i=j by cbv];show dv _⟩) ?_)
 .rintro i ⟨c,n⟩ a G L ⟨rfl,b,e,f⟩;dsimp only at b e ⊢;subst b e;show aQ (xv R C y (by lia) ⋯ ?_);by_cases m:kr rk (arrOf a) (lo+n)<kr rk (arrOf a) (lo+n-1)
  .simp![m,gF,cy];show bj ⟨rfl,rfl,G,by show gw ‹_›,f,λ_=>m⟩
  simp![m,fA,cO,cC];show bj ⟨rfl,rfl,rfl,f.more G (by cbv)⟩
 .rintro⟨c,n⟩ a ⟨rfl,b,e,f⟩;subst e;show⟨rfl,b,by cbv,by cbv,f,λz=>by cbv⟩
 rintro⟨c,n⟩ a ⟨rfl,b,n1,n2,f,hd⟩;dsimp only at b n1 n2 f hd ⊢;subst b;by_cases U:n=d
 .rw[if_pos (by show if_pos ‹_›)];show bj (q (arrOf a) n n1 n2 (Sl.refl _ _ _) f)
 rw[if_neg (by simpa using U)];generalize hR:(rule "list.sort.descending-run" >>= _:StateT SortSt Sem (Option Nat))=H;have rest:∀w,Sl (arrOf a) w lo d->Dec rk w lo (n+1)->wpS M A E s H Q (setArr a w):=by
  rw[<-hR];intro w S W;show aQ (xr ?_);show aQ (iB (iU (I:=λi (c:Option (Option Nat)×Nat×Nat) h=>∃ys,h=setArr a ys/\Sl (arrOf a) ys lo d/\c.1=none/\c.2.1=i/\Dec rk ys lo i/\c.2.2<i/\∀t,t<=c.2.2->kr rk ys (lo+i-1-t)=kr rk ys (lo+i-1))
   (Q:=λ(c:Option (Option Nat)×Nat×Nat) h=>∃ys,h=setArr a ys/\Sl (arrOf a) ys lo d/\c.1=none/\1<=c.2.1/\c.2.1<=d/\Dec rk ys lo c.2.1/\c.2.2<c.2.1/\∀t,t<=c.2.2->kr rk ys (lo+c.2.1-1-t)=kr rk ys (lo+c.2.1-1)) ?_ ?_ ⟨w,rfl,S,rfl,rfl,W,by dsimp only;cbv,λt p=>by rw[show t=0 by dsimp only at p;cbv];rfl⟩) ?_)
  .rintro i ⟨c,n,e⟩ h G L ⟨ys,rfl,g,b,F,o,r,eq⟩;dsimp only at b F r eq ⊢;subst b F;have hsz:=g.size;show aQ (xv R C (g.ok y) (show lo+n<ys.size by lia) (show lo+n-1<ys.size by lia) ?_);by_cases m:kr rk ys (lo+n)<kr rk ys (lo+n-1)
   .simp![m,gF,cy];have O:=o.more (by lia) (kL m);by_cases D:e>0
    .rw[if_pos D]
     have l:=Lk (rk:=rk) (xs:=ys) (i:=lo+n-(e+1)) (j:=lo+n) (by lia) (λk k1 J=>by
      have:=eq (lo+n-1-k) ⋯
      rwa [show lo+n-1-(lo+n-1-k)=k by lia] at this)
     show aQ (Ek ?_);show bj ⟨_,rfl,g.trans (Ey (by lia) (by lia) (by lia)),rfl,rfl,λi j v u=>?_,by dsimp only;cbv,λt p=>by rw[show t=0 by dsimp only at p;cbv];rfl⟩;have:=O i j v u;rw[<-l,<-l] at this;show this
    rw[if_neg D];show bj ⟨ys,rfl,g,rfl,rfl,O,by dsimp only;cbv,λt p=>by rw[show t=0 by dsimp only at p;cbv];rfl⟩
   simp![m,fA,cO,cC];show aQ (xv R C (g.ok y) (show lo+n-1<ys.size by lia) (show lo+n<ys.size by lia) ?_);by_cases P:kr rk ys (lo+n-1)<kr rk ys (lo+n)
   .simp![P,gF,cy];show bj ⟨ys,rfl,g,rfl,by dsimp only;lia,by dsimp only;show gw ‹_›,o,r,eq⟩
   simp![P,fA,cO,cC];show bj ⟨ys,rfl,g,rfl,rfl,o.more (by lia) (by cbv),by dsimp only;cbv,λt p=>?_⟩;dsimp only at p;rw[show lo+(n+1)-1=lo+n by rfl];by_cases t0:t=0
   .subst t0;rfl
   have:=eq (t-1) (by cbv);rw[show lo+n-1-(t-1)=lo+n-t by lia] at this;lia
  .rintro⟨c,n,e⟩ h ⟨ys,rfl,g,b,F,o,r,eq⟩;dsimp only at b F r eq ⊢;subst F;show⟨ys,rfl,g,b,by lia,by lia,o,r,eq⟩
  rintro⟨c,n,e⟩ h ⟨ys,rfl,g,b,n1,n2,o,r,eq⟩;dsimp only at b n1 n2 o r eq ⊢;subst b;have hsz:=g.size;generalize T:(reverseSlice' lo (lo+n) >>= _:StateT SortSt Sem (Option Nat))=Tl;have tail:∀ws,Sl (arrOf a) ws lo d->Dec rk ws lo n->wpS M A E s Tl Q (setArr a ws):=by
   rw[<-T];intro ws lw V;have hw:=lw.size;show aQ (Ek ?_);have B:=lw.trans (Ey (xs:=ws) (i:=lo) (j:=lo+n) (lo:=lo) (n:=d) (by lia) (by cbv) (by cbv));have hz:=V.turn (by lia);generalize mirror ws lo (lo+n) ((lo+n-lo)/2)=zs at B hz;show aQ (iB (iU (I:=λi (c:Option (Option Nat)×Nat) h=>h=setArr a zs/\c.1=none/\c.2=i/\kA rk zs lo i)
    (Q:=λ(c:Option (Option Nat)×Nat) h=>h=setArr a zs/\c.1=none/\1<=c.2/\c.2<=d/\kA rk zs lo c.2) ?_ ?_ ⟨rfl,rfl,rfl,hz⟩) ?_)
   .rintro i ⟨c,n⟩ h G L ⟨rfl,b,e,f⟩;dsimp only at b e ⊢;subst b e;show aQ (xv R C (B.ok y) (show lo+n<zs.size by have:=B.size;lia) (show lo+n-1<zs.size by have:=B.size;lia) ?_);by_cases m:kr rk zs (lo+n)<kr rk zs (lo+n-1)
    .simp![m,gF,cy];show bj ⟨rfl,rfl,by show bX ‹_› ‹_›,by show gw ‹_›,f⟩
    simp![m,fA,cO,cC];show bj ⟨rfl,rfl,rfl,f.more (by show bX ‹_› ‹_›) (by cbv)⟩
   .rintro⟨c,n⟩ h ⟨rfl,b,e,f⟩;subst e;show⟨rfl,b,by cbv,by cbv,f⟩
   rintro⟨c,n⟩ h ⟨rfl,b,n1,n2,f⟩;subst b;show bj (q zs n n1 n2 B f)
  by_cases D:e>0
  .rw[if_pos D]
   have l:=Lk (rk:=rk) (xs:=ys) (i:=lo+n-(e+1)) (j:=lo+n) (by lia) (λk k1 J=>by
    have:=eq (lo+n-1-k) ⋯
    rwa [show lo+n-1-(lo+n-1-k)=k by lia] at this)
   show aQ (Ek (tail _ (g.trans (Ey (xs:=ys) (i:=lo+n-(e+1)) (j:=lo+n) (lo:=lo) (n:=d) (by lia) ⋯ (by cbv))) λi j v u=>?_));have:=o i j v u;rw[<-l,<-l] at this;show this
  rw[if_neg D];show tail ys g o
 by_cases N:n>1
 .rw[if_pos N];show aQ (xv R C y (by lia) ⋯ ?_);by_cases K:kr rk (arrOf a) lo<kr rk (arrOf a) (lo+n-1)
  .simp![K,gF,cy];show bj (q (arrOf a) n n1 n2 (Sl.refl _ _ _) f)
  simp![K,fA,cO,cC];have same:∀k,lo<=k->k<lo+n->kr rk (arrOf a) k=kr rk (arrOf a) (lo+n-1):=λk k1 J=>by
   have a1:=f 0 (k-lo) (by cbv) ⋯;have a2:=f (k-lo) (n-1) (by lia) (by lia);rw[show lo+(k-lo)=k by ext] at a1 a2;rw[show lo+(n-1)=lo+n-1 by lia] at a2;simp![CF] at a1;lia
  have l:=Lk (rk:=rk) (xs:=arrOf a) (i:=lo) (j:=lo+n) (by lia) same;show aQ (Ek (rest _ (Ey (xs:=arrOf a) (i:=lo) (j:=lo+n) (lo:=lo) (n:=d) (by lia) (by cbv) (by cbv)) (Dec.more (λi j v u=>?_) n1 ?_)))
  .rw[l,l,same _ (by cbv) (by cbv),same (lo+i) (by cbv) (by lia)];show dv _
  rw[l,l];lia
 rw[if_neg N];show rest (arrOf a) (Sl.refl _ _ _) (Dec.more (λi j v u=>by rw[show i=j by lia];show dv _) n1 (by lia))
def starts:Nat->List (List Keyed)->List (Nat×Nat)
 | _,[]=>[]
 | st,X::a=>(st,X.length)::starts (st+X.length) a
abbrev ft(t:Nat×Nat×Nat):Nat×Nat:=(t.1,t.2.1)
theorem Lc:∀st a,(starts st a).length=a.length
 | _,[]=>rfl
 | st,X::a=>by simp[starts,Lc]
theorem V8:∀st a W,starts st (a++[W])=starts st a++[(st+a.flatten.length,W.length)]
 | st,[],W=>by rfl
 | st,X::a,W=>by
  simp![oT,starts,V8 (st+X.length) a W,lD,cD];rw[show st+X.length+a.flatten.length=st+(X.length+a.flatten.length) by lia]
theorem Kg:∀st a X Xs2,(starts st (a++X::Xs2))[a.length]?\(st+a.flatten.length,X.length)
 | st,[],X,Xs2=>by rfl
 | st,A::a,X,Xs2=>by
  simp![oT,starts,eh,wJ,Kg (st+A.length) a X Xs2,lD,cD];rw[show st+A.length+a.flatten.length=st+(A.length+a.flatten.length) by lia]
theorem V7(hz:Z.length=X.length+Y.length):∀st a,((starts st (a++X::Y::Xs2)).set a.length (st+a.flatten.length,X.length+Y.length)).eraseIdx (a.length+1)=starts st (a++Z::Xs2)
 | st,[]=>by
  simp[starts,hz,Nat.add_assoc]
 | st,A::a=>by
  have b:=V7 (Xs2:=Xs2) hz (st+A.length) a;simp![oT,starts,eh,Qi,List.eraseIdx_cons_succ,lD,cD];rw[show st+(A.length+a.flatten.length)=st+A.length+a.flatten.length by lia,b]
theorem Wn{α b:Type}(f:α->b):∀(l:List α) n,(l.map f).eraseIdx n=(l.eraseIdx n).map f
 | [],_=>rfl
 | a::r,0=>rfl
 | a::r,n+1=>by show f a::(r.map f).eraseIdx n=_;rw[Wn f r n];rfl
structure RI(rk:Keyed->Int)(a0 arr:Array Keyed)(pend:Array (Nat×Nat×Nat))(Xs:List (List Keyed))(S:List Keyed):Prop where
 pm:arr.toList.Perm a0.toList
 dec:arr.toList=Xs.flatten++S
 so:∀X∈Xs,bV rk X/\0<X.length
 ps:pend.toList.map ft=starts 0 Xs
def zq0{a:List (List Keyed)}(h:i+1<a.length):∃b X Y Xs2,a=b++X::Y::Xs2/\b.length=i:=by
 show⟨a.take i,a[i],a[i+1],a.drop (i+2),?_,by simp;lia⟩;rw[<-pY,<-pY,lH]
def TN{b:Array (Nat×Nat×Nat)}{i a n:Nat}(h:b.toList.map ft=l)(e:l[i]?\(a,n)):∃p,b[i]?\(a,n,p):=by
 rw[<-h,cx,qk] at e;cases c:b[i]? with
 | none=>rw[c] at e;cases e
 | some t=>
  rw[c] at e;let⟨x,y,z⟩:=t;simp at e;let⟨rfl,rfl⟩:=e;show⟨z,rfl⟩
variable{M:Model}{A:bh}{E:af->aj->Prop}{s:aj}
def U0{rk:Keyed->Int}(R:Rk M A E s κ ok rk){st:SortSt}(t:kindOf st=κ)(u:failedOf st=none)(r:∀x∈f,ok x)
  (h:RI rk f (arrOf st) (pendingOf st) d S) (hi:i+1<d.length)
  (q:∀c j,kindOf c=κ->failedOf c=none->RI rk f (arrOf c) (pendingOf c) j S->j.length+1=d.length->j.flatten.length=d.flatten.length->Q true c):wpS M A E s (mergeAt' i) Q st:=by
 let⟨a,X,Y,Xs2,rfl,rfl⟩:=zq0 hi;let⟨v,o⟩:=TN h.ps (Kg 0 a X (Y::Xs2));have p:=Kg 0 (a++[X]) Y Xs2;rw[show a++[X]++Y::Xs2=a++X::Y::Xs2 by simp,cD,HU] at p;let⟨pb,e⟩:=TN h.ps p;rw[y3] at o e;rw[show(a++[X]).flatten.length=a.flatten.length+X.length by simp] at e;have n:=h.so X (by show gO _ (.head _));have m:=h.so Y ∅;have hd:(arrOf st).toList=a.flatten++(X++(Y++(Xs2.flatten++S))):=by rw[h.dec];simp
 show zkP R t u (λx hx=>r x ?_) hd o e n.2 m.2 n.1 m.1 λZ g k zs=>?_
 .have:=h.pm.mem_iff.mp (oW.mpr hx);show oW.mp this
 have l:Z.length=X.length+Y.length:=by rw[k.length_eq,cD]
 show q _ (a++Z::Xs2) rfl rfl ⟨?_,?_,λW b=>?_,?_⟩ (by simp![cD,eh];rfl) (by simp[l];lia)
 .refine yY.trans ?_ h.pm;rw[hd];show zh _ ?_;rw[<-mM X];show k.append_right _
 .simp
 .rcases bJ.mp b with b | b
  .exact h.so W (by show ie _ ‹_›)
  rcases bM.mp b with rfl | b
  .exact⟨zs,by lia⟩
  show h.so W (by simp[b])
 have:=V7 (X:=X) (Y:=Y) (Z:=Z) (Xs2:=Xs2) l 0 a;rw[<-this,<-h.ps,y3];rw[Array.toList_eraseIdxIfInBounds,Array.toList_setIfInBounds,<-Wn,oQ]
def zvg{rk:Keyed->Int}(h:Sl xs ys F.length m)(hd:xs.toList=F++S)(a:kA rk ys F.length n)(f:F.length+n<=xs.size):∃W d,ys.toList=F++(W++d)/\W.length=n/\bV rk W:=by
 have hsz:=h.size;have c:ys.toList.take F.length=F:=by
  have:ys.toList.take F.length=xs.toList.take F.length:=by
   apply qi;intro i;rw[HJ,HJ];split
   .rw[qk,qk];show h.out i (.inl (by assumption))
   rfl
  rw[this,hd,Pg]
 show⟨(ys.toList.drop F.length).take n,(ys.toList.drop F.length).drop n,?_,by simp;lia,?_⟩
 .rw[lH];conv=>lhs;rw[<-lH F.length ys.toList,c]
 show pX.mpr λi j hi b g=>?_
 have e:j<n:=by simp at b;ext
 have:=a i j (by show gw ‹_›) e;unfold kr at this;rw[gW (by lia),gW (by lia)] at this;simpa[wj,C1] using this
variable{M:Model}{A:bh}{E:af->aj->Prop}{s:aj}
def zmL(p:Array (Nat×Nat×Nat))(k f)(h:∀x,ft (f x)=ft x):(p.modify k f).toList.map ft=p.toList.map ft:=by
 apply qi;intro i;rw[cx,cx,qk,qk,Array.getElem?_modify];split
 .cases p[i]? with
  | none=>rfl
  | some x=>simp![hZ,h]
 rfl
theorem TM:∀(a:List (List Keyed)),(∀X∈a,0<X.length)->a.length<=a.flatten.length
 | [],_=>bB _
 | X::a,h=>by
  have d:=h X (by show .head _);have c:=TM a λY b=>h Y (by show .tail _ ‹_›)
  rw[lD,cD,eh];lia
theorem Sl.wide{lo n m:Nat}(h:Sl xs ys lo n)(a:n<=m):Sl xs ys lo m:=⟨h.pm,λj b=>h.out j (by lia)⟩
def zq1{d:Type}{f:Nat->StateT SortSt Sem d}{c:Prop}{_:Decidable c}{b:StateT SortSt Sem Bool}{u:StateT SortSt Sem d}{str:String}{x y:Nat}{Q:d->SortSt->Prop}{st:SortSt}(P:Nat->SortSt->Prop)(h:∀k a,P k a->wpS M A E s (f k) Q a)
  (i:c->wpS M A E s b (λr a=>r=true/\P x a) st) (j:¬c->P y st):wpS M A E s (if c then(rule str >>= λ_=>b >>= λr=>if (!r)=true then u else f x) else f y) Q st:=by
 split
 .rename_i e;show aQ (xr (aQ (iB (i e) λr a g=>?_)));rw[g.1];show h _ _ g.2
 rename_i e;show h _ _ (j e)
def zq2{rk:Keyed->Int}(R:Rk M A E s κ ok rk){st:SortSt}(hk:kindOf st=κ)(hf:failedOf st=none)(hp:pendingOf st=#[])(J:∀x∈arrOf st,ok x)
  (q:∀e,(arrOf e).toList.Perm (arrOf st).toList->bV rk (arrOf e).toList->failedOf e=none->Q () e):wpS M A E s sortRuns' Q st:=by
 rw[sortRuns'_eq];show aQ (nI ?_);dsimp only;generalize hmr:minRun' (arrOf st).size (arrOf st).size 0=G;generalize hsz:(arrOf st).size=sz;have h0:RI rk (arrOf st) (arrOf st) (pendingOf st) [] (arrOf st).toList:=⟨CN _,rfl,λX v=>(by cases v),by rw[hp];rfl⟩
 show aQ (iB (iU (I:=λi (c:Option Unit×Nat) e=>c.1=none/\kindOf e=κ/\failedOf e=none/\∃b S,RI rk (arrOf st) (arrOf e) (pendingOf e) b S/\b.flatten.length=c.2/\c.2<=sz/\i<=c.2)
  (Q:=λ(c:Option Unit×Nat) e=>c.1=none/\kindOf e=κ/\failedOf e=none/\∃b,RI rk (arrOf st) (arrOf e) (pendingOf e) b []) ?_ ?_ ⟨rfl,hk,hf,[],_,h0,rfl,cA _,bB _⟩) ?_)
 .rintro i ⟨c,lo⟩ e _ hi ⟨l,r,z,b,S,g,ML,hle,BP⟩;subst l ML;have as:(arrOf e).size=sz:=by rw[<-hsz,<-di,<-di];show g.pm.length_eq
  have V:∀x∈arrOf e,ok x:=λx hx=>J x (oW.mp (g.pm.mem_iff.mp (oW.mpr hx)))
  have sl:b.flatten.length+S.length=sz:=by rw[<-as,<-di,g.dec,cD]
  by_cases hd:b.flatten.length>=sz
  .rw[if_pos hd];have:S=[]:=HX.mp (by lia);subst this;show bj ⟨rfl,r,z,b,g⟩
  rw[if_neg hd];show aQ (zoK R r V (by cbv) (by lia) λys n n1 n2 H Z=>?_);have U:n<G->n<=min (sz-b.flatten.length) G/\min (sz-b.flatten.length) G<=sz-b.flatten.length:=λh=>by lia
  generalize min (sz-b.flatten.length) G=fr at U ⊢;apply zq1 (x:=fr) (y:=n) (λk a=>∃zs,a=setArr e zs/\Sl (arrOf e) zs b.flatten.length (sz-b.flatten.length)/\kA rk zs b.flatten.length k/\1<=k/\k<=sz-b.flatten.length);rotate_left
  .intro l;have f2:=U l;show zmK R (st:=setArr e ys) r (H.ok V) (show _<=ys.size by have:=H.size;lia) Z f2.1 λzs N O=>⟨rfl,zs,rfl,H.trans (N.wide f2.2),O,by lia,f2.2⟩
  .exact λ_=>⟨ys,rfl,H,Z,n1,n2⟩
  rintro n _ ⟨zs,rfl,Y,O,n1,n2⟩;let⟨W,F,dz,wl,ws⟩:=zvg Y g.dec O (by lia);have T:RI rk (arrOf st) zs (pendingOf e) b (W++F):=⟨(Array.perm_iff_toList_perm.mp Y.pm).trans g.pm,dz,g.so,g.ps⟩
  have ent:∀(a:SortSt)(d:List (List Keyed)),kindOf a=κ->failedOf a=none->RI rk (arrOf st) (arrOf a) (pendingOf a) d (W++F)->d.flatten.length=b.flatten.length->∃w D,RI rk (arrOf st) (arrOf a) ((pendingOf a).push (b.flatten.length,n,0)) w D/\w.flatten.length=b.flatten.length+n:=λa d m f2 f o=>by
   show⟨d++[W],F,⟨f.pm,by rw[f.dec];simp,λX v=>?_,?_⟩,by simp[o,wl]⟩
   .rcases bJ.mp v with v | v
    .exact f.so X v
    simp at v;subst v;show⟨ws,by lia⟩
   rw[nO,c9,f.ps,V8,o,wl,y3];rfl
  show aQ (nI ?_);cases hbk:(pendingOf (setArr e zs)).back? with
  | none=>
   show aQ (mH (bj ?_));let⟨w,D,B,C⟩:=ent (setArr e zs) b r z T rfl;show⟨rfl,r,z,w,D,B,C,by lia,by lia⟩
  | some t=>
   let⟨s1,t1,p1⟩:=t;show aQ (iB (iU (I:=λj (c:Option Unit×Unit) a=>c.1=none/\kindOf a=κ/\failedOf a=none/\∃d,RI rk (arrOf st) (arrOf a) (pendingOf a) d (W++F)/\d.flatten.length=b.flatten.length)
    (Q:=λ(c:Option Unit×Unit) a=>c.1=none/\kindOf a=κ/\failedOf a=none/\∃d,RI rk (arrOf st) (arrOf a) (pendingOf a) d (W++F)/\d.flatten.length=b.flatten.length) ?_ ?_ ⟨rfl,r,z,b,T,rfl⟩) ?_)
   .rintro j ⟨c,⟨⟩⟩ a _ hj ⟨l,m,f2,d,f,o⟩;subst l;show aQ (nI ?_);have pl:(pendingOf a).size=d.length:=by
     have:=congrArg tY f.ps;rwa [aL,di,Lc] at this
    by_cases big:(pendingOf a).size>1
    .rw[if_pos big,rX (show(pendingOf a).size-2<(pendingOf a).size by lia)];generalize (pendingOf a)[(pendingOf a).size-2]'(by lia)=u;let⟨u1,u2,u3⟩:=u;dsimp only;split
     .exact bj ⟨rfl,m,f2,d,f,o⟩
     show aQ (U0 R m f2 J f (by lia) λEY w K L B _ C=>?_);show bj ⟨rfl,K,L,w,B,by rw[C,o]⟩
    rw[if_neg big];show bj ⟨rfl,m,f2,d,f,o⟩
   .rintro⟨c,⟨⟩⟩ a h;show h
   rintro⟨c,⟨⟩⟩ a ⟨l,m,f2,d,f,o⟩;subst l;show aQ (mH (aQ (mH (bj ?_))));let⟨w,D,B,C⟩:=ent (setPending a ((pendingOf a).modify ((pendingOf a).size-1) λx=>(x.1,x.2.1,power' sz (2*s1+t1) (2*s1+t1+t1+n) sz))) d m f2 ⟨f.pm,f.dec,f.so,by rw[<-f.ps];show zmL _ _ _ λx=>rfl⟩ o;show⟨rfl,m,f2,w,D,B,C,by lia,by lia⟩
 .rintro⟨c,lo⟩ e ⟨l,r,z,b,S,g,ML,hle,BP⟩;have as:(arrOf e).size=sz:=by rw[<-hsz,<-di,<-di];show g.pm.length_eq
  have sl:b.flatten.length+S.length=sz:=by rw[<-as,<-di,g.dec,cD]
  have:S=[]:=HX.mp (by lia);subst this;show⟨l,r,z,b,g⟩
 rintro⟨c,lo⟩ e ⟨l,r,z,b,g⟩;subst l;have as:(arrOf e).size=sz:=by rw[<-hsz,<-di,<-di];show g.pm.length_eq
 have fl:b.flatten.length=sz:=by rw[<-as,<-di,g.dec];simp
 have xl:=TM b λX v=>(g.so X v).2
 show aQ (iB (iU (I:=λj (c:Option Unit×Unit) a=>c.1=none/\kindOf a=κ/\failedOf a=none/\∃d,RI rk (arrOf st) (arrOf a) (pendingOf a) d []/\d.length+j<=sz)
  (Q:=λ(c:Option Unit×Unit) a=>c.1=none/\kindOf a=κ/\failedOf a=none/\∃d,RI rk (arrOf st) (arrOf a) (pendingOf a) d []/\d.length<=1) ?_ ?_ ⟨rfl,r,z,b,g,by cbv⟩) ?_)
 .rintro j ⟨c,⟨⟩⟩ a _ hj ⟨l,m,f2,d,f,o⟩;subst l;show aQ (nI ?_);have pl:(pendingOf a).size=d.length:=by
   have:=congrArg tY f.ps;rwa [aL,di,Lc] at this
  by_cases P:(pendingOf a).size<=1
  .rw[if_pos P];show bj ⟨rfl,m,f2,d,f,by cbv⟩
  rw[if_neg P];have ix:∀(p:Prop)[Decidable p],(if p then(pendingOf a).size-2-1 else(pendingOf a).size-2)+1<d.length:=λp _=>by split<;>ext
  show aQ (U0 R m f2 J f (ix _) λEY w K L B C _=>?_);show bj ⟨rfl,K,L,w,B,by lia⟩
 .rintro⟨c,⟨⟩⟩ a ⟨l,m,f2,d,f,o⟩;show⟨l,m,f2,d,f,by lia⟩
 rintro⟨c,⟨⟩⟩ a ⟨l,m,f2,d,f,o⟩;subst l;show bj (q a f.pm ?_ f2);rw[f.dec,i8];match d,o,f.so with
 | [],_,_=>show .nil
 | [X],_,so=>simpa using (so X (by show .head _)).1
section
variable{prog:aG}{w:aF}{A:bh}{E:af->aj->Prop}{s:aj}
structure Ky(prog:aG)(w:aF)(A:bh)(s:aj)(κ:SortKind)(ok:Keyed->Prop)(rk:Keyed->Int):Prop where
 key:∀x y (C:Bool->aj->Prop),ok x->ok y->C (decide (rk x<rk y)) s->↥(keyLt' κ x.1 y.1) C (λ_ _=>False) s
def rE(n:Nat):Prop:=∀{prog w A E s κ rk it}(R:Ky prog w A s κ (λx=>x∈it) rk){Q},it.size=n->
 (∀a,(arrOf a).toList.Perm it.toList->bV rk (arrOf a).toList->failedOf a=none->Q () a)->wpS (model prog w) A E s sortRuns' Q (oP κ it #[] 7 none)
structure Ask(prog:aG)(w:aF)(A:bh)(E:af->aj->Prop)(vs:List af)(rk:Keyed->Int)(s:aj):Prop where
 ask:2<=vs.length->∃κ,(∀Q':SortKind->aj->Prop,Q' κ s->↥(keyKind' vs.toArray) Q' E s)/\Ky prog w A s κ (λx=>x∈pairsOf vs) rk
def zoN{rk:Keyed->Int}(h:l.length<2):bV rk l:=by
 cases l with
 | nil=>show .nil
 | cons a r=>
  cases r with
  | nil=>show fE _ _
  | cons b t=>
   simp![eh] at h;lia
def Xe{rk:Keyed->Int}(g:s.heap.get? a=some (seqObj "list" d.toArray n))(hl:d.length<=sizeLine)(v:2<=d.length->rE d.length)
  (R:∀h',(∀b o,b≠a->s.heap.get? b\o->h'.get? b\o)->Ask prog w A E d rk { s with heap:=h' })
  (h:∀f:SortSt,(arrOf f).toList.Perm (pairsOf d).toList->bV rk (arrOf f).toList->P (.done (.ret .none)) { s with heap:=sortedHeap s.heap a d ((arrOf f).map (·.2)) }) :
  ↥(Builtin.«list.sort» ⟨[.ref a],[]⟩) P E s:=by
 rw[list_sort_plain];have q:a< *...*:=bI g;show aq (listItems_at g rfl ?_);show aq (GZ g rfl ?_ (by trivial) (cA _));obtain⟨m,r⟩:∃m,(s.heap.update a (jZ λ_=>#[])).get? a=some (seqObj "list" #[] m):=⟨_,get?_update_seq g (λ_=>#[])⟩
 show aq (GG r rfl ?_);show aq (Pj ?_ (by show hl));show aq (CI ?_ (cA _));show fZ ?_;have j:(((s.heap.update a (jZ λ_=>#[])).push (seqObj "tuple" d.toArray 0)).push (seqObj "list" #[] 0)).get? a=some (seqObj "list" #[] m):=by
  rw[C0 _ _ _ (by rw[Cu,Hw];show cg (lE q)),C0 _ _ _ (by rw[Hw];show cg q)];show r
 have y:=R (((s.heap.update a (jZ λ_=>#[])).push (seqObj "tuple" d.toArray 0)).push (seqObj "list" #[] 0)) (λb o x e=>bW _ (bW _ ((jw _ _ (Ne.symm x)).trans e)));have fin:=h;by_cases i:d.toArray.size<2
 .rw[if_pos i,if_pos i];show aq (aE ?_);show aq (aE ?_);show aq (GG j rfl ?_);show aq (GZ j rfl ?_ (cA _) (by rw[Pf];show(pairsOf d).size<=_;rw[CD];show HF hl));simp![bne_self_eq_false,cO,cC];show aE (fin (oP general' (d.toArray.zip d.toArray) #[] 7 none) (CN _) ?_);show bV rk (pairsOf d).toList;show zoN (by rw[di,CD];room)
 rw[if_neg i,if_neg i];let⟨κ,t,kr⟩:=y.ask (by show qg ‹_›);show aq (t _ ?_)
 show aq (ja (v (by show qg ‹_›) kr
  (Q:=λ_ f=>(arrOf f).toList.Perm (pairsOf d).toList/\bV rk (arrOf f).toList/\failedOf f=none) (CD d) λf a1 a2 z=>⟨a1,a2,z⟩) ?_ λ_ _ e=>e)
 rintro⟨⟨⟩,f⟩ B ⟨rfl,p,u,hf⟩;show aq (GG j rfl ?_)
 show aq (GZ j rfl ?_ (cA _) (by
  rw[Pf,<-di,p.length_eq,di,CD];show HF hl))
 rw[hf];simp![bne_self_eq_false,cO,cC];show aE (fin f p u)
def aai{rk:Keyed->Int}(i:s.heap.IsList l a.toArray)(hz:a.length<=sizeLine)(g:2<=a.length->rE a.length)
  (R:∀h',(∀b o,s.heap.get? b\o->h'.get? b\o)->Ask prog w A.in1.in1 E a rk { s with heap:=h' })
  (h:∀c:SortSt,(arrOf c).toList.Perm (pairsOf a).toList->bV rk (arrOf c).toList->Q (.ref (*...*+1)) { s with heap:=sortedAll s.heap a ((arrOf c).map (·.2)) }) :
  ↥(call (.builtin "sorted") [.ref l]) Q E s:=by
 show Ic GH GP GO (GN _) ?_;show aq (m:=checkCount "sorted" 1 1 _) (aE ?_);show aq (collect_list i ?_ hz);show aq (CI ?_ hz);have hsz:((s.heap.push (seqObj "list" #[] 0)).update *...* (jZ (·++a.toArray))).objs.size=*...*+1:=by
  rw[Hw,Cu]
 have f:(((s.heap.push (seqObj "list" #[] 0)).update *...* (jZ (·++a.toArray))).push (seqObj "list" a.toArray 0)).get? (*...*+1)=some (seqObj "list" a.toArray 0):=by
  rw[<-hsz];show cV _ rfl
 have keep:∀b o,s.heap.get? b=some o->(((s.heap.push (seqObj "list" #[] 0)).update *...* (jZ (·++a.toArray))).push (seqObj "list" a.toArray 0)).get? b=some o:=λb o q=>by
  have d:b< *...*:=bI q;rw[C0 _ _ _ (by rw[hsz];show cg (lE d)),Heap.get?_update_ne _ _ _ _ (cg d),C0 _ _ _ (cg d)];show q
 rw[hsz];show aq (fZ (nN Hg ⟨_,f,rfl⟩ Ho (Xe (rk:=rk) f hz g (λh' k=>R h' λb o e=>k b o (cg (lE (bI e))) (keep b o e)) λc a1 a2=>⟨_,rfl,?_⟩) (Hf _)));show aE ⟨_,rfl,h c a1 a2⟩
end
theorem WQ(n):rE n:=λR _ _ q=>zq2 (ok:=λx=>x∈_) ⟨λx y st Q d c e q=>by
 rw[lt'_eq];show aQ (nI ?_);rw[e]
 show aQ (wpS_lift (y9 (ja (R.key x y (λb a=>a=_/\b=decide _) d c ⟨rfl,rfl⟩) (λb a ⟨g,f⟩=>⟨g,by subst f;show bj q⟩) λ_ _ z=>z.elim)))⟩ rfl rfl rfl (λx hx=>hx) q
end Ts
namespace HT
theorem Xg:∀a b:List Int,lexLt a b=bA b a
 | [],[]=>rfl
 | [],_::_=>rfl
 | _::_,[]=>rfl
 | x::xs,y::ys=>by
  unfold lexLt bA;rw[Xg xs ys];by_cases e:x=y
  .subst e;rfl
  have c:¬y=x:=λz=>e z.symm
  simp[e,c]
end HT
namespace Ts
open PySem PySem.W PyProof.Rows
section
variable{w:aF}{A:bh}{s:aj}{Q:Bool->aj->Prop}
def zq3(hv:IntsAre f ns)(hw:IntsAre ws c)(i)(d:fin=decide (ns.length<c.length))(q:Q (HT.lexLt ns c) s):KatLex prog w A true fin Q (f.zip ws) i s:=by
 induction hv generalizing ws c i with
 | nil=>
  subst d;cases hw with
  | nil=>show Gq q
  | cons b u hw=>show Gq (by trivial)
 | cons a t hv g=>
  cases hw with
  | nil=>subst d;show Gq (by trivial)
  | cons b u hw=>
   show kat_cons (P5 ?_);rw[HT.aaH] at q;by_cases e:a=b
   .rw[if_pos e] at q;subst e;simp![BEq.rfl,gF];show kat_yes (g hw (i+1) (by rw[d];simp) q)
   rw[if_neg e] at q;simp![beq_eq_false_iff_ne.mpr e,decide_eq_false e];show kat_no ?_;cases i with
   | zero=>show oneLt_int q
   | succ i=>show kat_one _ _ (HT.aaq A s a t b u prog w _ _ q)
def gA(h:aB)(v:af):List Int:=match v with
 | .ref a=>match h.get? a with
  | some o=>match o.data with
   | .seq xs _=>numsOf xs.toList
   | _=>[]
  | none=>[]
 | _=>[]
def TupAt(h:aB)(v:af):Prop:=∃a o xs n,v=.ref a/\h.get? a=some o/\o.cls=.type "tuple"/\o.data=.seq xs n/\IntsAre xs.toList (gA h v)/\gA h v≠[]
def qQ(h:aB)(a:List (List Int))(x:Keyed):Int:=(a.countP λt=>HT.bA (gA h x.1) t:Nat)
def L8{e:List (List Int)}(g:a∈e):(e.countP λt=>HT.bA a t)<(e.countP λt=>HT.bA b t)↔HT.bA b a=true:=by
 constructor
 .intro h;cases i:HT.bA b a with
  | true=>rfl
  | false=>
   have:(e.countP λt=>HT.bA b t)<=(e.countP λt=>HT.bA a t):=by
    show QK λt _ d=>?_
    cases f:HT.bA a t with
    | true=>rfl
    | false=>
     have:=HT.Fm b a t i f;rw[this] at d;cases d
   room
 intro h;have sub:∀t,HT.bA a t=true->HT.bA b t=true:=λt d=>by
  cases f:HT.bA b t with
  | true=>rfl
  | false=>
   have:=HT.Fm b t a f (HT.Fn a t d);rw[this] at h;cases h
 induction e with
 | nil=>cases g
 | cons c r j=>
  rw[we,we];rcases bM.mp g with rfl | g
  .have le:(r.countP λt=>HT.bA a t)<=(r.countP λt=>HT.bA b t):=QK λt _ d=>sub t d
   rw[HT.Bw,h];room
  cases f:HT.bA a c with
  | true=>rw[sub c f];room
  | false=>simp only[cO,cC];split<;>room
theorem Vw(k:∀b o,h.get? b\o->h'.get? b\o):∀{its},(∀v∈its,TupAt h v)->∃fs,KatTups h' its fs/\fs.length=its.length/\∀v∈fs,∃n t,v=tW n t
 | [],_=>⟨[],.nil,rfl,λv hv=>by cases hv⟩
 | v::r,hv=>by
  let⟨fs,i,g,f⟩:=Vw k (its:=r) λx hx=>hv x (fL _ hx)
  let⟨a,o,xs,n,rfl,d,e,hd,hi,c⟩:=hv v nP;generalize gA h (.ref a)=t at hi c;generalize hx:xs.toList=l at hi;cases hi with
  | nil=>show absurd rfl c
  | cons m u j=>
   have h0:xs[0]?\.int m u:=by rw[<-qk,hx];rfl
   show⟨.int m u::fs,KatTups.cons (k _ _ d) e hd h0 i,by simp[g],λx hx=>by
    rcases bM.mp hx with rfl | hx
    .exact⟨_,_,rfl⟩
    .exact f x hx⟩
def YU(k:∀b o,h.get? b\o->h'.get? b\o)(hv:∀v∈its,TupAt h v):Ask prog w A E its (qQ h (its.map (gA h))) { s with heap:=h' }:=by
 show⟨λF=>⟨tuples' (j3 "int" != j3 "tuple"),λI q=>?_,⟨λx y Q j i q=>?_⟩⟩⟩
 .let⟨fs,r,H,p⟩:=Vw k hv;show kat_kind (s:={ s with heap:=h' }) (T:=.type "int") r (by lia) (λv hv=>?_) (by rfl) q;let⟨n,t,rfl⟩:=p v hv;show Looks.of_pure rfl
 have mem:∀z,z∈pairsOf its->TupAt h z.1/\z.1∈its:=λz hz=>by
  have:z.1∈its:=by
   unfold pairsOf at hz;have B:z∈its.zip its:=by simpa using hz
   show(ze B).1
  show⟨hv _ this,this⟩
 obtain⟨⟨a,C,xs,n,g,ga,ca,u,d,_⟩,l⟩:=mem x j;obtain⟨⟨b,ob,ys,m,f,gb,G,db,c,_⟩,D⟩:=mem y i;have e:decide (qQ h (its.map (gA h)) x<qQ h (its.map (gA h)) y)=HT.lexLt (gA h x.1) (gA h y.1):=by
  rw[HT.Xg,v8,ic];unfold qQ;rw[OX];show L8 (iA l)
 rw[e] at q;rw[g,f];rw[g,f] at q;rw[g] at d;rw[f] at c;show kat_lt (k _ _ ga) u (k _ _ gb) db (zq3 d c 0 ?_ q);rw[<-d.length,<-c.length];simp
end
theorem aam(b:2<=n)(a:n<64):rE n:=WQ n
end Ts
namespace L2
open PySem PySem.Spec PyProof.Rows
def Aj{d j:Type}{f:d->j}{a b:List j}(h:a.Perm b):∀{L},b=L.map f->∃c:List d,c.Perm L/\a=c.map f:=by
 induction h with
 | nil=>intro L e;show⟨[],by rw[show L=[] from by simpa using e.symm],rfl⟩
 | cons x h n=>
  intro L e;cases L with
  | nil=>cases e
  | cons y L=>
   injection e with p o
   let⟨c,m,k⟩:=n o;show⟨y::c,m.cons y,by rw[c8,p,k]⟩
 | swap x y l=>
  intro L e;match L,e with
  | [],e=>cases e
  | [_],e=>cases e
  | u::v::L,e=>
   simp![c8,tV.injEq] at e;show⟨v::u::L,Pm u v L,by simp[e]⟩
 | trans m k i g=>
  intro L e;let⟨L2,a1,a2⟩:=g e;let⟨s,r,q⟩:=i a2;show⟨s,r.trans a1,q⟩
section
variable{X:Cx}{pos:aN}{e:ay}{te:TD}
theorem Jv{a:Type}{f:a->V}{g:a->af}:∀{L:List a},(∀q∈L,RelV (f q) (g q))->Vals (L.map f) (L.map g)
 | [],_=>.nil
 | q::L,h=>.cons (h q nP) (Jv λx hx=>h x (fL _ hx))
def zmM:fR X (.builtin "sorted") (λxs H Q=>∃p ps,xs=[.ref p]/\bU X.K H p (ps.map (·.1))/\(∀q∈ps,q.2≠[]/\∃b,q.1=.ref b/\cN X.K H b (q.2.map V.int))/\(2<=ps.length->Ts.rE ps.length)/\
  ∀A:List (V×List Int),A.Perm ps->A.Pairwise (λx y=>HT.bA x.2 y.2=false)->∀l,H l=none->Q (.ref l) (upd H l (.lst (A.map (·.1))))):=by
 intro J' s σ H xs us Q I r h;symm;let⟨p,ps,rfl,hq,hk,hr,q⟩:=h;let⟨u,rfl,ru⟩:=gy r;cases ru;let⟨its,E,pl,hz⟩:=I.list hq;have hl:ps.length=its.length:=by rw[<-E.length,aL]
 obtain⟨g,t,j⟩:∃g:List ((V×List Int)×af),ps=g.map (·.1)/\its=g.map (·.2):=
  ⟨ps.zip its,(Hv (by cbv)).symm,(Hu (by cbv)).symm⟩
 have rel:∀z∈g,RelV z.1.1 z.2:=λz hz=>by
  let⟨i,hi⟩:=rT hz;have d:(ps.map (·.1))[i]?\z.1.1:=by rw[t];simp[hi]
  let⟨v',J,rx⟩:=E.get d;have n:its[i]?\z.2:=by rw[j];simp[hi]
  rw[n] at J;cases J;show rx
 have tup:∀z∈g,Ts.TupAt s.heap z.2/\Ts.gA s.heap z.2=z.1.2:=λz hz=>by
  let⟨U,b,S,sq⟩:=hk z.1 (by rw[t];show iA hz);have D:=rel z hz;let⟨i1,v1,p1,c⟩:=I.tuple sq;let⟨o1,g1,c1,n1,T⟩:=p1;obtain⟨⟨zv,W⟩,zw⟩:=z;simp only at S D v1 U ⊢;subst S;cases D;have M:=qM v1;have e:Ts.gA s.heap (.ref b)=W:=by
   unfold Ts.gA;simp![g1,T];show M.numsOf
  show⟨⟨b,o1,_,n1,rfl,g1,c1,T,by rw[e];show M,by rw[e];show U⟩,e⟩
 show Ts.aai (rk:=Ts.qQ s.heap (its.map (Ts.gA s.heap))) pl.isList (by rw[<-hl,<-aL (f:=(·.1))];show hz) (by rw[<-hl];show hr) (λh' k=>Ts.YU k λv hv=>?_) λB N m=>?_
 .rw[j] at hv;let⟨z,hz,rfl⟩:=bQ.mp hv;show(tup z hz).1
 have ep:(wF its).toList=g.map λz=>((z.2,z.2):Keyed):=by
  unfold wF;rw[j];simp![List.zip_toArray];clear t j rel tup N m;induction g with
  | nil=>rfl
  | cons a r L=>simp at L ⊢;show L
 let⟨w,d,n⟩:=Aj (N.trans (Pw ep)) rfl;have C:∀z∈w,RelV z.1.1 z.2:=λz hz=>rel z (d.subset hz)
 have out:((arrOf B).map (·.2)).toList=w.map (·.2):=by
  rw[PU,n,cJ];rfl
 let⟨en,he⟩:=GR s.heap its ((arrOf B).map (·.2));have hf:H (*...*+1)=none:=I.aX.fresh (iC _)
 have F:=q (w.map (·.1)) (by rw[t];show d.map _) (by
  rw[iz];unfold Ts.bV at m;rw[n,iz] at m;show m.imp_of_mem λ{a b} ha P R=>?_
  have Z:=(tup a (d.subset ha)).2;have Y:=(tup b (d.subset P)).2;have mb:Ts.gA s.heap b.2∈its.map (Ts.gA s.heap):=iA (by rw[j];show iA (d.subset P));unfold Ts.qQ at R;cases O:HT.bA a.1.2 b.1.2 with
  | false=>rfl
  | true=>
   rw[<-Z,<-Y] at O;have:=(Ts.L8 mb).mpr O;simp only at R;lia) _ hf
 rw[cJ] at F;show⟨.ref (*...*+1),_,I.laid (a:=*...*+1) (o:=.lst (w.map ((·.1)∘(·.1)))) (t':=s.toks) (λb o e=>Ha e) (iC _) ?_,rfl,F⟩
 show⟨by
  rw[aL,d.length_eq];have:g.length=its.length:=by rw[j,aL]
  rw[this,<-hl,<-aL (f:=(·.1))];show hz,((arrOf B).map (·.2)).toList,en,?_,?_⟩
 .rw[out];show Jv C
 show he
def Es:bg:=λds Q=>match ds with
 | [.lst c]=>match qF c with
  | some b=>(∀t∈b,t≠[])/\∀a:List (List Int),a.Perm b->a.Pairwise (λx y=>HT.bA x y=false)->Q (.ow (a.map λt=>.tup (t.map D.int)))
  | none=>False
 | _=>False
theorem Ju{a:Type}{K:ar}{f:a->V}{g:a->D}:∀{L:List a},(∀q∈L,Rep K G (f q) (g q))->av K G (L.map f) (L.map g)
 | [],_=>av.nil
 | q::L,h=>av.cons (h q nP) (Ju λx hx=>h x (fL _ hx))
def zq4{Q:R->Prop}{P:VK}(s:aZ G H)(B:av X.K G m [.lst r])(E:qF r\d)(I:∀t∈d,t≠[])(F:2<=d.length->Ts.rE d.length)
  (q:∀h:List (List Int),h.Perm d->h.Pairwise (λx y=>HT.bA x y=false)->Q (.ow (h.map λt=>.tup (t.map D.int)))) (k:∀v H' n w,Ext G H w H'->dY X.K w H' H v n->Q n->P v H') :
  ∃(p:ag)(ps:List (V×List Int)),m=[.ref p]/\bU X.K H p (ps.map (·.1))/\(∀q∈ps,q.2≠[]/\∃b,q.1=.ref b/\cN X.K H b (q.2.map V.int))/\(2<=ps.length->Ts.rE ps.length)/\
   ∀f:List (V×List Int),f.Perm ps->f.Pairwise (λx y=>HT.bA x.2 y.2=false)->∀l,H l=none->P (.ref l) (upd H l (.lst (f.map (·.1)))):=by
 symm;let⟨v,rfl,A⟩:=gQ B;let⟨a,xs,rfl,M,L⟩:=A;let⟨N,J⟩:=J8 E L;have u:(xs.zip d).map (·.1)=xs:=Hv (by cbv);have j:(xs.zip d).map (·.2)=d:=Hu (by cbv);have el:(xs.zip d).length=d.length:=by cbv
 have hz:∀q∈xs.zip d,Rep X.K G q.1 (.tup (q.2.map D.int))/\∃b,q.1=.ref b/\cN X.K G b (q.2.map V.int):=λq g=>by
  symm;let⟨i,hi⟩:=rT g;have a1:xs[i]?=some q.1:=by rw[<-u];simp![cx,hi];rfl
  have a2:d[i]?\q.2:=by rw[<-j];simp![cx,hi];rfl
  show J i _ _ a1 a2
 show⟨a,xs.zip d,rfl,by rw[u];show(s.cF M).sq,λz g=>⟨I _ (by rw[<-j];show iA g),?_⟩,by rw[el];show F,λf o C=>?_⟩
 .symm;let⟨c,b,e,sq⟩:=hz z g;show⟨b,e,s.xH sq⟩
 show sC s (ds:=(f.map (·.2)).map λt=>.tup (t.map D.int)) ?_ (q (f.map (·.2)) (by rw[<-j];show o.map _) (by rw[iz];show C)) k;rw[cJ];show Ju λq g=>(hz q (o.subset g)).1
def Vv(_:X.calm=true):j9 X (.builtin "sorted") Es:=by
 show⟨_,zmM,λG H b ds Q P s rs h k=>?_⟩;unfold Es at h;split at h
 .split at h
  .rename_i c d a;show zq4 s rs a h.1 (λ_=>Ts.WQ _) h.2 k
  show h.elim
 show h.elim
end
section
variable{K:ar}
theorem cQ.length:∀{a dss},cQ K G H a dss->a.length=dss.length
 | [],[],_=>rfl
 | q::a,ds::dss,h=>by
  simp![eh,cQ.length h.2]
 | [],_::_,h=>by simp![cQ] at h
 | _::_,[],h=>by simp![cQ] at h
theorem cQ.snoc:∀{a dss},cQ K G H a dss->H p\.dK zs d->bp K G zs ds->cQ K G H (a++[p]) (dss++[ds])
 | [],[],_,c,b=>by show⟨⟨zs,d,c,b⟩,trivial⟩
 | q::a,e::dss,h,c,b=>by
  show⟨h.1,cQ.snoc h.2 c b⟩
 | [],_::_,h,_,_=>by simp![cQ] at h
 | _::_,[],h,_,_=>by simp![cQ] at h
theorem cQ.get:∀{a dss}{j:Nat}{ds},cQ K G H a dss->dss[j]?\ds->∃q ks c,a[j]?\q/\H q\.dK ks c/\bp K G ks ds
 | [],[],j,ds,_,e=>by trivial
 | q::a,b::dss,0,ds,h,e=>by
  simp![cQ] at h;cbv
 | q::a,b::dss,j+1,ds,h,e=>by
  simp![wJ] at e ⊢;show cQ.get h.2 e
 | [],_::_,_,_,h,_=>by simp![cQ] at h
 | _::_,[],_,_,h,_=>by simp![cQ] at h
theorem cQ.set(c:bp K G ys d):∀{a dss j},cQ K G H a dss->a.Nodup->a[j]?\q->cQ K G (upd H q (.dK ys b)) a (dss.set j d)
 | [],[],j,_,_,e=>by trivial
 | r::a,ds::dss,0,h,nd,e=>by
  simp![wI,fJ] at e;subst e;show⟨⟨ys,b,cW,c⟩,h.2.mono (aZ.refl _) λp f u e=>?_⟩;rw[br (λz:p=r=>(eH.mp nd).1 (z▸f))];show e
 | r::a,ds::dss,j+1,h,nd,e=>by
  show⟨?_,cQ.set c h.2 (eH.mp nd).2 e⟩;obtain⟨⟨ks,b,i,g⟩,_⟩:=h;show⟨ks,b,?_,g⟩;rw[br (λz:r=q=>(eH.mp nd).1 (z▸cP e))];show i
 | [],_::_,_,h,_,_=>by simp![cQ] at h
 | _::_,[],_,h,_,_=>by assumption
end
def Jd(e:fI)(m:List (Option Nat))(g:du)(tc:dF)(te:TD):TD:=λρ Q=>e ρ λds=>∃a:Nat->List (List (Key×D))->Prop,a 0 []/\
 (∀i d acc,ds[i]?\d->a i acc->g d (cR m ρ) λc=>tc c λb=>if b=true then te c λr=>match r with
  | .ov (.dc f)=>acc.length<sizeLine/\a (i+1) (acc++[f])
  | _=>False
  else a (i+1) acc)/\∀acc,a ds.length acc->Q (.ov (.ld acc))
section
variable{m:List (Option Nat)}{wi:fI}{g:du}{tc:dF}
def zwC(K):vI K (List (Key×D)) where
 B:=λG H xs fp acc=>xs=fp.map V.ref/\cQ K G H fp acc
 sel:=λr k=>match r with
  | .ov (.dc n)=>k n
  | _=>False
 res:=λacc=>.ov (.ld acc)
 nil:=λ_ _=>⟨rfl,by simp![cQ]⟩
 len:=λh=>by rw[h.1,aL,h.2.length]
 here:=λh=>h.2.here
 mono:=λg j h=>⟨h.1,h.2.mono g j⟩
 snoc:=λ{G H t H' v r k xs fp acc} x i e h=>by
  split at e
  .symm;obtain⟨p,m,rfl,_,⟨rfl,ks,u,s,q⟩,o⟩:=i;show⟨_,t,[p],e,x,⟨by rw[h.1,c9];rfl,h.2.snoc s q⟩,fE _ _,o⟩
  show e.elim
 fin:=λd b nd f=>⟨_,_,rfl,nd,⟨by rw[<-b.1];show d,b.2⟩,f⟩
theorem zq5(x:iQ X N' m scope)(s:jD m g)
  (r:∀ρ σ f e G H Q P,aU X.K f e ρ σ G H->wi ρ Q->(∀J H' ds a,Ext G H a H'->Walk X.K J a ds->Q ds->P J H')->ww σ H P)
  (q:∀s3 c ex ρ σ f e G H d v Q P,aU X.K f e ρ σ G H->Rep X.K G v d->g d ρ Q->(∀ρ' j a H',aU X.K f e ρ' j a H'->Ext G H a H'->Q ρ'->P j H')->n s3 c ex v σ H P)
  (p:∀s3 c ex ρ σ f e G H Q P,aU X.K f e ρ σ G H->tc ρ Q->(∀b H' a,Ext G H a H'->Q b->P b H')->l s3 c ex σ H P)
  (o:∀s3 c ex,lq X.K te (i s3 c ex)):lq X.K (Jd wi m g tc te) (nZ ww m n l i):=λρ σ f e G H Q P E h k=>JP (zwC X.K) s r q p (λs3 c ex ρ' j w H1 a H' t u _=>o s3 c ex ρ' j w H1 a H' t u) E h k
def zq6(i)(y:X.calm=true)(j:iQ X N' m scope)(u:jD m g)(hi:PId X tg iter wi)(d:∀s3 a ex,nE (fH X N' scope s3 a ex) tg g)(c:∀s3 a ex,rF (fH X N' scope s3 a ex) ifs tc)
  (e:∀s3 a ex,PD (fH X N' scope s3 a ex) elt te) (hN:X.N.Nodup:=by assumption) (q:X.N[i]?\x:=by rfl) (hx:Loc X.env.scope x:=by first | show Or.inl rfl | show Or.inr rfl) (s:∀x,foldedSetIterable iter X.env x=pure x:=by intro _;rfl)
  (p:swapsWith (.ListComp elt [⟨tg,iter,ifs,0⟩] scope pos) (some (.Name x b)) f.line X.env=pure true:=by rfl)
  (w:X.fn x=true\/X.env.scope.names.lookup x\.local:=by first | show .inl rfl | show .inr rfl | assumption) :
  PX X (.Assign [.Name x b] (.ListComp elt [⟨tg,iter,ifs,0⟩] scope pos) f) (uy i (Jd wi m g tc te)):=by
 let⟨ww,o,n⟩:=hi;show⟨_,xh (g:=λs3 a ex=>(d s3 a ex).choose) (tc:=λs3 a ex=>(c s3 a ex).choose) (te:=λs3 a ex=>(e s3 a ex).choose) hN q hx y j o (λs3 a ex=>(d s3 a ex).choose_spec.1) (λs3 a ex=>(c s3 a ex).choose_spec.1) (λs3 a ex=>(e s3 a ex).choose_spec.1) s p w,λρ σ B A G H D E k h z=>?_⟩;show zq5 j u n (λs3 a ex=>(d s3 a ex).choose_spec.2) (λs3 a ex=>(c s3 a ex).choose_spec.2) (λs3 a ex=>(e s3 a ex).choose_spec.2) ρ σ B A G H _ _ k h λv H' r C x l t=>z.nx _ _ C H' x.g (k.put x l) t
end
section
variable{X:Cx}{e i' i2:ay}{te ti tk:TD}
def IC(i:Nat)(ti tk te:TD):TX:=λD ρ=>match gt ρ i with
 | .ov (.ld a)=>te ρ λr=>ti ρ λrk=>match rk.val with
  | .int n=>∃j kvs,iI a.length n\j/\a[j]?\kvs/\tk ρ λb=>∃k,kR b.val\k/\kvs.length<sizeLine/\D.nx (ρ.set i (.ov (.ld (a.set j (oY kvs k r.val)))))
  | _=>False
 | _=>False
def ztr(hu:X.A.units+64<cLine)(i)(hi:PD X i' ti)(w:PD X i2 tk)(he:PD X e te)(hN:Nm X i x:=by walk_at"nm")(MF:z7 i':=by intro _ _;rfl)(hs:swapsWith e (some (.Subscript (.Subscript (.Name x N) i' M) i2 L)) pos.line X.env=pure false:=by rfl) :
  PX X (.Assign [.Subscript (.Subscript (.Name x N) i' M) i2 L] e pos) (IC i ti tk te):=by
 symm;let⟨t,p,q⟩:=he;let⟨t2,vb,q2⟩:=hi;let⟨t3,o,q3⟩:=w;show⟨_,Tq (zQ Fp (jH hN) vb MF) o p hs,λρ σ C B G H D E k h g=>?_⟩;unfold IC at h;split at h
 .rename_i nB R;symm;let⟨own,o1,o2⟩:=k.on;obtain⟨a,fp,Y,b2,⟨S,Q⟩,b4⟩:=o2 i _ R;show q ρ σ C B G H _ _ k h λv H' r G' x1 rr s=>?_
  symm;obtain⟨G2,K,rv,_⟩:=rr.freeze x1;show⟨_,Y,q2 ρ σ C B G2 H' _ _ (k.ext K) s λu H3 rk G3 x3 ji d=>?_⟩;symm;obtain⟨G4,J,P,_⟩:=ji.freeze x3;split at d
  .rename_i kk e1;symm;let⟨j,kvs,hj,i3,d⟩:=d;rw[e1] at P;symm;let⟨n,ks,ep,c1,c2,W⟩:=Q.get i3;have gK:bE (fp.map V.ref) kk=some (.ref n):=by
    unfold bE;rw[aL,Q.length,hj];simp[c1]
   have y:=K.trans J;show⟨a,fp.map V.ref,kk,_,rfl,P,bU.of (y.h _ _ S),gK,?_⟩;show q3 ρ σ C B G4 H3 _ _ (k.ext y) d λu5 H5 r5 G5 Z L6 F=>?_
   symm;obtain⟨G6,I,m,_⟩:=L6.freeze Z;let⟨key,w,hlen,F⟩:=F;have f:=y.trans I;show⟨n,ks,ep,key,rfl,f.h _ _ c2,uO m w,by rw[W.length];show hlen,λir=>?_⟩;show g.nx _ _ G6 _ f.g ((k.ext f).tO R Y λU nd ow=>?_) F;symm;let⟨O,iZ⟩:=ow;have e3:U=fp:=by
    have:=(f.h _ _ S).symm.trans O;injection this with this
    injection this with this
    show((wB λa b h=>by cases h;rfl).mp this).symm
   subst e3;have T:=eH.mp nd;show⟨U,nd,⟨?_,iZ.set (bp.put (bp.mono f.g _ _ W) (rv.mono (J.trans I).g)) T.2 c1⟩,λq s=>.inl s,λb hb _=>br λz=>hb (by rw[z];show fL _ (cP c1))⟩;rw[br (λz:a=n=>T.1 (z▸cP c1))];show O
  show d.elim
 show h.elim
end
theorem Kf:∀{ks us},Vals (ks.map kV) us->ItemsAre (gf P w) ks us
 | [],_,r=>by rw[t5] at r;cases r;show .nil
 | k::ks,_,r=>by
  rw[c8] at r;cases r with
  | cons h t=>show .cons (zN h) (Kf t)
abbrev KT(H:Hp):List (List Key×V)->List (List Key×ag×af)->Prop:=Paired λp q=>p.1=q.1/\H q.2.1\.tup (p.1.map kV)/\RelV p.2 q.2.2
def KT.val(r:KT H kvs xs)(k):ml (fk kvs k) ((atKey xs k).map (·.2)):=by
 induction r with
 | nil=>show vQ
 | @cons p q ps a h t f=>
  let⟨d,y,g⟩:=h;by_cases e:p.1=k
  .have c:q.1=k:=d.symm.trans e;have b:atKey (q::a) k\q.2:=by simp[atKey,ju,c]
   rw[U7 e,b];show g
  have c:¬q.1=k:=λz=>e (d.trans z)
  have b:atKey (q::a) k=atKey a k:=by simp[atKey,ju,c]
  rw[U6 e,b];show f
theorem KT.keeps(r:KT H kvs xs)(a:∀b ys,H b\.tup ys->H' b\.tup ys):KT H' kvs xs:=
 Paired.W8 r λ_ _ z=>⟨z.1,a _ _ z.2.1,z.2.2⟩
theorem zwD(ok:eX P w H h)(e:Rd H a u):fQ P w H h a u:=e.ok ok
def SV(ok:eX P w H h)(e:H a\.tup (ks.map kV)):(tupleKind (gf P w)).is h ks a:=by
 let⟨z,its,r,o,d,c,n,b⟩:=(show fQ P w H h a (.tup (ks.map kV)) from ok a _ e)
 show⟨o,its.toArray,n,d,c,b,by simpa using Kf r⟩
end L2
namespace PySem
open Sem (wp)
section
variable{prog:aG}{w:aF}{K:Type}[DecidableEq K]{knd:HeapKind prog w K}{A:bh}{E:af->aj->Prop}{s:aj}
def zgy{d a:ag}{xs:List (K×ag×af)}{k:K}{b:af}{Q:af->aj->Prop}(q:knd.room A)(f:knd.is s.heap k a)(B:s.heap.DictOfH knd d xs)
  (there:∀p,atKey xs k\p->Q p.2 { s with toks:=s.toks+knd.draws k })
  (new:atKey xs k=none->∀h',h'.DictOfH knd d (storedH xs k a b)->j4 d s.heap h'->Q b { s with heap:=h',toks:=s.toks+knd.draws k })
  (hsz:xs.length<=sizeLine):↥(dictSetDefault d (.ref a) b) Q E s:=by
 let⟨o,i,D,c,C,hd,he,v,g⟩:=B;unfold dictSetDefault;try with_reducible show fZ ?_
 show aq (knd.pyHash q f (aq (wpAny_dictFind_heap (s:={ s with toks:=s.toks+knd.draws k }) q f c hd he v g (λt=>?_) λj p r=>?_)))
 .have e:=atKey_none_of_get t;have nw:=new e;rw[storedH_new e] at nw;have l:k∉xs.map (·.1):=not_mem_keys_of_get t;have F:i.size<=sizeLine:=by have:=size_of_entries he;cbv
  show aq (mI (aq (wpAny_updateDictKeys (hz:=F) (s:={ s with toks:=s.toks+knd.draws k }) c hd (aE (nw _ ⟨_,_,D+1,oO _ c (Obj.isFreed_of_dict (Qz hd _)),
   C.mapDictKeys _,Qz hd _,by simp[he,entryOfKey],λx hx=>?_,?_⟩ (wD ..))))))
  .have keep:∀{m:K}{u:ag},knd.is s.heap m u->knd.is (s.heap.update d (Obj.mapDictKeys λi=>i.push ⟨knd.hash k,.ref a,b⟩)) m u:=λh=>knd.keeps h c hd (wD ..)
   rcases bJ.mp hx with hx | hx
   .exact keep (v x hx)
   rw[fj.mp hx];show keep f
  rw[c9,kH];show⟨g,by show fE _ _,λx hx y n z=>l (by rw[List.map_singleton,fj] at n;rw[<-show x=k from z.trans n];show hx)⟩
 show aq (CZ (s:={ s with toks:=s.toks+knd.draws k }) c hd ?_);rw[entry_at he j,r];show aq (mI (aE (there p (atKey_of_get g r))))
theorem zds{d a:ag}(hd:(d==sysModules)=false)(b:af) :
  MeetsIn prog w (Builtin.«dict.setdefault» ⟨[.ref d,.ref a,b],[]⟩) (λA R s=>∃k xs,knd.room A.in1/\knd.is s.heap k a/\s.heap.DictOfH knd d xs/\xs.length<=sizeLine/\
   (∀p,atKey xs k\p->R (.ok (.ret p.2)) { s with toks:=s.toks+knd.draws k })/\
   (atKey xs k=none->∀h',h'.DictOfH knd d (storedH xs k a b)->j4 d s.heap h'->R (.ok (.ret b)) { s with heap:=h',toks:=s.toks+knd.draws k })):=
 .of_wp λA R s ⟨k,xs,f,i,hm,hz,l,j⟩=>by
  show aq ?_;show aq (HR hm.typeIs ?_);show aE ?_;show wpAny _ _ (if (d==sysModules)=true then _ else(dictSetDefault d (.ref a) b >>= _)) _ _ s;rw[if_neg (by rw[hd];show i9)];show aq (zgy f i hm (λp g=>aE ⟨p.2,rfl,l p g⟩) (λh h' c e=>aE ⟨b,rfl,j h h' c e⟩) hz)
end
def jT(h:aB)(d:ag)(a:Array DictEntry)(b:Nat):Prop:=∃o,h.get? d\o/\o.ExactDict/\o.data=.dict a b
theorem jT.kept(x:jT h d a b)(k:∀o,h.get? d\o->h'.get? d\o):jT h' d a b:=let⟨o,c,r⟩:=x;⟨o,k o c,r⟩
section
variable{s:aj}
theorem jT.ty(x:jT s.heap d es ep):s.TypeIs (.ref d) "dict":=let⟨o,a,b,_⟩:=x;⟨o,a,b.1⟩
def zq7(hd:(d==sysModules)=false)(x:jT s.heap d es ep)
  (q:Q (.ref *...*) { s with heap:=s.heap.push { cls:=.type "dict_keyiterator",data:=.fields #[.ref d,.int 0 0,.int es.size 0,.int ep 0] } }):↥(pyIter (.ref d)) Q E s:=by
 let⟨c,b,z,a⟩:=id x;show HA x.ty PR (nN PR x.ty F.entry_dict_iter ?_ (F.args_dict_iter_1 _));show aq (m:=Zw _ _) ?_;show aq (HR x.ty (show wpAny _ _ (pure (fM d)) _ _ s from aE ?_));show wpAny _ _ (QJ d >>= _) _ _ s;unfold QJ;rw[if_neg (by rw[hd];show i9)];show aq (aE (aq (CZ b a (aq (Hn b a (aq (kI (aE ⟨_,rfl,"dict_keyiterator",_,⟨_,cV _ rfl,rfl⟩,F.slot_dict_keyiterator_next.lookup,?_⟩))))))));trivial
def zq8(t:s.heap.IsKeyIter it d i es.size ep)(x:jT s.heap d es ep)(hi)
  (q:∀h',h'.IsKeyIter it d (i+1) es.size ep->j4 it s.heap h'->Q (some es[i].key) { s with heap:=h' }):↥(pyNext (.ref it)) Q E s:=by
 symm;let⟨j,e,h,b⟩:=id t;let⟨m,g,z,f⟩:=id x;show aq (y9 (zi (name:=fh "__next__") t.typeIs Dv
  (nN Dv t.typeIs Rm ?_ (Rn _))))
 show aq (aE (aq (aq ?_)));show aq (Dw t.typeIs (aE (aq (CM e b ?_))));show aq (aE (aq (CZ g f ?_)));rw[if_neg ∅];show aq (aE (aq (Hn g f ?_)));rw[if_neg ∅];show aE ?_;simp![show ¬((i:Int)<0) from by cbv,cC,wu,rX hi];show aq (aq (Dw t.typeIs (aE (aq (QI t.typeIs ?_)))));show wpAny _ _ (setField (.ref it) 1 (rawInt ((i:Int)+1)) >>= _) _ _ s;show aq (Hh e b ∅ ?_);have t':(s.heap.update it (O5 (·.setIfInBounds 1 (rawInt ((i:Int)+1))))).IsKeyIter it d (i+1) es.size ep:=
  ⟨_,oO _ e (Obj.isFreed_of_fields (Qh b _)),(Obj.cls_mapFields ..).trans h,by rw[Qh b];rfl⟩
 show aq (fZ (aq (QI (s:={ s with heap:=s.heap.update it (O5 (·.setIfInBounds 1 (rawInt ((i:Int)+1)))) }) t'.typeIs ?_)));show aE (aE ⟨_,rfl,aE (q _ t' (wD ..))⟩)
def zts(j:A.handled=none)(t:s.heap.IsKeyIter it d i es.size ep)(x:jT s.heap d es ep)(hi:es.size<=i)
  (q:∀h',yZ it s.heap h'->Q none { s with heap:=h' }):↥(pyNext (.ref it)) Q E s:=by
 symm;let⟨n,e,p,f⟩:=id t;let⟨o,h,z,g⟩:=id x;show aq (y9 (zi (name:=fh "__next__") t.typeIs Dv
  (nN Dv t.typeIs Rm ?_ (Rn _))))
 show aq (aE (aq (aq ?_)));show aq (Dw t.typeIs (aE (aq (CM e f ?_))));show aq (aE (aq (CZ h g ?_)));rw[if_neg ∅];show aq (aE (aq (Hn h g ?_)));rw[if_neg ∅];show aE ?_;simp only[show ¬((i:Int)<0) from by cbv,cC,wu,Dm hi];show aq (aq (Dw t.typeIs (aE ?_)));show wpAny _ _ (setField (.ref it) 0 .none >>= _) _ _ s;show aq (Hh e f (by show iy _) ?_);show aq ?_;show aq (kI (aq (m:=firstArgMember _ _) (CC (a:=jx) (by first | rfl | (rfl)) (kI ?_ (by size_fits)))) (by size_fits));show aq (O8 ?_);rw[show A.in1.handled=none from j];show aq (aE (wpAny_throw ?_));show aq (Hy (T:="StopIteration") (b:=true) ⟨_,cV _ rfl,rfl⟩ Pk ?_);show aE (q _ (((wD ..).extBut.push _).push _))
theorem VS(k:A.handled=none)(I d)(l:d≠I)(es ep) :
  Walks prog w A I [I,d] [I] es.size (λi v=>∃h:i<es.size,v=es[i].key) (λi h=>h.IsKeyIter I d i es.size ep/\jT h d es ep) where
 sub:=λb a=>by simp at a;show a▸.head _
 frame:=λ_ _ _ st j=>⟨st.1.at λo e=>j I (by show .head _) o e,st.2.kept λo e=>j d (by show .tail _ (.head _)) o e⟩
 item:=λi s Q E hi st c=>zq8 st.1 st.2 hi λh' t' g=>c _ h' s.toks ⟨hi,rfl⟩ ⟨t',st.2.kept λo e=>g.extBut _ _ l e⟩ λb o a e=>g.extBut b o (λh=>a (by show h▸.head _)) e
 done:=λs Q E st c=>zts k st.1 st.2 (bB _) λh' f=>c h' s.toks λb o a e=>f b o (λh=>a (by show h▸.head _)) e
 self:=λ_ _ _ _ st c=>QA st.1 c
end
end PySem
namespace L2
open PySem PySem.Spec PyProof.Rows
def IsT(H:Hp)(a:ag):Prop:=∃kvs bs,Rd H a (.dT kvs bs)
def DV(ok:eX P w H h)(e:Rd H a (.dT kvs bs)):kvs.length<=sizeLine/\(a==sysModules)=false/\
  ∃xs,xs.map (λx=>x.2.1)=bs.1/\KT H kvs xs/\h.DictOfH (tupleKind (gf P w)) a xs:=by
 symm;let⟨z,y,xs,v,r,o,s,u,n,j,i,g,f⟩:=(show fQ P w H h a (.dT kvs bs) from zwD ok e)
 have all:∀{l:List (List Key×V)}{m:List (List Key×ag×af)},KT H l m->∀x∈m,(tupleKind (gf P w)).is h x.1 x.2.1:=λ{l m} q=>by
  induction q with
  | nil=>show λx hx=>nomatch hx
  | @cons p q ps A b t d=>
   intro x hx;cases hx with
   | head=>show SV ok (by rw[<-b.1];show b.2.1)
   | tail _ hx=>show d x hx
 show⟨z,y,xs,v,r,o,s,u,n,j,i,g,all r,f.1⟩
def zwE:TE:=λ_ H Q=>∀p,H p=none->Q (.ref p) (upd H p (.dT [] ([],0)))
section
variable{X:Cx}{e i':ay}{te ti:TD}
theorem ztt:PE X (.Dict [] [] pos) zwE:=λb s σ H Q I h=>by
 have ok:fQ X.prog X.w (upd H *...* (.dT [] ([],0))) (s.heap.push { cls:=.type "dict",data:=.dict #[] }) *...* (.dT [] ([],0)):=
  ⟨cA _,beq_eq_false_iff_ne.mpr (Ne.symm (cg I.big)),[],rfl,.nil,_,#[],0,cV _ rfl,⟨rfl,rfl,rfl⟩,rfl,rfl,vX,rfl⟩
 show PV ⟨.ref *...*,_,I.laid (a:=*...*) (o:=.dT [] ([],0)) (t':=s.toks) (λ_ _ q=>bW _ q) (bB _) ok,rfl,h _ (I.aX.fresh (bB _))⟩
def zvh{g:St}(I:Inv X j g H s)(d:IsT H a) :
  s.TypeIs (.ref a) "dict"/\(∀b,fM a=.ref b->∃ob,s.heap.get? b=some ob/\ob.dict=none)/\(a==sysModules)=false:=by
 symm;let⟨kvs,bs,e⟩:=d;let⟨z,hd,xs,z,z,f⟩:=DV I.aX e;show⟨f.typeIs,λb q=>?_,hd⟩;cases q;symm;let⟨ob,z,z,i,h,z⟩:=f;show⟨ob,i,h.2.1⟩
def zwF(e ty d:TE):TE:=λσ H Q=>e σ H λx H1=>∃a,x=.ref a/\IsT H1 a/\ty σ H1 λy g=>d σ g λz c=>∃kvs bs k b,c a\.dT kvs bs/\y=.ref b/\c b\.tup (k.map kV)/\kvs.length<sizeLine/\
 (∀v,fk kvs k\v->Q v c)/\(fk kvs k=none->∀f,Q z (upd c a (.dT (kvs++[(k,z)]) (bs.1++[b],f))))
def ztu{E ty D:TE}(hu:X.A.units+64<cLine)(ho:PE X o E)(he:PE X e ty)(hf:PE X f D)(m:M2 X o "setdefault" g e f P):PE X (.Call (.Attribute o "setdefault" g) [e,f] [] P) (zwF E ty D):=by
 intro B s σ H Q I h;show wpAny_Call_method m.base m.B4 m.line PySem.F.plainAttrs_dict Rj PySem.F.type_dict_setdefault (aW (ho B s σ H _ I h) λu s1 i=>?_);let⟨x,H1,U,Y,a,ex,d,q1⟩:=i;subst ex;obtain rfl:u=fM a:=Y;symm;let⟨t1,V,l⟩:=zvh U d;show⟨t1,V,?_⟩;rw[m.trees];show HV rfl (QF (C9 (aW (he B s1 σ H1 _ U q1) λiv s2 i=>?_)));let⟨y,H2,I2,W,q2⟩:=i;show C9 (aW (hf B s2 σ H2 _ I2 q2) λR s3 i=>?_);let⟨z,C,n,J,kvs,bs,k,b,t,ey,M,hl,q3,Z⟩:=i;show HC ?_;subst ey;obtain rfl:iv=fM b:=W;symm;let⟨hz,hd,xs,bq,rel,T⟩:=DV n.aX (.inl t);have hlen:kvs.length=xs.length:=CK rel;show call_meetsIn Rj T.typeIs PySem.F.entry_dict_setdefault (PySem.F.args_dict_setdefault_3 _ _ _) (zds (knd:=tupleKind (gf X.prog X.w)) hd R)
  ⟨k,xs,Qf (by grind),SV n.aX M,T,by rw[<-hlen];show hz,λp hp=>?_,λL h' F0 hs=>?_⟩
 .have r:=rel.val k;rw[hp] at r;cases hx:fk kvs k with
  | none=>rw[hx] at r;show r.elim
  | some x=>
   rw[hx] at r;show⟨x,C,n.tok _,r,q3 x hx⟩
 have r:=rel.val k;rw[L] at r;cases hx:fk kvs k with
 | some=>rw[hx] at r;show r.elim
 | none=>
  symm;let⟨q,es,j,K,h2,h3,O,l,N⟩:=F0;rw[storedH_new L] at O N;have v:KT C (kvs++[(k,z)]) (xs++[(k,b,R)]):=OL rel ⟨rfl,M,J⟩;have ok:fQ X.prog X.w (upd C a (.dT (kvs++[(k,z)]) (bs.1++[b],j))) h' a (.dT (kvs++[(k,z)]) (bs.1++[b],j)):=by
   show⟨by simp;room,hd,_,by rw[c9,bq];rfl,v.keeps λc ys S=>?_,q,es,j,K,h2,h3,O,N,rfl⟩;rw[br (R5 S t (λz=>nomatch z))];show S
  show⟨z,_,Tu n (by rw[t];show vQ) hs ⟨q,K⟩ ok,J,Z hx j⟩
def RZ:TD:=λ_ Q=>Q (.ov (.dt []))
def zra:PD X (.Dict [] [] pos) RZ:=by
 show⟨_,ztt,λρ σ c b G H Q P E h k=>λd hd=>?_⟩;show k _ _ (.ov (.dt [])) G (.own E.e.s hd) ⟨d,[],rfl,by show fE _ _,⟨[],([],0),cW,trivial,rfl,rfl,by trivial⟩,λq a=>?_⟩ h;simp![fj] at a;subst a;show⟨hd,E.e.s.free hd⟩
def RY(ts:eZ):TD:=λρ Q=>ts ρ λds=>ds.length<=sizeLine/\Q (.ov (.tp ds))
def ztv{e}(h:iP X c ts):PD X (.Tuple c e pos) (RY ts):=by
 let⟨t,p,q⟩:=h;show⟨_,SH p,λρ σ j i G H Q P E h k=>q ρ σ j i G H _ _ E h λf H' ds d x rs a=>⟨by rw[rs.length];show a.1,λp b=>?_⟩⟩;have g:d p=none:=x.s.free b;show k _ _ (.ov (.tp ds)) d (x.trans (.own x.s b)) ⟨p,[],rfl,by show fE _ _,⟨rfl,f,cW,rs⟩,λq a=>?_⟩ a.2;simp![fj] at a;subst a;show⟨x.h.free b,g⟩
def zmN{k:List Key}{j:Nat}(h:ks[j]?\(k,v))(c:∀b<j,∀p,ks[b]?\p->p.1≠k):fk ks k\v:=by
 induction ks generalizing j with
 | nil=>trivial
 | cons a ks d=>
  unfold fk;rw[ju];cases j with
  | zero=>
   cbv
  | succ j=>
   have f:a.1≠k:=c 0 (iy _) a rfl;simp![f,fA];show d h λb e p g=>c (b+1) (Nat.succ_lt_succ e) p (by trivial)
def EL{k:List Key}:(ks.any λkv=>decide (kv.1=k))=(fk ks k).isSome:=by
 induction ks with
 | nil=>rfl
 | cons a ks b=>
  unfold fk;grind
def VR{b a:Type}{ks:List (List Key×b)}{kvs:List (List Key×a)}(h:ks.map (·.1)=kvs.map (·.1))(k):(ks.any λkv=>decide (kv.1=k))=kvs.any λkv=>decide (kv.1=k):=by
 have d:(ks.any λkv=>decide (kv.1=k))=(ks.map (·.1)).any λx=>decide (x=k):=by rw[tZ];rfl
 have c:(kvs.any λkv=>decide (kv.1=k))=(kvs.map (·.1)).any λx=>decide (x=k):=by rw[tZ];rfl
 rw[d,c,h]
theorem js.snoc(a:H b\.tup (k.map kV)):∀{ps bs},js H ps bs->js H (ps++[(k,v)]) (bs++[b])
 | [],[],_=>⟨a,trivial⟩
 | p::ps,c::bs,h=>⟨h.1,js.snoc a h.2⟩
 | [],_::_,h=>h.elim
 | _::_,[],h=>h.elim
def zoP{k:List Key}(h:fk ks k=none):fk (ks++[(k,v)]) k\v:=by
 unfold fk at h ⊢;rw[P6];rw[Dl] at h;rw[h];simp
def qE:List D->Option (List Key)
 | []=>some []
 | d::r=>match kR d,qE r with
  | some k,some ks=>some (k::ks)
  | _,_=>none
theorem Ke{K:ar}:∀{ds a ks},av K G a ds->qE ds\ks->a=ks.map kV
 | [],[],ks,_,h=>by simp![qE,fJ] at h;subst h;rfl
 | d::ds,v::a,ks,r,h=>by
  simp![qE] at h;split at h
  .rename_i k e c b;simp![fJ] at h;subst h;rw[uO r.1 c,Ke r.2 b];rfl
  cases h
 | [],_::_,_,r,_=>by simp![av] at r
 | _::_,[],_,r,_=>by simp![av] at r
def jd(kvs:List (List Key×List D))(k:List Key):List (List Key×List D):=if (kvs.any λkv=>decide (kv.1=k))=true then kvs else kvs++[(k,[])]
def Ry(i j:Nat)(te:TD):TX:=λD ρ=>match gt ρ i,gt ρ j with
 | .ov (.dt kvs),.ov (.tp a)=>∃k n ds,qE a\k/\kvs.length<sizeLine/\(jd kvs k)[n]?\(k,ds)/\(∀b<n,∀p,(jd kvs k)[b]?\p->p.1≠k)/\
  te ((ρ.set j (.fz (.tup a))).set i (.ov (.dt (jd kvs k)))) λr=>ds.length<sizeLine/\D.nx ((ρ.set j (.fz (.tup a))).set i (.ov (.dt ((jd kvs k).set n (k,ds++[r.val])))))
 | _,_=>False
def zvk(hu:X.A.units+64<cLine)(i j){S R p3 p4 p5 p6 I:aN}(he:PD X e te)(hN:Nm X i x:=by walk_at"nm")
  (hN2:Nm X j y:=by walk_at"nm")
  (cY:starEach [e] X.env=(false,eval e X.env)::starEach [] X.env:=by rfl) (m:M2 X (.Name x S) "setdefault" R (.Name y p6) (.List [] p3) p4:=by show⟨rfl,rfl,rfl,rfl⟩)
  (B:∀{ta t},PE X (.Call (.Attribute (.Name x S) "setdefault" R) [.Name y p6,.List [] p3] [] p4) ta->PA X [e] t->PE X (.Call (.Attribute (.Call (.Attribute (.Name x S) "setdefault" R) [.Name y p6,.List [] p3] [] p4) "append" p5) [e] [] I) (uZ X.K "list" uL ta t):=by intro ta t h1 h2;show uB rW zk zj xx h1 h2) :
  PX X (.Expr (.Call (.Attribute (.Call (.Attribute (.Name x S) "setdefault" R) [.Name y p6,.List [] p3] [] p4) "append" p5) [e] [] I) pos) (Ry i j te):=by
 let⟨t,p,q⟩:=he;show⟨_,uM (B (ztu hu (jH hN) (jH hN2) (SG og) m) (pj p og cY)),λρ σ G0 H0 G H D E k h g=>?_⟩;unfold Ry at h;split at h
 .rename_i kvs es hg Z;let⟨own,o1,o2⟩:=k.on;obtain⟨a,fp,W,b2,⟨ks,bs,T,xZ,xY,MO,hr⟩,b4⟩:=o2 i _ hg;obtain⟨bb,fpj,c1,c2,⟨_,vs,B,rvs⟩,c4⟩:=o2 j _ Z;let⟨key,n,ds,oC,hlen,hj,abf,g6⟩:=h;obtain⟨L,hL,k2,_,jO⟩:=k.Yy j;have s2:aZ G (jz G H L):=xw hL;have Yx:jz G H L bb\.tup vs:=by rw[mV (jO _ _ Z c1)];show B
  generalize jz G H L=G2 at k2 s2 Yx;have abu:fP j ρ=ρ.set j (.fz (.tup es)):=by unfold fP;rw[Z];rfl
  rw[abu] at k2;have dR:j≠i:=λz=>by rw[z,hg] at Z;cases Z
  have bx:i<ρ.length:=uA hg ∅;have rj:gt (ρ.set j (.fz (.tup es))) i=.ov (.dt kvs):=by rw[mT,if_neg (λz=>dR z.1)];show hg
  have XS:i<(ρ.set j (.fz (.tup es))).length:=by rw[qf];show bx
  have i4:=Ke rvs oC;have FJ:ks.length=kvs.length:=by have:=congrArg tY xY;simpa using this
  generalize hρ:ρ.set j (.fz (.tup es))=ρ' at k2 rj XS g6;have E2:=k2;show⟨_,W,a,rfl,⟨ks,bs,.inl T⟩,_,c1,?_⟩
  -- zT acz
  have fin:∀(O:Hp)(v:V)(Q5:VK),aU X.K G0 H0 (ρ'.set i (.ov (.dt (jd kvs key)))) σ G2 O->(∀u Y,O a\.dT u Y->fk u key\v)->(∀H',E.nx σ H'->Q5 .non H')->
    Ba X.K "list" v O/\t σ O λw H6=>uL v [w] H6 Q5:=by
   intro O v Q5 E5 hv5 hQ5;have Yb:gt (ρ'.set i (.ov (.dt (jd kvs key)))) i=.ov (.dt (jd kvs key)):=by rw[mT,if_pos ⟨rfl,XS⟩]
   obtain⟨acA,_,o5⟩:=E5.on;obtain⟨a',fp5,c1,c2,⟨u,Y,d1,dk,d2,d3,d4⟩,c4⟩:=o5 i _ Yb;rw[W] at c1;cases c1;let⟨N,xs,f1,f2,f3⟩:=d4.get (j:=n) (ds:=ds) (by rw[cx,hj];rfl);have hk5:u[n]?\(key,.ref N):=by
    have d:=congrArg (λl=>l[n]?) d2;have C:=congrArg (λl=>l[n]?) d3;simp![cx,hj,f1,hZ] at d C;cases FJ:u[n]? with
    | none=>rw[FJ] at d;cases d
    | some p=>
     rw[FJ] at d C;simp![hZ,fJ] at d C;let⟨S,R⟩:=p;simp only at d C;rw[d,C]
   have hv:v=.ref N:=by
    have d:=zmN hk5 λj' X2 p hp z=>by
     have d:=congrArg (λl=>l[j']?) d2;simp![cx,hp,hZ] at d;cases J:(jd kvs key)[j']? with
     | none=>rw[J] at d;cases d
     | some p'=>
      rw[J] at d;simp![hZ,fJ] at d;show abf j' X2 p' J (by rw[<-d];show z)
    rw[hv5 u Y d1] at d;injection d
   subst hv;show⟨.inl ⟨rfl,xs,bU.of f2⟩,q _ σ G0 H0 G2 O _ _ E5 g6 λw H7 r G7 x7 rr7 XF=>?_⟩;obtain⟨G8,P,rv8,_⟩:=rr7.freeze x7;show⟨N,xs,w,rfl,rfl,P.h _ _ f2,by rw[f3.length];show XF.1,hQ5 _ (g.nx _ _ G8 _ (s2.trans P.g) ?_ XF.2)⟩;have E9:=(E5.ext P).tO (o':=.dt ((jd kvs key).set n (key,ds++[r.val]))) (H':=upd H7 N (.lst (xs++[w]))) Yb W λF nd ow=>?_
   .rw[List.set_set] at E9;show E9
   let⟨vd,yf,d,ek,C,e3,e4⟩:=ow;have Ng:vd=u:=by
    have:=(P.h _ _ d1).symm.trans d;injection this with this
    injection this with this
    show this.symm
   subst Ng;have efp:F=fp5:=(wB λa b h=>by cases h;rfl).mp (e3.symm.trans d3);subst efp;have gu:=eH.mp nd;have oB:N∈F:=cP f1;show⟨F,nd,⟨vd,yf,?_,ek,?_,e3,?_⟩,λq f=>.inl f,λb B _=>br λz=>B (by rw[z];show fL _ oB)⟩
   .rw[br (λz:a=N=>gu.1 (z▸oB))];show d
   .rw[C,oQ];apply qi;intro m;rw[lC];split
    .rename_i M;subst M;rw[cx,hj];simp![hZ,aL];rw[if_pos (cH.mp hj).1]
    rfl
   rw[oQ];show e4.set ((f3.mono P.g).append (av.cons rv8 av.nil)) gu.2 f1
  show⟨cA _,λl hl=>?_⟩;have Q:a≠l:=λz=>by rw[<-z,T] at hl;cases hl
  have FI:bb≠l:=λz=>by rw[<-z,B] at hl;cases hl
  show⟨ks,bs,key,bb,by rw[br Q];show T,rfl,by rw[br FI,<-i4];show B,by rw[FJ];show hlen,λv hv=>?_,λM ep=>?_⟩
  .have J:jd kvs key=kvs:=by
    unfold jd;rw[if_pos];rw[<-VR xY,EL,hv];rfl
   have E3:=E2.ext (.own E2.e.s hl (o:=.lst []));have E4:aU X.K G0 H0 (ρ'.set i (.ov (.dt (jd kvs key)))) σ G2 (upd H l (.lst [])):=by
    rw[J];show E3.tO rj W λF nd ow=>⟨F,nd,ow,λq f=>.inl f,λ_ _ _=>rfl⟩
   show fin _ v (λ_ H'=>E.nx σ H') E4 (λu Y U=>?_) λH' h'=>h'
   rw[br Q,T] at U;cases U;show hv
  have abo:(kvs.any λkv=>decide (kv.1=key))=false:=by rw[<-VR xY,EL,M];rfl
  have acU:(ks.any λkv=>decide (kv.1=key))=false:=by rw[EL,M];rfl
  have J:jd kvs key=kvs++[(key,[])]:=by
   unfold jd;rw[abo];rfl
  have E4:aU X.K G0 H0 (ρ'.set i (.ov (.dt (jd kvs key)))) σ G2 (upd (upd H l (.lst [])) a (.dT (ks++[(key,.ref l)]) (bs.1++[bb],ep))):=by
   rw[J];show E2.tO rj W λF nd ow=>?_
   let⟨vd,yf,d,ek,C,e3,e4⟩:=ow;have Ng:vd=ks/\yf=bs:=by
    have:=T.symm.trans d;injection this with this
    injection this with aaf aae
    show⟨aaf.symm,aae.symm⟩
   let⟨rfl,rfl⟩:=Ng;have xV:l∉a::F:=λz=>by
    rcases bM.mp z with z | z
    .exact Q z.symm
    show e4.here l z hl
   have haf:a∉F:=(eH.mp nd).1;show⟨F++[l],?_,⟨_,_,cW,?_,by simp[C],by simp[e3],?_⟩,λq f=>?_,λb B M=>?_⟩
   .rw[eH] at nd ⊢;show⟨λz=>?_,?_⟩
    .rcases bJ.mp z with z | z
     .exact nd.1 z
     simp at z;show Q z
    rw[kH];show⟨nd.2,by show fE _ _,λx hx y hy=>?_⟩;simp at hy;subst hy;show λz=>xV (fL _ (z▸hx))
   .exact js.snoc (by rw[<-i4];show Yx) ek
   .rw[c9];show cv.snoc (zs:=[]) (e4.mono (aZ.refl _) λq f xs e=>?_) ?_ av.nil
    .rw[br (λz:q=a=>haf (z▸f)),br (λz:q=l=>xV (fL _ (z▸f)))];show e
    rw[br Q.symm];show cW
   .rcases bM.mp f with rfl | f
    .exact .inl (by room)
    rcases bJ.mp f with f | f
    .exact .inl (fL _ f)
    simp at f;subst f;show .inr hl
   rw[br (λz:b=a=>B (by rw[z];room)),br (λz:b=l=>M (by rw[z];show hl))]
  show fin _ _ (λ_ H'=>E.nx σ H') E4 (λu Y U=>?_) λH' h'=>h'
  rw[cW] at U;cases U;have:=EL (ks:=ks) (k:=key);show zoP M
 show h.elim
end
section
variable{prog:aG}{w:aF}{A:bh}{E:af->aj->Prop}{s:aj}
def zmO{R:Result->aj->Prop}{a:ag}{c:Array DictEntry}{d:Nat}(T:jT s.heap a c d)(J:(a==sysModules)=false)(hz:c.size<=sizeLine)(v:A.handled=none)(S:ag)(K:S≠a)(res:af)(C:Nat)(x:s.heap.get? S=some { cls:=.type "list",data:=.seq #[] C })
  (hR:∀h' tk (acc:Array af) k,(∀b o,b≠S->s.heap.get? b=some o->h'.get? b=some o)->h'.get? S=some { cls:=.type "list",dict:=none,data:=.seq acc k,slots:=#[] }->acc.toList=c.toList.map (·.key)->R (.ok (.ret res)) { s with heap:=h',toks:=tk }) :
  wpAny (model prog w) A.in1 (Rg (.ref S) (.ref a) res) (λfin g=>match fin with | .done f=>R (.ok f) g | .again k=>k.quiet=true/\codeAny (model prog w) A k R g) (λe g=>R (.error e) g) s:=by
 have V:S< *...*:=bI x;have q:a< *...*:=by let⟨o,e,Z⟩:=T;show bI e
 show aq (vT (T:="dict") T.ty ?_);have O:Q4 (.ref S) (.ref a)=false:=by show if_neg ‹_›
 have N:(j3 "dict"==j3 "list")=false:=by rfl
 have M:(j3 "dict"==j3 "tuple")=false:=by assumption
 simp![O,N,M,G9,cO,cC];show aq (zq7 J T ?_);generalize y:*...*=I at V q;generalize D:s.heap.push { cls:=.type "dict_keyiterator",data:=.fields #[.ref a,.int 0 0,.int c.size 0,.int d 0] }=h0;have old:∀b o,s.heap.get? b=some o->h0.get? b=some o:=λb o e=>by rw[<-D];show bW _ e
 have p:h0.IsKeyIter I a 0 c.size d:=by rw[<-D,<-y];show⟨_,cV _ rfl,rfl,rfl⟩
 have st:h0.IsKeyIter I a 0 c.size d/\jT h0 a c d:=⟨p,T.kept λo e=>old _ _ e⟩
 have t:S∉[I,a]:=λz=>by
  cbv
 have go:∀(h:aB)(c1 tk:Nat),(h.IsKeyIter I a 0 c.size d/\jT h a c d)->(∀b o,b≠S->s.heap.get? b=some o->h.get? b=some o)->h.get? S=some { cls:=.type "list",data:=.seq #[] c1 }->
   codeAny (model prog w) A (.builtin "list.extend.loop" ⟨[.ref S,.ref I,res],[]⟩) R { s with heap:=h,toks:=tk }:=by
  intro h c1 tk U H F;show QC (VS (A:=A.in1) v I a (cg q) c d).toS hz S t res c.size 0 _ #[] c1 rfl (cA _) U F (OM _) λg n k hm G B=>?_
  rw[O7 hm];show hR g.heap g.toks n k (λb o i e=>hm.heap b o (λm=>?_) (H b o i e)) G ?_
  .rcases bM.mp m with Q | m
   .exact i Q
   have:=bI e;rw[y] at this;show cg this (fj.mp m)
  apply qi;intro j;rw[cx,qk,qk];by_cases u:j<n.size
  .let⟨L,P⟩:=B.2 j n[j] (by simp[u]);rw[rX u,rX L,P];rfl
  have:=B.1;cbv
 have l:=old _ _ x;show aq (fZ (PySem.W.kdl_hint_dict (s:={ s with heap:=h0 }) (jT.ty (s:={ s with heap:=h0 }) st.2) ?_));show v7 (λ_=>?_) (λ_=>aE ⟨kM Dt _,go _ C _ st (λb o _ e=>old b o e) l⟩);show aq (mI (aq ?_));show aq (t7 l rfl ?_);have E:=oO (jZ (·.push jx)) l rfl;show t7 (hz:=by seq_fits) E rfl ?_;have X:=oO (jZ (·.pop)) E rfl;show aE ⟨kM Dt _,go _ _ _ ?_ (λb o i e=>?_) X⟩
 .refine(VS (prog:=prog) (w:=w) (A:=A.in1) v I a (cg q) c d).frame 0 _ _ st λb i o e=>?_
  have r:b≠S:=λh=>t (h▸i)
  show(jw _ _ (Ne.symm r)).trans ((jw _ _ (Ne.symm r)).trans e)
 show(jw _ _ (Ne.symm i)).trans ((jw _ _ (Ne.symm i)).trans (old _ _ e))
def zkS{R:List af->aj->Prop}(T:jT s.heap a m u)(t:(a==sysModules)=false)(hz:m.size<=sizeLine)(r:A.handled=none)
  (h:∀h' tk, *...*<h'.objs.size->(∀b o,s.heap.get? b\o->h'.get? b\o)->R (m.toList.map (·.key)) { s with heap:=h',toks:=tk }):↥(collect (.ref a)) R E s:=by
 have z:a< *...*:=by let⟨o,e,l⟩:=T;show bI e
 show aq (Hi (kN QB ?_));show aq (kI (aE ⟨kM QX _,kN PY ?_⟩));have p:(s.heap.push { cls:=.type "list",data:=.seq ([]:List af).toArray }).get? *...*=some { cls:=.type "list",data:=.seq #[] }:=cV _ rfl;have key:=zmO (prog:=prog) (w:=w) (A:=A) (s:={ s with heap:=s.heap.push { cls:=.type "list",data:=.seq ([]:List af).toArray } })
  (R:=λ(q:Result)(n:aj)=>∃(h':aB)(tk:Nat)(acc:Array af)(j:Nat),q=.ok (.ret (.ref *...*))/\n={ s with heap:=h',toks:=tk }/\
   (∀b o,s.heap.get? b=some o->h'.get? b=some o)/\h'.get? *...*=some { cls:=.type "list",dict:=none,data:=.seq acc j,slots:=#[] }/\acc.toList=m.toList.map (·.key))
  (T.kept λo e=>bW _ e) t hz r *...* (nJ z) (.ref *...*) 0 p
  (λh' tk acc j g d i=>⟨h',tk,acc,j,rfl,rfl,λb o e=>g b o (cg (bI e)) (bW _ e),d,i⟩)
 show ja key (λfin n x=>?_) λe n x=>?_
 .cases fin with
  | done f=>
   symm;let⟨h',tk,acc,j,e,rfl,g,d,i⟩:=x;cases e;show aq (vR d (aE ?_));rw[i];show h h' tk (bI d) g
  | again c1=>
   show⟨x.1,rN x.2 λq s2 y=>?_⟩;symm;let⟨h',tk,acc,j,rfl,rfl,g,d,i⟩:=y;show aq (vR d (aE ?_));rw[i];show h h' tk (bI d) g
 symm;let⟨l,l,l,l,v,l⟩:=x;cases v
def zmP(T:jT s.heap a c u)(r:(a==sysModules)=false)(hz:c.size<=sizeLine)(q:A.handled=none)(n:2<=c.size->Ts.rE c.size)
  (R:∀h' tk,(∀b o,s.heap.get? b\o->h'.get? b\o)->Ts.Ask prog w A.in1.in1 E (c.toList.map (·.key)) rk { s with heap:=h',toks:=tk })
  (h:∀(p:ag) h' tk (arr:Array Keyed) e, *...*<=p->(∀b o,s.heap.get? b=some o->h'.get? b=some o)->arr.toList.Perm (wF (c.toList.map (·.key))).toList->Ts.bV rk arr.toList->h'.get? p=some (seqObj "list" (arr.map (·.2)) e)->Q (.ref p) { s with heap:=h',toks:=tk }) :
  ↥(call (.builtin "sorted") [.ref a]) Q E s:=by
 show Ic GH GP GO (GN _) ?_;show aq (m:=checkCount "sorted" 1 1 _) (aE (aq (zkS (A:=A.in1) T r hz q λh' tk x i=>?_)));have f:(c.toList.map (·.key)).length=c.size:=by show aL ..
 generalize c.toList.map (·.key)=d at R h f;show aq (CI ?_ (by rw[f];show hz));have g:(h'.push (seqObj "list" d.toArray 0)).get? h'.objs.size=some (seqObj "list" d.toArray 0):=cV _ rfl;have old:∀b o,s.heap.get? b=some o->b≠h'.objs.size/\(h'.push (seqObj "list" d.toArray 0)).get? b=some o:=λb o e=>⟨cg (bI (i b o e)),bW _ (i b o e)⟩
 show aq (fZ (nN Hg ⟨_,g,rfl⟩ Ho (Ts.Xe (s:={ s with heap:=h'.push (seqObj "list" d.toArray 0),toks:=tk }) (rk:=rk) g (by rw[f];show hz) (by rw[f];show n) (λt l=>R t tk λb o e=>l b o (old b o e).1 (old b o e).2) λk a1 a2=>⟨_,rfl,?_⟩) (Hf _)));let⟨v,y⟩:=O6 (out:=(arrOf k).map (·.2)) g;show aE ⟨_,rfl,h _ _ tk (arrOf k) v (gw x) (λb o e=>?_) a1 a2 y⟩;have j:b<h'.objs.size:=bI (i b o e);rw[Ph (cg j) (by rw[Cu];show lE j)];show(old b o e).2
end
def zoQ(tup:∀z∈d,Ts.gA h z.2=z.1.2)(p:c.Perm (wF (d.map (·.2))).toList)(g:Ts.bV (Ts.qQ h ((d.map (·.2)).map (Ts.gA h))) c) :
  ∃e:List ((V×List Int)×af),e.Perm d/\c.map (·.2)=e.map (·.2)/\(e.map (·.1)).Pairwise (λx y=>HT.bA x.2 y.2=false):=by
 have r:(wF (d.map (·.2))).toList=d.map λz=>((z.2,z.2):Keyed):=by
  unfold wF;grind
 let⟨e,f,k⟩:=Aj (p.trans (Pw r)) rfl;show⟨e,f,by rw[k,cJ];rfl,?_⟩;rw[iz];unfold Ts.bV at g;rw[k,iz] at g;show g.imp_of_mem λ{a b} q j l=>?_
 have n:=tup a (f.subset q);have m:=tup b (f.subset j);have o:Ts.gA h b.2∈(d.map (·.2)).map (Ts.gA h):=iA (iA (f.subset j));unfold Ts.qQ at l;cases i:HT.bA a.1.2 b.1.2 with
 | false=>rfl
 | true=>
  rw[<-n,<-m] at i;have:=(Ts.L8 o).mpr i;simp only at l;lia
section
variable{e i':ay}{te ti:TD}
theorem UZ:∀{h:List d}{j:List c},Paired F h j->∀{i:Nat}{a b},h[i]?\a->j[i]?\b->F a b
 | _,_,.nil,i,a,b,e,_=>by trivial
 | _,_,.cons r t,0,a,b,g,f=>by
  cbv
 | _,_,.cons r t,i+1,a,b,g,f=>by
  show UZ t g f
def SU(t:List Int):(t.map (λi=>(eJ i:Key))).map kV=t.map V.int:=by rw[cJ];rfl
def zkT(hc:X.calm=true):fR X (.builtin "sorted") (λxs H Q=>∃(p:ag)(kvs:List (List Key×V))(bs:List ag×Nat)(d:List (List Int)),xs=[.ref p]/\Rd H p (.dT kvs bs)/\kvs.map (·.1)=d.map (λt=>t.map eJ)/\(∀t∈d,t≠[])/\
  (2<=d.length->Ts.rE d.length)/\∀B:List (ag×List Int),B.Perm (bs.1.zip d)->B.Pairwise (λx y=>HT.bA x.2 y.2=false)->∀l,H l=none->Q (.ref l) (upd H l (.lst (B.map λq=>V.ref q.1)))):=by
 intro J' s σ H xs us Q I r h;symm;let⟨p,kvs,bs,d,rfl,Z,C,aY,Y,q⟩:=h;let⟨u,rfl,P⟩:=gy r;cases P;symm;let⟨hz,hd,ws,w,rel,o,g,ep,h1,h2,h3,K,h5,h6⟩:=DV I.aX Z;have l1:kvs.length=ws.length:=CK rel;have l2:kvs.length=d.length:=by have:=congrArg tY C;simpa using this
 have U:bs.1.length=ws.length:=by rw[<-w,aL]
 have n:g.size=d.length:=by rw[<-di,K,aL];cbv
 have N:g.toList.map (·.key)=bs.1.map fM:=by rw[K,<-w,cJ,cJ];rfl
 have T:jT s.heap p g ep:=⟨o,h1,h2,h3⟩
 -- each acI tuple
 have at_:∀(b:ag)(t:List Int),(b,t)∈bs.1.zip d->H b\.tup (t.map V.int):=λb t hm=>by
  let⟨i,hi⟩:=rT hm;rw[Ie] at hi;let⟨J,W⟩:=hi;have m:i<ws.length:=by rw[<-U];show(cH.mp J).1
  have hw:ws[i]?=some ws[i]:=bO m;have O:kvs[i]?\(kvs[i]'(by cbv)):=bO (by cbv);have pr:(kvs[i]'(by cbv)).1=ws[i].1/\H ws[i].2.1\(.tup ((kvs[i]'(by cbv)).1.map kV))/\RelV (kvs[i]'(by cbv)).2 ws[i].2.2:=UZ rel O hw;have eb:ws[i].2.1=b:=by
   have:=congrArg (λl=>l[i]?) w;simp![cx,hw,J,hZ,fJ] at this;show this
  have et:(kvs[i]'(by cbv)).1=t.map eJ:=by
   have:=congrArg (λl=>l[i]?) C;simp![cx,O,W,hZ,fJ] at this;show this
  rw[<-eb,pr.2.1,et,SU]
 symm;obtain⟨j,A⟩:∃j:List ((V×List Int)×af),j=(bs.1.zip d).map λq=>((V.ref q.1,q.2),fM q.1):=⟨_,rfl⟩
 have L:bs.1.map fM=j.map (·.2):=by
  rw[A,cJ];have:(bs.1.zip d).map (·.1)=bs.1:=Hv (by cbv);conv=>lhs;rw[<-this]
  rw[cJ];rfl
 have tup:∀z∈j,Ts.TupAt s.heap z.2/\Ts.gA s.heap z.2=z.1.2:=λz hz=>by
  rw[A] at hz;symm;obtain⟨⟨b,t⟩,hm,rfl⟩:=bQ.mp hz;let⟨i1,v1,S,c⟩:=I.tuple (cN.of (at_ b t hm));let⟨o1,g1,c1,n1,M⟩:=S;have D:=qM v1;have e:Ts.gA s.heap (.ref b)=t:=by
   unfold Ts.gA;simp![g1,M];show D.numsOf
  show⟨⟨b,o1,_,n1,rfl,g1,c1,M,by rw[e];show D,by rw[e];show aY t (ze hm).2⟩,e⟩
 show zmP (rk:=Ts.qQ s.heap ((g.toList.map (·.key)).map (Ts.gA s.heap))) T hd (by cbv) (I.ok.hd hc) (by rw[n];show Y) (λh' tk k=>Ts.YU (s:={ s with toks:=tk }) k λv hv=>?_) λa h' tk arr en hle hk F E BW=>?_
 .rw[N,L] at hv;symm;let⟨z,hz,rfl⟩:=bQ.mp hv;show(tup z hz).1
 rw[N,L] at F E;symm;let⟨L1,g1,g2,g3⟩:=zoQ (λz hz=>(tup z hz).2) F E;let⟨L2,f1,rfl⟩:=Aj g1 A;have out:(arr.map (·.2)).toList=L2.map λq=>fM q.1:=by rw[PU,g2,cJ];rfl
 have hf:H a=none:=I.aX.fresh hle;have R:=q L2 f1 (by rw[cJ,iz] at g3;show g3) a hf;show⟨.ref a,_,I.laid (a:=a) (o:=.lst (L2.map λq=>V.ref q.1)) (t':=tk) hk hle ?_,rfl,R⟩;show⟨by rw[aL,f1.length_eq,zd];cbv,(arr.map (·.2)).toList,en,?_,?_⟩
 .rw[out];show Jv (f:=λq:ag×List Int=>V.ref q.1) λq _=>rfl
 show BW
def TL:bg:=λds Q=>match ds with
 | [.dit kvs]=>∃a:List (List Int),kvs.map (·.1)=a.map (λt=>t.map eJ)/\a.length<64/\(∀t∈a,t≠[])/\∀b:List (List Int),b.Perm a->b.Pairwise (λx y=>HT.bA x y=false)->Q (.ow (b.map λt=>.tup (t.map D.int)))
 | _=>False
theorem e8.keys{K:ar}:∀{ks kvs},e8 K G ks kvs->ks.map (·.1)=kvs.map (·.1)
 | [],[],_=>rfl
 | a::ks,b::kvs,h=>by
  rw[c8,c8,h.1.1,e8.keys h.2]
 | [],_::_,h=>by simp![e8] at h
 | _::_,[],h=>by simp![e8] at h
theorem js.at:∀{ps bs}{i:Nat}{b k},js H ps bs->bs[i]?\b->(ps.map (·.1))[i]?\k->H b\.tup (k.map kV)
 | p::ps,c::bs,0,b,k,h,a,d=>by
  simp![wI,fJ,c8] at a d;subst a d;show h.1
 | p::ps,c::bs,i+1,b,k,h,a,d=>by
  show js.at h.2 a d
 | [],[],_,_,_,_,a,_=>by trivial
 | [],_::_,_,_,_,h,_,_=>h.elim
 | _::_,[],_,_,_,h,_,_=>h.elim
def zrb(x:X.calm=true):j9 X (.builtin "sorted") TL:=by
 show⟨_,zkT x,λG H I ds Q P s rs h k=>?_⟩;unfold TL at h;split at h
 .rename_i kvs;symm;let⟨d,C,n,B,A⟩:=h;let⟨v,rfl,o⟩:=gQ rs;let⟨a,ks,bs,rfl,y,g,rt⟩:=o;have e:ks.map (·.1)=d.map (λt=>t.map eJ):=by rw[rt.keys];show C
  show⟨a,ks,bs,d,rfl,.inl (s _ _ y),e,B,λz=>Ts.aam (by cbv) n,λm j r=>?_⟩;have lb:bs.1.length=d.length:=by
   have F:ks.length=d.length:=by have:=congrArg tY e;simpa using this
   have E:∀{ps:List (List Key×V)}{bs:List ag},js G ps bs->ps.length=bs.length:=λ{ps bs}=>by
    induction ps generalizing bs with
    | nil=>cases bs with
     | nil=>show λ_=>rfl
     | cons=>show λh=>h.elim
    | cons p ps u=>cases bs with
     | nil=>show λh=>h.elim
     | cons b bs=>show λh=>by rw[eh,eh,u h.2]
   rw[<-E g,F]
  show sC s (ds:=(m.map (·.2)).map λt=>.tup (t.map D.int)) ?_ (A (m.map (·.2)) ?_ (by rw[iz];show r)) k
  .rw[cJ];show Ju (f:=λq:ag×List Int=>V.ref q.1) λq w=>?_
   symm;let⟨i,hi⟩:=rT (j.subset w);rw[Ie] at hi;have:=g.at hi.1 (k:=q.2.map eJ) (by rw[e,cx,hi.2];rfl);rw[SU] at this;show⟨q.1,_,rfl,this,VJ q.2⟩
  have:=j.map (·.2);rwa [Hu (by cbv)] at this
 show h.elim
def zvl(K:ar)(d ty:TE):TE:=λσ H Q=>d σ H λx H1=>ty σ H1 λy c=>∃a b kvs bs k v,x=.ref a/\y=.ref b/\Rd c a (.dT kvs bs)/\cN K c b (k.map kV)/\fk kvs k\v/\Q v c
def zrc(S:X.A.units+64<cLine)(D:PE X o f)(hi:PE X i ty)(B:wN i):PE X (.Subscript o i pos) (zvl X.K f ty):=by
 intro j s σ H Q I h;show Tv PySem.F.slot_dict_getitem.lookup B (aW (D j s σ H _ I h) λu s1 d=>?_);let⟨x,H1,O,n,t⟩:=d;show aW (hi j s1 σ H1 _ O t) λiv s2 d=>?_
 let⟨y,P,e,m,a,b,kvs,bs,k,v,ex,M,J,E,hv,r⟩:=d;subst ex M;obtain rfl:u=fM a:=n;obtain rfl:iv=fM b:=m;symm;let⟨l,hd,xs,l,rel,g⟩:=DV e.aX J;obtain⟨its,q,⟨o1,g1,c1,n1,N⟩,_⟩:=e.tuple E;have key:(tupleKind (gf X.prog X.w)).is s2.heap k b:=⟨o1,its.toArray,n1,g1,c1,N,by simpa using Kf q⟩
 symm;let⟨R,hw,L⟩:=ml.some_of (v:=v) (o:=(atKey xs k).map (·.2)) (by rw[<-hv];show rel.val k);let⟨p,C,z⟩:=mF.mp hw;show⟨g.typeIs,wpAny_getItem_heap (Qf (by lia)) key g C ?_⟩;rw[z];show⟨v,P,e.tok _,L,r⟩
def DI(kvs:List (List Key×D))(k:List Key):Option D:=(kvs.find? λkv=>decide (kv.1=k)).map (·.2)
def zwG(te ti:TD):TD:=λρ Q=>te ρ λr=>ti ρ λrk=>match r.val,rk.val with
 | .dit kvs,.tup a=>∃k d,qE a\k/\DI kvs k\d/\Q (.fz d)
 | _,_=>False
theorem e8.look{K:ar}:∀{ks kvs},e8 K G ks kvs->DI kvs k\d->∃v,fk ks k\v/\Rep K G v d
 | [],[],_,e=>by trivial
 | a::ks,b::kvs,h,e=>by
  simp![e8] at h;unfold DI at e;unfold fk;rw[ju] at e ⊢;rw[h.1.1];by_cases c:b.1=k
  .simp_all
  simp![c,fA] at e ⊢;show e8.look h.2 e
 | [],_::_,h,_=>by simp![e8] at h
 | _::_,[],h,_=>by simp![e8] at h
def ztw(K:X.A.units+64<cLine)(O:PD X e te)(hi:PD X i' ti)(L:wN i':=by intro _ _;rfl):PD X (.Subscript e i' pos) (zwG te ti):=by
 symm;let⟨t,p,q⟩:=O;let⟨t2,F,D⟩:=hi;show⟨_,zrc K p F L,λρ σ x o G H Q P E h k=>q ρ σ x o G H _ _ E h λv H1 r G1 z C M=>?_⟩;symm;obtain⟨Z,j,m,_⟩:=C.freeze z;show D ρ σ x o Z H1 _ _ (E.ext j) M λu W rk G3 y J i=>?_
 symm;obtain⟨Y,f,n,_⟩:=J.freeze y;split at i
 .rename_i kvs es V U;symm;let⟨key,d,N,hl,i⟩:=i;rw[V] at m;rw[U] at n;symm;let⟨a,ks,bs,rfl,S,xZ,B⟩:=m;let⟨b,ys,rfl,R,I⟩:=n;let⟨w,hw,T⟩:=(e8.mono f.g _ _ B).look hl;show⟨a,b,ks,bs,key,w,rfl,rfl,.inl (f.s _ _ (f.g _ _ S)),by rw[<-Ke I N];show f.s.pD R,hw,k w W (.fz d) Y (j.trans f) T i⟩
 show i.elim
end
section
variable{K:ar}
def aU.unset(E:aU K G0 H0 ρ σ G H):aU K G0 H0 (ρ.set i .un) (σ.set i u) G H:=by
 have a:∀j s,gt (ρ.set i .un) j=s->s≠.un->i≠j/\gt ρ j=s:=λj s e f=>by
  rw[mT] at e;by_cases h:i=j/\j<ρ.length
  .rw[if_pos h] at e;show absurd e.symm f
  rw[if_neg h] at e;show⟨λz=>h ⟨z,uA e f⟩,e⟩
 have ss:∀j,i≠j->(σ.set i u)[j]?=σ[j]?:=λj h=>by rw[lC,if_neg h]
 let⟨own,o1,m⟩:=E.on;show⟨E.e,by simp[E.len],λj d h=>?_,λj ds h=>?_,λj k ds l g c b=>?_,own,λj ds p h q=>?_,λj o h=>?_⟩
 .let⟨n,h⟩:=a j _ h ∅;rw[ss j n];show E.fz j d h
 .let⟨n,h⟩:=a j _ h ∅;rw[ss j n];show E.ow j ds h
 .let⟨n,c⟩:=a j _ c ∅;let⟨n2,b⟩:=a k _ b ∅;rw[ss j n,ss k n2];show E.dj j k ds l g c b
 all_goals grind
end
def nU(f:List D->Bool)(l:List (ag×List D)):List V:=(l.filter λp=>f p.2).map λp=>.ref p.1
theorem VZ(f):∀(fp:List ag) dss j,fp.length=dss.length->dss.findIdx? f\j->∃q,fp[j]?\q/\(nU f (fp.zip dss))[0]?\.ref q
 | [],[],j,_,h=>by trivial
 | q::fp,ds::dss,j,a,h=>by
  rw[HI] at h;by_cases hf:f ds=true
  .rw[if_pos hf] at h;cases h;show⟨q,rfl,by simp[nU,hf]⟩
  rw[if_neg hf] at h;let⟨k,b,rfl⟩:=mF.mp h;let⟨r,d,c⟩:=VZ f fp dss k (by simpa using a) b;show⟨r,by trivial,by simpa[nU,hf] using c⟩
 | [],_::_,_,a,_=>by trivial
 | _::_,[],_,a,_=>by trivial
theorem Wh(f):∀dss:List (List D),(dss.findIdx? f=none↔dss.filter f=[])
 | []=>by simp
 | ds::dss=>by
  cbv
section
variable{X:Cx}{m:List (Option Nat)}
def zre{tc:dF}(hm:m[0]?\none)
  (q3:∀s3 H3 ex ρ u U S G H Q P,aU X.K U S ρ u G H->tc ρ Q->(∀b H' p,Ext G H p H'->Q b->P b H')->jh s3 H3 ex u H P)
       {fp:List ag}  (E:aU X.K U S ρ u G H) (Fs:u[iS]?\some (.ref a)) (hH:H a\.lst (fp.map V.ref)) (hr:Rep X.K G (.ref a) (.lst (dss.map .lst)))
  (hl:fp.length=dss.length) (hz:dss.length<=sizeLine) (hf:∀ds∈dss,tc ((cR m ρ).set 0 (.fz (.lst ds))) λb=>b=f ds)
  (k:∀D H' p,Ext G H p H'->H D=none->p D=none->H' D\.lst (nU f (fp.zip dss))->av X.K p (nU f (fp.zip dss)) ((dss.filter f).map .lst)->P (.ref D) H') :
  nZ (RS X.K (uw iS)) m (λ_ _ _=>uC 0) jh (λ_ _ _=>uw 0) u H P:=by
 symm;let⟨a',ys,e0,MC,N⟩:=hr;cases e0;show⟨_,Fs,.inl ⟨a,rfl,⟨_,(E.e.s.cF MC).sq⟩,?_⟩⟩;have Y:=Vm MC N;intro D F s3 ex;have M5:G D=none:=E.e.s.free F;have y:∀{i:Nat}{q:List L2.D},gt (cR m ρ) i=.ow q->False:=λ{i q} h=>by
  unfold cR at h;rw[z5] at h;split at h
  .rename_i o _;unfold oZ at h;split at h
   .cases h
   split at h<;>cases h
  cases h
 have Bo:∀{i:Nat}{o:OV},gt (cR m ρ) i=.ov o->False:=λ{i o} h=>by
  unfold cR at h;rw[z5] at h;split at h
  .rename_i o _;unfold oZ at h;split at h
   .cases h
   split at h<;>cases h
  cases h
 have iX:aU X.K G H (cR m ρ) (kZ m u) G (upd H D (.lst [])):=by
  show⟨.own E.e.s F,by simp[kZ,cR],λi d h=>?_,λi q h=>(y h).elim,λi j q fs _ h=>(y h).elim,λ_=>none,λi q _ h=>(y h).elim,λi o h=>(Bo h).elim⟩;unfold cR at h;rw[z5] at h;split at h
  .rename_i o ho;unfold oZ at h;split at h
   .cases h
   rename_i j;split at h
   .rename_i d' vm;cases h;let⟨v,hv,B⟩:=E.fz j d vm;show⟨v,?_,B⟩;unfold kZ;rw[cx,ho];simp[hv]
   cases h
  cases h
 have lm:0<(cR m ρ).length:=by
  unfold cR;rw[aL];show(cH.mp hm).1
 have O:(dss.map L2.D.lst).length=dss.length:=by show aL ..
 show⟨λi n L H'=>n=dss.length-i/\i<=dss.length/\∃xs p,aU X.K G H (cR m ρ) L p H'/\H' D\.lst xs/\p D=none/\av X.K p xs (((dss.take i).filter f).map .lst)/\xs=nU f ((fp.zip dss).take i),
  ⟨dss.length,∅,cA _,[],G,iX,cW,M5,by trivial,by rfl⟩,?_⟩
 rintro i n L H' ⟨rfl,hi,xs,p,t,hx,Yc,A,z⟩;by_cases J:i<dss.length
 .let⟨w1,w2⟩:=Y;have i3:(dss.map L2.D.lst)[i]?\.lst dss[i]:=by rw[cx,bO J];rfl
  let⟨go,yl⟩:=w1 i _ p H' i3 t.e.g t.e.s;show .inr ⟨go,λhV w=>∃xs p,aU X.K G H (cR m ρ) hV p w/\w D\.lst xs/\p D=none/\av X.K p xs (((dss.take (i+1)).filter f).map .lst)/\xs=nU f ((fp.zip dss).take (i+1)),λhV w h2=>⟨dss.length-(i+1),⋯,rfl,J,h2⟩,λv w hy=>?_⟩;have ev:v=.ref (fp[i]'(by cbv)):=by
   have:=hy.2 _ (bU.of (t.e.h _ _ hH));rw[cx,bO (by cbv)] at this;cases this;rfl
  let⟨G2,W,B⟩:=yl v w hy;have E2:=t.ext W;have E3:aU X.K G H ((cR m ρ).set 0 (.fz (.lst dss[i]))) (L.set 0 (some v)) G2 w:=E2.put (.refl E2.e.s) (r:=.fz (.lst dss[i])) B;show q3 _ _ _ _ _ G H G2 w _ _ E3 (hf dss[i] (kC J)) λb H4 T M Fz=>?_
  have I:=W.trans M;have weak:∀j,gt (cR m ρ) j=.un\/gt (cR m ρ) j=gt ((cR m ρ).set 0 (.fz (.lst dss[i]))) j:=λj=>by
   cases j with
   | zero=>left;unfold cR;rw[z5,hm];rfl
   | succ j=>right;rw[mT,if_neg (by cbv)]
  have x:=(E3.ext M).weak (ρ':=cR m ρ) ∅ weak;have Xq:H4 D\.lst xs:=I.h _ _ hx;have R:T D=none:=I.n D Yc (by rw[hx];show nofun);have tz:(fp.zip dss).take (i+1)=(fp.zip dss).take i++[(fp[i]'(by cbv),dss[i])]:=by
   rw[fB,bO (by rw[zd];cbv),List.getElem_zip];rfl
  have Z:dss.take (i+1)=dss.take i++[dss[i]]:=by rw[fB,bO J];rfl
  subst Fz;cases C:f dss[i] with
  | false=>
   show⟨xs,T,x,Xq,R,by rw[Z,C8];simpa[C] using A.mono I.g,by rw[tz,z];simp[nU,C]⟩
  | true=>
   have l0:0<L.length:=by rw[t.len];show lm
   show⟨v,by rw[lC,if_pos rfl,if_pos l0],xs,Xq,?_,xs++[v],T,?_,cW,R,?_,?_⟩
   .rw[z];unfold nU;rw[aL];show nQ (jY _ _) ?_;rw[eK,zd];lia
   .refine⟨⟨x.e.g,λb o e=>by rw[br (fT e F)];show x.e.h b o e,λb o e=>by rw[br (fT e R)];show x.e.s b o e,x.e.n⟩,x.len,x.fz,λi q h=>(y h).elim,λi j q fs _ h=>(y h).elim,λ_=>none,λi q _ h=>(y h).elim,λi o h=>(Bo h).elim⟩
   .rw[Z,C8,c9];show(A.mono I.g).append ?_;simpa[C] using av.cons (B.mono M.g) av.nil
   rw[tz,z,ev];simp[nU,C]
 have e:i=dss.length:=by lia
 subst e;have tz:(fp.zip dss).take dss.length=fp.zip dss:=mG (by rw[zd];cbv);rw[tz] at z;rw[f6] at A;subst z;show .inl ⟨by have:=Y.2 p H' t.e.g t.e.s;rwa [O] at this,k D H' p t.e F Yc hx A⟩
def Z0(a c e:Nat)(m:List (Option Nat))(tc h:dF)(g:TX):TX:=λD ρ=>a<ρ.length/\a≠c/\a≠e/\match gt ρ c,gt ρ e with
 | .ov (.ll dss),.fz d=>dss.length<=sizeLine/\∃f:List L2.D->Bool,(∀ds∈dss,tc ((cR m (ρ.set c (.fz (.lst (dss.map .lst))))).set 0 (.fz (.lst ds))) λb=>b=f ds)/\
   h ((ρ.set c (.fz (.lst (dss.map .lst)))).set a (.ow ((dss.filter f).map .lst))) (λb=>b=true↔dss.filter f=[])/\
   (dss.findIdx? f=none->g D (ρ.set a .un))/\
   ∀j ds,dss.findIdx? f\j->dss[j]?\ds->ds.length<sizeLine/\D.nx ((ρ.set a .un).set c (.ov (.ll (dss.set j (ds++[d])))))
 | _,_=>False
def ztx(v i Y){W V U T S R p7 p8 A n gD aar aas:aN}(hc:X.calm=true)(cs:iQ X N' m scope)
  (ht:∀s3 e ex,rF (fH X N' scope s3 e ex) s tc) (hcn:PB X c EU) (fq:hJ X ab w)
  (Mz:∀s3 e ex,PG (fH X N' scope s3 e ex) (.Name t V) (uC 0)) (he0:∀s3 e ex,PE (fH X N' scope s3 e ex) (.Name t W) (uw 0))
  (hm:m[0]?\none:=by rfl) (hN:X.N.Nodup:=by assumption) (jN:X.N[v]?\x:=by rfl) (hx:Loc X.env.scope x:=by first | show Or.inl rfl | show Or.inr rfl)
  (hs:∀u,foldedSetIterable (.Name y U) X.env u=pure u:=by intro _;rfl)
  (kq:swapsWith (.ListComp (.Name t W) [⟨.Name t V,.Name y U,s,0⟩] scope pos) (some (.Name x n)) gD.line X.env=pure true:=by rfl)
  (hf:X.fn x=true\/X.env.scope.names.lookup x\.local:=by first | show .inl rfl | show .inr rfl | assumption)
  (hNy:Nm X i y:=by walk_at"nm")
  (hNz:Nm X Y z:=by walk_at"nm")
  (Z:rB X.env.scope x:=by first | show Or.inl rfl | show Or.inr (Or.inl rfl) | show Or.inr (Or.inr rfl)) (md:(x==("__debug__":aa))=false:=by decide) (abj:(x==("__classdict__":aa))=false:=by decide)
  (cY:starEach [.Name z A] X.env=(false,eval (.Name z A) X.env)::starEach [] X.env:=by rfl)
  (hb:∀{w u},PE X (.Subscript (.Name x T) (.Constant (.int 0) c4 S) R) w->PA X [.Name z A] u->PE X (.Call (.Attribute (.Subscript (.Name x T) (.Constant (.int 0) c4 S) R) "append" p7) [.Name z A] [] p8) (uZ X.K "list" uL w u):=by intro w t h1 h2;show uB rW zk zj xx h1 h2) :
  hJ X [.Assign [.Name x n] (.ListComp (.Name t W) [⟨.Name t V,.Name y U,s,0⟩] scope pos) gD,.If c ab [.Expr (.Call (.Attribute (.Subscript (.Name x T) (.Constant (.int 0) c4 S) R) "append" p7) [.Name z A] [] p8) aas] aar] (Z0 v i Y m tc EU w):=by
 symm;let⟨t0,p0,q0⟩:=hcn;let⟨t1,pa,qa⟩:=fq;show⟨_,JV (xh (g:=λ_ _ _=>uC 0) (tc:=λs3 e ex=>(ht s3 e ex).choose) (te:=λ_ _ _=>uw 0) hN jN hx hc cs (Sz (jH hNy)) Mz (λs3 e ex=>(ht s3 e ex).choose_spec.1) he0 hs kq hf)
  (Jp (R4 p0 pa (Jp (uM (hb (zQ Fp (uH jN Z md abj) SQ (λ_ _=>rfl)) (pj (jH hNz) og cY)))))),λρ σ I F G H D E k h g=>?_⟩
 let⟨bx,BJ,qZ,h⟩:=h;split at h
 .rename_i dss d J hgN;let⟨hz,f,hf1,hf2,hf3,hf4⟩:=h;let⟨own,o1,o2⟩:=k.on;obtain⟨a,fp,b1,b2,⟨ha,C⟩,b4⟩:=o2 i _ J;have efr:fP i ρ=ρ.set i (.fz (.lst (dss.map .lst))):=by unfold fP;rw[J];rfl
  have vk:i<ρ.length:=uA J ∅;obtain⟨L,hL,M,_⟩:=k.FW i;rw[efr] at M;let⟨va,Xu,Q⟩:=M.fz i (.lst (dss.map .lst)) (by rw[mT,if_pos ⟨rfl,vk⟩]);rw[b1] at Xu;cases Xu;unfold RK zB;show zre (f:=f) (dss:=dss) (fp:=fp) hm (λs3 e ex=>(ht s3 e ex).choose_spec.2) M b1 ha Q C.length hz hf1 λO H1 G1 x1 hD hG1 Yr hrp=>?_
  have E2:aU X.K I F ((ρ.set i (.fz (.lst (dss.map .lst)))).set v (.ow ((dss.filter f).map .lst))) (σ.set v (some (.ref O))) G1 H1:=M.put x1 (r:=.ow ((dss.filter f).map .lst)) ⟨O,_,rfl,hD,hG1,Yr,hrp⟩;show q0 _ _ I F G1 H1 _ _ E2 hf2 λb e G3 x3 bF=>?_
  have jJ:=x1.trans x3;have xL:=JN hL jJ;have kk:aU X.K I F (ρ.set v .un) (σ.set v (some (.ref O))) (less G3 L) e:=(k.ext xL).unset;cases b with
  | true=>
   show qa _ _ I F _ e D E kk (hf3 ((Wh f dss).mpr (bF.mp rfl))) (g.shift xL.g)
  | false=>
   cases hj:dss.findIdx? f with
   | none=>show absurd (bF.mpr ((Wh f dss).mp hj)) i9
   | some j=>
    symm;let⟨L9,B,qY⟩:=VZ f fp dss j C.length hj;have nk:j<dss.length:=by rw[<-C.length];show(cH.mp B).1
    symm;let⟨hsz,hnx⟩:=hf4 j dss[j] hj (bO nk);let⟨qb,xs,c1,c2,c3⟩:=C.get (bO nk);rw[B] at c1;cases c1;have abb:v<σ.length:=by rw[k.len];show bx
    symm;let⟨vn,hvn,P⟩:=k.fz Y d hgN;have gK:bE (nU f (fp.zip dss)) 0=some (.ref L9):=zsG (j:=0) qY;show⟨_,by rw[lC,if_pos rfl,if_pos abb],O,_,0,_,rfl,rfl,bU.of (x3.h _ _ Yr),gK,.inl ⟨rfl,xs,bU.of (xL.h _ _ c2)⟩,vn,by rw[lC,if_neg qZ];show hvn,?_⟩;show⟨L9,xs,vn,rfl,rfl,xL.h _ _ c2,by rw[c3.length];show hsz,?_⟩;show g.nx _ _ (less G3 L) _ xL.g (kk.tO (o:=.ll dss) (by rw[mT,if_neg (λz=>BJ z.1)];show J) (p:=a) (by rw[lC,if_neg BJ];show b1) λc7 nd ow=>?_) hnx;symm;let⟨nq,iZ⟩:=ow;have e3:c7=fp:=by
     have:=(xL.h _ _ ha).symm.trans nq;injection this with this
     injection this with this
     show((wB λa b h=>by cases h;rfl).mp this).symm
    subst e3;have gu:=eH.mp nd;show⟨c7,nd,⟨?_,iZ.set ((c3.mono xL.g).append (av.cons (P.mono xL.g) av.nil)) gu.2 B⟩,λq hq=>.inl hq,λb hb _=>br λz=>hb (by rw[z];show fL _ (cP B))⟩;rw[br (λz:a=L9=>gu.1 (z▸cP B))];show nq
 show h.elim
def RX:TD:=λ_ Q=>Q (.ov (.ll []))
def zty(h:PD X e (wU cj)):PD X e RX:=by
 let⟨tt,p,q⟩:=h;show⟨tt,p,λρ σ i g G H Q P E h k=>q ρ σ i g G H (λr=>r=.ow []) _ E ⟨by cbv,rfl⟩ λv H' r j x b a=>?_⟩;subst a;let⟨p,xs,rfl,c1,f,d,c⟩:=b;cases xs with
 | cons=>simp![av] at c
 | nil=>show k _ H' (.ov (.ll [])) j x ⟨p,[],rfl,by show fE _ _,⟨d,by simp![cv]⟩,λq a=>by simp at a;subst a;show⟨c1,f⟩⟩ h
def IB(i:Nat)(te:TD):TX:=λD ρ=>match gt ρ i with
 | .ov (.ll dss)=>te ρ λr=>match r with
  | .ow ds=>dss.length<sizeLine/\D.nx (ρ.set i (.ov (.ll (dss++[ds]))))
  | _=>False
 | _=>False
def ztA(i)(W:PD X e te)(hN:Nm X i x:=by walk_at"nm")(cY:starEach [e] X.env=(false,eval e X.env)::starEach [] X.env:=by rfl)
  (F:∀{w t},PE X (.Name x y) w->PA X [e] t->PE X (.Call (.Attribute (.Name x y) "append" M) [e] [] j) (uZ X.K "list" uL w t):=by intro w t Z Y;show uB rW zk zj xx Z Y) :
  PX X (.Expr (.Call (.Attribute (.Name x y) "append" M) [e] [] j) pos) (IB i te):=by
 let⟨t,p,q⟩:=W;show⟨_,uM (F (jH hN) (pj p og cY)),λρ σ G0 H0 G H D E k h g=>?_⟩;unfold IB at h;split at h
 .rename_i dss N;let⟨own,o1,S⟩:=k.on;obtain⟨a,fp,O,b2,⟨o,A⟩,b4⟩:=S i _ N;show⟨_,O,.inl ⟨rfl,_,bU.of o⟩,?_⟩;show q ρ σ G0 H0 G H _ _ k h λv H' r Q d R m=>?_
  split at m
  .rename_i ds;let⟨f,xs,rfl,c1,c2,c3,c4⟩:=R;have B:f≠a:=λz=>by rw[z,o] at c1;cases c1
   show⟨a,fp.map V.ref,.ref f,rfl,rfl,d.h _ _ o,by rw[aL,A.length];show m.1,?_⟩;let P:Hp:=λb=>if b=f then none else H' b
   have J:∀b,b≠f->P b=H' b:=λb h=>if_neg h
   have L:Ext G H Q P:=⟨d.g,λb u e=>by rw[J b (fT e c1)];show d.h b u e,λb u e=>by rw[J b (fT e c2)];show d.s b u e,d.n⟩
   show g.nx _ _ Q _ d.g ((k.ext L).tO N O λI nd ow=>?_) m.2;let⟨T,iZ⟩:=ow;have e3:I=fp:=by
    have:=(L.h _ _ o).symm.trans T;injection this with this
    injection this with this
    show((wB λa b h=>by cases h;rfl).mp this).symm
   subst e3;have gu:=eH.mp nd;have U:f∉I:=λz=>A.here f z c1
   show⟨I++[f],?_,⟨by rw[cW];simp,cv.snoc (A.mono d.g λq m zs e=>?_) (by rw[br B];show c3) c4⟩,λq m=>?_,λb F BY=>?_⟩
   .grind
   .rw[br (λz:q=a=>gu.1 (z▸m))];show d.h _ _ e
   .grind
   have C:b≠f:=λz=>BY (by rw[z];show if_pos rfl)
   rw[br (λz=>F (by show z▸.head _)),J b C]
  show m.elim
 show h.elim
end
end L2
namespace PySem
open Sem (wp)
end PySem
namespace L2
open PySem PySem.Spec PyProof.Rows
end L2
namespace PySem
open Sem (wp)
end PySem
namespace L2
open PySem PySem.Spec PyProof.Rows
namespace SI
open PySem PySem.Spec PyProof.Rows
structure Kn(prog:aG)(w:aF) where
 κ:Type
 dec:DecidableEq κ
 knd:Pd prog w κ
 to:κ->Tok->af
 un:af->κ
 acL:∀x t,knd.is x (to x t)=true
 shape:∀x v,knd.is x v=true->∃t,v=to x t
 acx:∀x t,un (to x t)=x
 sc:∀x t,(to x t).scannable=true
 hv:∀x t,∃b,hashByValue 8 (to x t)=pure b
instance {prog:aG} {w:aF} (kn:Kn prog w):DecidableEq kn.κ:=kn.dec
end SI
end L2
namespace L2
open PySem PySem.Spec PyProof.Rows
namespace SI
end SI
end L2
namespace L2
open PySem PySem.Spec PyProof.Rows
section
variable{P:aG}{w:aF}{K:ar}{mg:aa->Option af}{base:aB}
structure Gp(K:ar)(mg:aa->Option af)(x:aa)(st:bY)(ds:List af):Prop where
 ex:∃(T f:ag)(fd:gH)(o:aR)(n:Nat),rJ (.ref T) K x x st f fd/\mg x\.ref f/\K.lookup T\o/\o.data=.seq ds.toArray n
theorem abz{st:bY}{kV d pm e ct:af}(X:K.In h)(G:h.Ns mainGlobals mg)(a:y7 K mainGlobals x\some (.ref f))
  (l:K.lookup f\⟨j,i,.func (lJ x x (oJ st) (iu st) (de st) (.ref T) kV d pm o e ct),m⟩) (c:vY K e x=true) (k:nK K (.ref f)=true) (t:K.lookup T\⟨tc,g,.seq ds.toArray n,b⟩):Gp K mg x st ds:=
 ⟨T,f,_,_,n,Je l c k,Hb X G a,t,rfl⟩
def rJ.YO{st:bY}{ds d:List af}(F:rJ (.ref T) K x b st f g)(m)(lk:K.lookup T\o)(hd:o.data=.seq ds.toArray n)
  (h:∀kV doc pm an e ct us,us.length=m->∃k:Option (Array af)->Sem (List (aa×af)),bindArgs (lJ x b (oJ st) (iu st) (de st) (.ref T) kV doc pm an e ct) ⟨us,[]⟩=seqItems? (.ref T) >>= k/\k (some ds.toArray)=pure (ps.zip (us++d))) (i:ps.length=m+d.length:=by rfl):Binds K g ps d:=by
 symm;let⟨r,q,kV,doc,pm,an,e,ct,t,rfl,lf,u⟩:=F.ex;intro s us xQ hl;let⟨k,p,j⟩:=h kV doc pm an e ct us (by rw[cD,i] at hl;cbv);show BindsTo.of_defaults rfl (xQ _ _ lk) hd p j
structure yk(P:aG)(w:aF)(K:ar)(mg:aa->Option af)(base:aB)(k:Nat)(x:aa)(n:Nat)(t:bg)(b:Bool):Prop where
 ex:∃(f:ag)(fd:gH)(ps:List aa),jU P w K mg base iw k f fd ps (vF K n t)/\mg x\.ref f/\nK K (.ref f)=true/\Binds K fd ps []/\Binds K fd ps [.bool b]
def yk.all(C:yk P w K mg base k x n t b):Known P w K mg base k x n t:=by
 symm;let⟨f,fd,ps,h,g,e,d,z⟩:=C.ex;show⟨f,fd,ps,h,g,e,d⟩
end
section
variable{k k' n:Nat}{t:bg}{e:ay}{ts:eZ}{b:Bool}
def Jc(n:Nat)(t:bg)(b:Bool)(ts:eZ):TD:=λρ Q=>ts ρ λds=>(ds++[D.bl b]).length=n/\t (ds++[D.bl b]) Q
def zoU(C:yk X.prog X.w X.K X.mg X.base k x n t b)(o:eF k' X.A)(I:iP X (e::es) ts)(u:k<=k':=by decide)(y:Gl X x:=by rfl)(m:(x==("__debug__":aa))=false:=by decide)
  (z:starEach (e::es) X.env=(false,eval e X.env)::starEach es X.env:=by rfl) (J:(backTo pos (starEach es X.env)).any (·.1)=false:=by rfl):PD X (.Call (.Name x p) (e::es) [] pos) (Jc n t b ts):=by
 symm;let⟨f,fd,ps,F,hm,kp,l,B⟩:=C.ex;let⟨tt,pp,q⟩:=I;show⟨_,Uc F (o.mono u) y hm kp B (dvs:=[.bl b]) (.cons rfl .nil) IT pp m z J,λρ σ O M G H Q P E h k=>q ρ σ O M G H _ _ E h λS H' ds R x rs d=>?_⟩;show⟨R,ds++[D.bl b],Q,x.s,rs.append (av.cons (by simp![Rep]) av.nil),d.1,d.2,λv L r N g i j=>k v L r N (x.trans g) (i.m8 x.h) j⟩
end
section
variable{P:aG}{w:aF}{K:ar}{mg:aa->Option af}{base:aB}
def zrf{st:bY}(k)(A:At K mg x st)(S:nF N ps (de st))
  (body:∀f c A outer s H E,eF k (A.deeper (envOfC x (de st) *...* f c))->hJ (kP iw P w K mg base N x (de st) f c A outer s H E).nc (iu st) T)
  (a:∀ds e,ds.length=n->t ds e->T { nx:=λ_=>e (.fz .non),rt:=e } (pf N ds))
  (b:∀kV doc pm an c ct us,us.length=n->bindArgs (lJ x x (oJ st) (iu st) (de st) .none kV doc pm an c ct) ⟨us,[]⟩=pure (ps.zip us)) (g:ps.length=n:=by rfl) (hd:k+1=d:=by rfl):Known P w K mg base d x n t:=by
 subst g hd;let⟨f,fd,F,hm⟩:=A.ex;show⟨f,fd,ps,Jn F S (body f) a,hm,F.kp,F.binds b⟩
theorem cI{st:bY}(k)(A:At K mg x st)
  (e:∀ds h,ds.length=n->t ds h->T { nx:=λ_=>h (.fz .non),rt:=h } (pf N ds))
  (body:N.Nodup->∀f g A outer s H E,eF k (A.deeper (envOfC x (de st) *...* f g))->hJ (kP iw P w K mg base N x (de st) f g A outer s H E).nc (iu st) T)
  (S:nF N (N.take n) (de st):=by walk_at"sc") (b:∀kV doc pm an g ct us,us.length=n->bindArgs (lJ x x (oJ st) (iu st) (de st) .none kV doc pm an g ct) ⟨us,[]⟩=pure ((N.take n).zip us):=by walk_at"bn") (i:(N.take n).length=n:=by rfl) (hd:k+1=d:=by rfl):Known P w K mg base d x n t:=zrf k A S (body S.nd) e b i hd
abbrev cL(P:aG)(w:aF)(K:ar)(mg:aa->Option af)(base:aB)(k:Nat)(x:aa)(N:List aa)(st:bY)(T:TX):Prop:=
 N.Nodup->∀f a A outer s H E,eF k (A.deeper (envOfC x (de st) *...* f a))->hJ (kP iw P w K mg base N x (de st) f a A outer s H E).nc (iu st) T
end
end L2
namespace Ts
open PySem PySem.W PyProof.Rows
end Ts
namespace L2
open PySem PySem.Spec PyProof.Rows
def qo{b:Type}{l:List b}(h:l.length=n+1):∃a r,l=a::r/\r.length=n:=by
 cases l with
 | nil=>cases h
 | cons a r=>show⟨a,r,rfl,Nat.succ.inj h⟩
theorem ZZ{a:Type}{l:List a}(h:l.length=0):l=[]:=zq h
def Iu{b:Type}{l:List b}(h:l.length=1):∃c,l=[c]:=by
 let⟨a,r,e,h⟩:=qo h;show⟨a,by rw[e,ZZ h]⟩
def Ir{b:Type}{l:List b}(h:l.length=2):∃g a1,l=[g,a1]:=by
 symm;let⟨a,r,e,h⟩:=qo h;let⟨f,d⟩:=Iu h;show⟨a,f,by rw[e,d]⟩
def Rx{b:Type}{l:List b}(h:l.length=3):∃i a1 a2,l=[i,a1,a2]:=by
 symm;let⟨a,r,e,h⟩:=qo h;let⟨g,f,d⟩:=Ir h;show⟨a,g,f,by rw[e,d]⟩
def Rw{b:Type}{l:List b}(h:l.length=4):∃m a1 a2 j,l=[m,a1,a2,j]:=by
 symm;let⟨a,r,e,h⟩:=qo h;let⟨i,g,f,d⟩:=Rx h;show⟨a,i,g,f,by rw[e,d]⟩
def Rv{b:Type}{l:List b}(h:l.length=5):∃o a1 a2 n m,l=[o,a1,a2,n,m]:=by
 symm;let⟨a,r,e,h⟩:=qo h;let⟨j,i,g,f,d⟩:=Rw h;show⟨a,j,i,g,f,by rw[e,d]⟩
def Iq{b:Type}{l:List b}(h:l.length=6):∃q a1 a2 p o n,l=[q,a1,a2,p,o,n]:=by
 symm;let⟨a,r,e,h⟩:=qo h;let⟨m,j,i,g,f,d⟩:=Rv h;show⟨a,m,j,i,g,f,by rw[e,d]⟩
def Ru{b:Type}{l:List b}(h:l.length=7):∃t a1 a2 s q p o,l=[t,a1,a2,s,q,p,o]:=by
 symm;let⟨a,r,e,h⟩:=qo h;let⟨n,m,j,i,g,f,d⟩:=Iq h;show⟨a,n,m,j,i,g,f,by rw[e,d]⟩
def Rt{b:Type}{l:List b}(h:l.length=8):∃v a1 a2 u t s q p,l=[v,a1,a2,u,t,s,q,p]:=by
 symm;let⟨a,r,e,h⟩:=qo h;let⟨o,n,m,j,i,g,f,d⟩:=Ru h;show⟨a,o,n,m,j,i,g,f,by rw[e,d]⟩
def zxI{b:Type}{l:List b}(h:l.length=9):∃x a1 a2 w v u t s q,l=[x,a1,a2,w,v,u,t,s,q]:=by
 symm;let⟨a,r,e,h⟩:=qo h;let⟨p,o,n,m,j,i,g,f,d⟩:=Rt h;show⟨a,p,o,n,m,j,i,g,f,by rw[e,d]⟩
open PySem.Builtin PySem.Builtin.Str
end L2
namespace L2.SO
open PySem PySem.Spec PyProof.Rows L2
end L2.SO
namespace L2
open PySem PySem.Spec PyProof.Rows
section
variable{e:ay}{t:TA}
def oD:Option aa->D
 | none=>.non
 | some x=>.str x
end
end L2
namespace PySem
open Sem (wp)
end PySem
namespace L2
open PySem PySem.Spec PyProof.Rows
end L2
namespace Ts
open PySem PySem.W PyProof.Rows
end Ts
namespace L2
open PySem PySem.Spec PyProof.Rows
end L2
namespace Ts
open PySem PySem.W PyProof.Rows
open PySem.SeqAt
end Ts
namespace L2
open PySem PySem.Spec PyProof.Rows
end L2
namespace PySem.W
open PySem PySem.Spec PySem.Calls PyProof.Rows Builtin Builtin.ObjectAttr Builtin.Getset_descriptor
end PySem.W
namespace L2
open PySem PySem.Spec PyProof.Rows
structure M1(X:Cx)(o:ay)(m:aa)(apos:aN)(e:ay)(gL:aN):Prop where
 base:attributeBase o m X.env (eval o X.env)=eval o X.env
 B4:((backTo gL (starEach [e] X.env)).all (λx=>!x.1)&&(backToKw gL (keywordEach [] X.env)).all (λx=>x.1.isSome)
  && decide (([e]:List ay).length+([]:List Keyword).length+(if ([]:List Keyword).isEmpty then 0 else 1)<30))=true
 line:(apos.endLine==gL.line)=true
 trees:backTo gL (starEach [e] X.env)=[(false,eval e X.env)]
open Builtin Builtin.ObjectAttr
abbrev XQ:=aa->aa->R->Prop
end L2
namespace PySem.W
open PySem PySem.Spec PySem.Calls PyProof.Rows Builtin Builtin.ObjectAttr Builtin.Getset_descriptor
end PySem.W
namespace L2
open PySem PySem.Spec PyProof.Rows
end L2
namespace Ts
open PySem PySem.W PyProof.Rows
abbrev Kx:=Sum Int aa
def kv:af->Kx
 | .str x _=>.inr x
 | .int i _=>.inl i
 | _=>.inl 0
end Ts
namespace L2
open PySem PySem.Spec PyProof.Rows
end L2
namespace PySem
open Sem (wp)
end PySem
namespace L2
open PySem PySem.Spec PyProof.Rows
theorem dn(h:@Ne Nat a b):@Ne ag a b:=h
open PySem.SeqAt
end L2
section
namespace Wc
open PySem PySem.Spec PyProof.Rows L2
theorem pd{x:aa}:[x].Nodup:=fE _ _
def top(i:Nat):bY:=PySem.Challenge.pw_wirechannel_k44_finer_pieces.main.body.getD i (.Pass ⟨0,0,0,0⟩)
structure Txt(K:ar)(mg:aa->Option af):Prop where
 b_all:mg "all"=none
 b_dict:mg "dict"=none
 b_enumerate:mg "enumerate"=none
 b_int:mg "int"=none
 b_len:mg "len"=none
 b_list:mg "list"=none
 b_max:mg "max"=none
 b_min:mg "min"=none
 b_range:mg "range"=none
 b_set:mg "set"=none
 b_sorted:mg "sorted"=none
 b_sum:mg "sum"=none
 b_zip:mg "zip"=none
theorem px(i)(h:hJ X a t):hJ X a (RM i t):=zsP i h
def eS(l:List Nat):aa:=⟨l.toArray⟩
def Jt(l):(eS l).cps.toList=l:=by simp[eS]
def jF(l):(eS l).length=l.length:=by rfl
def uK(a b):eS a++eS b=eS (a++b):=by
 show(⟨(eS a).cps++(eS b).cps⟩:aa)=_;simp[eS]
def aaF:eS a=eS b↔a=b:=by
 constructor
 .intro h;have:(eS a).cps.toList=(eS b).cps.toList:=by rw[h]
  simpa[eS] using this
 rintro rfl;rfl
def SS(w):eS w.cps.toList=w:=by cases w;simp[eS]
theorem tq(c):(⟨#[c]⟩:aa)=eS [c]:=rfl
def mU(f:a->b)(l i):bE (l.map f) i=(bE l i).map f:=by
 unfold bE;rw[aL];cases iI l.length i with
 | none=>rfl
 | some j=>simp
def zvn{b a:Type}{f:b->a}{o:Option b}{p:a->Prop}:(∃d,o.map f\d/\p d)↔∃x,o\x/\p (f x):=by
 cases o with
 | none=>simp
 | some x=>simp
def SR{l:List b}{p:a->Prop}:(∃d,bE (l.map f) i\d/\p d)↔∃x,bE l i\x/\p (f x):=by rw[mU];show zvn
def xi{l:List a}{i:Int}(c:0<=i)(b:i<l.length):∃h:i.toNat<l.length,bE l i\l[i.toNat]'h:=by
 show⟨by cbv,?_⟩;unfold bE iI;rw[if_pos c,if_pos b];show bO _
def Js{l:List a}{i:Int}(c:0<=i)(b:i<l.length):∃z,bE l i\z/\z∈l:=by
 let⟨h,e⟩:=xi c b;show⟨_,e,kC h⟩
theorem DZ{l:List a}(i)(b:n<=l.length)(h:0<n):∃z,bE l (i%(n:Int))\z/\z∈l:=
 Js (i7 _ (by lia)) (by have:=oV i (show(0:Int)<n by cbv);lia)
theorem YT{l:List a}(i)(b:l.length=8):∃z,bE l (i%8)\z/\z∈l:=DZ (n:=8) i (by cbv) (by cbv)
theorem at5{l:List a}(i)(b:l.length=8):∃z,bE l (i%5)\z/\z∈l:=DZ (n:=5) i (by cbv) (by cbv)
theorem at3{l:List a}(i)(b:l.length=8):∃z,bE l (i%3)\z/\z∈l:=DZ (n:=3) i (by cbv) (by cbv)
def eV{l:List b}(h:j<l.length):bE l (j:Int)=some l[j]:=by
 let⟨h',e⟩:=xi (l:=l) (i:=(j:Int)) (by room) (by cbv);simpa using e
def Ej(h:0<=j):HT.bR n d (some j)=min j.toNat n:=by show(if j<0 then _ else _)=_;rw[if_neg (by cbv)]
def Jr(l:List a)(h:0<=j):f7 l none (some j)=l.take j.toNat:=by
 unfold f7;rw[Ej h];show((l.drop 0).take (min j.toNat l.length-0))=_;cbv
def EF(l:List a)(h:0<=j):f7 l (some j) none=l.drop j.toNat:=by
 unfold f7;rw[Ej h];show((l.drop (min j.toNat l.length)).take (l.length-_))=_;by_cases b:l.length<=j.toNat
 .simp_all
 rw[vZ (by lia),mG ∅]
def zrh(l:List b)(hi:0<=i)(h:0<=j):f7 l (some i) (some j)=(l.drop i.toNat).take (j.toNat-i.toNat):=by
 unfold f7;rw[Ej h,Ej hi];by_cases d:l.length<=i.toNat
 .simp_all
 rw[vZ (a:=i.toNat) (by lia)];by_cases c:l.length<=j.toNat
 .rw[Nat.min_eq_right c,mG ∅,mG (by simp;lia)]
 rw[vZ (by lia)]
def Jq(l)(h:0<=j):nW (eS l) none (some j)=eS (l.take j.toNat):=by unfold nW;rw[Jt,Jr _ h];rfl
def zoV(l)(h:0<=j):nW (eS l) (some j) none=eS (l.drop j.toNat):=by unfold nW;rw[Jt,EF _ h];rfl
def zri(l)(hi:0<=i)(h:0<=j):nW (eS l) (some i) (some j)=eS ((l.drop i.toNat).take (j.toNat-i.toNat)):=by unfold nW;rw[Jt,zrh _ hi h];rfl
def UY(f:a->b)(l lo hi):f7 (l.map f) lo hi=(f7 l lo hi).map f:=by unfold f7;rw[aL,List.map_take,O4]
def Ei(n i):bH n (.int i)=True:=by cases n<;>show eq_true trivial
def xj(n i):bH n (.str i)=True:=by cases n<;>show eq_true trivial
def zvo(n i):bH n (.bl i)=True:=by cases n<;>show eq_true trivial
def TK(n):bH n .non=True:=by cases n<;>show eq_true trivial
def Eh{c:Type}[BEq c][LawfulBEq c][DecidableEq c](a b:c):(a==b)=decide (a=b):=by rw[v8];simp
def TH(a b):bS (.str a) (.str b)=decide (a=b):=by rfl
def TF(a b):bS (.int a) (.int b)=decide (a=b):=by rfl
def cS:sizeLine=16777216:=by rfl
abbrev TJ:=Nat->Ev->Prop
def nT(u:TX)(D:DE):Ev->Prop:=u D
theorem zvp(t u D ρ):f9 t u D ρ=t { nx:=nT u D,rt:=D.rt,bk:=D.bk,ct:=D.ct } ρ:=rfl
end Wc
open PySem PyProof.Rows L2 Wc
local macro_rules | `(tactic| walk_at"b")=>`(tactic| first | dsimp only[$[$(qn "zvp pA RR RQ YR j5 Ji dC sA zZ zwo zwp fW aT cj aO bT oT t8 List.set gt ux m9 oI dX zE o4 o6 uy j8 wU r8 cR oZ gR mN iW qr Ik qu oEq Fh iH F1 Fg DJ fS RO YJ RP Ni Io IP RL dM Jg wR qA RN RM fP sf uz qB qp lL w6 IS R6 DG Il jb Iw Cp Int.reduceAdd Int.reduceSub Int.reduceMul Int.reduceNeg Int.reducePow Int.reduceToNat eh qe Nat.reduceAdd Se Sd"):ident],*] | simp only[$[$(qn "zuZ zu0 p24 p30 Int.reduceLT Int.reduceLE gF fA true_and and_true and_self or_true true_or Ei xj zvo TK SR cO cC cy oR qc ic TF TH UY sM EJ"):ident],*])
local macro_rules | `(tactic| walk_at"all")=>`(tactic| ((try lk);repeat(dsimp only[nT];try lk)))
local macro_rules | `(tactic| lk)=>`(tactic| (repeat(first | walk_at"b")))
local macro_rules | `(tactic| walk)=>`(tactic| (dsimp only[nT];lk))
local macro_rules | `(tactic| walk_at"nm")=>`(tactic| show⟨rfl,by first | show Or.inl rfl | show Or.inr (Or.inl rfl) | show Or.inr (Or.inr rfl),by decide,by decide⟩)
namespace Wc
open PySem PyProof.Rows L2
def se(c k:Int):Int:=(c%1000000000000000000000000000000*(k*k+48271)+7919*k*k*k+11)%2147483647/7
theorem zvq(c k):0<=se c k:=Pu (i7 _ (by decide)) (by cbv)
def qO:bg:=λds Q=>∃c k:Int,ds=[.int c,.int k]/\0<=k/\k<=1000000/\Q (.fz (.int (se c k)))
def N9:(T:TX) ×' ∀{P w K mg base},Txt K mg->cL P w K mg base 0 "_law_mix" ["_law_cell","_law_k"] (top 50) T:=
 ⟨_,λT nd f c A outer s H E a=>have b:=a.units;
 (aI (cf (aM gI (aM dQ (aM cE (aM cE (aM sg (aM dQ (ae 0) (aM DL ax ax)) (aM cE (aM sg (ae 1) (ae 1)) ax)) (aM sg (aM sg (aM sg ax (ae 1)) (ae 1)) (ae 1))) ax) ax) ax)))⟩
def Lb:TX:=N9.1
abbrev cB(n:Nat)(b:bg)(T:TX)(N:List aa):Prop:=∀ds a,ds.length=n->b ds a->T { nx:=λ_=>a (.fz .non),rt:=a } (pf N ds)
def ziM:cB 2 qO Lb ["_law_cell","_law_k"]:=by
 intro ds f hl h;let⟨c,k,rfl,h0,b,q⟩:=h;show Lb _ [.fz (.int c),.fz (.int k)];unfold Lb N9;dsimp only;walk_at"all";have e:k*k<=1000000*1000000:=Int.mul_le_mul b b h0 (by cbv);have d:0<=k*k:=Int.mul_nonneg h0 h0;show⟨.inl ⟨by lia,by room⟩,.inr ⟨by lia,by lia⟩,.inr ⟨by lia,by room⟩,.inr ⟨by lia,by room⟩,?_⟩;show q
def dO:Option aa->D
 | none=>.non
 | some s=>.str s
def dP(l:List (Option aa)):D:=.lst (l.map dO)
def dS(l:List aa):D:=.lst (l.map .str)
def dI(l:List Int):D:=.lst (l.map .int)
def tN(p:aa×Int):D:=.tup [.str p.1,.int p.2]
def nC(p:Int×aa):D:=.tup [.int p.1,.str p.2]
def vA(p:Int×Int×Int):D:=.tup [.int p.1,.int p.2.1,.int p.2.2]
def dW(l:List (aa×Int)):D:=.lst (l.map tN)
def dB(l:List (Int×aa)):D:=.lst (l.map nC)
def dK(l:List (Int×Int×Int)):D:=.lst (l.map vA)
structure bP where
 top:List (Option aa)
 aH:List (Option aa)
 left:List aa
 right:List aa
 wide:List (aa×Int)
 cZ:List (Int×aa)
 keeps:List (Int×Int×Int)
def bP.parts(c:bP):List D:=[dP c.top,dP c.aH,dS c.left,dS c.right,dW c.wide,dB c.cZ,dK c.keeps]
def bP.obj(c:bP):D:=.obj "Channel" [("top",dP c.top),("bottom",dP c.aH),("left",dS c.left),("right",dS c.right),("wide",dW c.wide),("bends",dB c.cZ),("keeps",dK c.keeps)]
def lR(n o):bH n (dO o)=True:=by
 cases o with
 | none=>show TK n
 | some s=>show xj n s
def o9(a b):bS (dO a) (dO b)=decide (a=b):=by
 cases a<;>cases b<;>simp only[dO,bS,Eh,fJ,reduceCtorEq,gF,fA]
theorem pz(a b):bS (dO a) (.str b)=decide (a\b):=o9 a (some b)
theorem uS(a b):bS (.str a) (dO b)=decide (some a=b):=o9 (some a) b
def zP(w)(l:List aa):inD (.str w) (l.map .str)=decide (w∈l):=by
 unfold inD;rw[tZ];induction l with
 | nil=>rfl
 | cons a r b=>
  rw[oS,b,uh,TH];by_cases h:a=w
  .subst h;simp
  simp[h,Ne.symm h]
def RW(w)(l:List (Option aa)):inD (.str w) (l.map dO)=decide (some w∈l):=by
 unfold inD;rw[tZ];induction l with
 | nil=>rfl
 | cons a r b=>
  rw[oS,b,uh,pz];by_cases h:a\w
  .subst h;simp
  simp[h,Ne.symm h]
def sD(n)(l:List aa):∀e∈l.map D.str,bH n e:=by
 intro e he;rw[bQ] at he;let⟨x,z,rfl⟩:=he;rw[xj];trivial
def Er(n)(l:List (Option aa)):∀e∈l.map dO,bH n e:=by
 intro e he;rw[bQ] at he;let⟨x,z,rfl⟩:=he;rw[lR];trivial
def iO(ws:List aa)(l:List (Option aa)):Prop:=∀w,some w∈l->w∈ws
def EE{c:Type}{D:DE}(L:List c)(b)(hw:∀h:List L2.D->Prop,h (jC (L.map b))->e ρ h)(a:Nat->Ev->Prop)(j:a 0 ρ)
  (turn:∀i x ρ',L[i]?\x->a i ρ'->g (.tup [.int i,b x]) ρ' λk=>f { D with nx:=a (i+1),ct:=a (i+1),bk:=D.nx } k) (fin:∀ρ',a L.length ρ'->D.nx ρ'):nX e g f D ρ:=by
 show UA (jC (L.map b)) hw a j (λi d ρ' hd iv=>?_) (λρ' iv=>fin ρ' (by simpa[jC] using iv));unfold jC at hd;rw[HP,cx] at hd;cases hx:L[i]? with
 | none=>rw[hx] at hd;cases hd
 | some x=>rw[hx] at hd;cases hd;show turn i x ρ' hx iv
theorem VQ:∀{a b c},kK a b=true->kK b c=true->kK a c=true
 | [],[],c,h,_=>by simp[kK] at h
 | [],b::bs,[],_,h=>by assumption
 | [],b::bs,c::cs,_,_=>by simp[kK]
 | a::as,[],c,h,_=>by simp[kK] at h
 | a::as,b::bs,[],_,h=>by assumption
 | a::as,b::bs,c::cs,h,h'=>by
  simp![kK,CP,ic,mK,beq_iff_eq] at h h' ⊢;rcases h with h | ⟨rfl,h⟩
  .rcases h' with h' | ⟨rfl,h'⟩
   .left;lia
   left;cbv
  rcases h' with h' | ⟨rfl,h'⟩
  .left;cbv
  right;show⟨rfl,VQ h h'⟩
theorem T7:∀{a b},kK a b=false->kK b a=false->a=b
 | [],[],_,_=>rfl
 | [],b::bs,h,_=>by simp[kK] at h
 | a::as,[],_,h=>by simp[kK] at h
 | a::as,b::bs,h,h'=>by
  simp![kK,Bool.or_eq_false_iff,kJ,Bool.and_eq_false_iff,beq_eq_false_iff_ne] at h h';have e:a=b:=by lia
  subst e;rw[T7 (h.2.resolve_left λz=>z rfl) (h'.2.resolve_left λz=>z rfl)]
def kY(a b:aa):Prop:=kK a.cps.toList b.cps.toList=true
theorem zo2(h:kY a b)(h':kY b c):kY a c:=VQ h h'
def ztB{a b:aa}(h:a.cps.toList=b.cps.toList):a=b:=by rw[<-SS a,<-SS b,h]
theorem VP:∀{p l},risingS p l=true->(p::l).Nodup->(p::l).Pairwise kY
 | p,[],_,_=>by show fE _ _
 | p,x::r,h,nd=>by
  simp![risingS,mK,kF] at h;rw[eH] at nd;have c:=VP h.2 nd.2;have f:p≠x:=λz=>nd.1 (by show z▸.head _)
  have d:kY p x:=by
   unfold kY;cases e:kK p.cps.toList x.cps.toList with
   | true=>rfl
   | false=>show absurd (ztB (T7 e h.1)) f
  rw[lG];show⟨λb a=>?_,c⟩;rcases bM.mp a with rfl | a
  .exact d
  show zo2 d ((lG.mp c).1 b a)
def Kv(h:sortedS l=true)(nd:l.Nodup):l.Pairwise kY:=by
 cases l with
 | nil=>show .nil
 | cons x r=>show VP h nd
def zO(g:du)(b:TX)(D:DE)(ρ:Ev)(ds:List L2.D):Prop:=∃a:Nat->Ev->Prop,a 0 ρ/\
 (∀i d ρ',ds[i]?\d->a i ρ'->g d ρ' λc=>b { D with nx:=a (i+1),ct:=a (i+1),bk:=D.nx } c)/\∀ρ',a ds.length ρ'->D.nx ρ'
theorem J6{D:DE}(P:List L2.D->Prop)(hw:∀c:List L2.D->Prop,(∀ds,P ds->c ds)->a ρ c)(h:∀ds,P ds->zO g b D ρ ds):nX a g b D ρ:=hw _ h
def EG{c:Type}{D:DE}(L:List c)(b)(a:Nat->Ev->Prop)(f:a 0 ρ)
  (turn:∀i x ρ',L[i]?\x->a i ρ'->g (b x) ρ' λh=>e { D with nx:=a (i+1),ct:=a (i+1),bk:=D.nx } h) (fin:∀ρ',a L.length ρ'->D.nx ρ'):zO g e D ρ (L.map b):=by
 show⟨a,f,λi d ρ' hd iv=>?_,λρ' iv=>fin ρ' (by simpa using iv)⟩;rw[cx] at hd;cases hx:L[i]? with
 | none=>rw[hx] at hd;cases hd
 | some x=>rw[hx] at hd;cases hd;show turn i x ρ' hx iv
def zmQ{c:Type}{D:DE}(L:List c)(b)(a:Nat->Ev->Prop)(f:a 0 ρ)
  (turn:∀i x ρ',L[i]?\x->a i ρ'->g (.tup [.int i,b x]) ρ' λh=>e { D with nx:=a (i+1),ct:=a (i+1),bk:=D.nx } h) (fin:∀ρ',a L.length ρ'->D.nx ρ'):zO g e D ρ (jC (L.map b)):=by
 show⟨a,f,λi d ρ' hd iv=>?_,λρ' iv=>fin ρ' (by simpa[jC] using iv)⟩;unfold jC at hd;rw[HP,cx] at hd;cases hx:L[i]? with
 | none=>rw[hx] at hd;cases hd
 | some x=>rw[hx] at hd;cases hd;show turn i x ρ' hx iv
def zo4(n p):bH (n+1) (tN p):=by
 intro d hd;simp![bM,gN,or_false] at hd;rcases hd with rfl | rfl
 .rw[xj];trivial
 rw[Ei];trivial
def zo5(n p):bH (n+1) (nC p):=by
 intro d hd;simp![bM,gN,or_false] at hd;rcases hd with rfl | rfl
 .rw[Ei];trivial
 rw[xj];trivial
def zrj(n p):bH (n+1) (vA p):=by
 intro d hd;simp only[bM,gN,or_false] at hd;rcases hd with rfl | rfl | rfl<;>(rw[Ei];trivial)
def Ab{a:Type}(f)(l:List a)(h:∀x∈l,bH n (f x)):bH (n+1) (.lst (l.map f)):=by
 intro d hd;rw[bQ] at hd;let⟨x,hx,rfl⟩:=hd;show h x hx
theorem Ss(n l):bH (n+1) (dP l):=Ab dO l λx _=>by rw[lR];trivial
theorem Sr(n l):bH (n+1) (dS l):=Ab D.str l λx _=>by rw[xj];trivial
def zo6(c:bP):bH 3 (.lst c.parts):=by
 intro d hd;simp![bP.parts,bM,gN,or_false] at hd;rcases hd with rfl | rfl | rfl | rfl | rfl | rfl | rfl
 .exact Ss 1 _
 .exact Ss 1 _
 .exact Sr 1 _
 .exact Sr 1 _
 .exact Ab tN _ λx _=>zo4 0 x
 .exact Ab nC _ λx _=>zo5 0 x
 show Ab vA _ λx _=>zrj 0 x
def UX{b:Type}(l:List b)(a):jC (l.map a)=l.zipIdx.map λp=>.tup [.int (p.2:Nat),a p.1]:=by
 unfold jC;apply qh
 .simp
 intro i d c;simp
def dN(n:Nat):D:=.int n
def yb(ns:List Int):Int:=(ns.take 1).sum
def zrk(l:List a)(h):bE l (-1)\l.getLast h:=by
 have b:0<l.length:=Df.mpr h;unfold bE iI;rw[if_neg (by decide),if_pos (by lia)];rw[List.getLast_eq_getElem,show(-1+(l.length:Int)).toNat=l.length-1 by lia];show bO _
theorem qD(o):(R.ov o).sl=.ov o:=rfl
theorem qJ(o):(R.ov o).val=o.val:=rfl
def zrl{d c:Type}(f g)(a:List d)(b:List c):rZ (a.map f) (b.map g)=(a.zip b).map λp=>.tup [f p.1,g p.2]:=by
 unfold rZ;rw[PQ,List.zip,List.map_zipWith]
def zrm(L:List (Option aa)):(L.filter λx=>x.isSome).map dO=(L.filterMap id).map D.str:=by
 induction L with
 | nil=>rfl
 | cons a r b=>cases a<;>simp_all[dO]
def fN:Nat->Int->List Nat
 | 0,_=>[]
 | n+1,c=>(97+(c%26).toNat)::fN n (c/26)
def VO(n c):(fN n c).length=n:=by
 induction n generalizing c with
 | zero=>rfl
 | succ n a=>simp[fN,a]
def UW(n c):∀x∈fN n c,97<=x/\x<=122:=by
 induction n generalizing c with
 | zero=>intro x hx;cases hx
 | succ n a=>
  intro x hx;rcases bM.mp hx with rfl | h
  all_goals grind
def F3:aa:="abcdefghijklmnopqrstuvwxyz"
def zvs:∀k:Fin 26,bE F3.cps.toList (k.val:Int)\(97+k.val):=by decide +kernel
def ztC(c):bE F3.cps.toList (c%26)\(97+(c%26).toNat):=by
 have h0:=i7 c (show(26:Int)≠0 by decide);have a:=oV c (show(0:Int)<26 by decide);have:=zvs ⟨(c%26).toNat,by cbv⟩;simp only at this;rwa [Qv h0] at this
def AN:bg:=λds Q=>∃(c:Int)(n:Nat),ds=[.int c,.int n]/\n<=1000/\Q (.fz (.str (eS (fN n c))))
def N4:(T:TX) ×' ∀{P w K mg base},Txt K mg->cL P w K mg base 0 "_law_stem" ["_law_cell","_law_size","_law_signs","_law_stem_here","_law_k"] (top 48) T:=
 ⟨_,λT nd f c A outer s H E a=>have b:=a.units;
 (az (bD 2 gj nd)
   (az (bD 3 gj nd)
   (az (eN ee rfl (jg T.b_range (ai (ae 1) au)) (aP 4 nd)
    (az (bD 3 (aM cE (ae 3) (aS (ae 2) (aM dQ (ae 0) ax))) nd)
   (aI (bD 0 (aM gI (ae 0) ax) nd))))
   (aI (cf (ae 3))))))⟩
def Lx:TX:=N4.1
def zht:cB 2 AN Lx ["_law_cell","_law_size","_law_signs","_law_stem_here","_law_k"]:=by
 intro ds g hl h;let⟨c,n,rfl,f,q⟩:=h;show Lx _ [.fz (.int c),.fz (.int n),.un,.un,.un];unfold Lx N4;dsimp only;walk_at"all";let e:TJ:=λi ρ=>∃(b:Int)(acc:List Nat)(k:Sl),ρ=[.fz (.int b),.fz (.int n),.fz (.str F3),.fz (.str (eS acc)),k]/\acc.length=i/\acc++fN (n-i) b=fN n c
 show qL n (λj h=>?_) e ⟨_,[],_,rfl,rfl,rfl⟩ ?_ ?_
 .walk_at"all";show⟨by cbv,by lia,by trivial⟩
 .rintro i ρ hi ⟨b,acc,k,rfl,d,he⟩;walk_at"all";show⟨by decide,_,ztC b,?_,_,acc++[97+(b%26).toNat],_,by rw[tq,uK],by simp[d],?_⟩
  .rw[jF,tq,jF,cS];simp;lia
  rw[<-he,show n-i=(n-(i+1))+1 by grind,fN];simp
 rintro ρ ⟨b,acc,k,rfl,d,he⟩;walk_at"all";rw[OU] at he;simp![fN,i8] at he;rw[he];show q
def qI(c:Int):List (List Nat):=
 if c/64%3=0 then [104,103,102,101,100,99,98,97].map λs=>(fN 6 (c/512)).take (c/8%(c%6+1)).toNat++[s]++((fN 6 (c/512)).drop (c/8%(c%6+1)).toNat).take ((c%6).toNat-(c/8%(c%6+1)).toNat)
 else if c/64%3=1 then(aV 8).map λk=>(fN 6 (c/512)).take (c%6%4).toNat++[if k/4=0 then 109 else 116]++[if k/2%2=0 then 110 else 117]++[if k%2=0 then 111 else 118]
 else(aV 6).map (λk=>(fN 6 (c/512)).take (k+1))++[([if (fN 6 (c/512)).headD 0=97 then 98 else 97]++(fN 6 (c/512)).drop 1).take 1,([if (fN 6 (c/512)).headD 0=97 then 98 else 97]++(fN 6 (c/512)).drop 1).take 3]
def DH(i:Int):Int:=(i%1000000000000000000000000+5)*7046029254386353131%1000000000000000000000007
def lQ(i:Int):List aa:=(qI (DH i)).map eS
structure Words(ws:List aa):Prop where
 len:ws.length=8
 sz:∀w∈ws,1<=w.length/\w.length<=6
 F3:∀w∈ws,∀x∈w.cps.toList,97<=x/\x<=122
 nd:ws.Nodup
def RV(x):∃a b c d e f:Nat,fN 6 x=[a,b,c,d,e,f]/\(97<=a/\a<=122)/\(97<=b/\b<=122)/\(97<=c/\c<=122)/\(97<=d/\d<=122)/\(97<=e/\e<=122)/\(97<=f/\f<=122):=by
 have h:=UW 6 x;simp![fN,bM,gN,or_false,forall_eq_or_imp,forall_eq] at h;show⟨_,_,_,_,_,_,by rfl,h.1,h.2.1,h.2.2.1,h.2.2.2.1,h.2.2.2.2.1,h.2.2.2.2.2⟩
def UU{l:List (List Nat)}(h:l.Nodup):(l.map eS).Nodup:=by
 unfold rM at *;rw[iz];show h.imp λa e=>a (aaF.mp e)
def zvu{a b:Type}(f:a->b){l:List a}(h:(l.map f).Nodup):l.Nodup:=by
 unfold rM at *;rw[iz] at h;show h.imp λn e=>n (congrArg f e)
def RU{b a c:Type}(f)(g:a->c)(d:∀x y,g x=g y->x=y){l:List b}(h:(l.map f).Nodup):(l.map λx=>g (f x)).Nodup:=by
 unfold rM at *;rw[iz] at h ⊢;show h.imp λn e=>n (d _ _ e)
def Ku(c):(qI c).length=8/\(qI c).Nodup:=by
 unfold qI;by_cases h0:c/64%3=0
 .rw[if_pos h0];show⟨rfl,RU id _ (λx y e=>(y8 (QW (List.append_cancel_right e))).1) (by decide)⟩
 rw[if_neg h0];by_cases i:c/64%3=1
 .rw[if_pos i];show⟨rfl,RU (λk=>((if k/4=0 then 109 else 116:Nat),(if k/2%2=0 then 110 else 117:Nat),(if k%2=0 then 111 else 118:Nat))) (λl=>(fN 6 (c/512)).take (c%6%4).toNat++[l.1]++[l.2.1]++[l.2.2]) (λx y e=>?_) (by decide)⟩;let⟨e,n⟩:=PN e rfl;let⟨e,m⟩:=PN e rfl;show Gu (y8 (QW e)).1 (Gu (y8 m).1 (y8 n).1)
 rw[if_neg i];let⟨a,b,g,d,e,f,j,z⟩:=RV (c/512);rw[j];have h:¬a=if a=97 then 98 else 97:=by split<;>ext
 show _/\rM [[a],[a,b],[a,b,g],[a,b,g,d],[a,b,g,d,e],[a,b,g,d,e,f],[if a=97 then 98 else 97],[if a=97 then 98 else 97,b,g]];generalize (if a=97 then 98 else 97)=o at h;show⟨rfl,zvu (λl=>(l.length,decide (l.headD 0=o))) ?_⟩;show rM [(1,decide (a=o)),(2,decide (a=o)),(3,decide (a=o)),(4,decide (a=o)),(5,decide (a=o)),(6,decide (a=o)),(1,decide (o=o)),(3,decide (o=o))];rw[decide_eq_false h,decide_eq_true rfl];decide
def zo7(c):(qI c).length=8/\(∀w∈qI c,(1<=w.length/\w.length<=6)/\∀x∈w,97<=x/\x<=122)/\(qI c).Nodup:=by
 show⟨(Ku c).1,?_,(Ku c).2⟩;have d:=UW 6 (c/512);have e:=VO 6 (c/512);have s0:0<=c%6:=i7 _ (by decide);have s1:c%6<6:=oV _ (by decide);have ap:∀{l m:List Nat},(∀x∈l,97<=x/\x<=122)->(∀x∈m,97<=x/\x<=122)->∀x∈l++m,97<=x/\x<=122:=λf r x hx=>(bJ.mp hx).elim (f x) (r x)
 have tk:∀{l:List Nat}(n:Nat),(∀x∈l,97<=x/\x<=122)->∀x∈l.take n,97<=x/\x<=122:=λn h x hx=>h x (uj hx)
 unfold qI;by_cases h0:c/64%3=0
 .rw[if_pos h0];have t0:0<=c/8%(c%6+1):=i7 _ (by lia);have t1:c/8%(c%6+1)<c%6+1:=oV _ (by grind);generalize c/8%(c%6+1)=at' at *;generalize c%6=z at *;generalize fN 6 (c/512)=st at *;let⟨n,rfl⟩:=QV s0;let⟨m,rfl⟩:=QV t0;intro w hw;rw[bQ] at hw;let⟨s,j,rfl⟩:=hw;show⟨?_,ap (ap (tk _ d) λx hx=>?_) (tk _ λx hx=>d x (rV hx))⟩
  .rw[cD,cD,eK,eK,kE,e];show 1<=min m 6+1+min (n-m) (6-m)/\min m 6+1+min (n-m) (6-m)<=6;lia
  rw[fj.mp hx];show(by decide:∀s∈[104,103,102,101,100,99,98,97],97<=s/\s<=122) s j
 rw[if_neg h0];have on:∀{p:Prop}[Decidable p]{a b:Nat},(97<=a/\a<=122)->(97<=b/\b<=122)->∀x∈[if p then a else b],97<=x/\x<=122:=λq o x hx=>by
  rw[fj.mp hx];split
  .exact q
  show o
 by_cases f:c/64%3=1
 .rw[if_pos f];have t:(c%6%4).toNat<4:=by ext
  generalize (c%6%4).toNat=m at *;generalize fN 6 (c/512)=st at *;intro w hw;rw[bQ] at hw;let⟨k,g,rfl⟩:=hw;show⟨?_,ap (ap (ap (tk _ d) (on (by decide) (by decide))) (on (by decide) (by decide))) (on (by decide) (by decide))⟩;rw[cD,cD,cD,eK,e];show 1<=min m 6+1+1+1/\min m 6+1+1+1<=6;lia
 rw[if_neg f];generalize fN 6 (c/512)=st at *;have hd:=ap (on (p:=st.headD 0=97) (a:=98) (b:=97) (by decide) (by decide)) λx hx=>d x (rV (i:=1) hx)
 intro w hw;rcases bJ.mp hw with hw | hw
 .let⟨k,g,rfl⟩:=bQ.mp hw;show⟨?_,tk _ d⟩;rw[eK,e,vZ (by have:=eG.mp g;trivial)];have:=eG.mp g;lia
 rcases bM.mp hw with rfl | hw
 .exact⟨⟨bB 1,(by show iy _:1<=6)⟩,tk _ hd⟩
 rw[fj.mp hw];show⟨?_,tk _ hd⟩;rw[eK,cD,kE,e];show 1<=min 3 (1+5)/\min 3 (1+5)<=6;decide
def zo8(i):(lQ i).length=8/\(lQ i).Nodup:=by
 let⟨b,a⟩:=Ku (DH i);show⟨by simp[lQ,b],UU a⟩
def zo9(i):Words (lQ i):=by
 let⟨d,b,c⟩:=zo7 (DH i);show⟨by simp[lQ,d],λw hw=>?_,λw hw=>?_,UU c⟩
 .unfold lQ at hw;rw[bQ] at hw;let⟨l,a,rfl⟩:=hw;show(b l a).1
 unfold lQ at hw;rw[bQ] at hw;let⟨l,a,rfl⟩:=hw;show(b l a).2
def AV:bg:=λds Q=>∃i:Int,ds=[.int i]/\Q (.ow ((lQ i).map .str))
def zgE:(["_law_sign","_law_stem_here","_law_at","_law_size"]:List aa).Nodup:=by decide +kernel
def zgF:(["_law_k","_law_stem_here","_law_size"]:List aa).Nodup:=by decide +kernel
def zgG:(["_law_k","_law_stem_here"]:List aa).Nodup:=by decide +kernel
def N8:(T:TX) ×' ∀{P w K mg base},Txt K mg->~~~1 "_law_stem" 2 AN->cL P w K mg base 1 "_law_named" ["_law_cell","_law_size","_law_stem_here","_law_at","_law_other"] (top 49) T:=
 ⟨_,λT yN nd f d A outer s H E c=>have b:=c.units;
 (az (bD 0 (aM dQ (aM sg (aM cE (aM dQ (ae 0) (aM DL ax ax)) ax) ax) (aM cE (aM DL ax ax) ax)) nd)
   (az (bD 1 (aM dQ (ae 0) ax) nd)
   (az (bD 2 (bC yN c (ai (aM gI (ae 0) ax) (ai ax au))) nd)
   (az (bD 3 (aM dQ (aM gI (ae 0) ax) (aM cE (ae 1) ax)) nd)
   (az (cU (bG (fF b) (aM dQ (aM gI (ae 0) ax) ax) ax) (aI (cf (fU rfl (.of (N':=["_law_sign","_law_stem_here","_law_at","_law_size"]) (m:=[none,some 2,some 3,some 1]) (by kernel_rfl)) ez (c6 gj) (λs3 a ex=>(aP 0 zgE)) (λs3 a ex=>gc) (λs3 a ex=>(aM cE (aM cE (kd (ae 1) lT (jf (ae 2))) (ae 0)) (kd (ae 1) (jf (ae 2)) (jf (ae 3)))))))) cT)
   (az (cU (bG (fF b) (aM dQ (aM gI (ae 0) ax) ax) ax) (aI (cf (fU rfl (.of (N':=["_law_k","_law_stem_here","_law_size"]) (m:=[none,some 2,some 1]) (by kernel_rfl)) ez (jg T.b_range (ai ax au)) (λs3 a ex=>(aP 0 zgF)) (λs3 a ex=>gc) (λs3 a ex=>(aM cE (aM cE (aM cE (kd (ae 1) lT (jf (aM dQ (ae 2) ax))) (aS gj (aM gI (ae 0) ax))) (aS gj (aM dQ (aM gI (ae 0) ax) ax))) (aS gj (aM dQ (ae 0) ax))))))) cT)
   (az (bD 4 (aM cE (aS gj (kf zwr T.b_int boot_int (ai (uG (fF b) (aS (ae 2) ax) gj) au))) (kd (ae 2) (jf ax) lT)) nd)
   (aI (cf (aM cE (fU rfl (.of (N':=["_law_k","_law_stem_here"]) (m:=[none,some 2]) (by kernel_rfl)) ez (jg T.b_range (ai ax au)) (λs3 a ex=>(aP 0 zgG)) (λs3 a ex=>gc) (λs3 a ex=>(kd (ae 1) lT (jf (aM cE (ae 0) ax))))) (eA (ai (kd (ae 4) lT (jf ax)) (ai (kd (ae 4) lT (jf ax)) au)))))))))))))⟩
def Lj:TX:=N8.1
def zwK(k:Nat)(h:k<8):bE (fh "mt").cps.toList ((k:Int)/4)=some (if k/4=0 then 109 else 116):=by
 have:∀k:Fin 8,bE (fh "mt").cps.toList ((k.val:Int)/4)=some (if k.val/4=0 then 109 else 116):=by decide +kernel
 show this ⟨k,h⟩
def zwL(k:Nat)(h:k<8):bE (fh "nu").cps.toList ((k:Int)/2%2)=some (if k/2%2=0 then 110 else 117):=by
 have:∀k:Fin 8,bE (fh "nu").cps.toList ((k.val:Int)/2%2)=some (if k.val/2%2=0 then 110 else 117):=by decide +kernel
 show this ⟨k,h⟩
def zwM(k:Nat)(h:k<8):bE (fh "ov").cps.toList ((k:Int)%2)=some (if k%2=0 then 111 else 118):=by
 have:∀k:Fin 8,bE (fh "ov").cps.toList ((k.val:Int)%2)=some (if k.val%2=0 then 111 else 118):=by decide +kernel
 show this ⟨k,h⟩
def zgH:cB 1 AV Lj ["_law_cell","_law_size","_law_stem_here","_law_at","_law_other"]:=by
 intro ds D hl h;let⟨i,rfl,q⟩:=h;show Lj _ [.fz (.int i),.un,.un,.un,.un];unfold Lj N8;dsimp only;walk_at"all";unfold lQ qI DH at q;generalize (i%1000000000000000000000000+5)*7046029254386353131%1000000000000000000000007=c at q ⊢;have s0:0<=c%6:=i7 _ (by decide);show⟨c/512,6,rfl,by decide,by grind,?_⟩;have t0:0<=c/8%(c%6+1):=i7 _ (by lia);have y:=VO 6 (c/512);have big:=cS;by_cases h0:c/64%3=0
 .rw[if_pos h0] at q;rw[if_pos h0];show g4 [104,103,102,101,100,99,98,97] (λc=>.str ⟨#[c]⟩) (λs=>.str (eS ((fN 6 (c/512)).take (c/8%(c%6+1)).toNat++[s]++((fN 6 (c/512)).drop (c/8%(c%6+1)).toNat).take ((c%6).toNat-(c/8%(c%6+1)).toNat)))) (λr h=>?_) (by decide) (λs g t k=>?_) ?_
  .walk_at"all";show h
  .walk_at"all";rw[Jq _ t0,zri _ t0 s0,tq,uK,uK];show⟨by rw[jF];cbv,?_,by rw[jF];cbv,?_,k⟩
   .simp![jF,eK,eh,qe];ext
   simp![jF,cD,eK,kE,eh,qe];lia
  show q
 rw[if_neg h0] at q;rw[if_neg h0];by_cases j:c/64%3=1
 .rw[if_pos j] at q;rw[if_pos j];have v:0<=c%6%4:=i7 _ (by decide);show g4 (aV 8) (λ(i:Nat)=>.int (0+i)) (λk=>.str (eS ((fN 6 (c/512)).take (c%6%4).toNat++[if k/4=0 then 109 else 116]++[if k/2%2=0 then 110 else 117]++[if k%2=0 then 111 else 118]))) (λr h=>?_) (by decide) (λs g t k=>?_) ?_
  .walk_at"all";show h
  .have n:s<8:=by simpa using g
   rw[t4];walk_at"all";rw[Jq _ v];show⟨by rw[jF];cbv,by decide,_,zwK s n,?_,by decide,_,zwL s n,?_,by decide,_,zwM s n,?_,?_⟩
   .simp![jF,tq,eK,eh,qe];grind
   .simp![jF,tq,uK,cD,eK,eh,qe];grind
   .simp![jF,tq,uK,cD,eK,eh,qe];grind
   simp![tq,uK];show k
  show q
 rw[if_neg j] at q;rw[if_neg j];let⟨a,b,p,d,e,f,g,C,B,A,hd,he,hf⟩:=RV (c/512);rw[g] at q ⊢;have x:bE (eS [a,b,p,d,e,f]).cps.toList 0\a:=by rfl
 show⟨by rw[jF];simp;trivial,a,x,?_⟩;have w:bE (fh "ab").cps.toList (if (⟨#[a]⟩:aa)=fh "a" then 1 else 0)=some (if a=97 then 98 else 97):=by
  by_cases o:a=97
  .subst o;rfl
  have:¬((⟨#[a]⟩:aa)=fh "a"):=by
   intro z;have m:(⟨#[a]⟩:aa).cps.toList=(fh "a").cps.toList:=by rw[z]
   have u:(fh "a").cps.toList=[97]:=by rfl
   rw[u] at m;simp at m;show o m
  rw[if_neg this,if_neg o];rfl
 show⟨by decide,_,w,?_⟩;walk_at"all";rw[zoV _ (by cbv),tq,uK];show⟨by rw[jF];simp;trivial,by simp![jF];simp;trivial,?_⟩;show g4 (aV 6) (λ(i:Nat)=>.int (0+i)) (λk=>.str (eS ([a,b,p,d,e,f].take (k+1)))) (λr h=>?_) (by decide) (λs g t k=>?_) ?_
 .walk_at"all";show h
 .walk_at"all";rw[Jq _ (by room),show(0+(s:Int)+1).toNat=s+1 by cbv];show⟨by rw[jF];simp;trivial,k⟩
 walk_at"all";show⟨by rw[jF];simp;trivial,by rw[jF];simp;trivial,by decide,by simp;trivial,?_⟩;show q
def AM:bg:=λds Q=>∃(ws:List aa)(cells:List Int)(a:Int)(W:Nat),ds=[dS ws,dI cells,.int a,.int W]/\ws.length=8/\W<=40/\
 ∀top aH:List (Option aa),top.length=W->aH.length=W->iO ws top->iO ws aH->Q (.fz (.tup [dP top,dP aH]))
def N6:(T:TX) ×' ∀{P w K mg base},Txt K mg->~~~1 "_law_mix" 2 qO->cL P w K mg base 1 "_law_pins" ["_law_words","_law_cells","_law_seed","_law_width","_law_top","_law_bottom","_law_c","_law_row","_law_side","_law_k","_law_one"] (top 51) T:=
 ⟨_,λT fg nd f c A outer s H E a=>have b:=a.units;
 (az (gT 4 (eA au) nd)
   (az (gT 5 (eA au) nd)
   (az (eN ee rfl (jg T.b_range (ai (ae 3) au)) (aP 6 nd)
    (az (gT 7 (eA au) nd)
   (az (eN ee rfl (jg T.b_range (ai ax au)) (aP 8 nd)
    (az (bD 9 (aM cE (aM sg ax (ae 6)) (ae 8)) nd)
   (az (bD 10 (bC fg a (ai (ae 2) (ai (ae 9) au))) nd)
   (az (cU (bG qv (ae 9) (dD jc T.b_len ig (ai (ae 1) au))) (aI (bD 10 (bC fg a (ai (aS (ae 1) (ae 9)) (ai (ae 9) au))) nd)) cT)
   (aI (jE 7 (aS (eA (ai (aS (ae 0) (aM dQ (ae 10) ax)) (ai (aS (ae 0) (aM dQ (aM gI (ae 10) ax) ax)) (ai (aS (ae 0) (aM dQ (aM gI (ae 10) ax) ax)) (ai fO au))))) (aM dQ (aM gI (ae 10) ax) ax))))))))
   (az (jE 4 (w8 7 ax))
   (aI (jE 5 (w8 7 ax)))))))
   (px 5 (px 4 (aI (cf (gi (ai (ae 4) (ai (ae 5) au))))))))))⟩
def Lw:TX:=N6.1
theorem J5(ws):iO ws []:=λw h=>by cases h
theorem Kt(h:iO ws l)(hx:∀w,x\w->w∈ws):iO ws (l++[x]):=λw hw=>by
 rcases bJ.mp hw with a | a
 .exact h w a
 show hx w (fj.mp a).symm
def zhu:cB 4 AM Lw ["_law_words","_law_cells","_law_seed","_law_width","_law_top","_law_bottom","_law_c","_law_row","_law_side","_law_k","_law_one"]:=by
 intro ds O hl h;symm;let⟨ws,cells,f,W,rfl,m,N,q⟩:=h;show Lw _ [.fz (dS ws),.fz (dI cells),.fz (.int f),.fz (.int W),.un,.un,.un,.un,.un,.un,.un];unfold Lw N6;dsimp only;have big:=cS;lk;show⟨by show cA _,?_⟩;walk;show⟨by show cA _,?_⟩;walk;let L:TJ:=λi ρ=>∃(top aH:List (Option aa))(a b c d e:Sl),ρ=[.fz (dS ws),.fz (dI cells),.fz (.int f),.fz (.int W),.ow (top.map dO),.ow (aH.map dO),a,b,c,d,e]/\top.length=i/\aH.length=i/\iO ws top/\iO ws aH
 show qL W (λJ h=>?_) L ⟨[],[],_,_,_,_,_,rfl,rfl,rfl,J5 _,J5 _⟩ ?_ ?_
 .lk;show⟨by cbv,by lia,by trivial⟩
 .rintro i ρ hi ⟨top,aH,a,b,c,d,e,rfl,o,r,pt,pb⟩;lk;show⟨by show cA _,?_⟩;walk;let K:TJ:=λj ρ=>∃(row:List (Option aa))(c d e:Sl),ρ=[.fz (dS ws),.fz (dI cells),.fz (.int f),.fz (.int W),.ow (top.map dO),.ow (aH.map dO),.fz (.int i),.ow (row.map dO),c,d,e]/\row.length=j/\iO ws row
  show qL 2 (λJ h=>?_) K ⟨[],_,_,_,rfl,rfl,J5 _⟩ ?_ ?_
  .lk;show h
  .rintro j ρ M ⟨row,c,d,e,rfl,p,pr⟩;lk;walk;have g:(0:Int)<=2*(i:Int)+j:=by show C7 _
   have k1:2*(i:Int)+j<=1000000:=by lia
   show⟨f,_,rfl,g,k1,?_⟩;walk;unfold dI;lk;split
   focus
    rename_i A;rw[aL] at A;symm;obtain⟨z,hz,_⟩:=Js (l:=cells) g A;show⟨z,hz,z,_,rfl,g,k1,?_⟩
   all_goals
    generalize se _ _=one;walk;unfold dS;lk;symm;let⟨u,I,D⟩:=YT one m;let⟨t,H,C⟩:=at3 (one/8) m;let⟨s,F,B⟩:=at5 (one/8) m;show⟨u,I,t,H,s,F,⋯,?_⟩;have E:=DZ (l:=[some u,some t,some s,none]) (n:=4) (one/64) ∅ (by decide);symm;let⟨z,hz,v⟩:=E;show⟨dO z,?_,by simp;ext,row++[z],_,_,_,by rw[c9];rfl,by simp[p],Kt pr ?_⟩
    .have:=congrArg (Gx dO) hz;rw[<-mU] at this;show this
    intro w hw;subst hw;simp![bM,fJ,gN,or_false,reduceCtorEq] at v;symm;rcases v with rfl | rfl | rfl
    .exact D
    .exact C
    show B
  rintro ρ ⟨row,c,d,e,rfl,p,pr⟩;obtain⟨x,y,rfl⟩:∃x y,row=[x,y]:=by
   match row,p with
   | [x,y],_=>show⟨x,y,rfl⟩
  walk;show⟨dO x,rfl,by simp;lia,?_⟩;walk;show⟨dO y,rfl,by simp;lia,top++[x],aH++[y],_,_,_,_,_,by rw[c9,c9];rfl,by simp[o],by simp[r],Kt pt λw hw=>pr w (by show hw▸.head _),Kt pb λw hw=>pr w (by show hw▸.tail _ (.head _))⟩
 rintro ρ ⟨top,aH,a,b,c,d,e,rfl,o,r,pt,pb⟩;walk;show⟨by trivial,q top aH o r pt pb⟩
def jr(top aH:List (Option aa))(left right:List aa)(w:aa):Nat:=top.count (some w)+aH.count (some w)+left.count w+right.count w
def A3:bg:=λds Q=>∃top aH left right w,ds=[dP top,dP aH,dS left,dS right,.str w]/\top.length+aH.length+left.length+right.length<=100000/\Q (.fz (.int (jr top aH left right w)))
def Oa:(T:TX) ×' ∀{P w K mg base},Txt K mg->cL P w K mg base 0 "_law_many" ["_law_top","_law_bottom","_law_left","_law_right","_law_word","_law_some"] (top 52) T:=
 ⟨_,λT nd f c A outer s H E b=>have a:=b.units;
 (az (bD 5 (aM cE (aM cE (aM cE (ae 0) (ae 1)) (ae 2)) (ae 3)) nd)
   (aI (cf (zs2 (zs3 a) (.inl rfl) rW QY PySem.F.type_list_count (ae 5) (ai (ae 4) au)))))⟩
def Lv:TX:=Oa.1
def Sq(w)(l:List (Option aa)):nV (.str w) (l.map dO)=l.count (some w):=by
 unfold nV;rw[Pt,OF];congr 1
 funext x
 simp![uh,pz];rw[Eh]
def So(w)(l:List aa):nV (.str w) (l.map D.str)=l.count w:=by
 unfold nV;rw[Pt,OF];congr 1
def JZ(d a b):nV d (a++b)=nV d a+nV d b:=by show List.countP_append
def zhv:cB 5 A3 Lv ["_law_top","_law_bottom","_law_left","_law_right","_law_word","_law_some"]:=by
 intro ds b hl h;symm;let⟨top,aH,left,right,w,rfl,hz,q⟩:=h;show Lv _ [.fz (dP top),.fz (dP aH),.fz (dS left),.fz (dS right),.fz (.str w),.un];unfold Lv Oa;dsimp only;have big:=cS;lk;show⟨by simp;lia,by simp;lia,by simp;lia,?_⟩;walk;show⟨rfl,?_,?_⟩
 .intro e he;simp![bJ] at he;rcases he with((he | he) | he) | he
  .exact Er 8 top e he
  .exact Er 8 aH e he
  .exact sD 8 left e he
  show sD 8 right e he
 rw[JZ,JZ,JZ,Sq,Sq,So,So];show q
def Dz(l a):l.map D.int++[D.int a]=(l++[a]).map D.int:=by simp
def places(top aH:List (Option aa))(left right:List aa)(w:aa):List Int:=
 (((aV top.length).filter λc=>top[c]?==some (some w)||aH[c]?==some (some w)).map λ(c:Nat)=>(c:Int))++(if w∈left then [-1] else [])++(if w∈right then [(top.length:Int)] else [])
def YW(m:Int)(l:List Int):Prop:=m∈l/\∀a∈l,m<=a
def YX(m:Int)(l:List Int):Prop:=m∈l/\∀a∈l,a<=m
def A7:bg:=λds Q=>∃top aH left right w,ds=[dP top,dP aH,dS left,dS right,.str w]/\aH.length=top.length/\top.length<=100/\left.length<=100/\right.length<=100/\
 ∀m M,YW m (places top aH left right w++[99])->YX M (places top aH left right w++[-9])->Q (.fz (.tup [.int m,.int M]))
def ze9:(["_law_c","_law_word","_law_top","_law_bottom"]:List aa).Nodup:=by decide +kernel
def N3:(T:TX) ×' ∀{P w K mg base},Txt K mg->cL P w K mg base 0 "_law_stretch" ["_law_top","_law_bottom","_law_left","_law_right","_law_word","_law_places"] (top 53) T:=
 ⟨_,λT nd f d A outer s H E c=>have a:=c.units;
 (az (D9 5 rfl (.of (N':=["_law_c","_law_word","_law_top","_law_bottom"]) (m:=[none,some 4,some 0,some 1]) (by kernel_rfl)) ez (jg T.b_range (ai (dD jc T.b_len ig (ai (ae 0) au)) au)) (λs3 b ex=>(aP 0 ze9)) (λs3 b ex=>(jG (bG (qt a) (ae 1) (eA (ai (aS (ae 2) (ae 0)) (ai (aS (ae 3) (ae 0)) au)))))) (λs3 b ex=>(ae 0)) nd)
   (az (cU (bG (qt a) (ae 4) (ae 2)) (aI (jE 5 (zY ax))) cT)
   (az (cU (bG (qt a) (ae 4) (ae 3)) (aI (jE 5 (dD jc T.b_len ig (ai (ae 0) au)))) cT)
   (px 5 (aI (cf (gi (ai (dD (IL rfl) T.b_min Cq (ai (aM cE (ae 5) (eA (ai ax au))) au)) (ai (dD (IU rfl) T.b_max Gr (ai (aM cE (ae 5) (eA (ai (zY ax) au))) au)) au)))))))))⟩
def LJ:TX:=N3.1
def zfa:cB 5 A7 LJ ["_law_top","_law_bottom","_law_left","_law_right","_law_word","_law_places"]:=by
 intro ds y hl h;symm;let⟨top,aH,left,right,w,rfl,b,v,u,x,q⟩:=h;show LJ _ [.fz (dP top),.fz (dP aH),.fz (dS left),.fz (dS right),.fz (.str w),.un];unfold LJ N3;dsimp only;have big:=cS;unfold dP dS;lk;show lW (aV top.length) (λ(i:Nat)=>.int (0+i)) (λ(i:Nat)=>.int i) (λc=>top[c]?==some (some w)||aH[c]?==some (some w)) (λz h=>?_) (by simp;lia) (λc p A B k1 n=>?_) ?_
 .lk;rw[aL];show⟨by cbv,by lia,by trivial⟩
 .have d:c<top.length:=by simpa using p
  rw[t4];lk;show⟨_,eV d,_,eV (l:=aH) (by cbv),by trivial,?_,?_⟩
  .intro e he;simp only[bM,gN,or_false] at he;rcases he with rfl | rfl<;>(rw[lR];trivial)
  have r:inD (.str w) [dO top[c],dO aH[c]]=(top[c]?==some (some w)||aH[c]?==some (some w)):=by
   unfold inD;simp![oS,List.any_nil,G9,pz];rw[bO d,bO (l:=aH) (by cbv),Eh,Eh];simp
  rw[r];cases b:(top[c]?==some (some w)||aH[c]?==some (some w)) with
  | true=>show k1 b
  | false=>show n b
 have e:∀L:List Nat,(L.map λ(i:Nat)=>D.int i)=(L.map (λ(c:Nat)=>(c:Int))).map D.int:=λL=>by simp
 rw[e];have hlen:(((aV top.length).filter λc=>top[c]?==some (some w)||aH[c]?==some (some w)).map λ(c:Nat)=>(c:Int)).length<=100:=by
  rw[aL];show bX (jY _ _) ?_;simp;ext
 unfold places at q;generalize (((aV top.length).filter λc=>top[c]?==some (some w)||aH[c]?==some (some w)).map λ(c:Nat)=>(c:Int))=base at q hlen ⊢;walk;show⟨sD 8 left,?_⟩;rw[zP];by_cases g:w∈left<;>by_cases f:w∈right
 all_goals
  simp only[g,f,cy,cC,i8] at q;simp only[g,gF,fA,cy,cO,cC];try(with_reducible show⟨by simp;ext,?_⟩)
  walk;show⟨sD 8 right,?_⟩;rw[zP];simp only[f,gF,fA,cy,cO,cC];try(with_reducible show⟨by simp;ext,?_⟩)
  try simp only[Dz,aL]
  walk;show⟨⋯,by simp;ext,?_⟩;try simp only[Dz,zG,DF,sM]
  show⟨∅,λm j o=>?_⟩;show⟨⋯,by simp;ext,?_⟩;try simp only[Dz,sM]
  show⟨∅,λM t s=>?_⟩;show⟨⋯,q m M ⟨by simpa using j,by simpa using o⟩ ⟨by simpa using t,by simpa using s⟩⟩
structure yS(top aH:List (Option aa))(left right ws:List aa)(cZ:List (Int×aa)):Prop where
 len:cZ.length<=top.length
 up:cZ.Pairwise λa b=>a.1<b.1
 at_:∀p∈cZ,∃n:Nat,p.1=n/\n<top.length/\p.2∈ws/\(∃m M,YW m (places top aH left right p.2++[99])/\YX M (places top aH left right p.2++[-9])/\m<p.1/\p.1<M)/\((top[n]?\none/\aH[n]?\none)\/top[n]?\some p.2\/aH[n]?\some p.2)
def AU:bg:=λds Q=>∃top aH left right ws cells a,ds=[.lst [dP top,dP aH,dS left,dS right],dS ws,dI cells,.int a]/\aH.length=top.length/\top.length<=40/\left.length<=100/\right.length<=100/\ws.length=8/\iO ws top/\cells.length<=1000/\
 ∀cZ,yS top aH left right ws cZ->Q (.ow (cZ.map nC))
def Of:(T:TX) ×' ∀{P w K mg base},Txt K mg->~~~1 "_law_mix" 2 qO->~~~1 "_law_stretch" 5 A7->cL P w K mg base 1 "_law_bends" ["_law_lists","_law_words","_law_cells","_law_seed","_law_top","_law_bottom","_law_left","_law_right","_law_bends_here","_law_c","_law_one","_law_word","_law_l","_law_r","_law_here"] (top 54) T:=
 ⟨_,λT fg yM nd f d A outer s H E b=>have a:=b.units;
 (az (Jh (ae 0) (zs5 (n:=4) rfl (cz (aP 4 nd) (cz (aP 5 nd) (cz (aP 6 nd) (cz (aP 7 nd) gJ))))))
   (az (gT 8 (eA au) nd)
   (az (eN ee rfl (jg T.b_range (ai (dD jc T.b_len ig (ai (ae 4) au)) au)) (aP 9 nd)
    (az (bD 10 (bC fg b (ai (aS (aM cE (ae 2) (eA (ai (ae 3) au))) (aM dQ (ae 9) (aM cE (dD jc T.b_len ig (ai (ae 2) au)) ax))) (ai (aM cE (ae 9) ax) au))) nd)
   (az (bD 11 (aS (ae 1) (aM dQ (ae 10) ax)) nd)
   (az (cU (pq (bG (fF a) (aM dQ (aM gI (ae 10) ax) ax) ax) (uP (bG pw (aS (ae 4) (ae 9)) fO))).pb (aI (bD 11 (aS (ae 4) (ae 9)) nd)) cT)
   (az (Jh (bC yM b (ai (ae 4) (ai (ae 5) (ai (ae 6) (ai (ae 7) (ai (ae 11) au)))))) (gZ (n:=2) rfl (cz (aP 12 nd) (cz (aP 13 nd) gJ))))
   (az (Ad 14 rfl (.of (N':=["_law_x"]) (m:=[none]) (by kernel_rfl)) ez (c6 (eA (ai (aS (ae 4) (ae 9)) (ai (aS (ae 5) (ae 9)) au)))) (λs3 c ex=>(aP 0 pd)) (λs3 c ex=>(jG (bG pw (ae 0) fO))) (λs3 c ex=>(ae 0)) nd)
   (aI (cU (pq (bG qv (ae 12) (ae 9)) (pq (bG qv (ae 9) (ae 13)) (pq (Sw (bG (fF a) (ae 14) (eA au)) (Uk (bG (qt a) (ae 11) (ae 14)))).pb (uP (bG wW (aM dQ (aM gI (ae 10) ax) ax) ax))))).pb (aI (jE 8 (gi (ai (ae 9) (ai (ae 11) au))))) cT))))))))
   (aI (om 8)))))⟩
def Li:TX:=Of.1
def zgJ:cB 4 AU Li ["_law_lists","_law_words","_law_cells","_law_seed","_law_top","_law_bottom","_law_left","_law_right","_law_bends_here","_law_c","_law_one","_law_word","_law_l","_law_r","_law_here"]:=by
 intro ds Qr hl h;symm;let⟨top,aH,left,right,ws,cells,j,rfl,u,ht,J,P,O,pt,oE,q⟩:=h;show Li _ [.fz (.lst [dP top,dP aH,dS left,dS right]),.fz (dS ws),.fz (dI cells),.fz (.int j),.un,.un,.un,.un,.un,.un,.un,.un,.un,.un,.un];unfold Li Of;dsimp only;have big:=cS;lk;walk;show⟨by show cA _,?_⟩;walk;let J1:TJ:=λi ρ=>∃(cZ:List (Int×aa))(a b c d e f:Sl),ρ=[.fz (.lst [dP top,dP aH,dS left,dS right]),.fz (dS ws),.fz (dI cells),.fz (.int j),.fz (dP top),.fz (dP aH),.fz (dS left),.fz (dS right),.ow (cZ.map nC),a,b,c,d,e,f]/\yS top aH left right ws cZ/\(∀p∈cZ,p.1<i)/\cZ.length<=i
 show qL top.length (λQ' h=>?_) J1 ⟨[],_,_,_,_,_,_,rfl,⟨∅,∅,∅⟩,by trivial,∅⟩ ?_ ?_
 .unfold dP;lk;rw[aL];show⟨by cbv,by lia,by trivial⟩
 .rintro i ρ hi ⟨cZ,a,b,c,d,e,f,rfl,s,lt,ln⟩;unfold dI;lk;rw[aL];show⟨by show iy _,by lia,by cbv,?_⟩;have m0:0<=(i:Int)%((cells.length:Int)+1):=i7 _ (by lia);have m1:(i:Int)%((cells.length:Int)+1)<(cells.length:Int)+1:=oV _ (by cbv);rw[Dz];obtain⟨z,hz,_⟩:=Js (l:=cells++[j]) m0 (by simp;ext);rw[SR];show⟨z,hz,z,_,rfl,by show C7 _,by lia,?_⟩;generalize se _ _=one;unfold dS;walk;let⟨o,S,I⟩:=YT one O;show⟨o,S,?_⟩;unfold dP;walk;have T:top[i]?=some top[i]:=bO hi;have U:aH[i]?=some aH[i]:=bO (by cbv);have key:∃w:aa,w∈ws/\∀K:D->Prop,K (.str w)->(if one/8%3=0 then ∃x,bE top (i:Int)=some x/\(if (!qB (dO x))=true then ∃x,bE top (i:Int)=some x/\K (dO x) else K (.str o)) else K (.str o)):=by
   by_cases t:one/8%3=0
   .cases hx:top[i] with
    | none=>show⟨o,I,λK k=>by rw[if_pos t];show⟨none,by rw[eV hi,hx],by trivial⟩⟩
    | some w=>
     show⟨w,pt w (by rw[<-hx];show kC hi),λK k=>?_⟩;rw[if_pos t];show⟨some w,by rw[eV hi,hx],by show⟨some w,by rw[eV hi,hx],k⟩⟩
   show⟨o,I,λK k=>by rw[if_neg t];show k⟩
  let⟨w,hw,kw⟩:=key;show kw (λd=>nT _ _ [_,_,_,_,_,_,_,_,_,_,_,.fz d,_,_,_]) ?_;walk;show⟨top,aH,left,right,w,rfl,u,by lia,J,P,λm M hm R=>?_⟩;walk;show lW [top[i],aH[i]] dO dO (λx=>x.isSome) (λQ' h=>?_) (by simp;trivial) (λc t K1 K0 k1 L=>?_) ?_
  .lk;show⟨_,eV hi,_,eV (l:=aH) (by cbv),by trivial,h⟩
  .lk;cases c with
   | none=>show L rfl
   | some x=>show k1 rfl
  walk;have skip:∀(a b c d e f:Sl)(X Y Z:D),∃(g:List (Int×aa))(C B A d' y v:Sl),[Sl.fz (D.lst [D.lst (bT dO top),D.lst (bT dO aH),D.lst (bT D.str left),D.lst (bT D.str right)]),Sl.fz (D.lst (bT D.str ws)),Sl.fz (D.lst (bT D.int cells)),Sl.fz (D.int j),Sl.fz (D.lst (bT dO top)),Sl.fz (D.lst (bT dO aH)),Sl.fz (D.lst (bT D.str left)),Sl.fz (D.lst (bT D.str right)),Sl.ow (bT nC cZ),a,b,c,d,e,f]=[Sl.fz (D.lst [D.lst (bT dO top),D.lst (bT dO aH),D.lst (bT D.str left),D.lst (bT D.str right)]),Sl.fz (D.lst (bT D.str ws)),Sl.fz (D.lst (bT D.int cells)),Sl.fz (D.int j),Sl.fz (D.lst (bT dO top)),Sl.fz (D.lst (bT dO aH)),Sl.fz (D.lst (bT D.str left)),Sl.fz (D.lst (bT D.str right)),Sl.ow (bT nC g),C,B,A,d',y,v]/\yS top aH left right ws g/\(∀p∈g,p.1<((i+1:Nat):Int))/\g.length<=i+1:=
   λa b c d e f _ _ _=>⟨cZ,a,b,c,d,e,f,rfl,s,λp r=>by have:=lt p r;lia,by lia⟩
  have F:some w∈[top[i],aH[i]].filter (λx=>x.isSome)↔top[i]\w\/aH[i]\w:=by
   simp![eI,bM,gN,or_false,HK,and_true];constructor
   .rintro(h | h)
    .exact .inl h.symm
    show .inr h.symm
   rintro(h | h)
   .exact .inl h.symm
   show .inr h.symm
  have H:([top[i],aH[i]].filter (λx=>x.isSome)=[])->top[i]=none/\aH[i]=none:=by
   intro h;rw[wH] at h;show⟨by simpa using h top[i] (by show .head _),by simpa using h aH[i] (by show .tail _ (.head _))⟩
  generalize [top[i],aH[i]].filter (λx=>x.isSome)=here at F H ⊢;split
  .rename_i c1;split
   .rename_i W;show⟨by show cA _,bH.mono (n:=1) (by cbv) (by intro d hd;show Er 0 here d hd),bH.mono (n:=1) (by cbv) (by intro d hd;cases hd),?_⟩;have fin:(top[i]=none/\aH[i]=none)\/top[i]\w\/aH[i]\w->yS top aH left right ws (cZ++[((i:Int),w)]):=λr=>by
     show⟨by simp;show nQ ‹_› ‹_›,?_,?_⟩
     .rw[iT];show⟨s.up,by show fE _ _,λa Q b u=>?_⟩;have:b=((i:Int),w):=by simpa using u
      subst this;show lt a Q
     intro p E;rcases bJ.mp E with h | h
     .exact s.at_ p h
     have:p=((i:Int),w):=by simpa using h
     subst this;show⟨i,rfl,hi,hw,⟨m,M,hm,R,c1,W⟩,?_⟩;rw[T,U];simpa using r
    have put:(top[i]=none/\aH[i]=none)\/top[i]\w\/aH[i]\w->2<=sizeLine/\(bT nC cZ).length<sizeLine/\∃(g:List (Int×aa))(C B A d' y v:Sl),[Sl.fz (D.lst [D.lst (bT dO top),D.lst (bT dO aH),D.lst (bT D.str left),D.lst (bT D.str right)]),Sl.fz (D.lst (bT D.str ws)),Sl.fz (D.lst (bT D.int cells)),Sl.fz (D.int j),Sl.fz (D.lst (bT dO top)),Sl.fz (D.lst (bT dO aH)),Sl.fz (D.lst (bT D.str left)),Sl.fz (D.lst (bT D.str right)),Sl.ow (bT nC cZ++[D.tup [D.int i,D.str w]]),Sl.fz (D.int i),Sl.fz (D.int one),Sl.fz (D.str w),Sl.fz (D.int m),Sl.fz (D.int M),Sl.fz (D.lst (here.map dO))]=[Sl.fz (D.lst [D.lst (bT dO top),D.lst (bT dO aH),D.lst (bT D.str left),D.lst (bT D.str right)]),Sl.fz (D.lst (bT D.str ws)),Sl.fz (D.lst (bT D.int cells)),Sl.fz (D.int j),Sl.fz (D.lst (bT dO top)),Sl.fz (D.lst (bT dO aH)),Sl.fz (D.lst (bT D.str left)),Sl.fz (D.lst (bT D.str right)),Sl.ow (bT nC g),C,B,A,d',y,v]/\yS top aH left right ws g/\(∀p∈g,p.1<((i+1:Nat):Int))/\g.length<=i+1:=λr=>by
     show⟨by trivial,by simp;lia,cZ++[((i:Int),w)],_,_,_,_,_,_,by rw[c9];rfl,fin r,?_,by simp;ext⟩;intro p E;rcases bJ.mp E with h | h
     .have:=lt p h;lia
     have:p=((i:Int),w):=by simpa using h
     subst this;show dv _
    by_cases ce:here=[]
    .simp![ce,t5,bS,kO,cy];split
     .have:=put (.inl (H ce));rw[ce] at this;show this
     have:=skip (.fz (D.int i)) (.fz (D.int one)) (.fz (D.str w)) (.fz (D.int m)) (.fz (D.int M)) (.fz (D.lst [])) .non .non .non;show this
    have V:bS (D.lst (here.map dO)) (D.lst [])=false:=by
     cases here with
     | nil=>show absurd rfl ce
     | cons=>rfl
    simp![V,cO,cC];show⟨Er 8 here,?_⟩;rw[RW];simp![ic];split
    .rename_i N;split
     .exact put (.inr (F.mp N))
     show skip _ _ _ _ _ _ .non .non .non
    show skip _ _ _ _ _ _ .non .non .non
   show skip _ _ _ _ _ _ .non .non .non
  show skip _ _ _ _ _ _ .non .non .non
 rintro ρ ⟨cZ,a,b,c,d,e,f,rfl,s,lt,ln⟩;walk;show q cZ s
def Oj(W:Nat)(keeps:List (Int×Int×Int)):Prop:=keeps.length<=6/\∀p∈keeps,0<=p.1/\p.1<=p.2.1/\p.2.1<W/\1<=p.2.2/\p.2.2<=3
def AS:bg:=λds Q=>∃(W:Nat)(cells:List Int)(a:Int),ds=[.int W,dI cells,.int a]/\1<=W/\W<=40/\∀keeps,Oj W keeps->Q (.ow (keeps.map vA))
def Oc:(T:TX) ×' ∀{P w K mg base},Txt K mg->~~~1 "_law_mix" 2 qO->cL P w K mg base 1 "_law_keeps" ["_law_width","_law_cells","_law_seed","_law_keeps_here","_law_k","_law_cell","_law_one","_law_first"] (top 55) T:=
 ⟨_,λT fg nd f c A outer s H E a=>have b:=a.units;
 (az (gT 3 (eA au) nd)
   (az (eN ee rfl (sJ T.b_enumerate (ai (kd (ae 1) lT (jf ax)) au)) (gZ (n:=2) rfl (cz (aP 4 nd) (cz (aP 5 nd) gJ)))
    (az (bD 6 (bC fg a (ai (aM cE (ae 5) (ae 2)) (ai (aM cE (ae 4) ax) au))) nd)
   (az (bD 7 (aM dQ (ae 6) (ae 0)) nd)
   (aI (cU (bG (fF b) (aM dQ (aM gI (ae 6) ax) ax) ax) (aI (jE 3 (gi (ai (ae 7) (ai (aM cE (ae 7) (aM dQ (aM gI (ae 6) ax) (aM R8 (ae 0) (ae 7)))) (ai (aM cE ax (aM dQ (aM gI (ae 6) ax) ax)) au)))))) cT)))))
   (aI (om 3))))⟩
def Lh:TX:=Oc.1
def zgK:cB 3 AS Lh ["_law_width","_law_cells","_law_seed","_law_keeps_here","_law_k","_law_cell","_law_one","_law_first"]:=by
 intro ds t hl h;symm;let⟨W,cells,f,rfl,s,n,q⟩:=h;show Lh _ [.fz (.int W),.fz (dI cells),.fz (.int f),.un,.un,.un,.un,.un];unfold Lh Oc;dsimp only;unfold dI;have big:=cS;lk;show⟨by show cA _,?_⟩;walk;let r:TJ:=λi ρ=>∃(keeps:List (Int×Int×Int))(a b c d:Sl),ρ=[.fz (.int W),.fz (D.lst (bT D.int cells)),.fz (.int f),.ow (keeps.map vA),a,b,c,d]/\keeps.length<=i/\∀p∈keeps,0<=p.1/\p.1<=p.2.1/\p.2.1<W/\1<=p.2.2/\p.2.2<=3
 show EE (cells.take 6) D.int (λu h=>?_) r ⟨[],_,_,_,_,rfl,∅,∅⟩ ?_ ?_
 .lk;rw[Jr _ (by cbv)];show h
 .rintro i x ρ hx ⟨keeps,a,b,c,d,rfl,g,e⟩;have hi:i<6:=by
   have:=(cH.mp hx).1;simp at this;lia
  lk;show⟨x+f,(i:Int)+300,rfl,by show C7 _,by lia,?_⟩;have n0:=zvq (x+f) ((i:Int)+300);generalize se _ _=one at n0 ⊢;walk;have f0:0<=one%(W:Int):=i7 _ (by lia);have f1:one%(W:Int)<W:=oV _ (by lia);show⟨by lia,?_⟩;generalize one%(W:Int)=fst at f0 f1 ⊢;walk;have o:0<=one/256%((W:Int)-fst):=i7 _ (by lia);have g1:one/256%((W:Int)-fst)<(W:Int)-fst:=oV _ (by cbv);have j:0<=one/1024%3:=i7 _ (by trivial);have k1:one/1024%3<3:=oV _ (by cbv);generalize one/256%((W:Int)-fst)=sp at o g1 ⊢;generalize one/1024%3=kk at j k1 ⊢;split
  .refine⟨by cbv,by trivial,by simp;lia,keeps++[(fst,fst+sp,1+kk)],_,_,_,_,by rw[c9];rfl,by simp;ext,λp m=>?_⟩;rcases bJ.mp m with h | h
   .exact e p h
   have:p=(fst,fst+sp,1+kk):=by simpa using h
   subst this;show⟨f0,?_,?_,?_,?_⟩<;>dsimp only<;>ext
  show⟨keeps,_,_,_,_,rfl,by lia,e⟩
 rintro ρ ⟨keeps,a,b,c,d,rfl,g,e⟩;walk;show q keeps ⟨?_,e⟩;rw[eK] at g;lia
def A2:bg:=λds Q=>∃ws bits,ds=[dS ws,.int bits]/\ws.length=8/\ws.Nodup/\∀l:List aa,l.length<=8->l.Nodup->(∀w∈l,w∈ws)->sortedS l=true->Q (.ow (l.map .str))
def zhw:(["_law_k","_law_words","_law_bits"]:List aa).Nodup:=by decide +kernel
def N7:(T:TX) ×' ∀{P w K mg base},Txt K mg->cL P w K mg base 0 "_law_open" ["_law_words","_law_bits"] (top 56) T:=
 ⟨_,λT nd f d A outer s H E c=>have a:=c.units;
 (az (cU (bG (fF a) (aM dQ (aM gI (ae 1) ax) ax) ax) (aI (cf (eA au))) cT)
   (aI (cf (dD (Uz rfl) T.b_sorted vS (ai (fU rfl (.of (N':=["_law_k","_law_words","_law_bits"]) (m:=[none,some 0,some 1]) (by kernel_rfl)) ez (jg T.b_range (ai ax au)) (λs3 b ex=>(aP 0 zhw)) (λs3 b ex=>(jG (bG (fF a) (aM dQ (aM gI (ae 2) (aS (eA (ai ax (ai ax (ai ax (ai ax (ai ax (ai ax (ai ax (ai ax au))))))))) (ae 0))) ax) ax))) (λs3 b ex=>(aS (ae 1) (ae 0)))) au)))))⟩
def K7:TX:=N7.1
def ztD(k:Nat)(h:k<8):bE ([1,2,4,8,16,32,64,128]:List Int) (k:Int)\((2:Int) ^ k):=by
 have:∀k:Fin 8,bE ([1,2,4,8,16,32,64,128]:List Int) (k.val:Int)\((2:Int) ^ k.val):=by decide +kernel
 show this ⟨k,h⟩
def zvw(k)(h:k<8):0<(2:Int) ^ k/\(2:Int) ^ k<1073741824:=by
 have:∀k:Fin 8,0<(2:Int) ^ k.val/\(2:Int) ^ k.val<1073741824:=by decide +kernel
 show this ⟨k,h⟩
def zmR{a:Type}(ws)(d:a):(aV ws.length).map (λk=>ws.getD k d)=ws:=by
 apply qh
 .simp
 intro i c b;simp[b]
def zhx:cB 2 A2 K7 ["_law_words","_law_bits"]:=by
 intro ds r hl h;let⟨ws,bits,rfl,d,nd,q⟩:=h;show K7 _ [.fz (dS ws),.fz (.int bits)];unfold K7 N7;dsimp only;unfold dS;lk;split
 .exact⟨by show cA _,q [] ∅ ∅ ∅ rfl⟩
 walk;show lW (aV 8) (λ(i:Nat)=>.int (0+i)) (λk=>.str (ws.getD k "")) (λk=>decide (bits/2 ^ k%2=1)) (λs h=>?_) (by simp;trivial) (λc n t u k1 j=>?_) ?_
 .lk;show h
 .have g:c<8:=by simpa using n
  rw[t4];lk;show⟨by trivial,D.int (2 ^ c),?_,?_⟩
  .have:=congrArg (Gx D.int) (ztD c g);rw[<-mU] at this;show this
  lk;show⟨zvw c g,?_⟩;by_cases f:bits/2 ^ c%2=1
  .simp![f,bS,mL,cy];show⟨ws[c],eV (by cbv),?_⟩;have:=k1 (by show if_pos ‹_›);rwa [show ws.getD c ""=ws[c] by simp[show c<ws.length by cbv]] at this
  rw[if_neg f];show j (by show if_neg ‹_›)
 have e:∀L:List Nat,(L.map λk=>D.str (ws.getD k ""))=(L.map λk=>ws.getD k "").map D.str:=λL=>by simp
 show z6 [D.lst _] _;rw[e];have sub:GL (((aV 8).filter λk=>decide (bits/2 ^ k%2=1)).map λk=>ws.getD k "") ws:=by
  have:=Y6 (λk=>ws.getD k "") (Dd (p:=λk=>decide (bits/2 ^ k%2=1)) (l:=aV 8));rwa [<-d,zmR,d] at this
 generalize (((aV 8).filter λk=>decide (bits/2 ^ k%2=1)).map λk=>ws.getD k "")=ss at sub ⊢;unfold z6;simp![EJ];have hle:=sub.length_le;show⟨by lia,λo b m=>q o (by rw[b.length_eq];cbv) (b.nodup_iff.mpr (sub.nodup nd)) (λw hw=>sub.subset (b.subset hw)) m⟩
def iD(a:List aa):Option aa->Option aa
 | none=>none
 | some w=>if w∈a then none else some w
def zwN(x:Option aa)(l:List aa):inD (dO x) (l.map .str)=(match x with | none=>false | some w=>decide (w∈l)):=by
 cases x with
 | none=>
  unfold inD;rw[tZ];induction l with
  | nil=>rfl
  | cons a r b=>rw[oS,b];rfl
 | some w=>show zP w l
def Wj(b w)(l:List (Option aa)):(l.map (iD b)).count (some w)=if w∈b then 0 else l.count (some w):=by
 induction l with
 | nil=>simp
 | cons a r c=>
  rw[c8,zc,c,zc];cases a with
  | none=>rfl
  | some v=>
   unfold iD;by_cases h:v∈b
   .by_cases hw:w∈b
    .simp[h,hw]
    have:v≠w:=λz=>hw (z▸h)
    simp[h,hw,this]
   by_cases hw:w∈b
   .have:v≠w:=λz=>h (z▸hw)
    simp[h,hw,this]
   simp[h,hw]
def VY(a:List aa)(w)(l:List aa):(l.filter λx=>decide (x∉a)).count w=if w∈a then 0 else l.count w:=by
 by_cases hw:w∈a
 .rw[if_pos hw,wA];intro h;rw[eI] at h;simpa[hw] using h.2
 rw[if_neg hw,List.count_filter];show if_pos ‹_›
theorem Wg(h:iO ws l):iO ws (l.map (iD a)):=λw hw=>by
 rw[bQ] at hw;let⟨x,hx,e⟩:=hw;cases x with
 | none=>cases e
 | some v=>
  by_cases hv:v∈a
  .simp[iD,hv] at e
  simp[iD,hv] at e;subst e;show h _ hx
def ztE{top aH:List (Option aa)}(pt:iO ws top)(pb:iO ws aH)(lf:∀w∈left,w∈ws)(rt:∀w∈right,w∈ws)(h:w∉ws):jr top aH left right w=0:=by
 unfold jr;rw[wA.mpr λz=>h (pt w z),wA.mpr λz=>h (pb w z),wA.mpr λz=>h (lf w z),wA.mpr λz=>h (rt w z)]
def zmS{top aH:List (Option aa)}(pt:iO ws top)(pb:iO ws aH)(lf:∀w∈left,w∈ws)(rt:∀w∈right,w∈ws)(a)(c:a=ws.filter λw=>decide (jr top aH left right w=1))(w) :
  jr (top.map (iD a)) (aH.map (iD a)) (left.filter λx=>decide (x∉a)) (right.filter λx=>decide (x∉a)) w≠1:=by
 have e:jr (top.map (iD a)) (aH.map (iD a)) (left.filter λx=>decide (x∉a)) (right.filter λx=>decide (x∉a)) w=if w∈a then 0 else jr top aH left right w:=by
  unfold jr;rw[Wj,Wj,VY,VY];split<;>simp
 rw[e];by_cases h:w∈a
 .rw[if_pos h];decide
 rw[if_neg h];by_cases b:w∈ws
 .intro z;apply h;rw[c,eI];show⟨b,by simpa using z⟩
 rw[ztE pt pb lf rt b];decide
structure pU(ws:List aa)(most:Nat)(c:bP):Prop where
 w1:1<=c.top.length
 w2:c.top.length<=most
 bl:c.aH.length=c.top.length
 pt:iO ws c.top
 pb:iO ws c.aH
 ll:c.left.length<=8
 lw:∀w∈c.left,w∈ws
 lo:c.left.Pairwise kY
 rl:c.right.length<=8
 rw_:∀w∈c.right,w∈ws
 ro:c.right.Pairwise kY
 cnt:∀w,jr c.top c.aH c.left c.right w≠1
 wl:c.wide.length<=8
 wo:(c.wide.map (·.1)).Pairwise kY
 ww:∀p∈c.wide,p.1∈ws/\(p.2=2\/p.2=3)/\1<jr c.top c.aH c.left c.right p.1
 be:yS c.top c.aH c.left c.right ws c.cZ
 ke:Oj c.top.length c.keeps
def A6:bg:=λds Q=>∃(ns:List Int)(most:Nat),ds=[dI ns,.int most]/\ns.length<=1000/\1<=most/\most<=40/\∀c,pU (lQ (yb ns)) most c->Q (.ow c.parts)
def Td(b)(l:List (Option aa))(j k ρ Q)(hl:l.length<=100)(n:gt ρ j=.fz (.lst (l.map dO)))(m:gt ρ k=.fz (.lst (b.map .str)))(f:Q (.ow ((l.map (iD b)).map dO))) :
  jB (lL (aO j)) [none,some k] (gR 0) qp (Ni (j5 (dX (qu false) (aO 0) (aO 1))) (dC D.non) (aO 0)) ρ Q:=by
 have big:=cS;show g4 l dO (λx=>dO (iD b x)) (λo h=>?_) (by lia) (λx hx i k=>?_) ?_
 .simp![lL,aO,n];show h
 .simp![cR,c8,t5,oZ,m];lk;have d:bH 8 (dO x)/\(∀e∈b.map D.str,bH 8 e):=⟨by rw[lR];trivial,sD 8 b⟩
  have g:if inD (dO x) (b.map D.str)=true then i D.non else i (dO x):=by
   rw[zwN];cases x with
   | none=>trivial
   | some v=>
    by_cases hv:v∈b
    .simpa[iD,hv,dO] using k
    simpa[iD,hv,dO] using k
  cases x with
  | none=>show⟨d.1,d.2,g⟩
  | some v=>show⟨d.1,d.2,g⟩
 rw[cJ] at f;show f
def UT(b l:List aa)(j k ρ Q)(hl:l.length<=100)(g:gt ρ j=.fz (.lst (l.map .str)))(f:gt ρ k=.fz (.lst (b.map .str)))(e:Q (.ow ((l.filter λx=>decide (x∉b)).map D.str))) :
  jB (lL (aO j)) [none,some k] (gR 0) (j5 (dX (qu true) (aO 0) (aO 1))) (aO 0) ρ Q:=by
 have big:=cS;show lW l D.str D.str (λx=>decide (x∉b)) (λi h=>?_) (by lia) (λx hx m n k1 d=>?_) e
 .simp![lL,aO,g];show h
 simp![cR,c8,t5,oZ,f];lk;show⟨sD 8 b,?_⟩;rw[zP];by_cases hv:x∈b
 .simpa[hv] using d (by simpa using hv)
 simpa[hv] using k1 (by show if_pos ‹_›)
def zfb:(["_law_word","_law_top","_law_bottom","_law_left","_law_right"]:List aa).Nodup:=by decide +kernel
def zfc:(["_law_word","_law_lone"]:List aa).Nodup:=by decide +kernel
def zfd:(["_law_word","_law_lone"]:List aa).Nodup:=by decide +kernel
def zfe:(["_law_word","_law_lone"]:List aa).Nodup:=by decide +kernel
def zff:(["_law_word","_law_lone"]:List aa).Nodup:=by decide +kernel
def Oe:(T:TX) ×' ∀{P w K mg base},Txt K mg->~~~2 "_law_named" 1 AV->~~~2 "_law_pins" 4 AM->~~~1 "_law_mix" 2 qO->~~~1 "_law_open" 2 A2->~~~1 "_law_many" 5 A3->~~~2 "_law_bends" 4 AU->~~~2 "_law_keeps" 3 AS->cL P w K mg base 2 "_law_channel" ["_law_script","_law_most","_law_seed","_law_words","_law_width","_law_cells","_law_top","_law_bottom","_law_bits","_law_left","_law_right","_law_lone","_law_wide","_law_k","_law_word","_law_one","_law_bends_here","_law_keeps_here"] (top 57) T:=
 ⟨_,λT yP yO fg vK vL yR yQ nd f d A outer s H E b=>have c:=b.units;
 (az (bD 2 (aM dQ (aM sg (aM dQ (dD (zS rfl) T.b_sum yX (ai (kd (ae 0) lT (jf ax)) au)) (aM DL ax ax)) ax) ax) nd)
   (az (bD 3 (bC yP b (ai (dD (zS rfl) T.b_sum yX (ai (kd (ae 0) lT (jf ax)) au)) au)) nd)
   (az (bD 4 (aM cE ax (aM dQ (ae 2) (ae 1))) nd)
   (az (bD 5 (kd (ae 0) (jf ax) lT) nd)
   (az (Jh (bC yO b (ai (ae 3) (ai (ae 5) (ai (ae 2) (ai (ae 4) au))))) (gZ (n:=2) rfl (cz (aP 6 nd) (cz (aP 7 nd) gJ))))
   (az (bD 8 (bC fg b (ai (dD (zS rfl) T.b_sum yX (ai (kd (ae 0) (jf ax) (jf ax)) au)) (ai (aM cE ax (aM dQ (ae 2) ax)) au))) nd)
   (az (bD 9 (bC vK b (ai (ae 3) (ai (ae 8) au))) nd)
   (az (bD 10 (bC vK b (ai (ae 3) (ai (aM gI (ae 8) ax) au))) nd)
   (az (bD 11 (fU rfl (.of (N':=["_law_word","_law_top","_law_bottom","_law_left","_law_right"]) (m:=[none,some 6,some 7,some 9,some 10]) (by kernel_rfl)) ez (c6 (ae 3)) (λs3 a ex=>(aP 0 zfb)) (λs3 a ex=>(jG (bG (fF c) (bC vL b (ai (ae 1) (ai (ae 2) (ai (ae 3) (ai (ae 4) (ai (ae 0) au)))))) ax))) (λs3 a ex=>(ae 0))) nd)
   (az (bD 6 (fU rfl (.of (N':=["_law_word","_law_lone"]) (m:=[none,some 11]) (by kernel_rfl)) ez (c6 (ae 6)) (λs3 a ex=>(aP 0 zfc)) (λs3 a ex=>gc) (λs3 a ex=>(JQ (bG (qt c) (ae 0) (ae 1)) fO (ae 0)))) nd)
   (az (bD 7 (fU rfl (.of (N':=["_law_word","_law_lone"]) (m:=[none,some 11]) (by kernel_rfl)) ez (c6 (ae 7)) (λs3 a ex=>(aP 0 zfd)) (λs3 a ex=>gc) (λs3 a ex=>(JQ (bG (qt c) (ae 0) (ae 1)) fO (ae 0)))) nd)
   (az (bD 9 (fU rfl (.of (N':=["_law_word","_law_lone"]) (m:=[none,some 11]) (by kernel_rfl)) ez (c6 (ae 9)) (λs3 a ex=>(aP 0 zfe)) (λs3 a ex=>(jG (bG (Ul c) (ae 0) (ae 1)))) (λs3 a ex=>(ae 0))) nd)
   (az (bD 10 (fU rfl (.of (N':=["_law_word","_law_lone"]) (m:=[none,some 11]) (by kernel_rfl)) ez (c6 (ae 10)) (λs3 a ex=>(aP 0 zff)) (λs3 a ex=>(jG (bG (Ul c) (ae 0) (ae 1)))) (λs3 a ex=>(ae 0))) nd)
   (az (gT 12 (eA au) nd)
   (az (eN ee rfl (sJ T.b_enumerate (ai (dD (Uz rfl) T.b_sorted vS (ai (ae 3) au)) au)) (gZ (n:=2) rfl (cz (aP 13 nd) (cz (aP 14 nd) gJ)))
    (az (bD 15 (bC fg b (ai (aM cE (ae 2) (ae 13)) (ai ax au))) nd)
   (aI (cU (pq (bG (fF c) (aM dQ (ae 15) ax) ax) (uP (bG wW (bC vL b (ai (ae 6) (ai (ae 7) (ai (ae 9) (ai (ae 10) (ai (ae 14) au)))))) ax))).pb (aI (jE 12 (gi (ai (ae 14) (ai (aM cE ax (aM dQ (aM gI (ae 15) ax) ax)) au))))) cT))))
   (az (bD 16 (bC yR b (ai (eA (ai (ae 6) (ai (ae 7) (ai (ae 9) (ai (ae 10) au))))) (ai (ae 3) (ai (ae 5) (ai (ae 2) au))))) nd)
   (az (bD 17 (eA au) nd)
   (az (cU (bG (fF c) (aM dQ (aM gI (ae 2) ax) ax) ax) (aI (bD 17 (bC yQ b (ai (ae 4) (ai (ae 5) (ai (ae 2) au)))) nd)) cT)
   (px 12 (aI (cf (eA (ai (ae 6) (ai (ae 7) (ai (ae 9) (ai (ae 10) (ai (ae 12) (ai (ae 16) (ai (ae 17) au)))))))))))))))))))))))))))))⟩
def LI:TX:=Oe.1
def zfg:cB 2 A6 LI ["_law_script","_law_most","_law_seed","_law_words","_law_width","_law_cells","_law_top","_law_bottom","_law_bits","_law_left","_law_right","_law_lone","_law_wide","_law_k","_law_word","_law_one","_law_bends_here","_law_keeps_here"]:=by
 intro ds Qr hl h;symm;let⟨ns,most,rfl,hn,hm,jn,q⟩:=h;show LI _ [.fz (dI ns),.fz (.int most),.un,.un,.un,.un,.un,.un,.un,.un,.un,.un,.un,.un,.un,.un,.un,.un];unfold LI Oe;dsimp only;unfold dI;have big:=cS;lk;generalize L:((f7 ns none (some 1)).sum%1000000000000000000000000000000*40014)%2147483563=e;have s0:0<=e:=by rw[<-L];show i7 _ (by decide)
 clear L;walk;show⟨_,rfl,?_⟩;rw[Jr _ (by cbv)];have hw:=zo8 (yb ns);change nT _ _ [_,_,_,.fz (.lst ((lQ (yb ns)).map .str)),_,_,_,_,_,_,_,_,_,_,_,_,_,_];generalize lQ (yb ns)=ws at hw q ⊢;walk;show⟨by lia,?_⟩;have m0:0<=e%(most:Int):=i7 _ (by lia);have m1:e%(most:Int)<most:=oV _ (by lia);obtain⟨W,Y⟩:∃W:Nat,1+e%(most:Int)=W:=⟨(1+e%(most:Int)).toNat,by lia⟩
 rw[Y];walk;rw[EF _ (by cbv)];walk;show⟨ws,ns.drop 1,e,W,rfl,hw.1,by lia,λtop aH U X pt pb=>?_⟩;lk;walk;show⟨_,_,rfl,by have:=i7 e (show(7:Int)≠0 by decide);lia,by have:=oV e (show(0:Int)<7 by decide);lia,?_⟩;generalize se _ _=bits;walk;show⟨ws,bits,rfl,hw.1,hw.2,λleft E C M B=>?_⟩;walk;show⟨ws,_,rfl,hw.1,hw.2,λright t s P r=>?_⟩;walk;show lW ws D.str D.str (λw=>decide (jr top aH left right w=1)) (λQ' h=>?_) (by have:=hw.1;cbv) (λw _ K1 K0 k1 T=>?_) ?_
 .lk;show h
 .lk;show⟨top,aH,left,right,w,rfl,by lia,?_⟩;lk;by_cases V:jr top aH left right w=1
  .rw[if_pos (by cbv)];show k1 (by show if_pos ‹_›)
  rw[if_neg (by lia)];show T (by show if_neg ‹_›)
 generalize N:ws.filter (λw=>decide (jr top aH left right w=1))=d;have I:=zmS pt pb M P d N.symm;have XU:d.length<=8:=by rw[<-N];have:=jY (λw=>decide (jr top aH left right w=1)) ws;have:=hw.1;cbv
 walk;show Td d top 6 11 _ _ (by lia) rfl rfl ?_;walk;show Td d aH 7 11 _ _ (by lia) rfl rfl ?_;walk;show UT d left 9 11 _ _ (by lia) rfl rfl ?_;walk;show UT d right 10 11 _ _ (by lia) rfl rfl ?_;have O:iO ws (top.map (iD d)):=Wg pt;have Q:iO ws (aH.map (iD d)):=Wg pb;have bw:(top.map (iD d)).length=W:=by simpa using U
 have pQ:(aH.map (iD d)).length=W:=by simpa using X
 have z:(left.filter λx=>decide (x∉d)).Pairwise kY:=(Kv B C).sublist Dd;have u:(right.filter λx=>decide (x∉d)).Pairwise kY:=(Kv r s).sublist Dd;have y:∀w∈(left.filter λx=>decide (x∉d)),w∈ws:=λw h=>M w (eI.mp h).1
 have Z:∀w∈(right.filter λx=>decide (x∉d)),w∈ws:=λw h=>P w (eI.mp h).1
 have A:(left.filter λx=>decide (x∉d)).length<=8:=bX (jY _ _) E;have v:(right.filter λx=>decide (x∉d)).length<=8:=bX (jY _ _) t;generalize top.map (iD d)=j at *;generalize aH.map (iD d)=f at *;generalize (left.filter λx=>decide (x∉d))=g at *;generalize (right.filter λx=>decide (x∉d))=right' at *;walk;show⟨by show cA _,?_⟩;walk;show J6 (λds=>∃ss:List aa,ss.Perm ws/\sortedS ss=true/\ds=jC (ss.map .str)) (λQ' h=>?_) ?_
 .lk;simp![z6,EJ];show⟨by have:=hw.1;cbv,λss m H=>?_⟩;lk;show h _ ⟨ss,m,H,rfl⟩
 rintro _ ⟨ss,m,H,rfl⟩;have S:ss.length=8:=by rw[m.length_eq];show hw.1
 have o:ss.Pairwise kY:=Kv H (m.nodup_iff.mpr hw.2);let J1:TJ:=λi ρ=>∃(wide:List (aa×Int))(a b c:Sl),ρ=[.fz (D.lst (bT D.int ns)),.fz (D.int most),.fz (D.int e),.fz (D.lst (bT D.str ws)),.fz (D.int W),.fz (D.lst (bT D.int (Ct 1 ns))),.fz (D.lst (j.map dO)),.fz (D.lst (f.map dO)),.fz (D.int bits),.fz (D.lst (g.map D.str)),.fz (D.lst (right'.map D.str)),.fz (D.lst (d.map D.str)),.ow (wide.map tN),a,b,c,.un,.un]/\GL (wide.map (·.1)) (ss.take i)/\(∀p∈wide,(p.2=2\/p.2=3)/\1<jr j f g right' p.1)
 show zmQ ss D.str J1 ⟨[],_,_,_,rfl,∅,∅⟩ ?_ ?_
 .rintro i x ρ hx ⟨wide,a,b,c,rfl,sub,wo⟩;have hi:i<8:=by have:=(cH.mp hx).1;cbv
  have tk:ss.take (i+1)=ss.take i++[x]:=by rw[fB,hx];rfl
  have K:wide.length<=8:=by have:=sub.length_le;simp at this;lia
  lk;show⟨_,_,rfl,by cbv,by cbv,?_⟩;generalize se _ _=one;walk;have skip:∃(J:List (aa×Int))(a' b' c':Sl),[Sl.fz (D.lst (bT D.int ns)),.fz (D.int most),.fz (D.int e),.fz (D.lst (bT D.str ws)),.fz (D.int W),.fz (D.lst (bT D.int (Ct 1 ns))),.fz (D.lst (j.map dO)),.fz (D.lst (f.map dO)),.fz (D.int bits),.fz (D.lst (g.map D.str)),.fz (D.lst (right'.map D.str)),.fz (D.lst (d.map D.str)),.ow (wide.map tN),.fz (D.int i),.fz (D.str x),.fz (D.int one),.un,.un]=[Sl.fz (D.lst (bT D.int ns)),.fz (D.int most),.fz (D.int e),.fz (D.lst (bT D.str ws)),.fz (D.int W),.fz (D.lst (bT D.int (Ct 1 ns))),.fz (D.lst (j.map dO)),.fz (D.lst (f.map dO)),.fz (D.int bits),.fz (D.lst (g.map D.str)),.fz (D.lst (right'.map D.str)),.fz (D.lst (d.map D.str)),.ow (J.map tN),a',b',c',.un,.un]/\GL (J.map (·.1)) (ss.take (i+1))/\(∀p∈J,(p.2=2\/p.2=3)/\1<jr j f g right' p.1):=
   ⟨wide,_,_,_,rfl,by rw[tk];show sub.trans (List.sublist_append_left _ _),wo⟩
  split
  .refine⟨j,f,g,right',x,rfl,by lia,?_⟩;lk;split
   .rename_i V;have e2:one/4%2=0\/one/4%2=1:=by lia
    show⟨by trivial,by simp;lia,wide++[(x,2+one/4%2)],_,_,_,by rw[c9];rfl,?_,λp m=>?_⟩
    .rw[tk,c9];show sub.append (Za _)
    rcases bJ.mp m with h | h
    .exact wo p h
    have:p=(x,2+one/4%2):=by simpa using h
    subst this;show⟨by dsimp only;lia,by dsimp only;lia⟩
   show skip
  show skip
 rintro ρ ⟨wide,a,b,c,rfl,sub,wo⟩;rw[f6] at sub;have K:wide.length<=8:=by have:=sub.length_le;simp at this;cbv
 have n:(wide.map (·.1)).Pairwise kY:=o.sublist sub;have ww:∀p∈wide,p.1∈ws/\(p.2=2\/p.2=3)/\1<jr j f g right' p.1:=λp h=>⟨m.subset (sub.subset (iA h)),wo p h⟩
 walk;show⟨by trivial,j,f,g,right',ws,ns.drop 1,e,rfl,by cbv,by lia,by lia,by lia,hw.1,O,by simp;lia,λcZ bo=>?_⟩;walk;show⟨by show cA _,?_⟩;have fin:∀keeps,Oj W keeps->Qr (R.ow [dP j,dP f,dS g,dS right',dW wide,dB cZ,dK keeps]):=λkeeps F=>q ⟨j,f,g,right',wide,cZ,keeps⟩ ⟨by dsimp only;lia,by dsimp only;lia,by dsimp only;cbv,O,Q,A,y,z,v,Z,u,I,K,n,ww,bo,by dsimp only;rw[bw];show F⟩
 walk;split
 .refine⟨W,ns.drop 1,e,rfl,by lia,by lia,λkeeps F=>?_⟩;walk;show⟨by trivial,fin keeps F⟩
 walk;show⟨by trivial,fin [] ⟨∅,∅⟩⟩
def Aw:bg:=λds Q=>∃a b c d e f g:List D,ds=[.lst a,.lst b,.lst c,.lst d,.lst e,.lst f,.lst g]/\Q (.fz (.obj "Channel" [("top",.lst a),("bottom",.lst b),("left",.lst c),("right",.lst d),("wide",.lst e),("bends",.lst f),("keeps",.lst g)]))
def ED:tQ:=(j7 "top" (fW jb (aT (aO 1) cj)) (j7 "bottom" (fW jb (aT (aO 2) cj)) (j7 "left" (fW jb (aT (aO 3) cj)) (j7 "right" (fW jb (aT (aO 4) cj)) (j7 "wide" (fW jb (aT (aO 5) cj)) (j7 "bends" (fW jb (aT (aO 6) cj)) (j7 "keeps" (fW jb (aT (aO 7) cj)) DD)))))))
def zj5(ds i)(j:List (aa×D)->Prop)(k:∀fs:List (aa×D),fs.map (·.1)=(["top","bottom","left","right","wide","bends","keeps"]:List aa)->j fs)(h:Aw ds i) :
  ED (qG ["self","top","bottom","left","right","wide","bends","keeps"] ds) [] λfs=>j fs/\i (.fz (.obj "Channel" fs)):=by
 let⟨a,b,c,d,e,f,g,rfl,q⟩:=h;show ED [.un,.fz (.lst a),.fz (.lst b),.fz (.lst c),.fz (.lst d),.fz (.lst e),.fz (.lst f),.fz (.lst g)] [] _;unfold ED;show⟨by cbv,show 1<1000 by decide,show 2<1000 by decide,show 3<1000 by decide,show 4<1000 by decide,show 5<1000 by decide,show 6<1000 by decide,k _ rfl,q⟩
def A1:bg:=λds Q=>∃c:bP,ds=[.lst c.parts]/\Q (.fz c.obj)
def K6:TX:=(f9 (j8 1 (jB (lL (aO 0)) [none] (gR 0) qp (fW jb (aT (aO 0) cj))))
 (o4 (fS 7 Aw (aT (dX iH (aO 1) (dC (.int 0))) (aT (dX iH (aO 1) (dC (.int 1))) (aT (dX iH (aO 1) (dC (.int 2))) (aT (dX iH (aO 1) (dC (.int 3))) (aT (dX iH (aO 1) (dC (.int 4))) (aT (dX iH (aO 1) (dC (.int 5))) (aT (dX iH (aO 1) (dC (.int 6))) cj))))))))))
def zhy:cB 1 A1 K6 ["_law_lists","_law_copies"]:=by
 intro ds b hl h;let⟨c,rfl,q⟩:=h;show K6 _ [.fz (.lst c.parts),.un];unfold K6;lk;show g4 c.parts id id (λe h=>?_) (by rw[cS];show 7<=16777216;decide) (λd hd f k=>?_) ?_
 .lk;rw[CA] at h;show h
 .lk;simp only[bP.parts,bM,gN,or_false] at hd;rcases hd with rfl | rfl | rfl | rfl | rfl | rfl | rfl<;>show k
 rw[CA];walk;unfold bP.parts;show⟨_,rfl,_,rfl,_,rfl,_,rfl,_,rfl,_,rfl,_,rfl,_,_,_,_,_,_,_,rfl,q⟩
def A0:bg:=λds Q=>∃c:bP,ds=[c.obj,.lst c.parts]/\Q (.fz (.bl true))
def Ob:(T:TX) ×' ∀{P w K mg base},Txt K mg->cL P w K mg base 0 "_law_kept" ["_law_channel_here","_law_lists","_law_told"] (top 59) T:=
 ⟨_,λT nd f c A outer s H E b=>have a:=b.units;
 (az (bD 2 (eA (ai (gh (ae 0)) (ai (gh (ae 0)) (ai (gh (ae 0)) (ai (gh (ae 0)) (ai (gh (ae 0)) (ai (gh (ae 0)) (ai (gh (ae 0)) au)))))))) nd)
   (aI (cf (uG (fF a) (ae 2) (ae 1)))))⟩
def K5:TX:=Ob.1
def zhz:cB 2 A0 K5 ["_law_channel_here","_law_lists","_law_told"]:=by
 intro ds b hl h;let⟨c,rfl,q⟩:=h;show K5 _ [.fz c.obj,.fz (.lst c.parts),.un];unfold K5 Ob;dsimp only;unfold bP.obj;lk;show⟨_,rfl,_,rfl,_,rfl,_,rfl,_,rfl,_,rfl,_,rfl,by rw[cS];decide,?_⟩;walk;have ok:=zo6 c;show⟨ok.mono (by decide),ok.mono (by decide),?_⟩;show b (.fz (.bl (bS (.lst c.parts) (.lst c.parts))));rw[Ew 3 _ ok];show q
end Wc
open PySem L2 PyProof.Rows Wc
local macro_rules | `(tactic| lk)=>`(tactic| (repeat(first | walk_at"b" | simp only[$[$(qn "pz uS o9 lR zP RW"):ident],*])))
namespace Wc
open PySem L2 PyProof.Rows
inductive En where
 | lf | tp (n:Nat) | bt (n:Nat) | rt
def dE:En->D
 | .lf=>.tup [.str "left"]
 | .tp n=>.tup [.str "top",.int n]
 | .bt n=>.tup [.str "bottom",.int n]
 | .rt=>.tup [.str "right"]
def oe(c:bP)(w:aa)(n:Nat):List En:=(if c.top[n]?\some w then [.tp n] else [])++(if c.aH[n]?\some w then [.bt n] else [])
def n8(c:bP)(w:aa):List En:=(if w∈c.left then [.lf] else [])++(aV c.top.length).flatMap (oe c w)++(if w∈c.right then [.rt] else [])
def zmT(c w n):(oe c w n).length<=2:=by unfold oe;split<;>split<;>simp
def JY(c w i):((aV i).flatMap (oe c w)).length<=2*i:=by
 induction i with
 | zero=>show cA _
 | succ i a=>
  rw[CO,wC,cD];have:=zmT c w i;simp![lB,zf,i8];lia
structure rD(c:bP):Prop where
 w:c.top.length<=40
 b:c.aH.length=c.top.length
 l:c.left.length<=100
 r:c.right.length<=100
def Av:bg:=λds Q=>∃c w,ds=[c.obj,.str w]/\rD c/\Q (.ow ((n8 c w).map dE))
def NS:(T:TX) ×' ∀{P w K mg base},Txt K mg->cL P w K mg base 0 "ends_of" ["channel","name","ends","column"] (top 1) T:=
 ⟨_,λT nd f c A outer s H E b=>have a:=b.units;
 (az (gT 2 (eA au) nd)
   (az (cU (bG (qt a) (ae 1) (gh (ae 0))) (aI (jE 2 (gi (ai gj au)))) cT)
   (az (eN ee rfl (jg T.b_range (ai (dD jc T.b_len ig (ai (gh (ae 0)) au)) au)) (aP 3 nd)
    (az (cU (bG (fF a) (aS (gh (ae 0)) (ae 3)) (ae 1)) (aI (jE 2 (gi (ai gj (ai (ae 3) au))))) cT)
   (aI (cU (bG (fF a) (aS (gh (ae 0)) (ae 3)) (ae 1)) (aI (jE 2 (gi (ai gj (ai (ae 3) au))))) cT))))
   (az (cU (bG (qt a) (ae 1) (gh (ae 0))) (aI (jE 2 (gi (ai gj au)))) cT)
   (aI (om 2))))))⟩
def Ks:TX:=NS.1
def zj6:cB 2 Av Ks ["channel","name","ends","column"]:=by
 intro ds m hl h;let⟨c,w,rfl,d,q⟩:=h;show Ks _ [.fz c.obj,.fz (.str w),.un,.un];unfold Ks NS;dsimp only;have big:=cS;lk;show⟨by show cA _,?_⟩;walk;show⟨_,rfl,?_⟩;unfold dS;lk;show⟨sD 8 _,?_⟩;have rest:∀k:Sl,nT (f9 (nX (IS (aT (fW ux (aT (sf "top" (aO 0)) cj)) cj)) (gR 3) (f9 (pA (j5 (dX oEq (dX iH (sf "top" (aO 0)) (aO 3)) (aO 1))) (wR 2 (r8 (aT (dC (.str "top")) (aT (aO 3) cj)))) o6)
 (pA (j5 (dX oEq (dX iH (sf "bottom" (aO 0)) (aO 3)) (aO 1))) (wR 2 (r8 (aT (dC (.str "bottom")) (aT (aO 3) cj)))) o6)))
 (f9 (pA (j5 (dX (qu false) (aO 1) (sf "right" (aO 0)))) (wR 2 (r8 (aT (dC (.str "right")) cj))) o6)
 (qA 2))) { nx:=λx=>m (R.fz D.non),rt:=m } [.fz c.obj,.fz (.str w),.ow ((if w∈c.left then [En.lf] else []).map dE),k]:=by
  intro k;walk;show qL c.top.length (λr h=>?_) (λi ρ=>∃k:Sl,ρ=[.fz c.obj,.fz (.str w),.ow (((if w∈c.left then [En.lf] else [])++(aV i).flatMap (oe c w)).map dE),k]) ⟨k,∅⟩ ?_ ?_
  .lk;show⟨_,rfl,?_⟩;unfold dP;lk;rw[aL];have:=d.w;show⟨by cbv,by lia,by trivial⟩
  .rintro i ρ hi ⟨k,rfl⟩;have hle:=JY c w i;have hw:=d.w;have j:∀(b:Prop)[Decidable b],(if b then [En.lf] else []).length<=1:=λb _=>by split<;>simp
   have o:=j (w∈c.left);rw[CO,wC,<-mM];generalize g:(if w∈c.left then [En.lf] else [])++(aV i).flatMap (oe c w)=acc;have p:acc.length<=1000:=by rw[<-g,cD];lia
   simp![lB,zf,i8];have n:i<c.aH.length:=by rw[d.b];show hi
   unfold bP.obj;lk;show⟨_,rfl,?_⟩;unfold dP;lk;show⟨_,eV hi,?_⟩;unfold oe;rw[bO hi,bO n];simp![fJ];split
   focus show⟨by trivial,by simp;lia,?_⟩
   all_goals
    walk;show⟨_,rfl,?_⟩;lk;show⟨_,eV n,?_⟩;split
   .exact⟨by trivial,by simp;lia,_,by simp[dE];rfl⟩
   .exact⟨_,by simp[dE];rfl⟩
   .exact⟨by trivial,by simp;lia,_,by simp[dE];rfl⟩
   show⟨_,by simp;rfl⟩
  rintro ρ ⟨k,rfl⟩;have hle:=JY c w c.top.length;have hw:=d.w;have j:∀(b:Prop)[Decidable b],(if b then [En.lf] else []).length<=1:=λb _=>by split<;>simp
  have o:=j (w∈c.left);unfold n8 at q;generalize g:(if w∈c.left then [En.lf] else [])++(aV c.top.length).flatMap (oe c w)=acc at q ⊢;have p:acc.length<=1000:=by rw[<-g,cD];lia
  walk;show⟨_,rfl,?_⟩;unfold dS;lk;show⟨sD 8 _,?_⟩;by_cases e:w∈c.right
  .rw[if_pos e];rw[if_pos e,c9] at q;show⟨by show iy _,by simp;lia,?_⟩;walk;show q
  rw[if_neg e];rw[if_neg e,i8] at q;walk;show q
 by_cases f:w∈c.left
 .rw[if_pos f];show⟨by show iy _,by show iy _,?_⟩;have:=rest .un;rw[if_pos f] at this;show this
 rw[if_neg f];have:=rest .un;rw[if_neg f] at this;show this
def mQ(c:bP):En->Int
 | .lf=>-1
 | .tp n=>n
 | .bt n=>n
 | .rt=>c.top.length
def AZ:bg:=λds Q=>∃c e,ds=[c.obj,dE e]/\Q (.fz (.int (mQ c e)))
def NV:(T:TX) ×' ∀{P w K mg base},Txt K mg->cL P w K mg base 0 "column_of" ["channel","end"] (top 4) T:=
 ⟨_,λT nd f c A outer s H E b=>have a:=b.units;
 (az (cU (bG (fF a) (aS (ae 1) ax) gj) (aI (cf (zY ax))) cT)
   (az (cU (bG (fF a) (aS (ae 1) ax) gj) (aI (cf (dD jc T.b_len ig (ai (gh (ae 0)) au)))) cT)
   (aI (cf (aS (ae 1) ax)))))⟩
def K4:TX:=NV.1
def zhA:cB 2 AZ K4 ["channel","end"]:=by
 intro ds b hl h;let⟨c,e,rfl,q⟩:=h;show K4 _ [.fz c.obj,.fz (dE e)];unfold K4 NV;dsimp only;cases e with
 | lf=>
  lk;show⟨_,rfl,?_⟩;lk;show q
 | tp n=>
  lk;show⟨_,rfl,?_⟩;lk;walk;show⟨_,rfl,?_⟩;lk;walk;show⟨_,rfl,q⟩
 | bt n=>
  lk;show⟨_,rfl,?_⟩;lk;walk;show⟨_,rfl,?_⟩;lk;walk;show⟨_,rfl,q⟩
 | rt=>
  lk;show⟨_,rfl,?_⟩;lk;walk;show⟨_,rfl,?_⟩;lk;lk;show⟨_,rfl,?_⟩;unfold dP;lk;rw[aL];show q
def pl(c:bP)(w:aa):List Int:=
 (if w∈c.left then [-1] else [])++(((aV c.top.length).filter λn=>c.top[n]?==some (some w)||c.aH[n]?==some (some w)).map λ(n:Nat)=>(n:Int))++(if w∈c.right then [(c.top.length:Int)] else [])
def II(c w):(pl c w).Pairwise (·<·):=by
 unfold pl;have g:∀x∈(((aV c.top.length).filter λn=>c.top[n]?==some (some w)||c.aH[n]?==some (some w)).map λ(n:Nat)=>(n:Int)),0<=x/\x<c.top.length:=by
  intro x hx;rw[bQ] at hx;let⟨n,i,rfl⟩:=hx;cbv
 have f:(((aV c.top.length).filter λn=>c.top[n]?==some (some w)||c.aH[n]?==some (some w)).map λ(n:Nat)=>(n:Int)).Pairwise (·<·):=by
  rw[iz];show O3.imp ?_ (Qy _ List.pairwise_lt_range);intro a b h;cbv
 generalize (((aV c.top.length).filter λn=>c.top[n]?==some (some w)||c.aH[n]?==some (some w)).map λ(n:Nat)=>(n:Int))=mid at g f;rw[iT,iT];show⟨⟨by split<;>simp,f,λa d b e=>?_⟩,by split<;>simp,λa d b e=>?_⟩
 .split at d
  .have:=g b e;simp at d;ext
  cases d
 split at e
 .rcases bJ.mp d with d | d
  .split at d
   .simp at d e;lia
   cases d
  simp at e;cbv
 cases e
def zro(c w k):k∈(n8 c w).map (mQ c)↔k∈pl c w:=by
 unfold n8 pl;simp only[c9,bJ];have j:k∈(if w∈c.left then [En.lf] else []).map (mQ c)↔k∈(if w∈c.left then [(-1:Int)] else []):=by split<;>simp[mQ]
 have g:k∈(if w∈c.right then [En.rt] else []).map (mQ c)↔k∈(if w∈c.right then [(c.top.length:Int)] else []):=by split<;>simp[mQ]
 rw[j,g];have i:k∈((aV c.top.length).flatMap (oe c w)).map (mQ c)↔k∈(((aV c.top.length).filter λn=>c.top[n]?==some (some w)||c.aH[n]?==some (some w)).map λ(n:Nat)=>(n:Int)):=by
  simp![bQ,nM,eG,eI,CP,beq_iff_eq];constructor
  .rintro⟨e,⟨n,b,he⟩,rfl⟩;symm;rcases bJ.mp he with h | h
   .split at h
    .rename_i d;simp at h;subst h;show⟨n,⟨b,.inl d⟩,rfl⟩
    cases h
   split at h
   .rename_i f;simp at h;subst h;show⟨n,⟨b,.inr f⟩,rfl⟩
   cases h
  rintro⟨n,⟨b,d | f⟩,rfl⟩
  .exact⟨.tp n,⟨n,b,by simp[oe,d]⟩,rfl⟩
  show⟨.bt n,⟨n,b,by simp[oe,f]⟩,rfl⟩
 rw[i]
def zu:List Int->D
 | []=>.non
 | a::r=>if a=(a::r).getLast ∅ then .non else .tup [.int a,.int ((a::r).getLast ∅)]
def AR:bg:=λds Q=>∃c w,ds=[c.obj,.str w]/\rD c/\Q (.fz (zu (pl c w)))
def zgO:(["end","channel"]:List aa).Nodup:=by decide +kernel
def Nw:(T:TX) ×' ∀{P w K mg base},Txt K mg->~~~1 "ends_of" 2 Av->~~~1 "column_of" 2 AZ->cL P w K mg base 1 "stretch_of" ["channel","name","columns"] (top 5) T:=
 ⟨_,λT yF yG nd f d A outer s H E a=>have c:=a.units;
 (az (Ad 2 rfl (.of (N':=["end","channel"]) (m:=[none,some 0]) (by kernel_rfl)) ez (c6 (bC yF a (ai (ae 0) (ai (ae 1) au)))) (λs3 b ex=>(aP 0 zgO)) (λs3 b ex=>gc) (λs3 b ex=>(bC yG a (ai (ae 1) (ai (ae 0) au)))) nd)
   (az (cU (bG qv (zn3 rfl T.b_len T.b_set (ai (ae 2) au)) ax) (aI (cf fO)) cT)
   (aI (cf (gi (ai (dD (IL rfl) T.b_min Cq (ai (ae 2) au)) (ai (dD (IU rfl) T.b_max Gr (ai (ae 2) au)) au)))))))⟩
def Lg:TX:=Nw.1
def Ep{r:List Int}(h:(a::r).Pairwise (·<·)):∀x∈a::r,x<=(a::r).getLast ∅:=by
 induction r generalizing a with
 | nil=>intro x hx;simp at hx;simp[hx]
 | cons b r c=>
  intro x hx;rw[lG] at h;rw[List.getLast_cons ∅];rcases bM.mp hx with rfl | hx
  .have:=h.1 b (by show .head _);have:=c h.2 b (by show .head _);lia
  show c h.2 x hx
def zgP:cB 2 AR Lg ["channel","name","columns"]:=by
 intro ds F hl h;let⟨c,w,rfl,i,q⟩:=h;show Lg _ [.fz c.obj,.fz (.str w),.un];unfold Lg Nw;dsimp only;have big:=cS;lk;have v:(n8 c w).length<=2*c.top.length+2:=by
  unfold n8;simp only[cD];have:=JY c w c.top.length;have a:∀(b:Prop)[Decidable b](x:En),(if b then [x] else []).length<=1:=λb _ x=>by split<;>simp
  have a1:=a (w∈c.left) .lf;have a2:=a (w∈c.right) .rt;lia
 have hw:=i.w;show g4 (n8 c w) dE (λe=>.int (mQ c e)) (λH h=>?_) (by lia) (λe he I k=>?_) ?_
 .lk;show⟨c,w,rfl,i,h⟩
 .lk;show⟨c,e,rfl,k⟩
 have A:(n8 c w).map (λe=>D.int (mQ c e))=((n8 c w).map (mQ c)).map D.int:=by simp
 rw[A];have hm:=zro c w;have d:=II c w;have g:(pl c w).Nodup:=d.imp λh=>by lia
 have t:((n8 c w).map (mQ c)).length<=1000:=by rw[aL];lia
 generalize (n8 c w).map (mQ c)=cols at hm t ⊢;generalize pl c w=p at hm d g q ⊢;walk;simp![Jz,sM];show⟨by lia,λl ln lm=>?_⟩;have o:l.Perm p:=(Ra ln g).mpr λk=>by rw[lm,hm]
 have hlen:=o.length_eq;lk;match p,d,hm,hlen,q with
 | [],_,_,hlen,q=>
  rw[if_pos (by rw[hlen];decide)];show q
 | [a],_,_,hlen,q=>
  rw[if_pos (by rw[hlen];show dv _)];simpa[zu] using q
 | a::b::r,d,hm,hlen,q=>
  rw[if_neg (by rw[hlen];nofun)];walk;try simp only[zG,DF,sM]
  have n:cols≠[]:=λz=>by have:=(hm a).mpr (by show .head _);rw[z] at this;cases this
  show⟨n,λm s u=>⟨n,λM C B=>⟨by trivial,?_⟩⟩⟩;have em:m=a:=by
   have j:=u a ((hm a).mpr (by show .head _));have f:=(hm m).mp s;rcases bM.mp f with h | h
   .exact h
   have:=(lG.mp d).1 m h;lia
  have y:M=(a::b::r).getLast ∅:=by
   have j:=B _ ((hm _).mpr (PM (by simp:a::b::r≠[])));have f:=Ep d M ((hm M).mp C);lia
  have E:a<(a::b::r).getLast ∅:=by
   have j:=(lG.mp d).1 b (by show .head _);have f:=Ep d b (by show .tail _ (.head _));lia
  subst em y;simp![zu] at q;rw[if_neg (by lia)] at q;show q
def qT(c:bP)(w:aa):Prop:=some w∈c.top\/some w∈c.aH\/w∈c.left\/w∈c.right
def uR:bg:=λds Q=>∃(c:bP)(ws:List aa),ds=[c.obj]/\rD c/\ws.length<=40/\(∀w,qT c w->w∈ws)/\∀l:List aa,l.Nodup->(∀w,w∈l↔qT c w)->sortedS l=true->Q (.ow (l.map D.str))
def NG:(T:TX) ×' ∀{P w K mg base},Txt K mg->cL P w K mg base 0 "nets_of" ["channel","pins"] (top 2) T:=
 ⟨_,λT nd f d A outer s H E b=>have c:=b.units;
 (az (Ad 1 rfl (.of (N':=["name"]) (m:=[none]) (by kernel_rfl)) ez (c6 (aM cE (gh (ae 0)) (gh (ae 0)))) (λs3 a ex=>(aP 0 pd)) (λs3 a ex=>(jG (bG pw (ae 0) fO))) (λs3 a ex=>(ae 0)) nd)
   (aI (cf (zjQ rfl T.b_sorted T.b_set (ai (aM cE (aM cE (ae 1) (gh (ae 0))) (gh (ae 0))) au)))))⟩
def Kr:TX:=NG.1
def Kq{l ws:List aa}(nd:l.Nodup)(h:∀w∈l,w∈ws):l.length<=ws.length:=by
 induction l generalizing ws with
 | nil=>simp
 | cons a r c=>
  rw[eH] at nd;have b:a∈ws:=h a (by show .head _);have:=c (ws:=ws.erase a) nd.2 λw hw=>(HN λ(z:w=a)=>nd.1 (z▸hw)).mpr (h w (by show .tail _ ‹_›))
  rw[QZ b] at this;have d:0<ws.length:=QQ b;simp![eh];lia
def zj7:cB 1 uR Kr ["channel","pins"]:=by
 intro ds t hl h;let⟨c,ws,rfl,d,p,hm,q⟩:=h;show Kr _ [.fz c.obj,.un];unfold Kr NG;dsimp only;unfold bP.obj;have big:=cS;have hw:=d.w;have s:=d.b;lk;show lW (c.top++c.aH) dO dO (λx=>x.isSome) (λu h=>?_) (by simp;lia) (λx hx v y k1 g=>?_) ?_
 .lk;show⟨_,rfl,_,rfl,?_⟩;lk;show⟨by simp;lia,?_⟩;rw[c9] at h;show h
 .lk;cases x with
  | none=>show g rfl
  | some x=>show k1 rfl
 rw[zrm];have m:((c.top++c.aH).filterMap id).length<=100:=by
  show bX (HY _ _) ?_;simp;lia
 have e:∀w,w∈(c.top++c.aH).filterMap id↔some w∈c.top\/some w∈c.aH:=by
  intro w;simp[Dc]
 generalize (c.top++c.aH).filterMap id=n at m e ⊢;walk;show⟨_,rfl,?_⟩;lk;have o:=d.l;have j:=d.r;show⟨by simp;lia,_,rfl,?_⟩;lk;show⟨by simp;lia,?_⟩;rw[<-c9,<-c9];simp![Lf,EJ];have f:∀w,w∈n++c.left++c.right↔qT c w:=by
  intro w;simp![bJ,e,qT];constructor
  .rintro(((h | h) | h) | h)
   .exact .inl h
   .exact .inr (.inl h)
   .exact .inr (.inr (.inl h))
   show .inr (.inr (.inr h))
  rintro(h | h | h | h)
  .exact .inl (.inl (.inl h))
  .exact .inl (.inl (.inr h))
  .exact .inl (.inr h)
  show .inr h
 show⟨by simp;lia,λl nd h=>?_,λl nd h i=>q l nd (λw=>by rw[h,f]) i⟩;have:=Kq nd λw hw=>hm w ((f w).mp (h w hw))
 lia
def mP:List (aa×Int)->aa->Int
 | [],_=>1
 | p::r,w=>if p.1=w then p.2 else mP r w
def xD:bg:=λds Q=>∃(c:bP)(w:aa),ds=[c.obj,.str w]/\Q (.fz (.int (mP c.wide w)))
def Nr:(T:TX) ×' ∀{P w K mg base},Txt K mg->cL P w K mg base 0 "width_of" ["channel","name","wide_name","width"] (top 3) T:=
 ⟨_,λT nd f c A outer s H E b=>have a:=b.units;
 (az (eN ee rfl (c6 (gh (ae 0))) (gZ (n:=2) rfl (cz (aP 2 nd) (cz (aP 3 nd) gJ)))
    (aI (cU (bG (fF a) (ae 2) (ae 1)) (aI (cf (ae 3))) cT)))
   (aI (cf ax)))⟩
def KQ:TX:=Nr.1
def ziS:cB 2 xD KQ ["channel","name","wide_name","width"]:=by
 intro ds f hl h;let⟨c,w,rfl,q⟩:=h;show KQ _ [.fz c.obj,.fz (.str w),.un,.un];unfold KQ Nr;dsimp only;lk;let e:TJ:=λi ρ=>∃a b:Sl,ρ=[.fz c.obj,.fz (.str w),a,b]/\mP c.wide w=mP (c.wide.drop i) w
 show kU c.wide tN (λg h=>?_) e ⟨_,_,rfl,rfl⟩ ?_ ?_
 .lk;show⟨_,rfl,h⟩
 .rintro i x ρ hx ⟨a,b,rfl,hd⟩;let⟨hi,d⟩:=cH.mp hx;rw[pY hi,d] at hd;unfold tN;lk;by_cases hw:x.1=w
  .rw[if_pos hw];simp![mP,if_pos hw] at hd;rw[hd] at q;show q
  rw[if_neg hw];simp![mP,if_neg hw] at hd;show⟨_,_,rfl,hd⟩
 rintro ρ ⟨a,b,rfl,hd⟩;rw[Hx] at hd;rw[hd] at q;walk;show q
structure Pc where
 n:Option aa
 l:Int
 r:Int
 k:Int
 deriving DecidableEq
def cw(p:Pc):D:=.tup [dO p.n,.int p.l,.int p.r,.int p.k]
def ba(ps:List Pc):D:=.lst (ps.map cw)
def dJ:Option Int->D
 | none=>.non
 | some i=>.int i
def Dy(p:Pc)(c:Int):Bool:=decide (p.l<=c)&&decide (c<=p.r)
def j6(p q:Pc):Option Int:=
 if (if q.l>p.l then q.l else p.l)>(if q.r<p.r then q.r else p.r) then none else some (if q.l>p.l then q.l else p.l)
def Eg(p q):j6 p q=if max p.l q.l<=min p.r q.r then some (max p.l q.l) else none:=by
 have b:(if q.l>p.l then q.l else p.l)=max p.l q.l:=by split<;>ext
 have a:(if q.r<p.r then q.r else p.r)=min p.r q.r:=by split<;>ext
 unfold j6;rw[b,a];by_cases h:max p.l q.l<=min p.r q.r
 .rw[if_neg (by cbv),if_pos h]
 rw[if_pos (by cbv),if_neg h]
end Wc
open PySem L2 PyProof.Rows Wc
local macro_rules | `(tactic| lk)=>`(tactic| (repeat(first | walk_at"b" | simp only[$[$(qn "pz uS o9 lR"):ident],*])))
namespace Wc
open PySem L2 PyProof.Rows
def uQ:bg:=λds Q=>∃p q:Pc,ds=[cw p,cw q]/\Q (.fz (dJ (j6 p q)))
def NU:(T:TX) ×' ∀{P w K mg base},Txt K mg->cL P w K mg base 0 "common_of" ["one","other","column"] (top 10) T:=
 ⟨_,λT nd f c A outer s H E a=>have b:=a.units;
 (az (bD 2 (dD (IU rfl) T.b_max Gr (ai (aS (ae 0) ax) (ai (aS (ae 1) ax) au))) nd)
   (az (cU (bG wW (ae 2) (dD (IL rfl) T.b_min Cq (ai (aS (ae 0) ax) (ai (aS (ae 1) ax) au)))) (aI (cf fO)) cT)
   (aI (cf (ae 2)))))⟩
def K3:TX:=NU.1
def zhB:cB 2 uQ K3 ["one","other","column"]:=by
 intro ds d hl h;let⟨p,q,rfl,Q⟩:=h;show K3 _ [.fz (cw p),.fz (cw q),.un];unfold K3 NU;dsimp only;unfold cw;lk;show⟨_,rfl,_,rfl,?_⟩;walk;show⟨_,rfl,_,rfl,?_⟩;try unfold zG
 lk;unfold j6 at Q;generalize (if q.l>p.l then q.l else p.l)=a at Q ⊢;generalize (if q.r<p.r then q.r else p.r)=b at Q ⊢;by_cases h:b<a
 .rw[if_pos h] at Q;rw[if_pos h];show Q
 rw[if_neg h] at Q;rw[if_neg h];walk;show Q
theorem EC:∀a b:List Int,HT.lexLt a b=HT.bA b a
 | [],[]=>rfl
 | [],_::_=>rfl
 | _::_,[]=>rfl
 | x::xs,y::ys=>by
  unfold HT.lexLt HT.bA;rw[EC xs ys];grind
theorem Ef:∀a b:List Int,HT.bA a b=false->a≠b->HT.bA b a=true
 | [],[],_,h=>absurd rfl h
 | [],_::_,_,_=>rfl
 | _::_,[],h,_=>by cases h
 | x::xs,y::ys,h,d=>by
  unfold HT.bA at h ⊢;by_cases e:x=y
  .subst e;simp![cy] at h ⊢;show Ef xs ys h λz=>d (by rw[z])
  have c:¬y=x:=λz=>e z.symm
  simp[e] at h;simp[c];lia
theorem Kp{b:Type}(f):∀L:List b,qF (L.map λa=>D.tup ((f a).map D.int))=some (L.map f)
 | []=>rfl
 | a::L=>by
  rw[c8,c8];unfold qF;rw[sM,Kp f L]
def g9(ps:List Pc)(n:Option aa)(c:Int):List Nat:=(ps.zipIdx.filter λp=>decide (p.1.n=n)&&Dy p.1 c).map (·.2)
def AY:bg:=λds Q=>∃ps n c,ds=[ba ps,dO n,.int c]/\ps.length<=100000/\Q (.ow ((g9 ps n c).map dN))
def Ws:(["number","piece","name","column"]:List aa).Nodup:=by decide +kernel
def NC:(T:TX) ×' ∀{P w K mg base},Txt K mg->cL P w K mg base 0 "pieces_at" ["pieces","name","column"] (top 11) T:=
 ⟨_,λT nd f d A outer s H E c=>have b:=c.units;
 (aI (cf (fU rfl (.of (N':=["number","piece","name","column"]) (m:=[none,none,some 1,some 2]) (by kernel_rfl)) sP (sJ T.b_enumerate (ai (ae 0) au)) (λs3 a ex=>(gZ (n:=2) rfl (cz (aP 0 Ws) (cz (aP 1 Ws) gJ)))) (λs3 a ex=>(jG (pq (bG (fF b) (aS (ae 1) ax) (ae 2)) (uP (zqr IK IK (aS (ae 1) ax) (ae 3) (aS (ae 1) ax)))).pb)) (λs3 a ex=>(ae 0)))))⟩
def K2:TX:=NC.1
def zhC:cB 3 AY K2 ["pieces","name","column"]:=by
 intro ds j hl h;let⟨ps,n,c,rfl,i,q⟩:=h;show K2 _ [.fz (ba ps),.fz (dO n),.fz (.int c)];unfold K2 NC;dsimp only;unfold ba;have big:=cS;lk;show lW ps.zipIdx (λp=>.tup [.int (p.2:Nat),cw p.1]) (λp=>dN p.2) (λp=>decide (p.1.n=n)&&Dy p.1 c) (λm h=>?_) (by simp;lia) (λp g o s k1 e=>?_) ?_
 .lk;rw[UX];show h
 .lk;show⟨_,rfl,?_⟩;lk;unfold Dy at k1 e;by_cases b:p.1.n=n
  .rw[if_pos b];show⟨_,rfl,?_⟩;lk;by_cases d:p.1.l<=c
   .rw[if_pos d];show⟨_,rfl,?_⟩;lk;by_cases f:c<=p.1.r
    .rw[if_pos f];show k1 (by simp[b,d,f])
    rw[if_neg f];show e (by simp[b,d,f])
   rw[if_neg d];show e (by simp[b,d])
  rw[if_neg b];show e (by simp[b])
 unfold g9 at q;rw[cJ] at q;show q
def zpb{a:Type}{j:fI}{m:List (Option Nat)}{g:du}{te:TD}{ρ:Ev}{Q:R->Prop}(L:List a)(e:a->D)(f:a->List D)(hw:∀k:List D->Prop,k (L.map e)->j ρ k)(o:L.length<=sizeLine)
  (h:∀x∈L,∀(l:List D->Prop),l (f x)->g (e x) (cR m ρ) λn=>te n λr=>match r with | .ow c=>l c | _=>False) (q:Q (.ov (.ll (L.map f)))):Jb j m g qp te ρ Q:=by
 show hw _ ⟨λi acc=>acc=(L.take i).map f,by rfl,λi d acc hd b=>?_,λacc b=>?_⟩
 .subst b;rw[cx] at hd;cases hx:L[i]? with
  | none=>rw[hx] at hd;cases hd
  | some x=>
   rw[hx] at hd;cases hd;have:=h x (cP hx) (λc=>((L.take i).map f).length<sizeLine/\(L.take i).map f++[c]=(L.take (i+1)).map f) ⟨by simp;grind,by rw[fB,hx];simp⟩;show this
 subst b;simpa using q
abbrev Tr:=Nat×Nat×Int
def dT(t:Tr):D:=.tup [.int t.1,.int t.2.1,.int t.2.2]
def eD(ts:List Tr):D:=.lst (ts.map dT)
def fu(kv:List (Nat×Int)):List (Key×D):=kv.map λp=>(.inl (p.1:Int),.int p.2)
def Ord(n:Nat)(ts:List Tr):Prop:=∃f:Nat->Int,∀t∈ts,f t.1<f t.2.1
def il(n:Nat)(ts:List Tr):Prop:=∀t∈ts,t.1<n/\t.2.1<n
def keys(kv:List (Nat×Int)):List Nat:=kv.map (·.1)
def Aa(nd:(keys kv).Nodup)(h:p∈kv):look (fu kv) (.inl (p.1:Int))\.int p.2:=by
 induction kv with
 | nil=>cases h
 | cons a r b=>
  unfold keys at nd;rw[c8,eH] at nd;unfold fu look;rw[c8,ju];rcases bM.mp h with rfl | h
  .simp
  have c:a.1≠p.1:=λz=>nd.1 (by rw[z];show iA h)
  have:¬((eJ (a.1:Int):Key)=eJ (p.1:Int)):=λz=>c (by injection z with z;lia)
  simp![this,fA];show b nd.2 h
def VN(kv)(n:Nat):(look (fu kv) (.inl (n:Int))).isSome=decide (n∈keys kv):=by
 induction kv with
 | nil=>rfl
 | cons a r b=>
  unfold fu look keys;grind
def Tc(h:n∉keys kv):oY (fu kv) (.inl (n:Int)) (.int l)=fu (kv++[(n,l)]):=by
 unfold oY;rw[if_neg]
 .unfold fu;simp
 intro z;rw[wa] at z;let⟨x,hx,e⟩:=z;unfold fu at hx;rw[bQ] at hx;let⟨p,a,rfl⟩:=hx;show h (by unfold keys;rw[bQ];show⟨p,a,by lia⟩)
def xf(h:k<n):iI n (k:Int)\k:=by
 unfold iI;rw[if_pos (by room),if_pos (by cbv)];simp
def Ko{a:Type}(n f u)(v:a):((aV n).map f).set u v=(aV n).map λx=>if x=u then v else f x:=by
 apply qi;grind
def US{a:Type}(f:Nat->a)(h:u<n):((aV n).map f)[u]?\f u:=by rw[cx,Qu h];rfl
def Ai(f:Nat->a)(h:u<n):bE ((aV n).map f) (u:Int)\f u:=by
 rw[mU,eV (by simpa using h)];simp
structure Oi(n:Nat)(ts:List Tr)(kv:List (Nat×Int)):Prop where
 nd:(keys kv).Nodup
 lt:∀p∈kv,p.1<n
 up:∀p∈kv,∀t∈ts,t.2.1=p.1->∃l,(t.1,l)∈kv/\l+1<=p.2
 top:∀p∈kv,(p.2=0/\∀t∈ts,t.2.1≠p.1)\/∃t∈ts,t.2.1=p.1/\(t.1,p.2-1)∈kv
 out:∀q,q<n->q∉keys kv->∃t∈ts,t.2.1=q/\t.1∉keys kv
 gn:kv.Pairwise λa b=>a.2<=b.2
def ik(ts:List Tr)(u:Nat):List Nat:=(ts.filter λt=>t.1==u).map (·.2.1)
def fX(ts:List Tr)(dn:List Nat)(q:Nat):Nat:=ts.countP λt=>t.2.1==q&&!(dn.contains t.1)
structure Lp(n:Nat)(ts:List Tr)(kv:List (Nat×Int))(w:Nat->Nat)(dn rest:List Nat):Prop where
 nd:(keys kv).Nodup
 lt:∀p∈kv,p.1<n
 up:∀p∈kv,∀t∈ts,t.2.1=p.1->∃l,(t.1,l)∈kv/\l+1<=p.2
 top:∀p∈kv,(p.2=0/\∀t∈ts,t.2.1≠p.1)\/∃t∈ts,t.2.1=p.1/\(t.1,p.2-1)∈kv
 wz:∀q,q<n->(w q=0↔q∈keys kv)
 wc:∀q,q<n->w q=fX ts dn q+rest.count q
 gn:kv.Pairwise λa b=>a.2<=b.2
def Lp.done(h:Lp n ts kv w (keys kv) []):Oi n ts kv:=by
 show⟨h.nd,h.lt,h.up,h.top,λq a b=>?_,h.gn⟩;have d:w q≠0:=λz=>b ((h.wz q a).mp z)
 rw[h.wc q a,Pe,CF] at d;have c:0<fX ts (keys kv) q:=by lia
 unfold fX at c;cbv
def zpd(ts dn u q)(c:u∉dn):fX ts dn q=fX ts (dn++[u]) q+(ik ts u).count q:=by
 unfold fX ik;induction ts with
 | nil=>rfl
 | cons t ts b=>
  rw[we,we,b,PL];by_cases a:t.1=u
  .subst a;have:dn.contains t.1=false:=by simpa using c
   simp![this,mL,cy,c8,zc,List.contains_append,List.contains_cons,Bool.true_or,Bool.or_true,oR,Hl,cO,cC,qc,Bool.and_true];lia
  have d:(dn++[u]).contains t.1=dn.contains t.1:=by simp[a]
  lia
def xq{b:Type}[DecidableEq b]{l ws:List b}(nd:l.Nodup)(h:∀w∈l,w∈ws):l.length<=ws.length:=by
 induction l generalizing ws with
 | nil=>simp
 | cons a r e=>
  rw[eH] at nd;have d:=h a (by room);have f:=e (ws:=ws.erase a) nd.2 λw hw=>(HN (λz:w=a=>nd.1 (z▸hw))).mpr (h w (by room))
  rw[QZ d] at f;have:=QQ d;simp![eh];lia
def Ta(nd:(keys kv).Nodup)(lt:∀p∈kv,p.1<n):kv.length<=n:=by
 have:=xq (ws:=aV n) nd λw hw=>by
  unfold keys at hw;rw[bQ] at hw;let⟨p,a,rfl⟩:=hw;show eG.mpr (lt p a)
 simpa[keys] using this
def Lp.less{dn rest:List Nat}(h:Lp n ts kv w dn (q::rest))(a:q<n):1<=w q/\q∉keys kv:=by
 have b:=h.wc q a;rw[List.count_cons_self] at b;show⟨by lia,λz=>?_⟩;have:=(h.wz q a).mpr z;cbv
def Lp.kh{dn rest:List Nat}(h:Lp n ts kv w dn (q::rest))(a:q<n)(f:w q-1≠0):Lp n ts kv (λx=>if x=q then w q-1 else w x) dn rest:=by
 let⟨d,c⟩:=h.less a;show⟨h.nd,h.lt,h.up,h.top,λx hx=>?_,λx hx=>?_,h.gn⟩
 .split
  .simp_all
  show h.wz x hx
 have:=h.wc x hx;rw[zc] at this;split
 .rename_i e;subst e;simp at this;cbv
 rename_i e;have b:(q==x)=false:=by simpa using Ne.symm e
 simp[b] at this;show this
def Lp.step{dn rest:List Nat}{q u:Nat}{d:Int}(h:Lp n ts kv w dn (q::rest))(i:q<n)(B:w q-1=0)
  (v:∀x∈dn,∃l,(x,l)∈kv/\l<=d) (y:(u,d)∈kv) (A:∃t∈ts,t.2.1=q/\t.1=u) (k:∀x∈kv,x.2<=d+1):Lp n ts (kv++[(q,d+1)]) (λx=>if x=q then w q-1 else w x) dn rest:=by
 let⟨E,C⟩:=h.less i;have hw:=h.wc q i;have j:fX ts dn q=0:=by cbv
 have r:keys (kv++[(q,d+1)])=keys kv++[q]:=by show c9
 show⟨?_,λp c=>?_,λp c t s e=>?_,λp c=>?_,λx hx=>?_,λx hx=>?_,?_⟩
 .rw[r,kH];show⟨h.nd,by show fE _ _,λa m b f=>?_⟩;simp at f;subst f;show λz=>C (z▸m)
 .rcases bJ.mp c with c | c
  .exact h.lt p c
  simp at c;subst c;show i
 .rcases bJ.mp c with c | c
  .let⟨l,l1,o⟩:=h.up p c t s e;show⟨l,ie _ l1,o⟩
  simp at c;subst c;unfold fX at j;rw[Qt] at j;have:=j t s;simp![mK,beq_iff_eq,kF,List.contains_eq_mem,kJ] at this;have hm:t.1∈dn:=Ds λz=>this ⟨e,z⟩
  let⟨l,l1,o⟩:=v _ hm;show⟨l,ie _ l1,by cbv⟩
 .rcases bJ.mp c with c | c
  .rcases h.top p c with z | ⟨t,t1,g,t3⟩
   .exact .inl z
   show .inr ⟨t,t1,g,ie _ t3⟩
  simp at c;subst c;let⟨t,t1,g,t3⟩:=A;show .inr ⟨t,t1,g,ie _ ?_⟩;rw[t3];rw[show d+1-1=d by cbv];show y
 .rw[r];split
  .rename_i e;subst e;simp[B]
  rename_i e;rw[h.wz x hx];simp[e]
 .have:=h.wc x hx;rw[zc] at this;split
  .rename_i e;subst e;simp at this;cbv
  rename_i e;have D:(q==x)=false:=by simpa using Ne.symm e
  simp[D] at this;show this
 rw[iT];show⟨h.gn,by show fE _ _,λa m b f=>?_⟩;simp at f;subst f;show k a m
def Lp.next{dn:List Nat}(h:Lp n ts kv w dn [])(a:u∉dn):Lp n ts kv w (dn++[u]) (ik ts u):=by
 show⟨h.nd,h.lt,h.up,h.top,h.wz,λx hx=>?_,h.gn⟩;rw[h.wc x hx,Pe,CF,zpd ts dn u x a]
end Wc
open PySem L2 PyProof.Rows Wc
local macro_rules | `(tactic| lk)=>`(tactic| (repeat(first | walk_at"b" | dsimp only[zC,wO] | simp only[$[$(qn "pz uS o9 lR"):ident],*])))
namespace Wc
open PySem L2 PyProof.Rows
def qm:List Int->Option (Int×Int)
 | []=>none
 | a::r=>if a=(a::r).getLast ∅ then none else some (a,(a::r).getLast ∅)
def ztG(p:List Int):zu p=match qm p with | none=>.non | some q=>.tup [.int q.1,.int q.2]:=by
 cases p with
 | nil=>rfl
 | cons a r=>
  simp![zu,qm];by_cases h:a=(a::r).getLast ∅
  .rw[if_pos h,if_pos h]
  rw[if_neg h,if_neg h]
def jA(c:bP)(w:aa):List Int:=(c.cZ.filter λp=>decide (p.2=w)).map (·.1)
def AL:bg:=λds Q=>∃c w,ds=[c.obj,.str w]/\c.cZ.length<=100/\Q (.ow ((jA c w).map D.int))
def Wu:(["column","bent_name","name"]:List aa).Nodup:=by decide +kernel
def NZ:(T:TX) ×' ∀{P w K mg base},Txt K mg->cL P w K mg base 0 "bend_columns" ["channel","name"] (top 9) T:=
 ⟨_,λT nd f d A outer s H E c=>have b:=c.units;
 (aI (cf (fU rfl (.of (N':=["column","bent_name","name"]) (m:=[none,none,some 1]) (by kernel_rfl)) sP (c6 (gh (ae 0))) (λs3 a ex=>(gZ (n:=2) rfl (cz (aP 0 Wu) (cz (aP 1 Wu) gJ)))) (λs3 a ex=>(jG (bG (fF b) (ae 1) (ae 2)))) (λs3 a ex=>(ae 0)))))⟩
def LH:TX:=NZ.1
def zfj:cB 2 AL LH ["channel","name"]:=by
 intro ds g hl h;let⟨c,w,rfl,f,q⟩:=h;show LH _ [.fz c.obj,.fz (.str w)];unfold LH NZ;dsimp only;have big:=cS;lk;show lW c.cZ nC (λp=>.int p.1) (λp=>decide (p.2=w)) (λi h=>?_) (by lia) (λp e j m k1 d=>?_) ?_
 .lk;show⟨_,rfl,h⟩
 .unfold nC;lk;by_cases b:p.2=w
  .rw[if_pos b];show k1 (by show if_pos ‹_›)
  rw[if_neg b];show d (by show if_neg ‹_›)
 unfold jA at q;rw[cJ] at q;show q
def zr(w:aa)(k:Int)(bs:List Int):List Pc:=(bs.zip (bs.drop 1)).map λp=>⟨some w,p.1,p.2,k⟩
def gP(c:bP)(a:Bool)(w:aa):List Pc:=match qm (pl c w) with
 | none=>[]
 | some p=>zr w (mP c.wide w) ([p.1]++(if a then jA c w else [])++[p.2])
def uT:bg:=λds Q=>∃c w a,ds=[c.obj,.str w,.bl a]/\rD c/\c.cZ.length<=100/\Q (.ow ((gP c a w).map cw))
def Wo:(["first","last","name","width"]:List aa).Nodup:=by decide +kernel
def NH:(T:TX) ×' ∀{P w K mg base},Txt K mg->~~~2 "stretch_of" 2 AR->~~~1 "bend_columns" 2 AL->~~~1 "width_of" 2 xD->cL P w K mg base 2 "net_pieces" ["channel","name","bent","stretch","cuts","borders","width"] (top 8) T:=
 ⟨_,λT yr yK yn nd f d A outer s H E a=>have c:=a.units;
 (az (bD 3 (bC yr a (ai (ae 0) (ai (ae 1) au))) nd)
   (az (cU (bG wV (ae 3) fO) (aI (cf (eA au))) cT)
   (az (bD 4 (JQ (xa (ae 2)) (bC yK a (ai (ae 0) (ai (ae 1) au))) (eA au)) nd)
   (az (bD 5 (aM cE (aM cE (eA (ai (aS (ae 3) ax) au)) (ae 4)) (eA (ai (aS (ae 3) ax) au))) nd)
   (az (bD 6 (bC yn a (ai (ae 0) (ai (ae 1) au))) nd)
   (aI (cf (fU rfl (.of (N':=["first","last","name","width"]) (m:=[none,none,some 1,some 6]) (by kernel_rfl)) sP (Uj T.b_zip (ai (ae 5) (ai (kd (ae 5) (jf ax) lT) au))) (λs3 b ex=>(gZ (n:=2) rfl (cz (aP 0 Wo) (cz (aP 1 Wo) gJ)))) (λs3 b ex=>gc) (λs3 b ex=>(gi (ai (ae 2) (ai (ae 0) (ai (ae 1) (ai (ae 3) au))))))))))))))⟩
def Lu:TX:=NH.1
def zgV:cB 3 uT Lu ["channel","name","bent","stretch","cuts","borders","width"]:=by
 intro ds f hl h;let⟨c,w,b,rfl,g,e,q⟩:=h;show Lu _ [.fz c.obj,.fz (.str w),.fz (.bl b),.un,.un,.un,.un];unfold Lu NH;dsimp only;have big:=cS;lk;show⟨c,w,rfl,g,?_⟩;rw[ztG];unfold gP at q;generalize qm (pl c w)=st at q ⊢;cases st with
 | none=>
  walk;show⟨by show cA _,q⟩
 | some p=>
  walk;have j:(if b then jA c w else []).length<=100:=by
   split
   .unfold jA;rw[aL];show bX (jY _ _) e
   simp
  have fin:∀cs:List Int,cs=(if b then jA c w else [])->nT (f9 (j8 5 (dX zE (dX zE (wU (aT (dX iH (aO 3) (dC (.int 0))) cj)) (aO 4)) (wU (aT (dX iH (aO 3) (dC (.int 1))) cj))))
 (f9 (j8 6 (fS 2 xD (aT (aO 0) (aT (aO 1) cj))))
 (o4 (jB (zC (aT (aO 5) (aT (F1 (aO 5) (DJ (dC (.int 1))) Fg) cj))) [none,none,some 1,some 6] (qr 2 (iW (gR 0) (iW (gR 1) mN))) qp (r8 (aT (aO 2) (aT (aO 0) (aT (aO 1) (aT (aO 3) cj))))))))) { nx:=λ_=>f (.fz .non),rt:=f } [.fz c.obj,.fz (.str w),.fz (.bl b),.fz (.tup [.int p.1,.int p.2]),.fz (.lst (cs.map D.int)),.un,.un]:=by
   intro cs m;rw[<-m] at q j;walk;show⟨.int p.1,rfl,by show iy _,by simp;lia,.int p.2,rfl,by show iy _,by simp;lia,?_⟩;walk;show⟨c,w,rfl,?_⟩;walk;have i:(D.int p.1::(bT D.int cs++[D.int p.2]))=([p.1]++cs++[p.2]).map D.int:=by simp
   simp![i];have d:([p.1]++cs++[p.2]).length<=102:=by simp;ext
   dsimp only at q;generalize [p.1]++cs++[p.2]=bs at q d ⊢;show g4 (bs.zip (bs.drop 1)) (λp=>.tup [.int p.1,.int p.2]) (λp=>cw ⟨some w,p.1,p.2,mP c.wide w⟩) (λn h=>?_) (by simp;lia) (λx hx o k=>?_) ?_
   .lk;rw[EF _ (by cbv)];rw[zrl];show h
   .lk;show⟨by trivial,k⟩
   unfold zr at q;rw[cJ] at q;show q
  cases b with
  | true=>
   walk;show⟨c,w,rfl,e,?_⟩;show fin _ rfl
  | false=>
   walk;show⟨by show cA _,fin [] rfl⟩
structure Cg(c:bP)(l:List aa):Prop where
 nd:l.Nodup
 mem:∀w,w∈l↔qT c w
 gn:sortedS l=true
def mR(c:bP):List Pc:=c.keeps.map λk=>⟨none,k.1,k.2.1,k.2.2⟩
def gU(c:bP)(a:Bool)(l:List aa):List Pc:=mR c++l.flatMap (gP c a)
def UR(c a w):(gP c a w).length<=c.cZ.length+1:=by
 unfold gP;split
 .simp
 unfold zr;have:(jA c w).length<=c.cZ.length:=by unfold jA;rw[aL];show jY _ _
 have:(if a then jA c w else []).length<=c.cZ.length:=by split<;>simp[*]
 simp;ext
def zrq{b c:Type}(f:b->List c)(k)(h:∀a,(f a).length<=k):∀l:List b,(l.flatMap f).length<=l.length*k:=by
 intro l;induction l with
 | nil=>show cA _
 | cons a r d=>
  rw[lB,cD,eh,OT];have:=h a;lia
def xy:bg:=λds Q=>∃(c:bP)(a:Bool)(ws:List aa),ds=[c.obj,.bl a]/\rD c/\c.cZ.length<=100/\c.keeps.length<=100/\ws.length<=40/\(∀w,qT c w->w∈ws)/\∀l,Cg c l->Q (.ow ((gU c a l).map cw))
def EM:TX:=(f9 (uy 2 (jB (lL (sf "keeps" (aO 0))) [none,none,none] (qr 3 (iW (gR 0) (iW (gR 1) (iW (gR 2) mN)))) qp (r8 (aT (dC .non) (aT (aO 0) (aT (aO 1) (aT (aO 2) cj)))))))
 (f9 (nX (lL (fS 1 uR (aT (aO 0) cj))) (gR 3) (wO 2 (fS 3 uT (aT (aO 0) (aT (aO 3) (aT (aO 1) cj))))))
 (qA 2)))
def zhE:cB 2 xy EM ["channel","bent","pieces","name"]:=by
 intro ds u hl h;symm;let⟨c,b,ws,rfl,d,g,f,e,hm,q⟩:=h;show EM _ [.fz c.obj,.fz (.bl b),.un,.un];unfold EM;have big:=cS;lk;show g4 c.keeps vA (λk=>cw ⟨none,k.1,k.2.1,k.2.2⟩) (λm h=>?_) (by lia) (λx hx v k=>?_) ?_
 .lk;show⟨_,rfl,h⟩
 .unfold vA;lk;show⟨by trivial,k⟩
 have j:c.keeps.map (λk=>cw ⟨none,k.1,k.2.1,k.2.2⟩)=(mR c).map cw:=by unfold mR;rw[cJ];rfl
 rw[j];walk;show J6 (λds=>∃l,Cg c l/\ds=l.map D.str) (λm h=>?_) ?_
 .lk;show⟨c,ws,rfl,d,e,hm,λl nd mem gn=>h _ ⟨l,⟨nd,mem,gn⟩,rfl⟩⟩
 rintro _ ⟨l,hN,rfl⟩;have t:l.length<=40:=bX (Kq hN.nd λw hw=>hm w ((hN.mem w).mp hw)) e;let n:TJ:=λi ρ=>∃a:Sl,ρ=[.fz c.obj,.fz (.bl b),.ow ((mR c++(l.take i).flatMap (gP c b)).map cw),a]
 show EG l D.str n ⟨.un,∅⟩ ?_ ?_
 .rintro i x ρ hx ⟨a,rfl⟩;lk;show⟨c,x,b,rfl,d,g,?_⟩;have s:=zrq (gP c b) 101 (λw=>by have:=UR c b w;lia) (l.take i);have r:=UR c b x;have p:(mR c).length<=100:=by unfold mR;rw[aL];show f
  have o:(l.take i).length<=40:=by rw[eK];lia
  show⟨by simp![cD,aL];lia,.fz (.str x),?_⟩;rw[fB,hx];simp[wC]
 rintro ρ ⟨a,rfl⟩;walk;rw[f6];show q l hN
end Wc
open PySem L2 PyProof.Rows Wc
local macro_rules | `(tactic| lk)=>`(tactic| (repeat(first | walk_at"b" | dsimp only[wO] | simp only[$[$(qn "pz uS o9 lR"):ident],*])))
namespace Wc
open PySem L2 PyProof.Rows
def sj(p:Pc)(ps:List Pc):List (Nat×Option Int):=(ps.zipIdx.filter λq=>q.1.n.isSome).map λq=>(q.2,j6 p q.1)
def rY(p:Pc)(ps:List Pc):List (Nat×Int):=(sj p ps).filterMap λx=>x.2.map λc=>(x.1,c)
def AK:bg:=λds Q=>∃p ps,ds=[cw p,ba ps]/\ps.length<=1000/\Q (.ow ((rY p ps).map λx=>.tup [dN x.1,.int x.2]))
def Wt:(["number","piece","keep"]:List aa).Nodup:=by decide +kernel
def Ww:(["number","column"]:List aa).Nodup:=by decide +kernel
def NY:(T:TX) ×' ∀{P w K mg base},Txt K mg->~~~1 "common_of" 2 uQ->cL P w K mg base 1 "beneath_keep" ["keep","pieces","commons"] (top 16) T:=
 ⟨_,λT jV nd f d A outer s H E b=>have c:=b.units;
 (az (Ad 2 rfl (.of (N':=["number","piece","keep"]) (m:=[none,none,some 0]) (by kernel_rfl)) sP (sJ T.b_enumerate (ai (ae 1) au)) (λs3 a ex=>(gZ (n:=2) rfl (cz (aP 0 Wt) (cz (aP 1 Wt) gJ)))) (λs3 a ex=>(jG (bG pw (aS (ae 1) ax) fO))) (λs3 a ex=>(gi (ai (ae 0) (ai (bC jV b (ai (ae 2) (ai (ae 1) au))) au)))) nd)
   (aI (cf (fU rfl (.of (N':=["number","column"]) (m:=[none,none]) (by kernel_rfl)) sP (c6 (ae 2)) (λs3 a ex=>(gZ (n:=2) rfl (cz (aP 0 Ww) (cz (aP 1 Ww) gJ)))) (λs3 a ex=>(jG (bG pw (ae 1) fO))) (λs3 a ex=>(gi (ai (ae 0) (ai (ae 1) au))))))))⟩
def LG:TX:=NY.1
def zfk:cB 2 AK LG ["keep","pieces","commons"]:=by
 intro ds u hl h;let⟨p,ps,rfl,i,q⟩:=h;show LG _ [.fz (cw p),.fz (ba ps),.un];unfold LG NY;dsimp only;have big:=cS;lk;show lW ps.zipIdx (λp=>.tup [.int (p.2:Nat),cw p.1]) (λq=>.tup [dN q.2,dJ (j6 p q.1)]) (λq=>q.1.n.isSome) (λo h=>?_) (by simp;lia) (λx hx s t k1 d=>?_) ?_
 .unfold ba;lk;rw[UX];show h
 .lk;have f:cw x.1=.tup [dO x.1.n,.int x.1.l,.int x.1.r,.int x.1.k]:=rfl;simp![f];show⟨_,rfl,?_⟩;cases b:x.1.n with
  | none=>lk;show d (by rw[b];rfl)
  | some w=>
   simp![dO];lk;have j:D.tup [D.str w,D.int x.1.l,D.int x.1.r,D.int x.1.k]=cw x.1:=by rw[f,b];rfl
   rw[j];show⟨p,x.1,rfl,?_⟩;show⟨by trivial,k1 (by rw[b];rfl)⟩
 have m:(ps.zipIdx.filter λq=>q.1.n.isSome).map (λq=>D.tup [dN q.2,dJ (j6 p q.1)])=(sj p ps).map λx=>.tup [dN x.1,dJ x.2]:=by unfold sj;rw[cJ];rfl
 rw[m];have g:(sj p ps).length<=1000:=by
  unfold sj;rw[aL];show bX (jY _ _) ?_;simpa using i
 unfold rY at q;generalize sj p ps=cs at q g ⊢;walk;show JA cs (λx=>.tup [dN x.1,dJ x.2]) (λx=>(x.2.map λc=>(x.1,c)).map λx=>.tup [dN x.1,.int x.2]) (λo h=>?_) (by lia) (λx hx s t k1 d=>?_) ?_
 .lk;show h
 .lk;cases e:x.2 with
  | none=>lk;show d (by rw[e];rfl)
  | some c=>
   lk;show⟨by trivial,k1 _ (by rw[e];rfl)⟩
 rw[List.map_filterMap] at q;show q
def S9(p ps):(rY p ps).length<=ps.length:=by
 unfold rY sj;show bX (HY _ _) ?_;rw[aL];show bX (jY _ _) ?_;simp
def oh(ps:List Pc)(p:Pc×Nat):List Tr:=if p.1.n=none then(rY p.1 ps).map λx=>(p.2,x.1,x.2) else []
def qV(ps:List Pc):List Tr:=ps.zipIdx.flatMap (oh ps)
def KP(ps p):(oh ps p).length<=ps.length:=by
 unfold oh;split
 .rw[aL];show S9 _ _
 simp
def sR{b c:Type}(f:b->List c)(k)(h:∀a,(f a).length<=k):∀l:List b,(l.flatMap f).length<=l.length*k:=by
 intro l;induction l with
 | nil=>show cA _
 | cons a r d=>
  rw[lB,cD,eh,OT];have:=h a;lia
def AJ:bg:=λds Q=>∃ps:List Pc,ds=[ba ps]/\ps.length<=1000/\Q (.ow ((qV ps).map dT))
def Wv:(["lower","column","upper"]:List aa).Nodup:=by decide +kernel
def NO:(T:TX) ×' ∀{P w K mg base},Txt K mg->~~~2 "beneath_keep" 2 AK->cL P w K mg base 2 "keep_triples" ["pieces","triples","upper","keep"] (top 15) T:=
 ⟨_,λT yJ nd f d A outer s H E a=>have c:=a.units;
 (az (gT 1 (eA au) nd)
   (az (eN ee rfl (sJ T.b_enumerate (ai (ae 0) au)) (gZ (n:=2) rfl (cz (aP 2 nd) (cz (aP 3 nd) gJ)))
    (aI (cU (bG wV (aS (ae 3) ax) fO) (aI (D5 1 (fU rfl (.of (N':=["lower","column","upper"]) (m:=[none,none,some 2]) (by kernel_rfl)) sP (c6 (bC yJ a (ai (ae 3) (ai (ae 0) au)))) (λs3 b ex=>(gZ (n:=2) rfl (cz (aP 0 Wv) (cz (aP 1 Wv) gJ)))) (λs3 b ex=>gc) (λs3 b ex=>(gi (ai (ae 2) (ai (ae 0) (ai (ae 1) au)))))))) cT)))
   (aI (om 1))))⟩
def LF:TX:=NO.1
def zfm:cB 1 AJ LF ["pieces","triples","upper","keep"]:=by
 intro ds p hl h;let⟨ps,rfl,f,q⟩:=h;show LF _ [.fz (ba ps),.un,.un,.un];unfold LF NO;dsimp only;have big:=cS;lk;show⟨by show cA _,?_⟩;walk;show EE ps cw (λj h=>?_) (λi ρ=>∃a b:Sl,ρ=[.fz (ba ps),.ow ((((ps.zipIdx.take i).flatMap (oh ps))).map dT),a,b]) ⟨.un,.un,by rfl⟩ ?_ ?_
 .lk;show h
 .rintro i x ρ hx ⟨a,b,rfl⟩;have hi:i<ps.length:=(cH.mp hx).1;have hz:ps.zipIdx[i]?\(x,i):=by rw[List.getElem?_zipIdx,hx];simp
  have tk:ps.zipIdx.take (i+1)=ps.zipIdx.take i++[(x,i)]:=by rw[fB,hz];rfl
  have len:=sR (oh ps) 1000 (λa=>bX (KP ps a) f) (ps.zipIdx.take i);have m:(ps.zipIdx.take i).length<=1000:=by rw[eK];lia
  rw[tk,wC,lB,zf,i8];generalize (ps.zipIdx.take i).flatMap (oh ps)=acc at len ⊢;have e:cw x=.tup [dO x.n,.int x.l,.int x.r,.int x.k]:=rfl;lk;simp![e];show⟨_,rfl,?_⟩;cases d:x.n with
  | some w=>
   simp![dO];lk;show⟨.fz (.int i),.fz (cw x),?_⟩;unfold oh;rw[if_neg (by rw[d];show λz=>nomatch z),i8,e,d];rfl
  | none=>
   simp![dO];lk;have g:D.tup [D.non,D.int x.l,D.int x.r,D.int x.k]=cw x:=by rw[e,d];rfl
   rw[g];have bl:=S9 x ps;show g4 (rY x ps) (λy=>.tup [dN y.1,.int y.2]) (λy=>dT (i,y.1,y.2)) (λj h=>?_) (by lia) (λy o s k=>?_) ?_
   .lk;show⟨x,ps,rfl,f,h⟩
   .lk;show⟨by trivial,k⟩
   show⟨by simp![aL];lia,.fz (.int i),.fz (cw x),?_⟩;unfold oh;rw[if_pos (by show d),c9,cJ];rfl
 rintro ρ ⟨a,b,rfl⟩;walk;rw[show ps.length=ps.zipIdx.length by simp,f6];show q
def lN(c:bP)(ps:List Pc)(n:Nat):List Tr:=match c.top[n]?,c.aH[n]? with
 | some (some u),some (some v)=>if u=v then [] else(g9 ps (some u) n).flatMap λa=>(g9 ps (some v) n).map λb=>(a,b,(n:Int))
 | _,_=>[]
def qS(c:bP)(ps:List Pc):List Tr:=(aV c.top.length).flatMap (lN c ps)
def Ee(ps n c):(g9 ps n c).length<=ps.length:=by
 unfold g9;rw[aL];show bX (jY _ _) ?_;simp
def Km(c ps n):(lN c ps n).length<=ps.length*ps.length:=by
 unfold lN;split
 .split
  .simp
  rename_i u v _ _ _;show bX (sR _ ps.length (λa=>by rw[aL];show Ee _ _ _) _) ?_;show Nat.mul_le_mul_right _ (Ee _ _ _)
 simp
def AF:bg:=λds Q=>∃c ps,ds=[c.obj,ba ps]/\rD c/\ps.length<=500/\Q (.ow ((qS c ps).map dT))
def zfO:(["lower","upper","column"]:List aa).Nodup:=by decide +kernel
def NB:(T:TX) ×' ∀{P w K mg base},Txt K mg->~~~1 "pieces_at" 3 AY->cL P w K mg base 1 "pin_triples" ["channel","pieces","triples","column","upper_name","lower_name","lowers","upper"] (top 14) T:=
 ⟨_,λT vJ nd f d A outer s H E a=>have c:=a.units;
 (az (gT 2 (eA au) nd)
   (az (eN ee rfl (jg T.b_range (ai (dD jc T.b_len ig (ai (gh (ae 0)) au)) au)) (aP 3 nd)
    (az (bD 4 (aS (gh (ae 0)) (ae 3)) nd)
   (az (bD 5 (aS (gh (ae 0)) (ae 3)) nd)
   (aI (cU (pq (bG pw (ae 4) fO) (pq (bG pw (ae 5) fO) (uP (bG (Ip c) (ae 4) (ae 5))))).pb (az (bD 6 (bC vJ a (ai (ae 1) (ai (ae 5) (ai (ae 3) au)))) nd)
   (aI (eN ee rfl (c6 (bC vJ a (ai (ae 1) (ai (ae 4) (ai (ae 3) au))))) (aP 7 nd)
    (aI (D5 2 (fU rfl (.of (N':=["lower","upper","column"]) (m:=[none,some 7,some 3]) (by kernel_rfl)) ez (c6 (ae 6)) (λs3 b ex=>(aP 0 zfO)) (λs3 b ex=>gc) (λs3 b ex=>(gi (ai (ae 1) (ai (ae 0) (ai (ae 2) au))))))))))) cT)))))
   (aI (om 2))))⟩
def LK:TX:=NB.1
def zfP:cB 2 AF LK ["channel","pieces","triples","column","upper_name","lower_name","lowers","upper"]:=by
 intro ds F hl h;let⟨c,ps,rfl,o,r,q⟩:=h;show LK _ [.fz c.obj,.fz (ba ps),.un,.un,.un,.un,.un,.un];unfold LK NB;dsimp only;have big:=cS;have hw:=o.w;lk;show⟨by show cA _,?_⟩;walk;show qL c.top.length (λs h=>?_) (λi ρ=>∃a b d e f:Sl,ρ=[.fz c.obj,.fz (ba ps),.ow (((aV i).flatMap (lN c ps)).map dT),a,b,d,e,f]) ⟨.un,.un,.un,.un,.un,by rfl⟩ ?_ ?_
 .lk;show⟨_,rfl,?_⟩;unfold dP;lk;rw[aL];show⟨by cbv,by lia,by trivial⟩
 .rintro i ρ hi ⟨a,b,d,e,f,rfl⟩;have t:i<c.aH.length:=by rw[o.b];show hi
  have sq:ps.length*ps.length<=250000:=Hc r r;have len:=sR (lN c ps) 250000 (λa=>bX (Km c ps a) sq) (aV i);rw[jv] at len;rw[CO,wC,lB,zf,i8];generalize (aV i).flatMap (lN c ps)=acc at len ⊢;lk;unfold bP.obj;lk;show⟨_,rfl,?_⟩;unfold dP;lk;show⟨_,eV hi,?_⟩;walk;show⟨_,rfl,?_⟩;lk;show⟨_,eV t,?_⟩;have obj:D.obj (fh "Channel") [(fh "top",D.lst (c.top.map dO)),(fh "bottom",D.lst (c.aH.map dO)),(fh "left",dS c.left),(fh "right",dS c.right),(fh "wide",dW c.wide),(fh "bends",dB c.cZ),(fh "keeps",dK c.keeps)]=c.obj:=rfl;rw[obj];have m:lN c ps i=match c.top[i],c.aH[i] with | some u,some v=>(if u=v then [] else(g9 ps (some u) i).flatMap λa=>(g9 ps (some v) i).map λb=>(a,b,(i:Int))) | _,_=>[]:=by
   unfold lN;rw[bO hi,bO t];cases c.top[i]<;>cases c.aH[i]<;>rfl
  generalize c.top[i]=x at m ⊢;generalize c.aH[i]=y at m ⊢;generalize lN c ps i=new at m ⊢;subst m;cases x with
  | none=>
   walk;show⟨_,_,_,_,_,by rw[i8]⟩
  | some u=>
   cases y with
   | none=>
    walk;show⟨_,_,_,_,_,by rw[i8]⟩
   | some v=>
    simp![dO];walk;by_cases n:u=v
    .simp![n,gF,oR,cO,cC,cy];show⟨_,_,_,_,_,by rw[i8]⟩
    simp![n,fA,qc,cC,cy];show⟨ps,some v,i,rfl,by lia,?_⟩;walk;have l1:=Ee ps (some u) i;have A:=Ee ps (some v) i;have p:=sR (λa=>(g9 ps (some v) i).map λb=>((a,b,(i:Int)):Tr)) 500 (λa=>by rw[aL];show bX ‹_› ‹_›);generalize g9 ps (some v) i=g at A p ⊢;show kU (g9 ps (some u) i) dN (λs h=>?_) (λj ρ=>∃f:Sl,ρ=[.fz c.obj,.fz (ba ps),.ow ((acc++((g9 ps (some u) i).take j).flatMap λa=>g.map λb=>(a,b,(i:Int))).map dT),.fz (.int i),.fz (.str u),.fz (.str v),.fz (.lst (g.map dN)),f]) ⟨_,by rw[Po,zf,i8]⟩ ?_ ?_
    .lk;show⟨ps,some u,i,rfl,by lia,h⟩
    .rintro j x ρ hx ⟨f,rfl⟩;have z:=p ((g9 ps (some u) i).take j);have C:((g9 ps (some u) i).take j).length<=500:=by rw[eK];lia
     rw[fB,hx,wC];generalize ((g9 ps (some u) i).take j).flatMap (λa=>g.map λb=>((a,b,(i:Int)):Tr))=B at z ⊢;unfold dN;lk;show g4 g dN (λb=>dT (x,b,(i:Int))) (λs h=>?_) (by lia) (λb E H k=>?_) ?_
     .lk;show h
     .lk;show⟨by trivial,k⟩
     show⟨by simp![aL,cD];lia,.fz (.int x),?_⟩;simp
    rintro ρ ⟨f,rfl⟩;show⟨_,_,_,_,_,by rw[f6]⟩
 rintro ρ ⟨a,b,d,e,f,rfl⟩;walk;show q
def kT(t:Tr):List Int:=[(t.1:Int),(t.2.1:Int),t.2.2]
structure Above(c:bP)(ps:List Pc)(ts:List Tr):Prop where
 pm:ts.Perm (qS c ps++qV ps)
 gn:ts.Pairwise λx y=>HT.bA (kT x) (kT y)=false
def xC:bg:=λds Q=>∃c ps,ds=[c.obj,ba ps]/\rD c/\ps.length<=500/\∀ts,Above c ps ts->Q (.ow (ts.map dT))
def N1:(T:TX) ×' ∀{P w K mg base},Txt K mg->~~~2 "pin_triples" 2 AF->~~~3 "keep_triples" 1 AJ->cL P w K mg base 3 "above_of" ["channel","pieces"] (top 13) T:=
 ⟨_,λT yv yE nd f c A outer s H E a=>have b:=a.units;
 (aI (cf (dD (Vv rfl) T.b_sorted vS (ai (aM cE (bC yv a (ai (ae 0) (ai (ae 1) au))) (bC yE a (ai (ae 1) au))) au))))⟩
def KO:TX:=N1.1
def zrr(c ps)(d:rD c)(b:ps.length<=500):(qS c ps).length<=10000000:=by
 have sq:ps.length*ps.length<=250000:=Hc b b;have:=sR (lN c ps) 250000 (λa=>bX (Km c ps a) sq) (aV c.top.length);rw[jv] at this;have:=d.w;unfold qS;lia
def zpg(ps)(b:ps.length<=500):(qV ps).length<=250000:=by
 have:=sR (oh ps) 500 (λa=>bX (KP ps a) b) ps.zipIdx;rw[Qe] at this;unfold qV;lia
def ziW:cB 2 xC KO ["channel","pieces"]:=by
 intro ds o hl h;let⟨c,ps,rfl,d,b,q⟩:=h;show KO _ [.fz c.obj,.fz (ba ps)];unfold KO N1;dsimp only;have big:=cS;have l1:=zrr c ps d b;have m:=zpg ps b;lk;show⟨c,ps,rfl,d,b,?_⟩;lk;show⟨ps,rfl,by lia,?_⟩;lk;show⟨by simp![cD,aL];lia,?_⟩;rw[<-c9];have e:((qS c ps++qV ps).map dT)=(qS c ps++qV ps).map λa=>D.tup ((kT a).map D.int):=rfl
 rw[e];simp![Es,Kp];show⟨λt g=>?_,λn i f=>?_⟩
 .let⟨a,z,rfl⟩:=bQ.mp g;simp[kT]
 let⟨ts,j,rfl⟩:=Aj i rfl;rw[cJ];show q ts ⟨j,by rw[iz] at f;show f⟩
def ao(ps:List Pc)(q:Nat):Pc:=ps[q]?.getD ⟨none,0,0,1⟩
def aD(tr:List Int)(q:Nat):Int:=tr[q]?.getD 0
def mS(h):ao ps q=ps[q]:=by unfold ao;rw[bO h];rfl
def uI(h):aD tr q=tr[q]:=by unfold aD;rw[bO h];rfl
end Wc
open PySem L2 PyProof.Rows Wc
local macro_rules | `(tactic| lk)=>`(tactic| (repeat(first | walk_at"b" | simp only[$[$(qn "pz uS o9 lR"):ident],*])))
namespace Wc
open PySem L2 PyProof.Rows
def je(p q:Pc):Bool:=decide (j6 p q=none)||(decide (p.n≠none)&&decide (p.n=q.n))
def xE:bg:=λds Q=>∃p q:Pc,ds=[cw p,cw q]/\Q (.fz (.bl (je p q)))
def NJ:(T:TX) ×' ∀{P w K mg base},Txt K mg->~~~1 "common_of" 2 uQ->cL P w K mg base 1 "may_share" ["one","other"] (top 36) T:=
 ⟨_,λT jV nd f c A outer s H E a=>have b:=a.units;
 (aI (cf (zwj (uG wV (bC jV a (ai (ae 0) (ai (ae 1) au))) fO) (Jj (Su (uG pw (aS (ae 0) ax) fO) (Jj (uG (fF b) (aS (ae 0) ax) (aS (ae 1) ax))))))))⟩
def KZ:TX:=NJ.1
def zhF:cB 2 xE KZ ["one","other"]:=by
 intro ds e hl h;let⟨p,q,rfl,Q⟩:=h;show KZ _ [.fz (cw p),.fz (cw q)];unfold KZ NJ;dsimp only;lk;show⟨p,q,rfl,?_⟩;unfold je at Q;unfold cw;cases d:j6 p q with
 | none=>
  rw[d] at Q;trivial
 | some c=>
  rw[d] at Q;show⟨_,rfl,?_⟩;cases b:p.n with
  | none=>
   rw[b] at Q;trivial
  | some x=>
   rw[b] at Q;lk;show⟨_,rfl,_,rfl,?_⟩;lk;trivial
def dA{a:Type}(f:a->D)(kv:List (Nat×a)):List (Key×D):=kv.map λp=>(.inl (p.1:Int),f p.2)
def dg{a:Type}(kv:List (Nat×a))(n:Nat):Option a:=(kv.find? λp=>decide (p.1=n)).map (·.2)
def nR{a:Type}(kv:List (Nat×a))(n:Nat)(x:a):List (Nat×a):=
 if (kv.any λp=>decide (p.1=n))=true then kv.map (λp=>if p.1=n then(p.1,x) else p) else kv++[(n,x)]
def IX(a b:Nat):((eJ (a:Int):Key)=eJ (b:Int))=(a=b):=by
 grind
def xc(f)(kv:List (Nat×b))(n:Nat):look (dA f kv) (.inl (n:Int))=(dg kv n).map f:=by
 induction kv with
 | nil=>rfl
 | cons a r c=>
  unfold dA look dg;rw[c8,ju,ju];simp![IX];by_cases h:a.1=n
  .simp[h]
  simp![h,fA];show c
def IW(f kv)(n:Nat)(x:a):oY (dA f kv) (.inl (n:Int)) (f x)=dA f (nR kv n x):=by
 have e:((dA f kv).any λp=>decide (p.1=eJ (n:Int)))=kv.any λp=>decide (p.1=n):=by
  unfold dA;rw[tZ];congr 1
  funext p
  simp![uh,IX]
 unfold oY nR;rw[e];split
 .unfold dA;rw[cJ,cJ];show ui λp _=>?_
  simp only[uh,IX];split<;>rfl
 unfold dA;simp
def EB(kv:List (Nat×b))(n):(dg kv n).isSome=true↔n∈kv.map (·.1):=by
 induction kv with
 | nil=>simp[dg]
 | cons a r c=>
  unfold dg;grind
def sQ(a)(r:List (Nat×b))(n):dg (a::r) n=if a.1=n then some a.2 else dg r n:=by
 unfold dg;by_cases h:a.1=n
 .simp[h]
 simp[h]
def zpk(kv n m)(x:b):dg (kv.map λp=>if p.1=n then(p.1,x) else p) m=if m=n then(dg kv n).map (λ_=>x) else dg kv m:=by
 induction kv with
 | nil=>simp[dg]
 | cons a r c=>
  rw[c8,sQ,sQ,sQ,c];grind
def zpl(kv n m)(x:d)(b:dg kv n=none):dg (kv++[(n,x)]) m=if m=n then some x else dg kv m:=by
 induction kv with
 | nil=>
  rw[t8,sQ];by_cases h:n=m
  .rw[h]
  simp[h,Ne.symm h]
 | cons a r f=>
  rw[sQ] at b;by_cases c:a.1=n
  .rw[if_pos c] at b;cases b
  rw[if_neg c] at b;rw[oT,sQ,sQ,f b];by_cases e:m=n
  .subst e;simp[c]
  simp[e]
def UQ(kv:List (Nat×b))(n):(kv.any λp=>decide (p.1=n))=(dg kv n).isSome:=by
 induction kv with
 | nil=>rfl
 | cons a r c=>
  rw[oS,sQ,c];by_cases h:a.1=n<;>simp[h]
def JX(kv n m)(x:a):dg (nR kv n x) m=if m=n then some x else dg kv m:=by
 unfold nR;rw[UQ];split
 .rename_i h;rw[zpk];split
  .cases e:dg kv n with
   | none=>rw[e] at h;cases h
   | some y=>rfl
  rfl
 rename_i h;show zpl kv n m x (by cbv)
def Vh(kv n)(x:a):(nR kv n x).length<=kv.length+1:=by
 unfold nR;split<;>simp
def zmU(f)(kv:List (Nat×b)):xk (dA f kv)\(kv.map λp=>(p.1:Int)):=by
 induction kv with
 | nil=>rfl
 | cons a r c=>
  show(xk (dA f r)).map ((a.1:Int)::·)=_;rw[c];rfl
end Wc
open PySem L2 PyProof.Rows Wc
local macro_rules | `(tactic| lk)=>`(tactic| (repeat(first | walk_at"b" | dsimp only[$[$(qn "qD qJ DC uF zI DT kR zF DS zL zz zK zJ qA"):ident],*])))
namespace Wc
open PySem L2 PyProof.Rows
def AI:bg:=λds Q=>∃(n:Nat)(ts:List Tr),ds=[.int n,eD ts]/\n<=1000/\ts.length<=100000/\il n ts/\∀kv,Oi n ts kv->Q (.ov (.dc (fu kv)))
def zfq:(["number","waits"]:List aa).Nodup:=by decide +kernel
def NM:(T:TX) ×' ∀{P w K mg base},Txt K mg->cL P w K mg base 0 "levels_found" ["count","above","lowers","waits","upper","lower","column","order","levels","place"] (top 24) T:=
 ⟨_,λT nd f d A outer s H E c=>have b:=c.units;
 (az (zqR 2 rfl (.of (N':=["number"]) (m:=[none]) (by kernel_rfl)) ez (jg T.b_range (ai (ae 0) au)) (λs3 a ex=>(aP 0 pd)) (λs3 a ex=>gc) (λs3 a ex=>(eA au)) nd)
   (az (gT 3 (zve (eA (ai ax au)) (ae 0)) nd)
   (az (eN ee rfl (c6 (ae 1)) (gZ (n:=3) rfl (cz (aP 4 nd) (cz (aP 5 nd) (cz (aP 6 nd) gJ))))
    (az (zte 2 (ae 4) (ae 5))
   (aI (zev 3 (ae 5) (aM cE (w8 3 (ae 5)) ax)))))
   (az (J9 3 7 rfl (.of (N':=["number","waits"]) (m:=[none,some 3]) (by kernel_rfl)) ez (jg T.b_range (ai (ae 0) au)) (λs3 a ex=>(aP 0 zfq)) (λs3 a ex=>(jG (bG (fF b) (aS (ae 1) (ae 0)) ax))) (λs3 a ex=>(ae 0)) nd)
   (az (gT 8 (zqT 7 (kf (zvd rfl) T.b_dict (by decide +kernel) (ai (fU rfl (.of (N':=["number"]) (m:=[none]) (by kernel_rfl)) ez (c6 (ae 7)) (λs3 a ex=>(aP 0 pd)) (λs3 a ex=>gc) (λs3 a ex=>(gi (ai (ae 0) (ai ax au))))) au))) nd)
   (az (bD 9 ax nd)
   (px 2 (az (UE ee (bG qv (ae 9) (JB 7 T.b_len)) (az (bD 4 (w8 7 (ae 9)) nd)
   (az (bD 9 (aM cE (ae 9) ax) nd)
   (aI (eN ee rfl (c6 (aS (ae 2) (ae 4))) (aP 5 nd)
    (az (zev 3 (ae 5) (aM R8 (w8 3 (ae 5)) ax))
   (aI (cU (bG (fF b) (w8 3 (ae 5)) ax) (az (D4 b 8 (ae 5) (aM cE (ztd b 8 (ae 4)) ax))
   (aI (jE 7 (ae 5)))) cT))))))))
   (aI (Jx 8))))))))))⟩
def LD:TX:=NM.1
def oq(n:Nat)(w:Nat->Nat):List D:=(aV n).map λq=>.int (w q:Nat)
def zrs(n)(d:D):(fi n [d]).flatten=fi n d:=by
 cbv
def zpm{a:Type}(n)(d:a):fi n d=(aV n).map λ_=>d:=by
 apply qh
 .simp
 intro i c b;simp
def zkZ(O:List Nat):pairsOf (O.map λx=>D.tup [D.int (x:Nat),D.int 0])=some (fu (O.map λx=>(x,(0:Int)))):=by
 induction O with
 | nil=>rfl
 | cons a r b=>
  show(match kR (D.int (a:Nat)) with | some key=>(pairsOf (r.map λx=>D.tup [D.int (x:Nat),D.int 0])).map ((key,D.int 0)::·) | none=>none)=_;rw[b];rfl
def zrt(n ts):Lp n ts (((aV n).filter λx=>decide (fX ts [] x=0)).map λx=>(x,(0:Int))) (fX ts []) [] []:=by
 have f:keys (((aV n).filter λx=>decide (fX ts [] x=0)).map λx=>(x,(0:Int)))=(aV n).filter λx=>decide (fX ts [] x=0):=by
  unfold keys;rw[cJ];show CA _
 have c:∀p∈(((aV n).filter λx=>decide (fX ts [] x=0)).map λx=>(x,(0:Int))),p.1<n/\p.2=0/\∀t∈ts,t.2.1≠p.1:=by
  intro p a;rw[bQ] at a;let⟨x,hx,rfl⟩:=a;rw[eI,eG] at hx;show⟨hx.1,rfl,λt b e=>?_⟩;have h0:fX ts [] x=0:=by simpa using hx.2
  unfold fX at h0;rw[Qt] at h0;show h0 t b (by simp[e])
 show⟨by rw[f];show Qy _ ua,λp a=>(c p a).1,λp a t b e=>absurd e ((c p a).2.2 t b),λp a=>.inl (c p a).2,λq d=>?_,λq d=>by simp,?_⟩
 .rw[f,eI,eG];simp[d]
 rw[iz];show O3.imp (λ_=>dv _) (List.pairwise_of_forall (R:=λ_ _=>True) λ_ _=>trivial)
def zfr:cB 2 AI LD ["count","above","lowers","waits","upper","lower","column","order","levels","place"]:=by
 intro ds Qr hl h;let⟨n,ts,rfl,hn,k5,val,q⟩:=h;show LD _ [.fz (.int n),.fz (eD ts),.un,.un,.un,.un,.un,.un,.un,.un];unfold LD NM;dsimp only;unfold eD;have big:=cS;lk;show zpb (aV n) (λ(i:Nat)=>.int (0+i)) (λ_=>[]) (λJ h=>?_) (by simp;lia) (λx hx K1 k=>?_) ?_
 .lk;show⟨by cbv,by lia,by trivial⟩
 .lk;show⟨by show cA _,k⟩
 walk;show⟨by room,by cbv,by lia,by simp;lia,?_⟩;rw[wu,zrs,zpm];walk;let J1:TJ:=λi ρ=>∃a b c:Sl,ρ=[.fz (.int n),.fz (.lst (ts.map dT)),.ov (.ll ((aV n).map λu=>(ik (ts.take i) u).map dN)),.ow (oq n (fX (ts.take i) [])),a,b,c,.un,.un,.un]
 show kU ts dT (λJ h=>?_) J1
  ⟨_,_,_,rfl⟩ ?_ ?_
 .lk;show h
 .rintro i t ρ r ⟨a,b,c,rfl⟩;let⟨v1,v2⟩:=val t (cP r);have Mx:i<ts.length:=(cH.mp r).1;rw[show dT t=.tup [.int t.1,.int t.2.1,.int t.2.2] from rfl];lk;show⟨t.1,_,by rw[aL,jv];show xf v1,US _ v1,?_⟩;have XU:(ik (ts.take i) t.1).length<=i:=by
   unfold ik;rw[aL];show bX (jY _ _) ?_;simp;lia
  show⟨by rw[aL];lia,?_⟩;have e1:ts.take (i+1)=ts.take i++[t]:=by rw[fB,r];rfl
  have e2:((aV n).map λu=>(ik (ts.take i) u).map dN).set t.1 ((ik (ts.take i) t.1).map dN++[D.int t.2.1])=(aV n).map λu=>(ik (ts.take (i+1)) u).map dN:=by
   rw[Ko];show ui λx hx=>?_
   rw[e1];unfold ik;by_cases h:x=t.1
   .subst h;simp[dN]
   have:(t.1==x)=false:=by simpa using Ne.symm h
   simp[h,this]
  have T:(oq n (fX (ts.take i) [])).set t.2.1 (D.int ((fX (ts.take i) [] t.2.1:Nat)+1))=oq n (fX (ts.take (i+1)) []):=by
   unfold oq;rw[Ko];show ui λx hx=>?_
   rw[e1];unfold fX;by_cases h:x=t.2.1
   .subst h;simp
   have:(t.2.1==x)=false:=by simpa using Ne.symm h
   simp[h,this]
  rw[e2];walk;show⟨_,Ai _ v2,t.2.1,by unfold oq;rw[aL,jv];show xf v2,?_⟩;rw[T];show⟨_,_,_,rfl⟩
 rintro ρ ⟨a,b,c,rfl⟩;rw[f6];walk;unfold D3;lk;show lW (aV n) (λ(i:Nat)=>.int (0+i)) (λ(i:Nat)=>dN i) (λx=>decide (fX ts [] x=0)) (λJ h=>?_) (by simp;lia) (λx hx K1 K0 k1 k0=>?_) ?_
 .lk;show⟨by cbv,by lia,by trivial⟩
 .have gE:x<n:=by simpa using hx
  rw[t4];lk;show⟨_,Ai _ gE,?_⟩;lk;by_cases h:fX ts [] x=0
  .rw[if_pos (by room)];show k1 (by simpa using h)
  rw[if_neg (by cbv)];show k0 (by show if_neg ‹_›)
 have W:∀L:List Nat,DR (.ow (L.map dN))=true:=λL=>by
  show(L.map dN).all nY=true;rw[CH,ud];intro x _;rfl
 show⟨W _,?_⟩;walk;show g4 ((aV n).filter λx=>decide (fX ts [] x=0)) dN (λx=>.tup [.int (x:Nat),.int 0]) (λJ h=>?_) ?_ (λx hx K1 k=>?_) ?_
 .lk;show h
 .refine bX (jY _ _) ?_;simp;lia
 .lk;show⟨by trivial,k⟩
 have sl:=zrt n ts;generalize ho:((aV n).filter λx=>decide (fX ts [] x=0))=O at sl;simp![zZ,IE,zkZ];have X0:keys (O.map λx=>(x,(0:Int)))=O:=by unfold keys;rw[cJ];show CA _
 show⟨?_,?_,?_⟩
 .have:(fu (O.map λx=>(x,(0:Int)))).map (·.1)=O.map λx=>(eJ ((x:Nat):Int):Key):=by unfold fu;simp
  rw[this];have nd:=sl.nd;rw[X0] at nd;unfold rM at nd ⊢;rw[iz];show nd.imp λh z=>h (by injection z with z;lia)
 .show(fu (O.map λx=>(x,(0:Int)))).all (λp=>nY p.2)=true;rw[ud];intro x hx;unfold fu at hx;rw[bQ] at hx;let⟨p,G,rfl⟩:=hx;rfl
 walk;have eO:(O.map λi=>dN i)=(keys (O.map λx=>(x,(0:Int)))).map dN:=by rw[X0]
 rw[eO];have Mn:∀x∈(O.map λx=>(x,(0:Int))),x.2=0:=by
  intro x hx;rw[bQ] at hx;let⟨y,G,rfl⟩:=hx;rfl
 generalize (O.map λx=>(x,(0:Int)))=N at sl Mn;walk;simp![OV.val];have S:((aV n).map λu=>(ik ts u).map dN).map D.lst=(aV n).map λu=>D.lst ((ik ts u).map dN):=by rw[cJ];rfl
 rw[S];let J2:TJ:=λm ρ=>∃(kv:List (Nat×Int))(w:Nat->Nat)(pl:Nat)(a b c:Sl),ρ=[.fz (.int n),.fz (.lst (ts.map dT)),.fz (.lst ((aV n).map λu=>D.lst ((ik ts u).map dN))),.ow (oq n w),a,b,c,.ow ((keys kv).map dN),.ov (.dc (fu kv)),.fz (.int pl)]/\pl<=kv.length/\m=n-pl/\Lp n ts kv w (keys (kv.take pl)) []/\∀x∈kv,∀y∈kv.drop pl,x.2<=y.2+1
 show⟨J2,⟨n,N,fX ts [],0,_,_,_,rfl,cA _,rfl,sl,λx hx y P=>?_⟩,?_⟩
 .rw[Mn x hx,Mn y (rV P)];decide
 rintro m ρ ⟨kv,w,pl,a,b,c,rfl,eT,rfl,s,bd⟩;have hkl:=Ta s.nd s.lt;have xY:(keys kv).length=kv.length:=by show aL ..
 lk;by_cases A:pl<kv.length
 .rw[if_pos (by cbv)];have hu:(keys kv)[pl]?=some kv[pl].1:=by unfold keys;rw[cx,bO A];rfl
  have Q:kv[pl].1<n:=s.lt _ (kC A);have gK:bE (keys kv) (pl:Int)=some kv[pl].1:=by
   rw[eV (by cbv)];have:=(cH.mp hu).2;rw[this]
  show⟨_,gK,?_⟩;walk;have Xw:kv.take (pl+1)=kv.take pl++[kv[pl]]:=by rw[fB,bO A];rfl
  have XZ:keys (kv.take (pl+1))=keys (kv.take pl)++[kv[pl].1]:=by rw[Xw];unfold keys;rw[c9];rfl
  have Z:kv[pl].1∉keys (kv.take pl):=by
   have nd:=s.nd;rw[<-lH (pl+1) kv] at nd;unfold keys at nd;rw[c9,kH] at nd;have W5:=nd.1;rw[show bT (·.1) (kv.take (pl+1))=keys (kv.take pl)++[kv[pl].1] from XZ,kH] at W5;show λz=>W5.2.2 _ z _ (by room) rfl
  have Xb:=s.next Z;rw[<-XZ] at Xb;have X:=s.gn;have Yi:∀x∈keys (kv.take (pl+1)),∃l,(x,l)∈kv/\l<=kv[pl].2:=by
   intro x hx;unfold keys at hx;rw[bQ] at hx;let⟨p,v,rfl⟩:=hx;show⟨p.2,uj v,?_⟩;rw[Xw] at v;rcases bJ.mp v with v | v
   .let⟨j,I,e⟩:=jW v;rw[eK] at I;rw[wj] at e;have:=pX.mp X j pl (by lia) A (by cbv);rw[e] at this;show this
   simp at v;rw[v];show dv _
  have U:∀x∈kv,x.2<=kv[pl].2+1:=λx hx=>bd x hx _ (by rw[QH];show⟨0,by rw[HH];show bO ‹_›⟩)
  have l8:kv[pl]∈kv:=kC A;generalize Mt:kv[pl]=ul at *;let⟨u,H⟩:=ul;simp only at *;let J3:TJ:=λj ρ=>∃(f:List (Nat×Int))(o:Nat->Nat)(b c:Sl),ρ=[.fz (.int n),.fz (.lst (ts.map dT)),.fz (.lst ((aV n).map λu=>D.lst ((ik ts u).map dN))),.ow (oq n o),.fz (.int u),b,c,.ow ((keys f).map dN),.ov (.dc (fu f)),.fz (.int (pl+1))]/\f.take (pl+1)=kv.take (pl+1)/\pl+1<=f.length/\Lp n ts f o (keys (kv.take (pl+1))) ((ik ts u).drop j)/\(∀x∈kv,x∈f)/\∀x∈f,x.2<=H+1
  show kU (ik ts u) dN (λJ h=>?_) J3 ⟨kv,w,_,_,rfl,rfl,A,Xb,λ_ h=>h,U⟩ ?_ ?_
  .lk;show⟨_,Ai _ Q,?_⟩;show h
  .rintro j d ρ I ⟨f,o,b,c,rfl,E,K,g,B,F⟩;have M:d∈ik ts u:=cP I;have XB:∃t∈ts,t.2.1=d/\t.1=u:=by
    unfold ik at M;rw[bQ] at M;let⟨t,r,e⟩:=M;rw[eI] at r;show⟨t,r.1,e,by simpa using r.2⟩
   have C:d<n:=by
    let⟨t,r,e,G⟩:=XB;rw[<-e];show(val t r).2
   have V:(ik ts u).drop j=d::(ik ts u).drop (j+1):=by
    have nk:=(cH.mp I)
    rw[pY nk.1,nk.2]
   rw[V] at g;let⟨w1,w2⟩:=g.less C;have acT:=Ta g.nd g.lt;rw[show dN d=.int (d:Nat) from rfl];lk;show⟨_,Ai _ C,d,by unfold oq;rw[aL,jv];show xf C,?_⟩;have T:(oq n o).set d (D.int ((o d:Nat)-1))=oq n (λx=>if x=d then o d-1 else o x):=by
    unfold oq;rw[Ko];show ui λx hx=>?_
    dsimp only;by_cases h:x=d
    .congr 1;lia
    rw[if_neg h,if_neg h]
   rw[T];walk;show⟨_,Ai _ C,?_⟩;lk;by_cases he:o d-1=0
   .rw[if_pos (by room)];show⟨_,_,rfl,Aa g.nd (B _ l8),?_⟩;lk;show⟨_,rfl,by unfold fu;rw[aL];lia,?_⟩;rw[Tc w2];walk;have ek:(keys f).map dN++[D.int (d:Nat)]=(keys (f++[(d,H+1)])).map dN:=by unfold keys;simp[dN]
    rw[ek];show⟨by rw[aL];unfold keys;rw[aL];lia,f++[(d,H+1)],_,.fz (.int (d:Nat)),c,rfl,?_,by rw[cD];lia,g.step C he (λx hx=>?_) (B _ l8) XB F,λx hx=>ie _ (B x hx),λx hx=>?_⟩
    .rw[Ih K,E]
    .let⟨l,l1,l2⟩:=Yi x hx;show⟨l,B _ l1,l2⟩
    rcases bJ.mp hx with hx | hx
    .exact F x hx
    simp at hx;subst hx;show dv _
   rw[if_neg (by cbv)];show⟨f,_,_,_,rfl,E,K,g.kh C he,B,F⟩
  rintro ρ ⟨f,o,b,c,rfl,E,K,g,B,F⟩;rw[Hx,<-E] at g;show⟨n-(pl+1),by lia,f,o,pl+1,_,_,_,rfl,K,rfl,g,λx hx y P=>?_⟩;have h1:=F x hx;have Y:f[pl]?\(u,H):=by
   have e:=congrArg (λl=>l[pl]?) E;simp![HJ,rR,cy] at e;rw[e,bO A,Mt]
  let⟨jj,R,e⟩:=jW P;rw[kE] at R;rw[C1] at e;have h2:=pX.mp g.gn pl (pl+1+jj) (by trivial) ⋯ (by lia);rw[e,(cH.mp Y).2] at h2;simp only at h2;lia
 rw[if_neg (by cbv)];have e:kv.take pl=kv:=mG (by cbv);rw[e] at s;walk;show q kv s.done
structure F5(ts rs:List Tr):Prop where
 ne:rs≠[]
 sub:∀t∈rs,t∈ts
 nd:(rs.map (·.1)).Nodup
 cyc:∀i t t',rs[i]?\t->rs[(i+1)%rs.length]?\t'->t.2.1=t'.1
structure Way(way:List Tr)(m0 m:Nat):Prop where
 ch:∀i t t',way[i]?\t->way[i+1]?\t'->t.1=t'.2.1
 last:∀t,way.getLast?\t->t.1=m
 nil:way=[]->m=m0
def zk0(w:Way d F m)(sub:∀t∈d,t∈ts)(nd:(d.map (·.2.1)).Nodup)(A:d[s]?\j)(J:j.2.1=m):F5 ts (d.drop s).reverse:=by
 have N:s<d.length:=(cH.mp A).1;have q:0<(d.drop s).length:=by rw[kE];lia
 generalize hv:d.drop s=v at q;have o:∀i,v[i]?=d[s+i]?:=λi=>by rw[<-hv,HH]
 have y:∀i t t',v[i]?\t->v[i+1]?\t'->t.1=t'.2.1:=λi t t' g f=>w.ch (s+i) t t' (by rw[<-o];show g) (by rw[<-f,o];rfl)
 have x:v[0]?\j:=by rw[o];show A
 have D:∀t,v[v.length-1]?\t->t.1=j.2.1:=λt n=>by
  rw[J];show w.last t ?_;rw[Q9];rw[o] at n;have:v.length=d.length-s:=by rw[<-hv,kE]
  rw[show d.length-1=s+(v.length-1) by lia];show n
 have M:∀t∈v,t∈ts:=λt n=>sub t (rV (by rw[hv];show n))
 have p:(v.map (·.2.1)).Nodup:=by
  rw[<-hv,O4];show nd.sublist (C2 _ _)
 -- H L are H seconds,turned on by one
 have u:v.map (·.1)=(v.map (·.2.1)).drop 1++[j.2.1]:=by
  apply qi;intro i;rw[cx];by_cases g:i+1<v.length
  .rw[um (by simp;lia),HH,cx,OW 1 i,bO (by room:i<v.length),bO g];simp![hZ,fJ];show y i _ _ (bO _) (bO _)
  by_cases f:i<v.length
  .have e:i=v.length-1:=by lia
   rw[zm (by simp;show qg ‹_›)];have K:i-((v.map (·.2.1)).drop 1).length=0:=by simp;ext
   rw[K,bO f];simp![hZ,wI,fJ];show D _ (by rw[<-e];show bO f)
  rw[uk (by show qg ‹_›),uk (by simp;ext)];rfl
 have E:(v.map (·.1)).Nodup:=by
  rw[u];have e:v.map (·.2.1)=j.2.1::(v.map (·.2.1)).drop 1:=by
   cases v with
   | nil=>assumption
   | cons a r=>simp at x;subst x;rfl
  rw[e,eH] at p;rw[kH];show⟨p.2,by show fE _ _,λa I b B=>?_⟩;simp![fj] at B;subst B;show λz=>p.1 (z▸I)
 show⟨λz=>by rw[List.reverse_eq_nil_iff] at z;rw[z] at q;room,λt n=>M t (CS.mp n),?_,λi t t' g f=>?_⟩
 .rw[PJ];unfold rM at E ⊢;rw[List.pairwise_reverse];show E.imp λh=>Ne.symm h
 have hi:i<v.length:=by simpa using (cH.mp g).1
 rw[HQ hi] at g;rw[HL] at f;by_cases C:i+1<v.length
 .rw[Nat.mod_eq_of_lt C,HQ C] at f;show(y (v.length-1-(i+1)) t' t f (by rw[<-g];congr 1;lia)).symm
 have e:i+1=v.length:=by lia
 rw[e,Nat.mod_self,HQ q] at f;rw[show v.length-1-i=0 by ext,x] at g;cases g;show(D t' f).symm
def AH:bg:=λds Q=>∃n ts kv,ds=[.dic (fu kv),eD ts]/\n<=1000/\ts.length<=100000/\il n ts/\Oi n ts kv/\kv.length<n/\∀rs,F5 ts rs->Q (.ow (rs.map dT))
def Ny:(T:TX) ×' ∀{P w K mg base},Txt K mg->cL P w K mg base 0 "ring_without" ["levels","above","triple_over","triple","number","places","way","ring"] (top 25) T:=
 ⟨_,λT nd f c A outer s H E b=>have a:=b.units;
 (az (gT 2 D8 nd)
   (az (eN ee rfl (c6 (ae 1)) (aP 3 nd)
    (aI (cU (bG (JK a) (aS (ae 3) ax) (ae 0)) (aI (D4 a 2 (aS (ae 3) ax) (ae 3))) cT)))
   (px 2 (az (bD 4 (dD (zvc rfl) T.b_min Cq (ai (ae 2) au)) nd)
   (az (gT 5 D8 nd)
   (az (gT 6 (eA au) nd)
   (az (UE ee (zs6 5 (bG (JK a) (ae 4) (ae 5))) (az (D4 a 5 (ae 4) (JB 6 T.b_len))
   (az (jE 6 (xm a (ae 2) (ae 4)))
   (aI (bD 4 (aS (xm a (ae 2) (ae 4)) ax) nd)))))
   (px 5 (px 6 (az (gT 7 (kd (ae 6) (jf (xm a (ae 5) (ae 4))) lT) nd)
   (az (zmC 7)
   (aI (om 7)))))))))))))⟩
def LC:TX:=Ny.1
def pF(a:List Tr):List (Nat×Int):=a.zipIdx.map λp=>(p.1.2.1,(p.2:Int))
def JH(a):keys (pF a)=a.map (·.2.1):=by
 unfold keys pF;rw[cJ];have:((λx:Nat×Int=>x.1)∘λp:Tr×Nat=>(p.1.2.1,(p.2:Int)))=(λt:Tr=>t.2.1)∘OA:=rfl;rw[this,<-cJ,List.zipIdx_map_fst]
def ztH(a t):pF (a++[t])=pF a++[(t.2.1,(a.length:Int))]:=by
 unfold pF;rw[List.zipIdx_append,c9];simp
def zwO{s:Nat}(h:a[s]?\t):(t.2.1,(s:Int))∈pF a:=by
 unfold pF;rw[bQ];show⟨(t,s),Ri.mpr h,rfl⟩
def zfs:cB 2 AH LC ["levels","above","triple_over","triple","number","places","way","ring"]:=by
 intro ds Qr hl h;symm;let⟨n,ts,kv,rfl,hn,k5,val,lv,bx,q⟩:=h;show LC _ [.fz (.dic (fu kv)),.fz (eD ts),.un,.un,.un,.un,.un,.un];unfold LC Ny;dsimp only;unfold eD;have big:=cS;lk;walk;let J1:TJ:=λi ρ=>∃(b:List (Nat×Tr))(a:Sl),ρ=[.fz (.dic (fu kv)),.fz (.lst (ts.map dT)),.ov (.dc (dA dT b)),a,.un,.un,.un,.un]/\b.length<=i/\(∀q t,dg b q=some t->t∈ts/\t.2.1=q/\t.1∉keys kv)/\∀t∈ts.take i,t.1∉keys kv->(dg b t.2.1).isSome=true
 show kU ts dT (λQ' h=>?_) J1 ⟨[],_,rfl,bB _,λq t e=>by trivial,λt g=>by simp at g⟩ ?_ ?_
 .lk;show h
 .rintro i t ρ g ⟨b,a,rfl,W,r,o⟩;have Mx:i<ts.length:=(cH.mp g).1;have H:ts.take (i+1)=ts.take i++[t]:=by rw[fB,g];rfl
  rw[show dT t=.tup [.int t.1,.int t.2.1,.int t.2.2] from rfl];lk;show⟨_,rfl,?_⟩;lk;show⟨_,rfl,?_⟩;simp![VN];by_cases f:t.1∈keys kv
  .simp![f,gF,oR,cO,cC];show⟨b,_,rfl,by room,r,λt' d p=>?_⟩;rw[H] at d;rcases bJ.mp d with d | d
   .exact o t' d p
   simp at d;subst d;show absurd f p
  simp![f,fA,qc,cy];show⟨_,rfl,?_⟩;lk;show⟨_,rfl,by unfold dA;rw[aL];lia,nR b t.2.1 t,.fz (dT t),?_,?_,λR t' e=>?_,λt' d p=>?_⟩
  .rw[<-IW];rfl
  .have:=Vh b t.2.1 t;lia
  .rw[JX] at e;split at e
   .rename_i V;cases e;show⟨cP g,V.symm,f⟩
   show r R t' e
  rw[JX];split
  .rfl
  rename_i Y;rw[H] at d;rcases bJ.mp d with d | d
  .exact o t' d p
  simp at d;subst d;show absurd rfl Y
 rintro ρ ⟨b,a,rfl,W,r,o⟩;rw[f6] at o;walk;have F:∀x,x<n->x∉keys kv->∃t,dg b x=some t:=λx hx f=>by
  let⟨t,t1,Q,t3⟩:=lv.out x hx f;have:=o t t1 t3;rw[Q] at this;show HZ.mp this
 have hex:∃x,x<n/\x∉keys kv:=Ds λz=>by
  have:∀w∈aV n,w∈keys kv:=λw hw=>Ds λN=>z ⟨w,eG.mp hw,N⟩
  have:=xq ua this;rw[jv] at this;unfold keys at this;rw[aL] at this;room
 simp![OV.val,IF,zmU];show⟨?_,λM E _=>?_⟩
 .let⟨x,P,O⟩:=hex;let⟨t,g⟩:=F x P O;intro z;rw[List.map_eq_nil_iff] at z;rw[z] at g;trivial
 rw[bQ] at E;let⟨pm,S,rfl⟩:=E;have K:∃t,dg b pm.1\t:=HZ.mp ((EB b pm.1).mpr (iA S))
 generalize pm.1=m0 at K;walk;walk;show⟨cA _,?_⟩;walk;let J2:TJ:=λC ρ=>∃(way:List Tr)(m:Nat)(a:Sl),ρ=[.fz (.dic (fu kv)),.fz (.lst (ts.map dT)),.fz (.dic (dA dT b)),a,.fz (.int m),.ov (.dc (fu (pF way))),.ow (way.map dT),.un]/\C=n-way.length/\Way way m0 m/\(way.map λt:Tr=>t.2.1).Nodup/\(∀t∈way,t∈ts)/\∃t,dg b m=some t
 show⟨J2,⟨n,[],m0,_,rfl,rfl,⟨λi t t' e=>by trivial,λt e=>by trivial,λ_=>rfl⟩,by show .nil,λt g=>(by cases g),K⟩,?_⟩;rintro C ρ ⟨way,m,a,rfl,rfl,v,nd,sub,t,g⟩;let⟨B,u,A⟩:=r m t g;have ve:way.length<=n:=by
  have:=xq (ws:=aV n) nd λw hw=>by
   rw[bQ] at hw;let⟨t,h,rfl⟩:=hw;show eG.mpr (val t (sub t h)).2
  cbv
 lk;show⟨_,rfl,?_⟩;simp![VN,JH];by_cases f:m∈way.map (·.2.1)
 .simp![f,gF,oR,cO,cC];walk;rw[bQ] at f;let⟨t0,Z,I⟩:=f;let⟨s,U,X⟩:=jW Z;have D:way[s]?=some t0:=by rw[bO U,X]
  have L:=Aa (by rw[JH];show nd) (zwO D);rw[I] at L;show⟨_,_,rfl,L,?_⟩;simp only;rw[EF _ (by room),wu];walk;simp![JL];walk;rw[<-PJ];show q _ (zk0 v sub nd D I)
 simp![f,fA,qc,cy];show⟨_,rfl,by unfold fu pF;simp;lia,?_⟩;have T:m∉keys (pF way):=by rw[JH];show f
 rw[aL,Tc T];walk;have J:look (dA dT b) (.inl (m:Int))=some (dT t):=by rw[xc,g];rfl
 show⟨_,_,rfl,J,by rw[aL];lia,?_⟩;walk;show⟨_,_,rfl,J,?_⟩;show⟨_,rfl,n-(way++[t]).length,?_,way++[t],t.1,a,?_,rfl,⟨λi x y hx j=>?_,λx hx=>?_,λz=>by simp at z⟩,?_,λx hx=>?_,?_⟩
 .have:way.length<n:=by
   have:=xq (l:=m::way.map (λt:Tr=>t.2.1)) (ws:=aV n) (eH.mpr ⟨f,nd⟩) λw hw=>by
    rcases bM.mp hw with rfl | hw
    .rw[<-u];show eG.mpr (val t B).2
    rw[bQ] at hw;let⟨t,h,rfl⟩:=hw;show eG.mpr (val t (sub t h)).2
   rw[eh,aL,jv] at this;trivial
  simp;ext
 .rw[ztH,u];cbv
 .by_cases hi:i+1<way.length
  .rw[um hi] at j;rw[um (by show gw ‹_›)] at hx;show v.ch i x y hx j
  have FL:i+1<(way++[t]).length:=(cH.mp j).1;rw[cD,HU] at FL;have e:i+1=way.length:=by lia
  rw[e,zm (bB _),OU] at j;simp at j;subst j;rw[um (by lia)] at hx;rw[u];show v.last x ?_;rw[Q9,show way.length-1=i by ext];show hx
 .simp at hx;subst hx;rfl
 .rw[c9,kH];show⟨nd,by show fE _ _,λx hx y j=>?_⟩;simp at j;subst j;rw[u];show λz=>f (z▸hx)
 .rcases bJ.mp hx with hx | hx
  .exact sub x hx
  simp at hx;subst hx;show B
 show F _ (val t B).1 A
def ph(n:Nat)(ts:List Tr)(a:List Int):Prop:=a.length=n/\∀q,q<n->∀l,a[q]?\l->(∀t∈ts,t.2.1=q->∃b,a[t.1]?\b/\b+1<=l)/\((l=0/\∀t∈ts,t.2.1≠q)\/∃t∈ts,t.2.1=q/\a[t.1]?\(l-1))
def uN:bg:=λds Q=>∃(n:Nat)(ts:List Tr),ds=[.int n,eD ts]/\n<=1000/\ts.length<=100000/\il n ts/\(∀ls,ph n ts ls->Q (.fz (.tup [.str "levels",.lst (ls.map .int)])))/\∀rs,F5 ts rs->Q (.fz (.tup [.str "ring",eD rs]))
def zk2:(["number","levels"]:List aa).Nodup:=by decide +kernel
def Nz:(T:TX) ×' ∀{P w K mg base},Txt K mg->~~~1 "levels_found" 2 AI->~~~1 "ring_without" 2 AH->cL P w K mg base 1 "ranked" ["count","above","levels"] (top 23) T:=
 ⟨_,λT yC yu nd f d A outer s H E a=>have c:=a.units;
 (az (bD 2 (bC yC a (ai (ae 0) (ai (ae 1) au))) nd)
   (az (cU (bG qv (dD zvb T.b_len ig (ai (ae 2) au)) (ae 0)) (aI (cf (gi (ai gj (ai (bC yu a (ai (ae 2) (ai (ae 1) au))) au))))) cT)
   (aI (cf (gi (ai gj (ai (fU rfl (.of (N':=["number","levels"]) (m:=[none,some 2]) (by kernel_rfl)) ez (jg T.b_range (ai (ae 0) au)) (λs3 b ex=>(aP 0 zk2)) (λs3 b ex=>gc) (λs3 b ex=>(xm c (ae 1) (ae 0)))) au)))))))⟩
def JW:TX:=Nz.1
def zk3:cB 2 uN JW ["count","above","levels"]:=by
 intro ds L hl h;symm;let⟨n,ts,rfl,o,m,val,A,y⟩:=h;show JW _ [.fz (.int n),.fz (eD ts),.un];unfold JW Nz;dsimp only;have big:=cS;lk;show⟨n,ts,rfl,o,m,val,λkv lv=>?_⟩;walk;simp![OV.val];rw[show(fu kv).length=kv.length by show aL ..];by_cases H:kv.length<n
 .rw[if_pos (by cbv)];show⟨n,ts,kv,rfl,o,m,val,lv,H,λrs r=>?_⟩;lk;show⟨by trivial,y rs r⟩
 rw[if_neg (by cbv)];have u:∀x,x<n->x∈keys kv:=λx hx=>Ds λz=>by
  have:=xq (l:=x::keys kv) (ws:=aV n) (eH.mpr ⟨z,lv.nd⟩) λw hw=>by
   symm;rcases bM.mp hw with rfl | hw
   .exact eG.mpr hx
   unfold keys at hw;rw[bQ] at hw;symm;let⟨p,F,rfl⟩:=hw;show eG.mpr (lv.lt p F)
  rw[eh,jv] at this;unfold keys at this;rw[aL] at this;room
 have q:∀x,x<n->∃l,(x,l)∈kv:=λx hx=>by
  have:=u x hx;unfold keys at this;cbv
 walk;show g4 (aV n) (λ(i:Nat)=>.int (0+i)) (λx=>.int ((dg kv x).getD 0)) (λM h=>?_) (by simp;lia) (λx hx N k=>?_) ?_
 .lk;show⟨by cbv,by lia,by trivial⟩
 .have I:x<n:=by simpa using hx
  let⟨l,hl⟩:=q x I;rw[t4];lk;show⟨_,_,rfl,Aa lv.nd hl,?_⟩;have e:look (dA D.int kv) (.inl (x:Int))=(dg kv x).map D.int:=xc _ _ _;have g:look (fu kv) (.inl (x:Int))=some (.int l):=Aa lv.nd hl;rw[show fu kv=dA D.int kv from rfl,e] at g;cbv
 have J:((aV n).map λx=>D.int ((dg kv x).getD 0))=((aV n).map λx=>(dg kv x).getD 0).map D.int:=by rw[cJ];rfl
 rw[J];have K:∀x l,(x,l)∈kv->(dg kv x).getD 0=l:=λx l hl=>by
  have e:look (dA D.int kv) (.inl (x:Int))=(dg kv x).map D.int:=xc _ _ _;have g:look (fu kv) (.inl (x:Int))\.int l:=Aa lv.nd hl;rw[show fu kv=dA D.int kv from rfl,e] at g;cbv
 have f:∀x l,(x,l)∈kv->((aV n).map λx=>(dg kv x).getD 0)[x]?=some l:=λx l hl=>by
  rw[US _ (lv.lt _ hl),K x l hl]
 show⟨by trivial,A _ ⟨∅,λx hx l s=>?_⟩⟩;symm;let⟨C,j⟩:=q x hx;rw[f x C j] at s;cases s;show⟨λt E e=>?_,?_⟩
 .symm;let⟨B,d,b⟩:=lv.up _ j t E e;show⟨B,f _ _ d,b⟩
 symm;rcases lv.top _ j with⟨d,b⟩ | ⟨t,t1,v,t3⟩
 .exact .inl ⟨d,b⟩
 show .inr ⟨t,t1,v,f _ _ t3⟩
def fK(ps:List Pc)(q:Nat):List Int:=[(ao ps q).l,(ao ps q).r,(q:Int)]
def xp(a b xs ys):HT.bA (a::xs) (b::ys)=if a=b then HT.bA xs ys else decide (b<a):=by
 rfl
def zru{a b:List Int}(h:a.Perm b):a.sum=b.sum:=by
 induction h with
 | nil=>rfl
 | cons x _ c=>simp[c]
 | swap x y l=>simp;lia
 | trans _ _ e d=>rw[e,d]
theorem Ed(f:Nat->Int):∀(L M:List Nat),L.Nodup->(∀x∈L,x∈M)->(∀x∈M,0<=f x)->(L.map f).sum<=(M.map f).sum
 | [],M,_,_,h=>by
  show 0<=_;induction M with
  | nil=>show dv _
  | cons a r d=>
   have:=h a (by show .head _);have:=d (λx hx=>by cases hx) λx hx=>h x (by show .tail _ ‹_›)
   simp;lia
 | x::L,M,nd,sub,h=>by
  have p:=List.perm_cons_erase (sub x nP);have e:=zru (p.map f);have c:=eH.mp nd;have:=Ed f L (M.erase x) c.2 (λy b=>(HN (λz:y=x=>c.1 (z▸b))).mpr (sub y (fL _ b))) λy b=>h y (List.mem_of_mem_erase b)
  cbv
def Vl(ps):((aV ps.length).map λq=>(ao ps q).k).sum=(ps.map Pc.k).sum:=by
 congr 1
 apply qh
 .simp
 intro i a b;have hi:i<ps.length:=by simpa using a
 simp[mS hi]
end Wc
open PySem L2 PyProof.Rows Wc
local macro_rules | `(tactic| lk)=>`(tactic| (repeat(first | walk_at"b" | dsimp only[qD,qJ])))
namespace Wc
open PySem L2 PyProof.Rows
structure lA(ps:List Pc)(ord:List Nat):Prop where
 pm:ord.Perm (aV ps.length)
 gn:ord.Pairwise λx y=>HT.bA (fK ps y) (fK ps x)=true
theorem lA.nd(h:lA ps ord):ord.Nodup:=h.pm.nodup_iff.mpr ua
def lA.mem(h:lA ps ord)(q):q∈ord↔q<ps.length:=by rw[h.pm.mem_iff,eG]
def lA.len(h:lA ps ord):ord.length=ps.length:=by rw[h.pm.length_eq,jv]
def cG(l:List Nat):List D:=l.map λ(q:Nat)=>D.int (q:Int)
def xB:bg:=λds Q=>∃ps:List Pc,ds=[ba ps]/\ps.length<=100000/\∀ord,lA ps ord->Q (.ow (cG ord))
def Wm:(["number","piece"]:List aa).Nodup:=by decide +kernel
def Lq:(["first","last","number"]:List aa).Nodup:=by decide +kernel
def NQ:(T:TX) ×' ∀{P w K mg base},Txt K mg->cL P w K mg base 0 "in_order" ["pieces","keys"] (top 30) T:=
 ⟨_,λT nd f d A outer s H E b=>have c:=b.units;
 (az (bD 1 (dD (Vv rfl) T.b_sorted vS (ai (fU rfl (.of (N':=["number","piece"]) (m:=[none,none]) (by kernel_rfl)) sP (sJ T.b_enumerate (ai (ae 0) au)) (λs3 a ex=>(gZ (n:=2) rfl (cz (aP 0 Wm) (cz (aP 1 Wm) gJ)))) (λs3 a ex=>gc) (λs3 a ex=>(gi (ai (aS (ae 1) ax) (ai (aS (ae 1) ax) (ai (ae 0) au)))))) au)) nd)
   (aI (cf (fU rfl (.of (N':=["first","last","number"]) (m:=[none,none,none]) (by kernel_rfl)) Wb (c6 (ae 1)) (λs3 a ex=>(gZ (n:=3) rfl (cz (aP 0 Lq) (cz (aP 1 Lq) (cz (aP 2 Lq) gJ))))) (λs3 a ex=>gc) (λs3 a ex=>(ae 2))))))⟩
def KN:TX:=NQ.1
def zi0:cB 1 xB KN ["pieces","keys"]:=by
 intro ds s hl h;let⟨ps,rfl,p,q⟩:=h;show KN _ [.fz (ba ps),.un];unfold KN NQ;dsimp only;have big:=cS;lk;show g4 (aV ps.length) (λi=>.tup [.int (i:Nat),cw (ao ps i)]) (λi=>.tup ((fK ps i).map D.int)) (λm h=>?_) (by simp;lia) (λx hx n k=>?_) ?_
 .unfold ba;lk;have e:jC (ps.map cw)=(aV ps.length).map λi=>D.tup [.int (i:Nat),cw (ao ps i)]:=by
   unfold jC;apply qh
   .simp
   intro i d r;have hi:i<ps.length:=by simpa using d
   simp[mS hi]
  rw[e];show h
 .lk;show⟨_,rfl,_,rfl,by trivial,?_⟩;show k
 simp![zZ,Es,Kp];show⟨λt g=>?_,λo j f=>?_⟩
 .let⟨i,w,rfl⟩:=bQ.mp g;simp[fK]
 let⟨ord,d,rfl⟩:=Aj j rfl;have nd:ord.Nodup:=d.nodup_iff.mpr ua;have inj:∀x y,fK ps x=fK ps y->x=y:=λx y e=>by unfold fK at e;simp at e;lia
 have io:lA ps ord:=by
  show⟨d,?_⟩;rw[iz] at f;show(f.and nd).imp λ{a b} h=>Ef _ _ h.1 λz=>h.2 (inj _ _ z)
 walk;rw[cJ];show g4 ord (λq=>.tup ((fK ps q).map D.int)) (λ(q:Nat)=>.int (q:Int)) (λm h=>?_) (by rw[io.len];lia) (λx hx n k=>?_) ?_
 .lk;show h
 .unfold fK;lk;show k
 show q ord io
def vD(ps:List Pc)(tr:List Int)(x n:Nat)(t:Int):Bool:=HT.lexLt [aD tr x,(ao ps x).l,(ao ps x).r,(x:Int)] [t,(ao ps n).l,(ao ps n).r,(n:Int)]
structure YZ(ps:List Pc)(ts:List Tr)(tr:List Int)(n:Nat)(t:Int):Prop where
 up:∀u∈ts,u.2.1=n->aD tr u.1+(ao ps u.1).k<=t
 free:∀x,x<ps.length->x≠n->vD ps tr x n t=true->((ao ps n).n=none\/(ao ps n).n≠(ao ps x).n)->¬(t<aD tr x+(ao ps x).k/\(ao ps x).l<=(ao ps n).r/\(ao ps n).l<=(ao ps x).r)
structure F4(ps:List Pc)(ts:List Tr)(tr:List Int):Prop where
 len:tr.length=ps.length
 lo:∀n,n<ps.length->0<=aD tr n
 hi:∀n,n<ps.length->aD tr n<=(ps.map Pc.k).sum
 ok:∀n,n<ps.length->YZ ps ts tr n (aD tr n)
 least:∀n,n<ps.length->∀t,0<=t->t<aD tr n->¬YZ ps ts tr n t
abbrev Pl:=Nat×Int
def b8(pl:List Pl):List Nat:=pl.map (·.1)
def pH(ps:List Pc)(us:Nat->List Nat)(pl:List Pl)(t:Int)(q:Nat):Bool:=
 ((us q).all λu=>pl.any λp=>decide (p.1=u)&&decide (p.2+(ao ps u).k<=t))&&((pl.filter λp=>decide (t<p.2+(ao ps p.1).k)).map (·.1)).all λx=>je (ao ps x) (ao ps q)
def cX(ps:List Pc)(us:Nat->List Nat)(t:Int)(pl:List Pl)(q:Nat):List Pl:=if pH ps us pl t q=true then pl++[(q,t)] else pl
def ki(ps:List Pc)(us:Nat->List Nat)(pl:List Pl)(e:Int×Nat):List Pl:=if e.2∈b8 pl then pl else cX ps us e.1 pl e.2
def dH(ord:List Nat)(pl:List Pl):List Nat:=ord.filter λq=>decide (q∉b8 pl)
def row(ps:List Pc)(us:Nat->List Nat)(ord:List Nat)(t:Int)(pl:List Pl):List Pl:=(dH ord pl).foldl (cX ps us t) pl
def eu(ps:List Pc)(us:Nat->List Nat)(ord:List Nat):Nat->List Pl
 | 0=>[]
 | n+1=>row ps us ord (n:Int) (eu ps us ord n)
def i4(ord:List Nat):Nat->List (Int×Nat)
 | 0=>[]
 | n+1=>i4 ord n++ord.map λq=>((n:Int),q)
section
variable{ps:List Pc}{us:Nat->List Nat}
def S8{pl:List Pl}(h:x≠q):x∈b8 (cX ps us t pl q)↔x∈b8 pl:=by
 unfold cX b8;split
 .simp[h]
 rfl
theorem JG(a):∀(o:List Nat) pl,o.Nodup->(∀q∈o,q∈b8 pl↔q∈b8 a)->(o.filter λq=>decide (q∉b8 a)).foldl (cX ps us t) pl=(o.map λq=>(t,q)).foldl (ki ps us) pl
 | [],pl,_,_=>rfl
 | q::o,pl,nd,h=>by
  have c:=eH.mp nd;rw[c8,lK];by_cases b:q∈b8 a
  .rw[List.filter_cons_of_neg (by simp[b])];have e:ki ps us pl (t,q)=pl:=by unfold ki;rw[if_pos ((h q nP).mpr b)]
   rw[e];show JG a o pl c.2 λx hx=>h x (fL _ hx)
  rw[List.filter_cons_of_pos (by show if_pos ‹_›),lK];have e:ki ps us pl (t,q)=cX ps us t pl q:=by unfold ki;rw[if_neg (λz=>b ((h q nP).mp z))]
  rw[e];show JG a o _ c.2 λx hx=>by
   rw[S8 (λz:x=q=>c.1 (z▸hx))];show h x (fL _ hx)
theorem Kd(nd:ord.Nodup):∀n,eu ps us ord n=(i4 ord n).foldl (ki ps us) []
 | 0=>rfl
 | n+1=>by
  show row ps us ord (n:Int) (eu ps us ord n)=_;unfold row dH;rw[JG _ ord _ nd λq _=>Iff.rfl,i4,wg,Kd nd n]
def at_(ps:List Pc)(us:Nat->List Nat)(E:List (Int×Nat))(j:Nat):List Pl:=(E.take j).foldl (ki ps us) []
def z9(h:E[j]?\e):at_ ps us E (j+1)=ki ps us (at_ ps us E j) e:=by
 unfold at_;rw[fB,h,Option.toList_some,wg];rfl
def zrv{pl:List Pl}(h:p∈pl):p∈ki ps us pl e:=by
 unfold ki cX;split
 .exact h
 split
 .exact ie _ h
 show h
def z8:∀{i j},i<=j->∀p∈at_ ps us E i,p∈at_ ps us E j:=by
 intro i j h;induction h with
 | refl=>show λp a=>a
 | @step m _ b=>
  intro p a;cases hm:E[m]? with
  | none=>
   have e:at_ ps us E (m+1)=at_ ps us E m:=by unfold at_;rw[fB,hm];simp
   rw[e];show b p a
  | some e=>rw[z9 hm];show zrv (b p a)
theorem w5:∀{j p},p∈at_ ps us E j->∃i,i<j/\E[i]?\(p.2,p.1)/\p.1∉b8 (at_ ps us E i)/\pH ps us (at_ ps us E i) p.2 p.1=true
 | 0,p,h=>by simp[at_] at h
 | j+1,p,h=>by
  cases hm:E[j]? with
  | none=>
   have e:at_ ps us E (j+1)=at_ ps us E j:=by unfold at_;rw[fB,hm];simp
   rw[e] at h;symm;let⟨i,d,b⟩:=w5 h;show⟨i,by room,b⟩
  | some e=>
   rw[z9 hm] at h;unfold ki at h;split at h
   .let⟨i,d,b⟩:=w5 h;show⟨i,by room,b⟩
   rename_i g;unfold cX at h;split at h
   .rename_i f;rcases bJ.mp h with h | h
    .let⟨i,d,b⟩:=w5 h;show⟨i,by lia,b⟩
    simp at h;subst h;show⟨j,by show bB _,hm,g,f⟩
   let⟨i,d,b⟩:=w5 h;show⟨i,by room,b⟩
theorem wZ:∀j,(b8 (at_ ps us E j)).Nodup
 | 0=>by show .nil
 | j+1=>by
  cases hm:E[j]? with
  | none=>
   have e:at_ ps us E (j+1)=at_ ps us E j:=by unfold at_;rw[fB,hm];simp
   rw[e];show wZ j
  | some e=>
   rw[z9 hm];unfold ki;split
   .exact wZ j
   rename_i c;unfold cX;split
   .unfold b8 at c ⊢;rw[c9,kH];show⟨wZ j,by show fE _ _,λa f b d=>by simp at d;subst d;show λz=>c (z▸f)⟩
   show wZ j
def zwP{pl:List Pl}(nd:(b8 pl).Nodup)(b:p∈pl)(c:q∈pl)(h:p.1=q.1):p=q:=by
 induction pl with
 | nil=>cases b
 | cons a r d=>
  unfold b8 at nd;rw[c8,eH] at nd;have mp:∀z:Pl,z∈r->z.1∈bT (λx=>x.1) r:=λz hz=>iA (f:=(·.1)) hz
  rcases bM.mp b with g | b
  .simp_all
  rcases bM.mp c with e | c
  .exact absurd (mp p b) (by rw[h,e];show nd.1)
  show d nd.2 b c
end
theorem Sn(f:Nat->Int):∀L:List Nat,L≠[]->∃x∈L,∀y∈L,f x<=f y
 | [],h=>absurd rfl h
 | [a],_=>⟨a,by room,λy d=>by simp at d;subst d;show dv _⟩
 | a::b::r,_=>by
  let⟨x,g,e⟩:=Sn f (b::r) ∅;grind
def wt(ps:List Pc)(pl:List Pl):Int:=(pl.map λp=>(ao ps p.1).k).sum
section
variable{ps:List Pc}{us:Nat->List Nat}
def zrw{pl:List Pl}(h:p∈pl):p∈cX ps us t pl q:=by
 unfold cX;split
 .exact ie _ h
 show h
theorem Ap:∀(o:List Nat) pl p,p∈pl->p∈o.foldl (cX ps us t) pl
 | [],_,_,h=>h
 | q::o,pl,p,h=>Ap o _ p (zrw h)
theorem Kc:∀(o:List Nat) pl p,p∈o.foldl (cX ps us t) pl->p∈pl\/(p.2=t/\p.1∈o)
 | [],_,_,h=>.inl h
 | q::o,pl,p,h=>by
  rcases Kc o _ p h with h | h
  .unfold cX at h;grind
  show .inr ⟨h.1,fL _ h.2⟩
def zT(ps:List Pc)(us:Nat->List Nat)(pl:List Pl)(t:Int)(q:Nat):Prop:=∀u∈us q,∃x,(u,x)∈pl/\x+(ao ps u).k<=t
def JF{pl:List Pl}:pH ps us pl t q=true↔zT ps us pl t q/\∀p∈pl,t<p.2+(ao ps p.1).k->je (ao ps p.1) (ao ps q)=true:=by
 unfold pH zT;rw[mK,ud,ud];constructor
 .rintro⟨d,c⟩;show⟨λu b=>?_,λp a l=>c p.1 (bQ.mpr ⟨p,eI.mpr ⟨a,by show if_pos ‹_›⟩,rfl⟩)⟩;have:=d u b;rw[wa] at this;let⟨p,a,e⟩:=this;simp![mK,ic] at e;let⟨j,i⟩:=e;show⟨p.2,by rw[<-j];show a,i⟩
 rintro⟨d,c⟩;show⟨λu b=>?_,λx hx=>?_⟩
 .let⟨y,h,e⟩:=d u b;rw[wa];show⟨(u,y),h,by simpa using e⟩
 let⟨p,a,rfl⟩:=bQ.mp hx;let⟨f,g⟩:=eI.mp a;show c p f (by simpa using g)
theorem Vg(f:∀q,1<=(ao ps q).k):∀(o:List Nat) pl q,q∈o->zT ps us pl t q->∃p∈o.foldl (cX ps us t) pl,t<p.2+(ao ps p.1).k
 | [],_,_,h,_=>by cases h
 | a::o,pl,q,h,g=>by
  rw[lK];by_cases b:pH ps us pl t a=true
  .refine⟨(a,t),Ap o _ _ ?_,?_⟩
   .unfold cX;rw[if_pos b];show gO _ (.head _)
   have:=f a;lia
  have e:cX ps us t pl a=pl:=by unfold cX;rw[if_neg b]
  rw[e];rcases bM.mp h with rfl | h
  .rw[JF] at b;have:¬∀p∈pl,t<p.2+(ao ps p.1).k->je (ao ps p.1) (ao ps q)=true:=λz=>b ⟨g,z⟩
   by_cases hx:∃p∈pl,t<p.2+(ao ps p.1).k
   .let⟨p,d,c⟩:=hx;show⟨p,Ap o pl p d,c⟩
   show absurd (λp d c=>absurd ⟨p,d,c⟩ hx) this
  show Vg f o pl q h g
theorem IV(c:∀q,1<=(ao ps q).k):∀(o:List Nat) pl,(∀p∈pl,p.2+(ao ps p.1).k<=wt ps pl)->t<=wt ps pl->∀p∈o.foldl (cX ps us t) pl,p.2+(ao ps p.1).k<=wt ps (o.foldl (cX ps us t) pl)
 | [],_,h,_=>h
 | a::o,pl,h,f=>by
  rw[lK];by_cases d:pH ps us pl t a=true
  .have e:cX ps us t pl a=pl++[(a,t)]:=by unfold cX;rw[if_pos d]
   rw[e];have g:wt ps (pl++[(a,t)])=wt ps pl+(ao ps a).k:=by unfold wt;simp
   have:=c a;show IV c o _ (λp b=>?_) (by lia);rcases bJ.mp b with b | b
   .have:=h p b;lia
   simp at b;subst b;cbv
  have e:cX ps us t pl a=pl:=by unfold cX;rw[if_neg d]
  rw[e];show IV c o pl h f
def iq{pl:List Pl}:q∈b8 pl↔∃x,(q,x)∈pl:=by
 unfold b8;cbv
theorem S7(j:∀q,1<=(ao ps q).k)(i:∀q,q∈ord↔q<ps.length){f:Nat->Int}(v:∀q,q<ps.length->∀u∈us q,u<ps.length/\f u<f q):∀m,(∀p∈eu ps us ord m,p.2+(ao ps p.1).k<=wt ps (eu ps us ord m))/\((∃q,q<ps.length/\q∉b8 (eu ps us ord m))->(m:Int)<=wt ps (eu ps us ord m))
 | 0=>⟨λp d=>absurd d (by show p∉([]:List Pl);simp),λ_=>by room⟩
 | m+1=>by
  let⟨n,y⟩:=S7 j i v m;show(∀p∈row ps us ord m (eu ps us ord m),_<=wt ps (row ps us ord m (eu ps us ord m)))/\((∃q,q<ps.length/\q∉b8 (row ps us ord m (eu ps us ord m)))->((m+1:Nat):Int)<=wt ps (row ps us ord m (eu ps us ord m)));generalize eu ps us ord m=pl at n y;by_cases g:∃q,q<ps.length/\q∉b8 pl
  .have hm:=y g;have w:∀p∈row ps us ord m pl,p.2+(ao ps p.1).k<=wt ps (row ps us ord m pl):=IV j _ pl n hm
   show⟨w,λb=>?_⟩;suffices C:∃p∈row ps us ord m pl,(m:Int)<p.2+(ao ps p.1).k by
    let⟨p,d,I⟩:=C;have:=w p d;room
   by_cases hx:∃p∈row ps us ord m pl,(m:Int)<p.2+(ao ps p.1).k
   .exact hx
   have same:∀p∈row ps us ord m pl,p∈pl:=λp d=>by
    rcases Kc _ _ p d with h | ⟨h,_⟩
    all_goals grind
   have H:∀q,q∈b8 (row ps us ord m pl)->q∈b8 pl:=λq b=>by
    let⟨x,hx⟩:=iq.mp b;show iq.mpr ⟨x,same _ hx⟩
   let⟨t,E,J⟩:=b;have ne:dH ord (row ps us ord m pl)≠[]:=λz=>by
    have:t∈dH ord (row ps us ord m pl):=eI.mpr ⟨(i t).mpr E,by show if_pos ‹_›⟩;rw[z] at this;cases this
   let⟨q,b,o⟩:=Sn f _ ne;let⟨s,r⟩:=eI.mp b;have A:=(i q).mp s;simp![decide_not,kF,kJ] at r;have D:zT ps us pl m q:=λu g=>by
    let⟨un,F⟩:=v q A u g;have up:u∈b8 (row ps us ord m pl):=by
     by_cases z:u∈b8 (row ps us ord m pl)
     .exact z
     have:=o u (eI.mpr ⟨(i u).mpr un,by show if_pos ‹_›⟩);lia
    let⟨x,K⟩:=iq.mp up;grind
   have hw:q∈dH ord pl:=eI.mpr ⟨s,by
    simp![decide_not,kF,kJ];intro z;let⟨x,B⟩:=iq.mp z;show r (iq.mpr ⟨x,Ap _ _ _ B⟩)⟩
   show Vg j _ pl q hw D
  have hw:dH ord pl=[]:=by
   unfold dH;cbv
  have e:row ps us ord m pl=pl:=by unfold row;rw[hw];rfl
  rw[e];show⟨n,λz=>absurd z g⟩
theorem S6:∀N x y,(x,y)∈eu ps us ord N->x∈ord
 | 0,x,y,a=>absurd a (by show _∉([]:List Pl);simp)
 | m+1,x,y,a=>by
  rcases Kc _ _ _ a with h | ⟨_,h⟩
  .exact S6 m x y h
  show(eI.mp h).1
def Vf(e:∀q,1<=(ao ps q).k)(nd:ord.Nodup)(d:∀q,q∈ord↔q<ps.length){f:Nat->Int}(i:∀q,q<ps.length->∀u∈us q,u<ps.length/\f u<f q){N:Nat}(hN:(N:Int)=(ps.map Pc.k).sum):∀q,q<ps.length->q∈b8 (eu ps us ord N):=by
 intro q b;by_cases z:q∈b8 (eu ps us ord N)
 .exact z
 have j:=(S7 (us:=us) e d i N).2 ⟨q,b,z⟩;have h:(q::b8 (eu ps us ord N)).Nodup:=by
  rw[eH];show⟨z,?_⟩;rw[Kd nd,show(i4 ord N).foldl (ki ps us) []=at_ ps us (i4 ord N) (i4 ord N).length by unfold at_;rw[f6]];show wZ _
 have sub:∀x∈q::b8 (eu ps us ord N),x∈aV ps.length:=λx hx=>by
  rcases bM.mp hx with rfl | hx
  .exact eG.mpr b
  show eG.mpr ((d x).mp ?_);let⟨y,g⟩:=iq.mp hx;show S6 N x y g
 have le:=Ed (λq=>(ao ps q).k) _ _ h sub λx _=>by room
 rw[Vl,<-hN] at le;have m:((q::b8 (eu ps us ord N)).map λq=>(ao ps q).k).sum=(ao ps q).k+wt ps (eu ps us ord N):=by
  unfold wt b8;rw[c8,O1,cJ];rfl
 have:=e q;lia
def jQ(ps:List Pc)(e:Int×Nat):List Int:=e.1::fK ps e.2
def YE:e∈i4 ord N↔(0<=e.1/\e.1<N)/\e.2∈ord:=by
 induction N with
 | zero=>simp[i4];lia
 | succ n d=>
  rw[i4,bJ,d,bQ];constructor
  .rintro(h | ⟨q,f,rfl⟩)
   .exact⟨⟨h.1.1,⋯⟩,h.2⟩
   show⟨⟨by room,by show dv _⟩,f⟩
  rintro⟨⟨h0,g⟩,b⟩;by_cases h:e.1<n
  .exact .inl ⟨⟨h0,h⟩,b⟩
  show .inr ⟨e.2,b,by rw[show(n:Int)=e.1 by lia]⟩
theorem S5(gn:ord.Pairwise λx y=>HT.bA (fK ps y) (fK ps x)=true):∀N,(i4 ord N).Pairwise λx y=>HT.bA (jQ ps y) (jQ ps x)=true
 | 0=>.nil
 | n+1=>by
  rw[i4,iT];show⟨S5 gn n,?_,λa d b c=>?_⟩
  .rw[iz];show gn.imp λ{a b} h=>?_
   unfold jQ;rw[xp,if_pos rfl];show h
  let⟨q,e,rfl⟩:=bQ.mp c;have:=(YE.mp d).1.2;unfold jQ;rw[xp,if_neg (by lia)];show if_pos ‹_›
def RT{E:List (Int×Nat)}(gn:E.Pairwise λx y=>HT.bA (jQ ps y) (jQ ps x)=true){i j:Nat}(hi:E[i]?\a)(d:E[j]?\b):i<j↔HT.bA (jQ ps b) (jQ ps a)=true:=by
 have up:∀{i j:Nat}{a b:Int×Nat},E[i]?\a->E[j]?\b->i<j->HT.bA (jQ ps b) (jQ ps a)=true:=λ{i j a b} hi d h=>by
  let⟨f,k⟩:=cH.mp hi;let⟨e,g⟩:=cH.mp d;have:=pX.mp gn i j f e h;rw[k,g] at this;show this
 show⟨λh=>up hi d h,λh=>?_⟩;rcases zg i j with c | c | c
 .exact c
 .subst c;rw[hi] at d;cases d;rw[HT.Bw] at h;cases h
 have:=HT.Fn _ _ (up d hi c);rw[h] at this;cases this
def lk(pl:List Pl)(q:Nat):Option Int:=(pl.find? λp=>decide (p.1=q)).map (·.2)
def IH{pl:List Pl}(nd:(b8 pl).Nodup)(h:(q,x)∈pl):lk pl q\x:=by
 unfold lk;cases hf:pl.find? λp=>decide (p.1=q) with
 | none=>
  have:=C6.mp hf _ h;simp at this
 | some p=>
  have b:=Q8 hf;have a:=Pr hf;simp![ic] at a;have:=zwP nd b h a;rw[this];rfl
def S4{pl:List Pl}(h:q∉b8 pl):lk pl q=none:=by
 unfold lk;rw[Dl,C6];intro p a z;simp at z;show h (iq.mpr ⟨p.2,by rw[<-z];show a⟩)
def ztJ(Q:∀q,q<ps.length->1<=(ao ps q).k/\(ao ps q).l<=(ao ps q).r)(T:∀q,1<=(ao ps q).k)(val:il ps.length ts)(P:∀q,q<ps.length->∀u,u∈us q↔∃c,((u,q,c):Tr)∈ts)(nd:ord.Nodup)(L:∀q,q∈ord↔q<ps.length)
  (gn:ord.Pairwise λx y=>HT.bA (fK ps y) (fK ps x)=true) (od:Ord ps.length ts) {N:Nat} (hN:(N:Int)=(ps.map Pc.k).sum) :
  F4 ps ts ((aV ps.length).map λq=>(lk (eu ps us ord N) q).getD 0):=by
 let⟨f,hf⟩:=od
 have all:=Vf (us:=us) T nd L (f:=f) (λq o u C=>by
  let⟨c,D⟩:=(P q o u).mp C;show⟨(val _ D).1,hf _ D⟩) hN
 have eE:eu ps us ord N=at_ ps us (i4 ord N) (i4 ord N).length:=by rw[Kd nd];unfold at_;rw[f6]
 rw[eE] at all ⊢;have I:=S5 gn N;have F:∀e:Int×Nat,e∈i4 ord N↔(0<=e.1/\e.1<N)/\e.2∈ord:=λe=>YE
 generalize hE:i4 ord N=E at all I F ⊢;have K:=wZ (ps:=ps) (us:=us) (E:=E) E.length;generalize X:((aV ps.length).map λq=>(lk (at_ ps us E E.length) q).getD 0)=tr;have Z:∀q x,q<ps.length->(q,x)∈at_ ps us E E.length->aD tr q=x:=λq x o h=>by
  rw[<-X];unfold aD;rw[cx,Qu o];simp[IH K h]
 have place:∀q,q<ps.length->∃i,i<E.length/\E[i]?\(aD tr q,q)/\q∉b8 (at_ ps us E i)/\pH ps us (at_ ps us E i) (aD tr q) q=true/\(q,aD tr q)∈at_ ps us E E.length:=λq o=>by
  let⟨x,hx⟩:=iq.mp (all q o);have e:=Z q x o hx;let⟨i,A,g,m,s⟩:=w5 hx;rw[e];show⟨i,A,g,m,s,hx⟩
 have ltN:∀q,q<ps.length->0<=aD tr q/\aD tr q<N:=λq o=>by
  obtain⟨i,_,h,_⟩:=place q o;show((F _).mp (cP h)).1
 /- (y,its uU) is there ahead of event j acJ where it comes before -/
 have there:∀y,y<ps.length->∀(j:Nat) b,E[j]?\b->(HT.bA (jQ ps b) (jQ ps (aD tr y,y))=true↔(y,aD tr y)∈at_ ps us E j):=λy w j b hb=>by
  let⟨i,A,g,m,s,V⟩:=place y w;rw[<-RT I g hb];constructor
  .intro h;show z8 (i:=i+1) h _ ?_;rw[z9 g];unfold ki cX;rw[if_neg m,if_pos s];show gO _ (.head _)
  intro h;by_cases z:i<j
  .exact z
  show absurd (iq.mpr ⟨_,z8 (by cbv) _ h⟩) m
 have Y:∀j p,p∈at_ ps us E j->p.1<ps.length/\aD tr p.1=p.2:=λj p v=>by
  obtain⟨i,_,g,_⟩:=w5 v;have h:=(L _).mp ((F _).mp (cP g)).2;show⟨h,Z p.1 p.2 h ?_⟩;by_cases z:j<=E.length
  .exact z8 z _ v
  have e:at_ ps us E j=at_ ps us E E.length:=by unfold at_;rw[mG (by lia),f6]
  rw[<-e];show v
 have W:∀y n t,vD ps tr y n t=HT.bA (jQ ps (t,n)) (jQ ps (aD tr y,y)):=λy n t=>by
  unfold vD;rw[EC];rfl
 have Bo:∀y n,y<ps.length->n<ps.length->(je (ao ps y) (ao ps n)=true↔(((ao ps n).n=none\/(ao ps n).n≠(ao ps y).n)->¬((ao ps y).l<=(ao ps n).r/\(ao ps n).l<=(ao ps y).r))):=λy n w d=>by
  have a:=Q y w;have b:=Q n d;unfold je;rw[Eg];by_cases ov:(ao ps y).l<=(ao ps n).r/\(ao ps n).l<=(ao ps y).r
  .rw[if_pos ⋯];simp![reduceCtorEq,fA,Bool.false_or,mK,ic,ov,and_self,not_true];constructor
   .rintro⟨A,g⟩ (m | m)
    .exact A (g.trans m)
    show m g.symm
   intro h;by_cases z:(ao ps n).n=none
   .exact absurd (.inl z) h
   by_cases B:(ao ps n).n=(ao ps y).n
   .exact⟨by rw[<-B];show z,B.symm⟩
   show absurd (.inr B) h
  rw[if_neg (by lia)];simp[ov]
 show⟨by rw[<-X];simp,λn d=>(ltN n d).1,λn d=>by have:=(ltN n d).2;lia,λn d=>?_,λn d t t0 t1=>?_⟩
 .let⟨i,A,g,m,s,V⟩:=place n d;rw[JF] at s;show⟨λu C e=>?_,λy w aY U hd=>?_⟩
  .let⟨x,Xr,jl⟩:=s.1 u.1 ((P n d u.1).mpr ⟨u.2.2,by rw[<-e];show C⟩);rw[(Y i _ Xr).2];show jl
  rw[W] at U;have hm:=(there y w i _ g).mp U;rintro⟨z1,B⟩;have hs:=s.2 (y,aD tr y) hm z1;show(Bo y n w d).mp hs hd B
 let⟨i,A,g,m,s,V⟩:=place n d;have me:(t,n)∈E:=(F _).mpr ⟨⟨t0,by have:=(ltN n d).2;lia⟩,(L n).mpr d⟩;let⟨j,G⟩:=rT me
 have M:j<i:=(RT I G g).mpr (by
  unfold jQ;rw[xp,if_neg (by lia)];show if_pos ‹_›)
 have R:n∉b8 (at_ ps us E (j+1)):=λz=>by
  let⟨x,hx⟩:=iq.mp z;show m (iq.mpr ⟨x,z8 M _ hx⟩)
 have W0:n∉b8 (at_ ps us E j):=λz=>by
  let⟨x,hx⟩:=iq.mp z;show R (iq.mpr ⟨x,z8 (iC _) _ hx⟩)
 intro c;show R ?_;rw[z9 G];unfold ki cX;rw[if_neg W0,if_pos]
 .rw[iq];show⟨t,by show gO _ (.head _)⟩
 rw[JF];show⟨λu C=>?_,λp v ht=>?_⟩
 .let⟨cc,D⟩:=(P n d u).mp C;have un:=(val _ D).1;have O:=c.up _ D rfl;show⟨aD tr u,(there u un j _ G).mp ?_,O⟩;have:=T u;unfold jQ;rw[xp,if_neg (by simp only at O;lia)];simp only at O;lia
 let⟨H,S⟩:=Y j p v;have J:p.1≠n:=λz=>W0 (iq.mpr ⟨p.2,by rw[<-z];show v⟩)
 show(Bo p.1 n H d).mpr λhd z=>?_
 show c.free p.1 H J ?_ hd ⟨by rw[S];show ht,z⟩;rw[W];show(there p.1 H j _ G).mpr (by rw[S];show v)
end
end Wc
open PySem L2 PyProof.Rows Wc
local macro_rules | `(tactic| lk)=>`(tactic| (repeat(first | walk_at"b" | dsimp only[$[$(qn "qD qJ DC uF zI DT kR zF DS zL zz zK zJ qA Ij"):ident],*])))
namespace Wc
open PySem L2 PyProof.Rows
def zpt{a:Type}{j:fI}{m:List (Option Nat)}{g:du}{te:TD}{ρ:Ev}{Q:R->Prop}(L:List a)(e:a->D)(f:a->List (Key×D))(hw:∀k:List D->Prop,k (L.map e)->j ρ k)(o:L.length<=sizeLine)
  (h:∀x∈L,∀(l:List (Key×D)->Prop),l (f x)->g (e x) (cR m ρ) λn=>te n λr=>match r with | .ov (.dc c)=>l c | _=>False) (q:Q (.ov (.ld (L.map f)))):Jd j m g qp te ρ Q:=by
 show hw _ ⟨λi acc=>acc=(L.take i).map f,by rfl,λi d acc hd b=>?_,λacc b=>?_⟩
 .subst b;rw[cx] at hd;cases hx:L[i]? with
  | none=>rw[hx] at hd;cases hd
  | some x=>
   rw[hx] at hd;cases hd;have:=h x (cP hx) (λc=>((L.take i).map f).length<sizeLine/\(L.take i).map f++[c]=(L.take (i+1)).map f) ⟨by simp;grind,by rw[fB,hx];simp⟩;show this
 subst b;simpa using q
def dU(kv:List (Nat×Unit)):List (Key×D):=dA (λ_=>D.bl true) kv
def eR(us:List (List (Nat×Unit)))(q:Nat):List Nat:=(us[q]?.getD []).map (·.1)
structure abB(ps:List Pc)(ts:List Tr)(us:List (List (Nat×Unit))):Prop where
 len:us.length=ps.length
 mem:∀q,q<ps.length->∀u,u∈eR us q↔∃c,((u,q,c):Tr)∈ts
def AX:bg:=λds Q=>∃ps ts,ds=[ba ps,eD ts]/\ps.length<=1000/\ts.length<=100000/\il ps.length ts/\∀us,abB ps ts us->Q (.ov (.ld (us.map dU)))
def Nt:(T:TX) ×' ∀{P w K mg base},Txt K mg->cL P w K mg base 0 "uppers_of" ["pieces","above","uppers","upper","lower","column"] (top 33) T:=
 ⟨_,λT nd f d A outer s H E c=>have b:=c.units;
 (az (zq6 2 rfl (.of (N':=["piece"]) (m:=[none]) (by kernel_rfl)) ez (c6 (ae 0)) (λs3 a ex=>(aP 0 pd)) (λs3 a ex=>gc) (λs3 a ex=>D8) nd)
   (az (eN ee rfl (c6 (ae 1)) (gZ (n:=3) rfl (cz (aP 3 nd) (cz (aP 4 nd) (cz (aP 5 nd) gJ))))
    (aI (ztr b 2 (ae 4) (ae 3) qC)))
   (aI (Jx 2))))⟩
def KY:TX:=Nt.1
def zrx:u∈(nR kv n ()).map (·.1)↔u=n\/u∈kv.map (·.1):=by
 rw[<-EB,JX,<-EB];by_cases h:u=n
 .simp[h]
 simp[h]
def zhG:cB 2 AX KY ["pieces","above","uppers","upper","lower","column"]:=by
 intro ds w hl h;symm;let⟨ps,ts,rfl,v,s,val,q⟩:=h;show KY _ [.fz (ba ps),.fz (eD ts),.un,.un,.un,.un];unfold KY Nt;dsimp only;have big:=cS;lk;show zpt ps cw (λ_=>[]) (λo h=>?_) (by lia) (λx hx y k=>?_) ?_
 .lk;show h
 .lk;show k
 walk;let p:TJ:=λi ρ=>∃(us:List (List (Nat×Unit)))(a b c:Sl),ρ=[.fz (ba ps),.fz (eD ts),.ov (.ld (us.map dU)),a,b,c]/\us.length=ps.length/\(∀q:Nat,((us[q]?.getD []).length<=i))/\∀q,q<ps.length->∀u,u∈eR us q↔∃c,((u,q,c):Tr)∈ts.take i
 show kU ts dT (λo h=>?_) p ?_ ?_ ?_
 .lk;show h
 .refine⟨ps.map λ_=>[],_,_,_,by rw[cJ];rfl,by show aL ..,λq=>?_,λq f u=>?_⟩
  .rw[cx];cases ps[q]?<;>simp
  unfold eR;rw[cx];cases ps[q]?<;>simp
 .rintro i t ρ hi ⟨us,a,b,c,rfl,hlen,hsz,hm⟩;have r:=val t (cP hi);have z:i<ts.length:=(cH.mp hi).1;rw[show dT t=.tup [.int t.1,.int t.2.1,.int t.2.2] from rfl];lk;unfold IC;lk;have f:us[t.2.1]?=some (us[t.2.1]'(by cbv)):=bO (by cbv);have j:=hsz t.2.1;rw[f,uc] at j;show⟨t.2.1,dU (us[t.2.1]'(by cbv)),by show xf (by cbv),by rw[cx,f];rfl,.inl (t.1:Int),rfl,by unfold dU dA;rw[aL];lia,?_⟩;have m:oY (dU (us[t.2.1]'(by cbv))) (.inl (t.1:Int)) (.bl true)=dU (nR (us[t.2.1]'(by cbv)) t.1 ()):=IW (λ_=>D.bl true) _ t.1 ();rw[m,<-oQ];show⟨us.set t.2.1 (nR (us[t.2.1]'(by cbv)) t.1 ()),_,_,_,rfl,by rw[qf];show hlen,λq=>?_,λq n u=>?_⟩
  .rw[lC];split
   .split
    .rename_i e _;have:=Vh (us[t.2.1]'⋯) t.1 ();rw[uc];lia
    simp
   room
  have g:ts.take (i+1)=ts.take i++[t]:=by rw[fB,hi];rfl
  have old:=hm q n u;unfold eR at old ⊢;rw[lC];by_cases e:t.2.1=q
  .rw[if_pos e,if_pos (by cbv),uc,zrx];subst e;rw[f,uc] at old;rw[old,g];constructor
   .rintro(h | ⟨c,d⟩)
    .exact⟨t.2.2,by rw[h];show gO _ (.head _)⟩
    show⟨c,ie _ d⟩
   rintro⟨c,d⟩;rcases bJ.mp d with d | d
   .exact .inr ⟨c,d⟩
   simp at d;left
   rw[<-d]
  rw[if_neg e,old,g];constructor
  .rintro⟨c,d⟩;show⟨c,ie _ d⟩
  rintro⟨c,d⟩;rcases bJ.mp d with d | d
  .exact⟨c,d⟩
  simp at d;show absurd (by rw[<-d]) e
 rintro ρ ⟨us,a,b,c,rfl,hlen,hsz,hm⟩;walk;rw[f6] at hm;show q us ⟨hlen,hm⟩
def ql(kv:List (Nat×Unit))(a:List (Nat×Int))(t:Int):Bool:=kv.all λu=>match dg a u.1 with
 | some e=>decide (e<=t)
 | none=>false
def jR(a:List (Nat×Int)):List (Key×D):=dA D.int a
def AQ:bg:=λds Q=>∃kv a t,ds=[.dic (dU kv),.dic (jR a),.int t]/\Q (.fz (.bl (ql kv a t)))
def N0:(T:TX) ×' ∀{P w K mg base},Txt K mg->cL P w K mg base 0 "are_behind" ["uppers","ends","track","upper"] (top 34) T:=
 ⟨_,λT nd f c A outer s H E b=>have a:=b.units;
 (az (eN ee rfl (T6 (ae 0)) (aP 3 nd)
    (aI (cU (Sw (bG (JK a) (ae 3) (ae 1)) (Uk (bG wW (xm a (ae 1) (ae 3)) (ae 2)))).pb (aI (cf qC)) cT)))
   (aI (cf qC)))⟩
def Ls:TX:=N0.1
def zg0:cB 3 AQ Ls ["uppers","ends","track","upper"]:=by
 intro ds n hl h;let⟨kv,b,t,rfl,q⟩:=h;show Ls _ [.fz (.dic (dU kv)),.fz (.dic (jR b)),.fz (.int t),.un];unfold Ls N0;dsimp only;lk;let m:TJ:=λi ρ=>∃a:Sl,ρ=[.fz (.dic (dU kv)),.fz (.dic (jR b)),.fz (.int t),a]/\ql (kv.take i) b t=true
 show kU kv (λp=>.int (p.1:Nat)) (λo h=>?_) m ⟨_,rfl,rfl⟩ ?_ ?_
 .lk;rw[show((dU kv).map λp=>ur p.1)=kv.map λp=>D.int (p.1:Nat) by unfold dU dA;rw[cJ];rfl];show h
 .rintro i u ρ hi ⟨a,rfl,d⟩;have j:kv.take (i+1)=kv.take i++[u]:=by rw[fB,hi];rfl
  have g:u∈kv:=cP hi;have more:(match dg b u.1 with | some e=>decide (e<=t) | none=>false)=true->ql (kv.take (i+1)) b t=true:=λh=>by
   unfold ql at d ⊢;rw[j,List.all_append,d,CJ,List.all_nil,h];rfl
  have less:(match dg b u.1 with | some e=>decide (e<=t) | none=>false)=false->ql kv b t=false:=λh=>by
   unfold ql;rw[P8];intro z;rw[ud] at z;have:=z u g;rw[h] at this;cases this
  lk;unfold jR;show⟨_,rfl,?_⟩;rw[xc];cases f:dg b u.1 with
  | none=>
   rw[f] at less;rw[less rfl] at q;show q
  | some e=>
   rw[f] at less more;show⟨_,_,rfl,by rw[xc,f];rfl,?_⟩;simp![ic];by_cases he:t<e
   .rw[if_pos he];rw[less (decide_eq_false (by cbv))] at q;show q
   rw[if_neg he];show⟨_,rfl,more (decide_eq_true (by cbv))⟩
 rintro ρ ⟨a,rfl,d⟩;rw[f6] at d;walk;rw[d] at q;show q
def Aq:bg:=λds Q=>∃(ps:List Pc)(a:List Nat)(n:Nat),ds=[ba ps,.lst (cG a),.int n]/\a.length<=100000/\n<ps.length/\(∀x∈a,x<ps.length)/\Q (.fz (.bl (a.all λx=>je (ao ps x) (ao ps n))))
def zi3:(["other","pieces","number"]:List aa).Nodup:=by decide +kernel
def NK:(T:TX) ×' ∀{P w K mg base},Txt K mg->~~~2 "may_share" 2 xE->cL P w K mg base 2 "may_join" ["pieces","taking","number"] (top 35) T:=
 ⟨_,λT oM nd f d A outer s H E a=>have c:=a.units;
 (aI (cf (dD (zwn rfl) T.b_all boot_all (ai (fU rfl (.of (N':=["other","pieces","number"]) (m:=[none,some 0,some 2]) (by kernel_rfl)) ez (c6 (ae 1)) (λs3 b ex=>(aP 0 zi3)) (λs3 b ex=>gc) (λs3 b ex=>(bC oM a (ai (aS (ae 1) (ae 0)) (ai (aS (ae 1) (ae 2)) au))))) au))))⟩
def KL:TX:=NK.1
def zrz{p:Nat}(a:p<ps.length):bE (ps.map cw) (p:Int)\cw (ao ps p):=by rw[mU,show bE ps (p:Int)\ao ps p by rw[mS a];show eV a];rfl
def zi4:cB 3 Aq KL ["pieces","taking","number"]:=by
 intro ds g hl h;symm;let⟨ps,b,n,rfl,f,d,hx,q⟩:=h;show KL _ [.fz (ba ps),.fz (.lst (cG b)),.fz (.int n)];unfold KL NK;dsimp only;have big:=cS;lk;show g4 b (λ(x:Nat)=>.int (x:Int)) (λx=>.bl (je (ao ps x) (ao ps n))) (λi h=>?_) (by lia) (λx e j k=>?_) ?_
 .lk;show h
 .lk;unfold ba;lk;have g1:bE ps (x:Int)=some (ao ps x):=by rw[mS (hx x e)];show eV (hx x e)
  have g2:bE ps (n:Int)\ao ps n:=by rw[mS d];show eV d
  show⟨_,g1,_,g2,ao ps x,ao ps n,rfl,k⟩
 rw[show(b.map λx=>D.bl (je (ao ps x) (ao ps n)))=(b.map λx=>je (ao ps x) (ao ps n)).map D.bl by rw[cJ];rfl];simp![zZ,Im,znP];rw[CH];show q
end Wc
open PySem L2 PyProof.Rows Wc
local macro_rules | `(tactic| lk)=>`(tactic| (repeat(first | walk_at"b" | dsimp only[$[$(qn "qD qJ DC uF zI DT kR zF DS zL zz zK zJ qA Ij gt"):ident],*])))
namespace Wc
open PySem L2 PyProof.Rows
def i6(ps:List Pc)(pl:List Pl):List (Nat×Int):=pl.map λp=>(p.1,p.2+(ao ps p.1).k)
def lh(n:Nat)(pl:List Pl):List D:=(aV n).map λq=>dJ (lk pl q)
def S1{pl:List Pl}(u):dg (i6 ps pl) u=(pl.find? λp=>decide (p.1=u)).map λp=>p.2+(ao ps p.1).k:=by
 unfold dg i6;induction pl with
 | nil=>rfl
 | cons a r b=>
  rw[c8,ju,ju];by_cases h:a.1=u
  .simp[h]
  simp![h,fA];show b
def Ve{pl:List Pl}(nd:(b8 pl).Nodup)(h:(u,x)∈pl):dg (i6 ps pl) u\(x+(ao ps u).k):=by
 have:=IH nd h;unfold lk at this;rw[S1];cases hf:pl.find? λp=>decide (p.1=u) with
 | none=>rw[hf] at this;cases this
 | some p=>
  grind
def ztK{pl:List Pl}(nd:(b8 pl).Nodup):(ql (us[q]?.getD []) (i6 ps pl) t&&((pl.filter λp=>decide (t<p.2+(ao ps p.1).k)).map (·.1)).all λx=>je (ao ps x) (ao ps q))=pH ps (eR us) pl t q:=by
 congr 1
 unfold ql eR;rw[CH];congr 1
 funext u
 simp![uh];rw[v8,wa];constructor
 .intro h;rw[S1] at h;cases hf:pl.find? λp=>decide (p.1=u.1) with
  | none=>rw[hf] at h;cases h
  | some p=>
   grind
 rintro⟨p,a,e⟩;simp![mK,ic] at e;let⟨b,c⟩:=e;have:(u.1,p.2)∈pl:=by rw[<-b];show a
 rw[Ve nd this];show if_pos ‹_›
def zvA{pl:List Pl}(b:q<n)(a:q∉b8 pl):(lh n pl).set q (.int t)=lh n (pl++[(q,t)]):=by
 unfold lh;apply qh
 .simp
 intro i d c;rw[List.getElem_set];simp![ub,HG];by_cases e:q=i
 .subst e;rw[if_pos rfl];have:lk (pl++[(q,t)]) q\t:=by
   unfold lk;rw[P6];have:=S4 a;unfold lk at this;rw[Dl] at this;rw[this];simp
  rw[this];rfl
 congr 1
 unfold lk;cbv
def zvB{pl:List Pl}(a:q∉b8 pl):oY (jR (i6 ps pl)) (.inl (q:Int)) (.int (t+(ao ps q).k))=jR (i6 ps (pl++[(q,t)])):=by
 unfold jR;rw[IW];unfold nR;rw[if_neg]
 .unfold i6;simp
 rw[UQ,EB];intro z;apply a;unfold i6 at z;rw[cJ] at z;show z
def Sm{pl:List Pl}(nd:(b8 pl).Nodup)(h:∀q∈b8 pl,q<n):pl.length<=n:=by
 have:=Ed (λ_=>1) (b8 pl) (aV n) nd (λx hx=>eG.mpr (h x hx)) (λ_ _=>by cbv);have e:∀l:List Nat,(l.map λ_=>(1:Int)).sum=l.length:=λl=>by
  induction l with
  | nil=>rfl
  | cons a r b=>simp[b];lia
 rw[e,e] at this;simp[b8] at this;cbv
structure vE(n:Nat)(pl:List Pl):Prop where
 nd:(b8 pl).Nodup
 lt:∀q∈b8 pl,q<n
def vE.cX{ps:List Pc}{us:Nat->List Nat}{n:Nat}{pl:List Pl}{t:Int}{q:Nat}(h:vE n pl)(e:q<n)(f:q∉b8 pl):vE n (cX ps us t pl q):=by
 unfold Wc.cX;split
 .refine⟨?_,λx hx=>?_⟩
  .unfold b8;rw[c9,kH];show⟨h.nd,by show fE _ _,λa g b d=>by simp at d;subst d;show λz=>f (z▸g)⟩
  unfold b8 at hx;rw[c9] at hx;symm;rcases bJ.mp hx with hx | hx
  .exact h.lt x hx
  simp at hx;subst hx;show e
 show h
theorem JE:∀(a b:List Nat) pl,(a++b).Nodup->(∀q∈a++b,q<n/\q∉b8 pl)->vE n pl->vE n (a.foldl (cX ps us t) pl)/\∀q∈b,q∉b8 (a.foldl (cX ps us t) pl)
 | [],b,pl,_,h,ok=>⟨ok,λq d=>(h q d).2⟩
 | x::a,b,pl,nd,h,ok=>by
  rw[oT,eH] at nd;have hx:=h x (by room);show JE a b _ nd.2 (λq d=>?_) (ok.cX hx.1 hx.2);have e:=h q (by simp at d ⊢;show .inr d);show⟨e.1,?_⟩;rw[S8 (λz:q=x=>nd.1 (z▸d))];show e.2
def zpv{pl:List Pl}:qB (dJ (lk pl q))=decide (q∉b8 pl):=by
 by_cases h:q∈b8 pl
 .let⟨x,hx⟩:=iq.mp h;have:lk pl q≠none:=λz=>by
   unfold lk at z;rw[Dl,C6] at z;have:=z _ hx;simp at this
  cases a:lk pl q with
  | none=>show absurd a this
  | some y=>simp[dJ,qB,h]
 rw[S4 h];simp[dJ,qB,h]
def zpw{pl:List Pl}(o:List Nat):(dH ord pl).filter (λq=>decide (q∉b8 (o.foldl (cX ps us t) pl)))=dH ord (o.foldl (cX ps us t) pl):=by
 unfold dH;rw[Qd];show Hz λq _=>?_
 by_cases h:q∈b8 pl
 .let⟨x,hx⟩:=iq.mp h;have:=iq.mpr ⟨x,Ap (ps:=ps) (us:=us) (t:=t) o pl _ hx⟩;simp[h,this]
 simp[h]
def zvC{ps:List Pc}(h:∀p∈ps,p.k<=3):(ps.map Pc.k).sum<=3*ps.length:=by
 induction ps with
 | nil=>room
 | cons a r b=>
  have f:=h a (by room);have e:=b λp d=>h p (by room)
  simp![c8,O1,eh];lia
def Ay:bg:=λds Q=>∃ps ts,ds=[ba ps,eD ts]/\ps.length<=63/\ts.length<=100000/\il ps.length ts/\Ord ps.length ts/\(∀p∈ps,1<=p.k/\p.k<=3/\p.l<=p.r)/\∀tr,F4 ps ts tr->Q (.ow (tr.map .int))
def zkc:(["number","track","ends"]:List aa).Nodup:=by decide +kernel
def zkd:(["number","tracks"]:List aa).Nodup:=by decide +kernel
def NW:(T:TX) ×' ∀{P w K mg base},Txt K mg->~~~1 "uppers_of" 2 AX->~~~1 "in_order" 1 xB->~~~1 "are_behind" 3 AQ->~~~3 "may_join" 3 Aq->cL P w K mg base 3 "by_rows" ["pieces","above","uppers","waiting","tracks","ends","track","taking","number"] (top 32) T:=
 ⟨_,λT yo oN yL yA nd f d A outer s H E b=>have c:=b.units;
 (az (bD 2 (bC yo b (ai (ae 0) (ai (ae 1) au))) nd)
   (az (bD 3 (bC oN b (ai (ae 0) au)) nd)
   (az (gT 4 (fU rfl (.of (N':=["piece"]) (m:=[none]) (by kernel_rfl)) ez (c6 (ae 0)) (λs3 a ex=>(aP 0 pd)) (λs3 a ex=>gc) (λs3 a ex=>fO)) nd)
   (az (gT 5 D8 nd)
   (az (eN ee rfl (jg T.b_range (ai (dD (zS rfl) T.b_sum yX (ai (fU rfl (.of (N':=["piece"]) (m:=[none]) (by kernel_rfl)) ez (c6 (ae 0)) (λs3 a ex=>(aP 0 pd)) (λs3 a ex=>gc) (λs3 a ex=>(aS (ae 0) ax))) au)) au)) (aP 6 nd)
    (az (J9 5 7 rfl (.of (N':=["number","track","ends"]) (m:=[none,some 6,some 5]) (by kernel_rfl)) ez (T6 (ae 5)) (λs3 a ex=>(aP 0 zkc)) (λs3 a ex=>(jG (bG wW (xm c (ae 2) (ae 0)) (ae 1)))) (λs3 a ex=>(ae 0)) nd)
   (az (eN ee rfl (c6 (ae 3)) (aP 8 nd)
    (aI (cU (pq (xa (Uo 5 (bC yL b (ai (aS (ae 2) (ae 8)) (ai (ae 5) (ai (ae 6) au)))))) (uP (xa (Uo 7 (bC yA b (ai (ae 0) (ai (ae 7) (ai (ae 8) au)))))))).pb (az (zev 4 (ae 8) (ae 6))
   (az (D4 c 5 (ae 8) (aM cE (ae 6) (aS (aS (ae 0) (ae 8)) ax)))
   (aI (jE 7 (ae 8))))) cT)))
   (az (J9 4 3 rfl (.of (N':=["number","tracks"]) (m:=[none,some 4]) (by kernel_rfl)) ez (c6 (ae 3)) (λs3 a ex=>(aP 0 zkd)) (λs3 a ex=>(jG (bG wV (aS (ae 1) (ae 0)) fO))) (λs3 a ex=>(ae 0)) nd)
   (px 3 cT)))))
   (aI (om 4)))))))⟩
def KG:TX:=NW.1
def zke:cB 2 Ay KG ["pieces","above","uppers","waiting","tracks","ends","track","taking","number"]:=by
 intro ds Qr hl h;symm;let⟨ps,ts,rfl,hn,X,val,F,O,q⟩:=h;show KG _ [.fz (ba ps),.fz (eD ts),.un,.un,.un,.un,.un,.un,.un];unfold KG NW;dsimp only;have big:=cS;have V:∀x,x<ps.length->1<=(ao ps x).k/\(ao ps x).l<=(ao ps x).r:=λx hx=>by rw[mS hx];have:=O _ (kC hx);show⟨this.1,this.2.2⟩
 have P:∀x,1<=(ao ps x).k:=λx=>by
  by_cases hx:x<ps.length
  .exact(V x hx).1
  unfold ao;rw[uk (by cbv)];room
 have s0:0<=(ps.map Pc.k).sum:=by
  rw[<-Vl];have:=Ed (λq=>(ao ps q).k) [] (aV ps.length) vX (λx hx=>by cases hx) λx _=>by room
  trivial
 lk;show⟨ps,ts,rfl,by lia,X,val,λus w=>?_⟩;walk;show⟨ps,rfl,by lia,λord io=>?_⟩;walk;show g4 ps cw (λ_=>.non) (λv h=>?_) (by lia) (λx hx M k=>?_) ?_
 .lk;show h
 .lk;show k
 walk;walk;have s1:=zvC (ps:=ps) λp z=>(O p z).2.1
 have hN:(((ps.map Pc.k).sum.toNat:Nat):Int)=(ps.map Pc.k).sum:=Qv s0;show kU (aV (ps.map Pc.k).sum.toNat) (λ(i:Nat)=>.int (0+i)) (λv h=>?_) (λm ρ=>∃a b c:Sl,ρ=[Sl.fz (ba ps),Sl.fz (eD ts),Sl.fz (.lst ((us.map dU).map .dic)),Sl.fz (D.lst (cG (dH ord (eu ps (eR us) ord m)))),
   Sl.ow (lh ps.length (eu ps (eR us) ord m)),Sl.ov (OV.dc (jR (i6 ps (eu ps (eR us) ord m)))),a,b,c]/\vE ps.length (eu ps (eR us) ord m)) ?_ ?_ ?_
 .lk;show g4 ps cw (λp=>.int p.k) (λv h=>?_) (by lia) (λx hx M k=>?_) ?_
  .lk;show h
  .lk;show⟨_,rfl,k⟩
  rw[show(ps.map λp=>D.int p.k)=(ps.map Pc.k).map D.int by rw[cJ];rfl];lk;show⟨by lia,by lia,h⟩
 .refine⟨.un,.un,.un,?_,⟨vX,λq s=>by cases s⟩⟩;have e1:dH ord (eu ps (eR us) ord 0)=ord:=by
   unfold dH eu;rw[Qs];intro a _;rfl
  have n:lh ps.length (eu ps (eR us) ord 0)=ps.map λ_=>D.non:=by
   unfold lh eu;apply qh
   .simp
   intro i S h2;simp[lk,dJ]
  rw[e1,n];rfl
 .rintro m o ρ hm ⟨a,b,c,rfl,ok⟩;have I:o=m:=by
   grind
  subst I;have er:eu ps (eR us) ord (o+1)=row ps (eR us) ord (o:Int) (eu ps (eR us) ord o):=rfl;rw[er];generalize eu ps (eR us) ord o=pl at ok;rw[t4];generalize (o:Int)=t;have T:(dH ord pl).Nodup:=io.nd.filter _;have B:∀x∈dH ord pl,x<ps.length/\x∉b8 pl:=λx hx=>by
   let⟨S,h2⟩:=eI.mp hx;show⟨(io.mem x).mp S,by show of_decide_eq_true ‹_›⟩
  lk;show lW pl (λp=>.int (p.1:Nat)) (λp=>.int (p.1:Nat)) (λp=>decide (t<p.2+(ao ps p.1).k)) (λv h=>?_) (by have:=Sm ok.nd ok.lt;lia) (λp z M K0 k1 Y=>?_) ?_
  .lk;show v ((jR (i6 ps pl)).map λp=>ur p.1);rw[show((jR (i6 ps pl)).map λp=>ur p.1)=pl.map λp=>D.int (p.1:Nat) by unfold jR dA i6;rw[cJ,cJ];rfl];show h
  .have hg:=Ve (ps:=ps) ok.nd (u:=p.1) (x:=p.2) z;lk;show⟨_,_,rfl,by unfold jR;rw[xc,hg];rfl,?_⟩;cbv
  show⟨by simp[DR,nY],?_⟩;walk;have K:∀l:List Pl,(l.map λp=>D.int (p.1:Nat))=cG (l.map (·.1)):=λl=>by unfold cG;rw[cJ];rfl
  rw[K];show kU (dH ord pl) (λ(x:Nat)=>.int (x:Int)) (λv h=>?_) (λi ρ=>∃(c:Sl)(d:List Pl),d=((dH ord pl).take i).foldl (cX ps (eR us) t) pl/\ρ=[Sl.fz (ba ps),Sl.fz (eD ts),Sl.fz (.lst ((us.map dU).map .dic)),Sl.fz (D.lst (cG (dH ord pl))),
   Sl.ow (lh ps.length d),Sl.ov (OV.dc (jR (i6 ps d))),Sl.fz (.int t),.ow (cG ((d.filter λp=>decide (t<p.2+(ao ps p.1).k)).map (·.1))),c]) ⟨_,pl,rfl,rfl⟩ ?_ ?_
  .lk;show h
  .rintro i x ρ hi ⟨c,d,n,rfl⟩;have et:(dH ord pl).take (i+1)=(dH ord pl).take i++[x]:=by rw[fB,hi];rfl
   have sp:(dH ord pl)=(dH ord pl).take i++(dH ord pl).drop i:=(lH i _).symm;let⟨A,fr⟩:=JE (ps:=ps) (us:=eR us) (t:=t) ((dH ord pl).take i) ((dH ord pl).drop i) pl (by rw[<-sp];show T) (λq s=>by rw[<-sp] at s;show B q s) ok;rw[<-n] at A fr;have xd:x∈(dH ord pl).drop i:=by
    grind
   have N:=fr x xd;have g:=(B x (cP hi)).1;have l2:=Sm A.nd A.lt;have ob:=ztK (ps:=ps) (us:=us) (t:=t) (q:=x) A.nd;have W:cX ps (eR us) t d x=((dH ord pl).take (i+1)).foldl (cX ps (eR us) t) pl:=by rw[et,wg,n];rfl
   lk;have gx:bE us (x:Int)=some (us[x]?.getD []):=by
    rw[show us[x]?.getD []=us[x]'(by rw[w.len];show g) by rw[bO (by rw[w.len];show g)];rfl];show eV (by rw[w.len];show g)
   have U:pH ps (eR us) d t x=false->∃(c:Sl)(C:List Pl),C=((dH ord pl).take (i+1)).foldl (cX ps (eR us) t) pl/\([Sl.fz (ba ps),Sl.fz (eD ts),Sl.fz (.lst ((us.map dU).map .dic)),Sl.fz (D.lst (cG (dH ord pl))),
     Sl.ow (lh ps.length d),Sl.ov (OV.dc (jR (i6 ps d))),Sl.fz (.int t),.ow (cG ((d.filter λp=>decide (t<p.2+(ao ps p.1).k)).map (·.1))),.fz (.int (x:Nat))]:Ev)=[Sl.fz (ba ps),Sl.fz (eD ts),Sl.fz (.lst ((us.map dU).map .dic)),Sl.fz (D.lst (cG (dH ord pl))),
     Sl.ow (lh ps.length C),Sl.ov (OV.dc (jR (i6 ps C))),Sl.fz (.int t),.ow (cG ((C.filter λp=>decide (t<p.2+(ao ps p.1).k)).map (·.1))),c]:=λh=>by
    show⟨_,d,?_,rfl⟩;rw[<-W];unfold cX;rw[h];rfl
   show⟨_,gx,us[x]?.getD [],i6 ps d,t,rfl,rfl,?_⟩;cases J:ql (us[x]?.getD []) (i6 ps d) t with
   | false=>
    show U (by rw[<-ob,J];rfl)
   | true=>
    show⟨ps,_,x,rfl,?_,g,λy H=>?_,rfl,?_⟩
    .grind
    .let⟨p,z,rfl⟩:=bQ.mp H;show A.lt _ (iq.mpr ⟨p.2,(eI.mp z).1⟩)
    cases Q:((d.filter λp=>decide (t<p.2+(ao ps p.1).k)).map (·.1)).all λy=>je (ao ps y) (ao ps x) with
    | false=>
     show U (by rw[<-ob,J,Q];rfl)
    | true=>
     have yes:pH ps (eR us) d t x=true:=by rw[<-ob,J,Q];rfl
     have L:cX ps (eR us) t d x=d++[(x,t)]:=by unfold cX;rw[yes];rfl
     have W9:(lh ps.length d).length=ps.length:=by unfold lh;simp
     show⟨x,xf (by rw[W9];show g),?_⟩;rw[zvA g N];walk;show⟨_,zrz g,?_⟩;show⟨_,rfl,_,rfl,?_,?_⟩
     .unfold jR dA i6;simp;lia
     rw[zvB N];walk;show⟨?_,?_⟩
     .grind
     have ef:cG ((d.filter λp=>decide (t<p.2+(ao ps p.1).k)).map (·.1))++[D.int (x:Int)]=cG (((d++[(x,t)]).filter λp=>decide (t<p.2+(ao ps p.1).k)).map (·.1)):=by
      grind
     rw[ef];show⟨_,d++[(x,t)],by rw[<-W,L],rfl⟩
  rintro ρ ⟨c,d,n,rfl⟩;rw[f6] at n;have L:d=row ps (eR us) ord t pl:=n;walk;show lW (dH ord pl) (λ(x:Nat)=>.int (x:Int)) (λ(x:Nat)=>.int (x:Int)) (λx=>decide (x∉b8 d)) (λv h=>?_) ?_ (λx hx M K0 k1 Y=>?_) ?_
  .lk;show h
  .have:=jY (λq=>decide (q∉b8 pl)) ord;have:=io.len;unfold dH;lia
  .have g:=(B x hx).1;have Yv:bE (lh ps.length d) (x:Int)\dJ (lk d x):=by
    unfold lh;rw[mU];have:bE (aV ps.length) (x:Int)\x:=by
     have:=eV (l:=aV ps.length) (j:=x) (by simpa using g);rw[this,HG]
    rw[this];rfl
   lk;show⟨_,Yv,?_⟩;have hz:=zpv (pl:=d) (q:=x);unfold qB at hz;grind
  show⟨by simp[DR,nY],?_⟩;have ew:(dH ord pl).filter (λq=>decide (q∉b8 d))=dH ord d:=by rw[n];show zpw _
  rw[ew];walk;have E:vE ps.length (row ps (eR us) ord t pl):=by
   have:=JE (ps:=ps) (us:=eR us) (t:=t) (dH ord pl) [] pl (by simpa using T) (λq s=>B q (by simpa using s)) ok;show this.1
  rw[L];show⟨_,_,_,rfl,E⟩
 rintro ρ ⟨a,b,c,rfl,ok⟩;rw[jv] at ok;rw[jv];walk;have ro:=ztJ (ps:=ps) (us:=eR us) (ts:=ts) (ord:=ord) V P val (λx hx u=>w.mem x hx u) io.nd (λx=>io.mem x) io.gn F hN
 have all:=Vf (us:=eR us) (ord:=ord) P io.nd (λx=>io.mem x) (f:=F.choose) (λx hx u Z=>by
  let⟨c,R⟩:=(w.mem x hx u).mp Z;show⟨(val _ R).1,F.choose_spec _ R⟩) hN
 have e:lh ps.length (eu ps (eR us) ord (ps.map Pc.k).sum.toNat)=((aV ps.length).map λx=>(lk (eu ps (eR us) ord (ps.map Pc.k).sum.toNat) x).getD 0).map D.int:=by
  rw[cJ];show ui λx hx=>?_
  let⟨y,H⟩:=iq.mp (all x (eG.mp hx));rw[uh,IH ok.nd H];rfl
 rw[e];show q _ ro
end Wc
open PySem L2 PyProof.Rows Wc
local macro_rules | `(tactic| lk)=>`(tactic| (repeat(first | walk_at"b" | dsimp only[zC])))
namespace Wc
open PySem L2 PyProof.Rows
def Rr(a:Option Int)(p:Pc×Int):Option Int:=match a with
 | none=>some (p.2+p.1.k)
 | some m=>some (if m<p.2+p.1.k then p.2+p.1.k else m)
def uv(ps:List Pc)(tr:List Int):Option Int:=(ps.zip tr).foldl Rr none
def sO:bg:=λds Q=>∃ps tr,ds=[ba ps,dI tr]/\tr.length=ps.length/\ps.length<=1000/\(∀p∈ps,1<=p.k/\p.k<=3)/\Q (.fz (.int ((uv ps tr).getD 0)))
def ztM(ps:List Pc)(tr):rZ (ps.map cw) (tr.map D.int)=(ps.zip tr).map λp=>.tup [cw p.1,.int p.2]:=by unfold rZ;rw[PQ,List.map_zip_eq_zipWith];rfl
def zpx(L d Q)(h:L=[]->Q (.fz d))(g:∀p∈L,(∀r∈L,r<=p)->Q (.fz (.int p))):DO (.lst (L.map D.int)) d Q:=by
 unfold DO;have e:DP (L.map D.int)\(true,L.map λn=>[n]):=by unfold DP;rw[sM]
 simp![e];show⟨λe=>h (by simpa using e),λt b a=>?_⟩;let⟨p,f,rfl⟩:=bQ.mp b;show g p f λr c=>?_
 have:=a [r] (iA c);simp[HT.bA] at this;lia
theorem Vk:∀(L:List (Pc×Int)) m,∃x,L.foldl Rr (some m)\x/\m<=x/\(∀p∈L,p.2+p.1.k<=x)/\(x=m\/∃p∈L,x=p.2+p.1.k)
 | [],m=>⟨m,rfl,dv _,λp b=>(by cases b),.inl rfl⟩
 | p::L,m=>by
  symm;let⟨x,e,d,h,g⟩:=Vk L (if m<p.2+p.1.k then p.2+p.1.k else m);show⟨x,e,by split at d<;>ext,λq f=>?_,?_⟩;all_goals grind
def zrA(h:ps.zip tr=[]):uv ps tr=none:=by unfold uv;rw[h];rfl
def zrB(h:ps.zip tr≠[]):∃x,uv ps tr\x/\(∀p∈ps.zip tr,p.2+p.1.k<=x)/\∃p∈ps.zip tr,x=p.2+p.1.k:=by
 unfold uv;cases hz:ps.zip tr with
 | nil=>show absurd hz h
 | cons p L=>
  symm;let⟨x,b,g,f,e⟩:=Vk L (p.2+p.1.k);show⟨x,b,λq d=>?_,?_⟩;all_goals grind
def Wl:(["piece","track"]:List aa).Nodup:=by decide +kernel
def NT:(T:TX) ×' ∀{P w K mg base},Txt K mg->cL P w K mg base 0 "count_of" ["pieces","tracks"] (top 27) T:=
 ⟨_,λT nd f d A outer s H E c=>have b:=c.units;
 (aI (cf (zto rfl b (fU rfl (.of (N':=["piece","track"]) (m:=[none,none]) (by kernel_rfl)) sP (Uj T.b_zip (ai (ae 0) (ai (ae 1) au))) (λs3 a ex=>(gZ (n:=2) rfl (cz (aP 0 Wl) (cz (aP 1 Wl) gJ)))) (λs3 a ex=>gc) (λs3 a ex=>(aM cE (ae 1) (aS (ae 0) ax)))) ax T.b_max)))⟩
def KJ:TX:=NT.1
def zi5:cB 2 sO KJ ["pieces","tracks"]:=by
 intro ds r hl h;symm;let⟨ps,tr,rfl,m,d,n,q⟩:=h;show KJ _ [.fz (ba ps),.fz (dI tr)];unfold KJ NT;dsimp only;have big:=cS;show R0 _ _ _ _;show g4 (ps.zip tr) (λp=>.tup [cw p.1,.int p.2]) (λp=>.int (p.2+p.1.k)) (λs h=>?_) (by rw[zd];lia) (λp d t k1=>?_) ?_
 .unfold ba dI;lk;rw[ztM];show h
 .lk;show⟨_,rfl,?_⟩;show k1
 rw[show(ps.zip tr).map (λp=>D.int (p.2+p.1.k))=((ps.zip tr).map λp=>p.2+p.1.k).map D.int by rw[cJ];rfl];show zpx _ _ _ (λe=>?_) λp d g=>?_
 .rw[zrA (by simpa using e)] at q;show q
 symm;let⟨z,hz,rfl⟩:=bQ.mp d;let⟨x,j,i,y,f,o⟩:=zrB (ps:=ps) (tr:=tr) (λe=>by rw[e] at hz;cases hz);rw[j] at q;have a:=i z hz;have b:=g _ (iA f);have e:z.2+z.1.k=x:=by lia
 rw[<-e] at q;show q
end Wc
open PySem L2 PyProof.Rows Wc
local macro_rules | `(tactic| lk)=>`(tactic| (repeat(first | walk_at"b" | dsimp only[$[$(qn "qD qJ RZ RY gt"):ident],*])))
namespace Wc
open PySem L2 PyProof.Rows
def gk(ps:List Pc)(a:List Int)(q:Nat):List Int:=[aD a q,-(ao ps q).k]
def dr(ps:List Pc)(a:List Int)(ord:List Nat)(t:List Int):List Nat:=ord.filter λq=>decide (gk ps a q=t)
structure ym(ps:List Pc)(lv:List Int)(ord:List Nat)(ks:List (List Int)):Prop where
 gn:ks.Pairwise λx y=>HT.bA y x=true
 mem:∀t,t∈ks↔∃q∈ord,gk ps lv q=t
def Nj(a:List (List Nat)):List D:=a.map λg=>.lst (cG g)
def AG:bg:=λds Q=>∃ps lv,ds=[ba ps,dI lv]/\lv.length=ps.length/\ps.length<=63/\∀ord ks,lA ps ord->ym ps lv ord ks->Q (.ow (Nj (ks.map (dr ps lv ord))))
def zfw:(["key","groups"]:List aa).Nodup:=by decide +kernel
def NN:(T:TX) ×' ∀{P w K mg base},Txt K mg->~~~1 "in_order" 1 xB->cL P w K mg base 1 "level_groups" ["pieces","levels","groups","number","key"] (top 29) T:=
 ⟨_,λT oN nd f d A outer s H E b=>have a:=b.units;
 (az (gT 2 zra nd)
   (az (eN ee rfl (c6 (bC oN b (ai (ae 0) au))) (aP 3 nd)
    (az (gT 4 (ztv (ai (aS (ae 1) (ae 3)) (ai (zY (aS (aS (ae 0) (ae 3)) ax)) au))) nd)
   (aI (zvk a 2 4 (ae 3)))))
   (px 2 (aI (cf (fU rfl (.of (N':=["key","groups"]) (m:=[none,some 2]) (by kernel_rfl)) ez (c6 (dD (zrb rfl) T.b_sorted vS (ai (ae 2) au))) (λs3 c ex=>(aP 0 zfw)) (λs3 c ex=>gc) (λs3 c ex=>(ztw a (ae 1) (ae 0)))))))))⟩
def LB:TX:=NN.1
abbrev Tb:=List Int×List Nat
def mf(p:Tb):List Key×List D:=(p.1.map eJ,cG p.2)
structure abC(ps:List Pc)(lv:List Int)(o:List Nat)(tab:List Tb):Prop where
 nd:(tab.map (·.1)).Nodup
 mem:∀t,t∈tab.map (·.1)↔∃q∈o,gk ps lv q=t
 val:∀p∈tab,p.2=dr ps lv o p.1
 len:tab.length<=o.length
def Em{a b:List Int}(h:a.map (λi=>(eJ i:Key))=b.map eJ):a=b:=by
 show(wB λx y z=>?_).mp h;injection z
def ztN(a:List Tb)(t:List Int):((a.map mf).any λkv=>decide (kv.1=t.map eJ))=decide (t∈a.map (·.1)):=by
 rw[tZ,v8,wa,ic,bQ];constructor
 .rintro⟨p,b,e⟩;show⟨p,b,Em (of_decide_eq_true e)⟩
 rintro⟨p,b,rfl⟩;show⟨p,b,by simp[mf]⟩
def Vd(ps a o q t):dr ps a (o++[q]) t=if gk ps a q=t then dr ps a o t++[q] else dr ps a o t:=by
 unfold dr;by_cases h:gk ps a q=t
 .simp[h]
 simp[h]
theorem KI:∀t:List Int,qE (t.map D.int)\t.map eJ
 | []=>rfl
 | a::t=>by
  rw[c8];unfold qE;rw[KI t];rfl
theorem zpy(h:te ρ λr=>w6 r.val λds=>jB (λ_ b=>b ds) m g tc a ρ Q):jB (lL te) m g tc a ρ Q:=h
theorem zpz(te g c b ρ):nX (lL te) g c b ρ=te ρ λr=>w6 r.val λds=>∃a:Nat->Ev->Prop,a 0 ρ/\(∀i d ρ',ds[i]?\d->a i ρ'->g d ρ' λe=>c { b with nx:=a (i+1),ct:=a (i+1),bk:=b.nx } e)/\∀ρ',a ds.length ρ'->b.nx ρ':=rfl
def zfy:cB 2 AG LB ["pieces","levels","groups","number","key"]:=by
 intro ds Qr hl h;let⟨ps,lv,rfl,BL,v,Q⟩:=h;show LB _ [.fz (ba ps),.fz (dI lv),.un,.un,.un];unfold LB NN;dsimp only;have big:=cS;have gl:∀q,q<ps.length->bE lv (q:Int)\aD lv q:=λq r=>by rw[uI (by cbv)];show eV (by cbv)
 have V:∀q,q<ps.length->bE ps (q:Int)\ao ps q:=λq r=>by rw[mS r];show eV r
 lk;walk;rw[zpz];lk;show⟨ps,rfl,⋯,λord io=>?_⟩;have Z:ord.length=ps.length:=io.len;show⟨λi ρ=>∃(tab:List Tb)(a b:Sl),ρ=[.fz (ba ps),.fz (dI lv),.ov (.dt (tab.map mf)),a,b]/\abC ps lv (ord.take i) tab,⟨[],_,_,rfl,⟨vX,λt=>by simp,λp o=>(by cases o),bB _⟩⟩,?_,?_⟩
 .rintro i d ρ hd ⟨tab,a,b,rfl,ok⟩;unfold cG at hd;rw[cx] at hd;cases r:ord[i]? with
  | none=>rw[r] at hd;cases hd
  | some q=>
   rw[r] at hd;cases hd;have N:q<ps.length:=(io.mem q).mp (cP r);have w:ord.take (i+1)=ord.take i++[q]:=by rw[fB,r];rfl
   have tl:tab.length<=63:=by have:=ok.len;rw[eK] at this;lia
   unfold dI ba;lk;show⟨_,gl q N,_,V q N,?_⟩;show⟨_,rfl,by trivial,?_⟩;have B:qE [D.int (aD lv q),D.int (-(ao ps q).k)]=some ((gk ps lv q).map eJ):=KI (gk ps lv q);have g:jd (tab.map mf) ((gk ps lv q).map eJ)=if gk ps lv q∈tab.map (·.1) then tab.map mf else(tab++[(gk ps lv q,[])]).map mf:=by
    unfold jd;rw[ztN];by_cases h:gk ps lv q∈tab.map (·.1)
    .simp[h]
    rw[if_neg (by simp[h]),if_neg h,c9];rfl
   by_cases h:gk ps lv q∈tab.map (·.1)
   .rw[if_pos h] at g;let⟨p,o,s⟩:=bQ.mp h;let⟨n,v⟩:=rT o;have C:n<tab.length:=(cH.mp v).1;have first:∀j,j<n->∀x,tab[j]?\x->x.1≠gk ps lv q:=λj m x hx z=>by
     let⟨L,M⟩:=cH.mp hx;have:=pX.mp ok.nd j n (by rw[aL];show L) (by rw[aL];show C) m;rw[ub,ub,M,(cH.mp v).2] at this;show this (z.trans s.symm)
    show⟨_,n,cG p.2,B,by rw[aL];lia,?_,λj m x hx=>?_,?_⟩
    .rw[g,cx,v,<-s];rfl
    .rw[g,cx] at hx;cases u:tab[j]? with
     | none=>rw[u] at hx;cases hx
     | some y=>
      rw[u] at hx;cases hx;show λz=>first j m y u (Em z)
    rw[g];lk;show⟨?_,tab.set n (p.1,p.2++[q]),.fz (.int (q:Nat)),.fz (.tup [.int (aD lv q),.int (-(ao ps q).k)]),?_,⟨?_,λt=>?_,λy f=>?_,?_⟩⟩
    .have:=ok.val p o;unfold cG;rw[aL,this];have:=jY (λP=>decide (gk ps lv P=p.1)) (ord.take i);unfold dr;rw[eK] at this;lia
    .rw[oQ];have:mf (p.1,p.2++[q])=((gk ps lv q).map eJ,cG p.2++[D.int (q:Int)]):=by
      unfold mf cG;rw[c9,s];rfl
     rw[this]
    .have:(tab.set n (p.1,p.2++[q])).map (·.1)=tab.map (·.1):=by
      rw[oQ];apply qi;intro j;rw[lC];split
      .rename_i e;subst e;rw[cx,v];simp[C]
      rfl
     rw[this];show ok.nd
    .have:(tab.set n (p.1,p.2++[q])).map (·.1)=tab.map (·.1):=by
      rw[oQ];apply qi;intro j;rw[lC];split
      .rename_i e;subst e;rw[cx,v];simp[C]
      rfl
     rw[this,ok.mem t,w];constructor
     .rintro⟨x,hx,e⟩;show⟨x,ie _ hx,e⟩
     rintro⟨x,hx,e⟩;rcases bJ.mp hx with hx | hx
     .exact⟨x,hx,e⟩
     simp at hx;subst hx;rw[e] at h;show(ok.mem t).mp h
    .rw[w,Vd];let⟨j,m⟩:=rT f;rw[lC] at m;split at m
     .rename_i W;cases m;rw[if_pos s.symm,ok.val p o]
     rename_i W;have E:y∈tab:=cP m;have K:¬gk ps lv q=y.1:=λz=>by
      let⟨L,M⟩:=cH.mp m;have nd:=ok.nd;have Y:(tab.map (·.1))[j]'(by rw[aL];show L)=(tab.map (·.1))[n]'(by rw[aL];show C):=by
       rw[ub,ub,M,(cH.mp v).2,s,<-z]
      have:=(P4 nd).mp Y;room
     rw[if_neg K];show ok.val y E
    rw[qf,w,cD];have:=ok.len;room
   rw[if_neg h] at g;show⟨_,tab.length,[],B,by rw[aL];lia,?_,λj m x hx=>?_,?_⟩
   .rw[g,cx,zm (bB _)];simp[mf,cG]
   .rw[g,cx,um m] at hx;cases u:tab[j]? with
    | none=>rw[u] at hx;cases hx
    | some y=>
     rw[u] at hx;cases hx;show λz=>h (bQ.mpr ⟨y,cP u,Em z⟩)
   rw[g];lk;have H:dr ps lv (ord.take i) (gk ps lv q)=[]:=by
    unfold dr;rw[wH];intro x hx z;show h ((ok.mem _).mpr ⟨x,hx,of_decide_eq_true z⟩)
   show⟨by cbv,tab++[(gk ps lv q,[q])],.fz (.int (q:Nat)),.fz (.tup [.int (aD lv q),.int (-(ao ps q).k)]),?_,⟨?_,λt=>?_,λy f=>?_,?_⟩⟩
   .have:((tab++[(gk ps lv q,[])]).map mf).set tab.length ((gk ps lv q).map eJ,[D.int (q:Int)])=(tab++[(gk ps lv q,[q])]).map mf:=by
     simp[mf,cG]
    rw[this]
   .rw[c9,kH];show⟨ok.nd,by show fE _ _,λx hx y f=>by simp at f;subst f;show λz=>h (z▸hx)⟩
   .rw[c9,bJ,ok.mem t,w];constructor
    .rintro(⟨x,hx,e⟩ | hx)
     .exact⟨x,ie _ hx,e⟩
     simp at hx;show⟨q,by show gO _ (.head _),hx.symm⟩
    rintro⟨x,hx,e⟩;rcases bJ.mp hx with hx | hx
    .exact .inl ⟨x,hx,e⟩
    simp at hx;subst hx;show .inr (by show e▸.head _)
   .rw[w,Vd];rcases bJ.mp f with f | f
    .have K:¬gk ps lv q=y.1:=λz=>h (z▸iA f)
     rw[if_neg K];show ok.val y f
    simp at f;subst f;rw[if_pos rfl,H];rfl
   rw[cD,w,cD];have:=ok.len;room
 rintro ρ ⟨tab,a,b,rfl,ok⟩;have X:(cG ord).length=ord.length:=by show aL ..
 rw[X,f6] at ok;have tl:tab.length<=63:=by have:=ok.len;lia
 walk;simp![OV.val];have B:((tab.map mf).map λp=>(p.1,D.lst p.2))=tab.map λp=>(p.1.map eJ,D.lst (cG p.2)):=by rw[cJ];rfl
 rw[B];have I:(tab.map λp:Tb=>((p.1.map eJ:List Key),D.lst (cG p.2))).map (·.1)=(tab.map (·.1)).map (λt=>t.map eJ):=by rw[cJ,cJ];rfl
 have J:∀t∈tab.map (·.1),t≠[]:=λt g=>by
  obtain⟨x,_,e⟩:=(ok.mem t).mp g;rw[<-e];simp[gk]
 show zpy ?_;lk;show⟨tab.map (·.1),I,by rw[aL];room,J,λA o S=>?_⟩;have U:A.Nodup:=o.nodup_iff.mpr ok.nd;show g4 A (λt=>D.tup (t.map D.int)) (λt=>.lst (cG (dr ps lv ord t))) (λQ' h=>h) (by rw[o.length_eq,aL];lia) (λt g K1 k=>?_) ?_
 .lk;let⟨p,R,s⟩:=bQ.mp (o.subset g);show⟨_,D.lst (cG (dr ps lv ord t)),KI t,?_,k⟩;unfold DI;cases hf:(tab.map λp:Tb=>((p.1.map eJ:List Key),D.lst (cG p.2))).find? λkv=>decide (kv.1=t.map eJ) with
  | none=>
   have:=C6.mp hf _ (iA R);simp[s] at this
  | some x=>
   have T:=Q8 hf;have O:=Pr hf;simp![ic] at O;let⟨y,f,rfl⟩:=bQ.mp T;have F:y.1=t:=Em O;rw[hZ,ok.val y f,F]
 have:(A.map λt=>D.lst (cG (dr ps lv ord t)))=Nj (A.map (dr ps lv ord)):=by unfold Nj;rw[cJ];rfl
 rw[this];show Q ord A io ⟨(S.and U).imp λ{a b} h=>Ef _ _ h.1 h.2,λt=>by rw[o.mem_iff];show ok.mem t⟩
end Wc
open PySem L2 PyProof.Rows Wc
local macro_rules | `(tactic| lk)=>`(tactic| (repeat(first | walk_at"b" | dsimp only[$[$(qn "qD qJ RX gt"):ident],*])))
namespace Wc
open PySem L2 PyProof.Rows
def uu(ps:List Pc)(q:Nat)(s:List Nat):Bool:=decide ((ao ps (s.getLastD 0)).r<(ao ps q).l)
def oX(ps:List Pc)(S:List (List Nat))(q:Nat):List (List Nat):=match S.findIdx? (uu ps q) with
 | none=>S++[[q]]
 | some j=>S.set j (S.getD j []++[q])
def fV(ps:List Pc)(g:List Nat):List (List Nat):=g.foldl (oX ps) []
structure Cf(ps:List Pc)(g:List Nat)(S:List (List Nat)):Prop where
 ne:∀s∈S,s≠[]
 mem:∀s∈S,∀q∈s,q∈g
 cnt:S.flatten.Perm g
def ztP(q)(h:Cf ps g S):Cf ps (g++[q]) (oX ps S q):=by
 unfold oX;cases d:S.findIdx? (uu ps q) with
 | none=>
  show⟨λs a=>?_,λs a x hx=>?_,?_⟩
  .rcases bJ.mp a with a | a
   .exact h.ne s a
   simp at a;subst a;simp
  .rcases bJ.mp a with a | a
   .exact ie _ (h.mem s a x hx)
   simp at a;subst a;show gO _ hx
  simpa using h.cnt.append_right [q]
 | some j=>
  have b:j<S.length:=(Ii.mp d).1;have e:S.getD j []=S[j]:=by rw[uq,bO b];rfl
  show⟨λs a=>?_,λs a x hx=>?_,?_⟩
  .rcases Ia a with a | rfl
   .exact h.ne s a
   simp
  .rcases Ia a with a | rfl
   .exact ie _ (h.mem s a x hx)
   rcases bJ.mp hx with hx | hx
   .rw[e] at hx;show ie _ (h.mem _ (kC b) x hx)
   show gO _ hx
  show(S.set j (S.getD j []++[q])).flatten.Perm _;have i:S=S.take j++S[j]::S.drop (j+1):=by rw[List.getElem_cons_drop,lH]
  have f:S.set j (S.getD j []++[q])=S.take j++(S[j]++[q])::S.drop (j+1):=by
   rw[e,List.set_eq_take_append_cons_drop,if_pos b]
  rw[f];have c:(S.take j++(S[j]++[q])::S.drop (j+1)).flatten.Perm (S.flatten++[q]):=by
   conv=>rhs;rw[i]
   simp![Qq,lD,mM];show zh _ (zh _ ?_);show wG
  show c.trans (h.cnt.append_right [q])
def Ao(ps):∀g,Cf ps g (fV ps g):=by
 intro g;have:∀(r a:List Nat)(S:List (List Nat)),Cf ps a S->Cf ps (a++r) (r.foldl (oX ps) S):=by
  intro r;induction r with
  | nil=>intro a S h;simpa using h
  | cons q r c=>
   intro a S h;have:=c (a++[q]) _ (ztP q h);simpa using this
 simpa[fV] using this g [] [] ⟨λs b=>(by cases b),λs b=>(by cases b),∅⟩
def Wi{g:List Nat}(h:g[i]?\q):fV ps (g.take (i+1))=oX ps (fV ps (g.take i)) q:=by
 have a:g.take (i+1)=g.take i++[q]:=by rw[fB,h];rfl
 unfold fV;rw[a,wg];rfl
def Au:bg:=λds Q=>∃ps g,ds=[ba ps,.lst (cG g)]/\(∀q∈g,q<ps.length)/\g.length<=63/\Q (.ov (.ll ((fV ps g).map cG)))
def zhH:(["strip","pieces","number"]:List aa).Nodup:=by decide +kernel
def Nv:(T:TX) ×' ∀{P w K mg base},Txt K mg->cL P w K mg base 0 "strips_of" ["pieces","group","strips","number","free"] (top 31) T:=
 ⟨_,λT nd f d A outer s H E c=>have b:=c.units;
 (az (gT 2 (zty (eA au)) nd)
   (az (eN ee rfl (c6 (ae 1)) (aP 3 nd)
    (ztx 4 2 3 rfl (.of (N':=["strip","pieces","number"]) (m:=[none,some 0,some 3]) (by kernel_rfl)) (λs3 a ex=>(jG (bG qv (aS (aS (ae 1) (aS (ae 0) (zY ax))) ax) (aS (aS (ae 1) (ae 2)) ax)))) (bG (fF b) (JB 4 T.b_len) ax) (aI (ztA 2 (eA (ai (ae 3) au)))) (λs3 a ex=>Us zhH rfl (by first | show Or.inl rfl | show Or.inr rfl)) (λs3 a ex=>uH rfl (by first | show Or.inl rfl | show Or.inr (Or.inl rfl) | show Or.inr (Or.inr rfl))) (hN:=nd)))
   (aI (Jx 2))))⟩
def KW:TX:=Nv.1
def fD(ps:List Pc)(q:Nat)(ds:List D):Bool:=match ds.getLast? with
 | some (.int i)=>decide ((ao ps i.toNat).r<(ao ps q).l)
 | _=>false
def R1(ps q)(h:s≠[]):fD ps q (cG s)=uu ps q s:=by
 unfold fD uu cG;rw[List.getLast?_map];cases a:s.getLast? with
 | none=>show absurd (List.getLast?_eq_none_iff.mp a) h
 | some x=>
  have:s.getLastD 0=x:=by rw[Q7,a];rfl
  rw[this];rfl
theorem VU{b a:Type}{f:a->b}{p:b->Bool}{q:a->Bool}:∀{l:List a},(∀x∈l,p (f x)=q x)->(l.map f).findIdx? p=l.findIdx? q
 | [],_=>rfl
 | x::l,h=>by
  rw[c8,HI,HI,h x (by show .head _),VU λy c=>h y (by show .tail _ ‹_›)]
def zhI:cB 2 Au KW ["pieces","group","strips","number","free"]:=by
 intro ds J hl h;let⟨ps,g,rfl,f,F,Q⟩:=h;show KW _ [.fz (ba ps),.fz (.lst (cG g)),.un,.un,.un];unfold KW Nv;dsimp only;have big:=cS;have v:∀q,q<ps.length->bE ps (q:Int)\ao ps q:=λq f=>by rw[mS f];show eV f
 lk;walk;let B:TJ:=λi ρ=>∃a:Sl,ρ=[.fz (ba ps),.fz (.lst (cG g)),.ov (.ll ((fV ps (g.take i)).map cG)),a,.un]
 show kU g (λ(q:Nat)=>.int (q:Int)) (λK h=>?_) B ⟨_,rfl⟩ ?_ ?_
 .lk;show h
 .rintro i q ρ m ⟨a,rfl⟩;have y:q∈g:=cP m;have z:=f q y;have ok:=Ao ps (g.take i);have L:i<g.length:=(cH.mp m).1;have D:(fV ps (g.take i)).length<=62:=by
   have n:=ok.cnt.length_eq;rw[eK] at n;have u:∀S:List (List Nat),(∀s∈S,s≠[])->S.length<=S.flatten.length:=by
    intro S;induction S with
    | nil=>intro _;simp
    | cons s S A=>
     intro h;have I:=A λx hx=>h x (by show .tail _ ‹_›)
     have H:0<s.length:=Df.mpr (h s (by show .head _));rw[lD,cD,eh];lia
   have:=u _ ok.ne;lia
  show⟨by show bB _,by decide,by decide,?_⟩;have w:((fV ps (g.take i)).map cG).findIdx? (fD ps q)=(fV ps (g.take i)).findIdx? (uu ps q):=VU λs b=>R1 ps q (ok.ne s b)
  show⟨by rw[aL,big];lia,fD ps q,λds e=>?_,?_,λp=>?_,λj ds t e=>?_⟩
  .let⟨s,b,rfl⟩:=bQ.mp e;rw[R1 ps q (ok.ne s b)];have d:=ok.ne s b;have hx:s.getLast d∈g:=uj (ok.mem s b _ (PM d));have o:bE (cG s) (-1)\.int (s.getLast d:Nat):=by
    unfold cG;rw[mU];have:bE s (-1)\s.getLast d:=zrk s d;rw[this];rfl
   unfold ba;lk;show⟨_,o,?_⟩;show⟨cw (ao ps (s.getLast d)),by rw[mU,v _ (f _ hx)];rfl,?_⟩;show⟨.int (ao ps (s.getLast d)).r,rfl,_,v q z,?_⟩;show⟨.int (ao ps q).l,rfl,?_⟩;unfold uu;rw[Q7,List.getLast?_eq_some_getLast d];rfl
  .lk;rw[aL];constructor
   .intro h;show zq (by lia)
   intro h;rw[h];rfl
  .unfold IB;lk;show⟨by decide,by rw[aL,big];lia,.fz (.int (q:Int)),?_⟩;rw[Wi m];unfold oX;rw[<-w,p,c9];rfl
  rw[cx] at e;cases b:(fV ps (g.take i))[j]? with
  | none=>rw[b] at e;cases e
  | some s=>
   rw[b] at e;cases e;have C:=cP b;have E:s.length<=g.length:=by
    have n:=ok.cnt.length_eq;rw[eK] at n;have u:s.length<=(fV ps (g.take i)).flatten.length:=(List.sublist_flatten_of_mem C).length_le;lia
   show⟨by unfold cG;rw[aL,big];lia,.fz (.int (q:Int)),?_⟩;rw[Wi m];unfold oX;rw[w] at t;rw[t];simp![Qi,List.set_cons_zero,uq,b,uc,oQ];unfold cG;rw[c9];rfl
 rintro ρ ⟨a,rfl⟩;rw[f6];show Q
end Wc
open PySem L2 PyProof.Rows Wc
local macro_rules | `(tactic| lk)=>`(tactic| (repeat(first | walk_at"b" | dsimp only[$[$(qn "qD qJ gt"):ident],*])))
namespace Wc
open PySem L2 PyProof.Rows
abbrev La:=List Int×Int
def jy(ps:List Pc)(st:La)(s:List Nat):La:=(s.foldl (λtr q=>tr.set q st.2) st.1,st.2+(ao ps (s.headD 0)).k)
def zA(ps:List Pc)(st:La)(g:List Nat):La:=(fV ps g).foldl (jy ps) st
def wM(ps:List Pc)(a:List (List Nat)):La:=a.foldl (zA ps) (fi ps.length 0,0)
theorem Kb(x):∀(s:List Nat)(tr:List Int),(s.foldl (λtr q=>tr.set q x) tr).length=tr.length
 | [],tr=>rfl
 | q::s,tr=>by rw[lK,Kb x s,qf]
theorem Vc(ps st s):(jy ps st s).1.length=st.1.length:=Kb _ _ _
theorem KD(ps):∀(S:List (List Nat)) st,(S.foldl (jy ps) st).1.length=st.1.length
 | [],st=>rfl
 | s::S,st=>by rw[lK,KD ps S,Vc]
theorem zrC(ps st g):(zA ps st g).1.length=st.1.length:=KD ps _ st
theorem KC(ps):∀(a:List (List Nat)) st,(a.foldl (zA ps) st).1.length=st.1.length
 | [],st=>rfl
 | s::S,st=>by rw[lK,KC ps S,zrC]
def As:bg:=λds Q=>∃ps lv,ds=[ba ps,dI lv]/\lv.length=ps.length/\ps.length<=63/\∀ord ks,lA ps ord->ym ps lv ord ks->Q (.ow ((wM ps (ks.map (dr ps lv ord))).1.map D.int))
def NX:(T:TX) ×' ∀{P w K mg base},Txt K mg->~~~2 "level_groups" 2 AG->~~~1 "strips_of" 2 Au->cL P w K mg base 2 "by_levels" ["pieces","levels","tracks","track","group","strip","number"] (top 28) T:=
 ⟨_,λT yD yq nd f d A outer s H E a=>have c:=a.units;
 (az (D9 2 rfl (.of (N':=["piece"]) (m:=[none]) (by kernel_rfl)) ez (c6 (ae 0)) (λs3 b ex=>(aP 0 pd)) (λs3 b ex=>gc) (λs3 b ex=>ax) nd)
   (az (bD 3 ax nd)
   (az (eN ee rfl (c6 (bC yD a (ai (ae 0) (ai (ae 1) au)))) (aP 4 nd)
    (aI (eN ee rfl (c6 (bC yq a (ai (ae 0) (ai (ae 4) au)))) (aP 5 nd)
    (az (eN ee rfl (c6 (ae 5)) (aP 6 nd)
    (aI (zev 2 (ae 6) (ae 3))))
   (aI (bD 3 (aM cE (ae 3) (aS (aS (ae 0) (aS (ae 5) ax)) ax)) nd))))))
   (aI (om 2)))))⟩
def KU:TX:=NX.1
def zvF(h:k<n):iI n (k:Int)\k:=by
 unfold iI;rw[if_pos (by room),if_pos (by cbv)];simp
theorem Tn(h:te ρ λr=>w6 r.val λds=>zO g a b ρ ds):nX (lL te) g a b ρ:=h
def KH{c a:Type}(f)(b:a){l:List c}{x:c}(h:l[i]?\x):(l.take (i+1)).foldl f b=f ((l.take i).foldl f b) x:=by
 have d:l.take (i+1)=l.take i++[x]:=by rw[fB,h];rfl
 rw[d,wg];rfl
def zhJ:cB 2 As KU ["pieces","levels","tracks","track","group","strip","number"]:=by
 intro ds Y hl h;let⟨ps,lv,rfl,W,K,Q⟩:=h;show KU _ [.fz (ba ps),.fz (dI lv),.un,.un,.un,.un,.un];unfold KU NX;dsimp only;have big:=cS;have N:∀q,q<ps.length->bE ps (q:Int)\ao ps q:=λq e=>by rw[mS e];show eV e
 lk;show g4 ps cw (λ_=>.int 0) (λP h=>?_) (by lia) (λp X Z k=>?_) ?_
 .lk;show h
 .lk;show k
 have O:(ps.map λ_=>D.int 0)=(fi ps.length (0:Int)).map D.int:=by
  rw[List.map_replicate];show List.map_const'
 rw[O];walk;walk;show Tn ?_;lk;show⟨ps,lv,rfl,W,K,λord ks io L=>?_⟩;have u:∀t,∀q∈dr ps lv ord t,q<ps.length:=λt q e=>(io.mem q).mp ((eI.mp e).1)
 have x:∀t,(dr ps lv ord t).length<=63:=λt=>by
  have:=jY (λq=>decide (gk ps lv q=t)) ord;have:=io.len;unfold dr;lia
 generalize C:ks.map (dr ps lv ord)=v;have E:=Q ord ks io L;rw[C] at E;have M:∀g∈v,(∀q∈g,q<ps.length)/\g.length<=63:=λg n=>by
  rw[<-C] at n;let⟨t,G,rfl⟩:=bQ.mp n;show⟨u t,x t⟩
 let V:TJ:=λi ρ=>∃(st:La)(a b c:Sl),ρ=[.fz (ba ps),.fz (dI lv),.ow (st.1.map D.int),.fz (.int st.2),a,b,c]/\st=(v.take i).foldl (zA ps) (fi ps.length 0,0)
 show EG v (λg=>D.lst (cG g)) V ⟨(fi ps.length 0,0),.un,.un,.un,rfl,rfl⟩ ?_ ?_
 .rintro i g ρ n ⟨st,a,b,c,rfl,o⟩;let⟨e,x⟩:=M g (cP n);have ok:=Ao ps g;have H:st.1.length=ps.length:=by rw[o,KC];show Dk ..
  lk;show Tn ?_;lk;show⟨ps,g,rfl,e,x,?_⟩;show zO _ _ _ _ (((fV ps g).map cG).map D.lst);rw[cJ];let U:TJ:=λj ρ=>∃(d:La)(b c:Sl),ρ=[.fz (ba ps),.fz (dI lv),.ow (d.1.map D.int),.fz (.int d.2),.fz (.lst (cG g)),b,c]/\d=((fV ps g).take j).foldl (jy ps) st
  show EG (fV ps g) (D.lst∘cG) U ⟨st,b,c,rfl,rfl⟩ ?_ ?_
  .rintro j s ρ A ⟨d,b,c,rfl,r⟩;have F:=cP A;have R:d.1.length=ps.length:=by rw[r,KD];show H
   have w:=ok.ne s F;have B:∀q∈s,q<ps.length:=λq J=>e q (ok.mem s F q J)
   lk;let T:TJ:=λm ρ=>∃(c:Sl),ρ=[.fz (ba ps),.fz (dI lv),.ow (((s.take m).foldl (λtr q=>tr.set q d.2) d.1).map D.int),.fz (.int d.2),.fz (.lst (cG g)),.fz (.lst (cG s)),c]
   show kU s (λ(q:Nat)=>.int (q:Int)) (λP h=>?_) T ⟨c,rfl⟩ ?_ ?_
   .lk;show h
   .rintro m q ρ z ⟨c,rfl⟩;have I:=B q (cP z);lk;unfold uF;lk;show⟨q,by rw[aL,Kb,R];show zvF I,.fz (.int (q:Int)),?_⟩;rw[KH _ _ z,oQ]
   rintro ρ ⟨c,rfl⟩;rw[f6];walk;cases s with
   | nil=>show absurd rfl w
   | cons f y=>
    have S:=B f (by room);show⟨.int (f:Int),(by unfold cG;rw[mU];show congrArg (Gx _) (eV (l:=f::y) (j:=0) ∅)),?_⟩;show⟨cw (ao ps f),by rw[mU,N _ S];rfl,?_⟩;show⟨.int (ao ps f).k,rfl,?_⟩;show⟨jy ps d (f::y),_,_,rfl,by rw[KH _ _ A,<-r]⟩
  rintro ρ ⟨d,b,c,rfl,r⟩;rw[f6] at r;show⟨d,_,_,_,rfl,?_⟩;rw[KH _ _ n,<-o,r];rfl
 rintro ρ ⟨st,a,b,c,rfl,o⟩;rw[f6] at o;rw[o];show E
theorem Tj(x):∀(s:List Nat) tr q,q<tr.length->aD (s.foldl (λtr q=>tr.set q x) tr) q=if q∈s then x else aD tr q
 | [],tr,q,_=>by rfl
 | a::s,tr,q,h=>by
  rw[lK,Tj x s _ q (by rw[qf];show h)];by_cases c:q∈s
  .simp[c]
  rw[if_neg c];unfold aD;rw[lC];by_cases b:a=q
  .subst b;simp[h]
  have:¬q=a:=λz=>b z.symm
  simp[c,b,this]
def Vb(h:g≠[]):g.headD 0∈g:=by
 cases g with
 | nil=>show absurd rfl h
 | cons a r=>show .head _
def zpC(ps)(a:List (List Nat))(st):a.foldl (zA ps) st=(a.flatMap (fV ps)).foldl (jy ps) st:=by
 induction a generalizing st with
 | nil=>rfl
 | cons g a b=>rw[lK,b,lB,wg];rfl
structure abE(ps:List Pc)(g:List Nat):Prop where
 ne:g≠[]
 lt:∀q∈g,q<ps.length
 kk:∀q∈g,(ao ps q).k=(ao ps (g.headD 0)).k
 so:g.Pairwise λx y=>(ao ps x).l<=(ao ps y).l
theorem Vj(ps):∀a:List (List Nat),(a.flatMap (fV ps)).flatten.Perm a.flatten
 | []=>by show .nil
 | g::a=>by
  rw[lB,Qq,lD];show(Ao ps g).cnt.append (Vj ps a)
def zpD(h:HT.bA (fK ps y) (fK ps x)=true):(ao ps x).l<=(ao ps y).l:=by
 unfold fK at h;rw[xp] at h;grind
def zvG(c:lA ps ord)(l:ym ps b ord ks):∀g∈ks.map (dr ps b ord),abE ps g:=by
 intro g i;let⟨t,f,rfl⟩:=bQ.mp i;have kt:∀q∈dr ps b ord t,gk ps b q=t:=λq a=>of_decide_eq_true (eI.mp a).2
 have d:dr ps b ord t≠[]:=λz=>by
  let⟨q,a,e⟩:=(l.mem t).mp f;have:q∈dr ps b ord t:=eI.mpr ⟨a,by show if_pos ‹_›⟩;rw[z] at this;cases this
 show⟨d,λq a=>(c.mem q).mp (eI.mp a).1,λq a=>?_,(c.gn.imp λh=>zpD h).filter _⟩;have k:=kt q a;have j:=kt _ (Vb d);unfold gk at k j;grind
def zpE(f:lA ps ord)(j:ym ps c ord ks):(ks.map (dr ps c ord)).flatten.Perm (aV ps.length):=by
 have e:ks.Nodup:=j.gn.imp λ{a b} h z=>by
  subst z;have:∀a:List Int,HT.bA a a=false:=by
   intro a;induction a with
   | nil=>rfl
   | cons x r m=>rw[xp,if_pos rfl];show m
  rw[this] at h;cases h
 have l:∀q,q∈(ks.map (dr ps c ord)).flatten↔q<ps.length:=λq=>by
  rw[PH];constructor
  .rintro⟨g,i,d⟩;let⟨t,y,rfl⟩:=bQ.mp i;show(f.mem q).mp (eI.mp d).1
  intro d;have k:=(f.mem q).mpr d;show⟨_,iA ((j.mem _).mpr ⟨q,k,rfl⟩),eI.mpr ⟨k,∅⟩⟩
 show(Ra ?_ ua).mpr λq=>by rw[l q,eG]
 unfold rM;rw[List.pairwise_flatten];show⟨λg i=>?_,?_⟩
 .let⟨t,y,rfl⟩:=bQ.mp i;show f.nd.filter _
 rw[iz];show e.imp λ{a b} p=>?_
 intro q d u s z;subst z;have o:gk ps c q=a:=of_decide_eq_true (eI.mp d).2;have n:gk ps c q=b:=of_decide_eq_true (eI.mp s).2;show p (o.symm.trans n)
def jM(a b:Pc)(s t:Int):Option Int:=if a.n=b.n/\a.n≠none then none else if s<t+b.k/\t<s+a.k then j6 a b else none
def oK(ps:List Pc)(tr:List Int)(t:Tr):Prop:=aD tr t.2.1<=aD tr t.1+(ao ps t.1).k-1
inductive rK(ps:List Pc)(ts:List Tr)(tr:List Int):D->Prop
 | uU (p:Nat):p<ps.length->aD tr p<0->(∀x,x<p->0<=aD tr x)->rK ps ts tr (.tup [.str "track",.int (p:Nat)])
 | meet (p q:Nat) (c:Int):(∀x,x<ps.length->0<=aD tr x)->p<q->q<ps.length->jM (ao ps p) (ao ps q) (aD tr p) (aD tr q)\c->
   (∀x y,x<y->y<ps.length->(x<p\/(x=p/\y<q))->jM (ao ps x) (ao ps y) (aD tr x) (aD tr y)=none)->rK ps ts tr (.tup [.str "meet",.int (p:Nat),.int (q:Nat),.int c])
 | order (i:Nat) (t:Tr):(∀x,x<ps.length->0<=aD tr x)->(∀x y,x<y->y<ps.length->jM (ao ps x) (ao ps y) (aD tr x) (aD tr y)=none)->ts[i]?\t->oK ps tr t->
   (∀(j:Nat) t',j<i->ts[j]?=some t'->¬oK ps tr t')->rK ps ts tr (.tup [.str "order",.int t.1,.int t.2.1,.int t.2.2])
 | vy:(∀x,x<ps.length->0<=aD tr x)->(∀x y,x<y->y<ps.length->jM (ao ps x) (ao ps y) (aD tr x) (aD tr y)=none)->(∀t∈ts,¬oK ps tr t)->rK ps ts tr .non
def rK.one(z:rK ps ts tr d)(y:rK ps ts tr e):d=e:=by
 cases z with
 | uU p a b c=>
  cases y with
  | uU g u r w=>
   have:p=g:=by
    rcases zg p g with h | h | h
    .have:=w p h;lia
    .exact h
    have:=c g h;lia
   rw[this]
  | meet g l w k=>have:=k p a;lia
  | order i t k=>have:=k p a;lia
  | vy k=>have:=k p a;lia
 | meet p q c n lt ln m f=>
  cases y with
  | uU g u r=>have:=n g u;lia
  | meet g l w k lt' s j o=>
   have:p=g/\q=l:=by
    rcases zg p g with h | h | h
    .have:=o p q lt ln (.inl h);rw[m] at this;cases this
    .subst h;rcases zg q l with h | h | h
     .have:=o p q lt ln (.inr ⟨rfl,h⟩);rw[m] at this;cases this
     .exact⟨rfl,h⟩
     have:=f p l lt' s (.inr ⟨rfl,h⟩);rw[j] at this;cases this
    have:=f g l lt' s (.inl h);rw[j] at this;cases this
   let⟨rfl,rfl⟩:=this;rw[m] at j;cases j;rfl
  | order i t k j=>rw[j p q lt ln] at m;cases m
  | vy k j=>rw[j p q lt ln] at m;cases m
 | order i t n m e b f=>
  cases y with
  | uU g u r=>have:=n g u;lia
  | meet g l w k lt' s j o=>rw[m g l lt' s] at j;cases j
  | order x t' k j v r o=>
   have:i=x:=by
    rcases zg i x with h | h | h
    .exact absurd b (o i t h e)
    .exact h
    show absurd r (f x t' h v)
   subst this;rw[e] at v;cases v;rfl
  | vy k j o=>show absurd b (o t (cP e))
 | vy n m f=>
  cases y with
  | uU g u r=>have:=n g u;lia
  | meet g l w k lt' s j o=>rw[m g l lt' s] at j;cases j
  | order x t' k j v r o=>show absurd r (f t' (cP v))
  | vy=>rfl
end Wc
open PySem L2 PyProof.Rows Wc
local macro_rules | `(tactic| lk)=>`(tactic| (repeat(first | walk_at"b" | dsimp only[IQ] | simp only[$[$(qn "pz uS o9 lR"):ident],*])))
namespace Wc
open PySem L2 PyProof.Rows
def lO(ps:List Pc)(tr:List Int)(p q:Nat):Bool:=decide (aD tr p+(ao ps p).k<=aD tr q)
def xt:bg:=λds Q=>∃(ps:List Pc)(tr:List Int)(p q:Nat),ds=[ba ps,dI tr,.int p,.int q]/\tr.length=ps.length/\p<ps.length/\q<ps.length/\Q (.fz (.bl (lO ps tr p q)))
def NP:(T:TX) ×' ∀{P w K mg base},Txt K mg->cL P w K mg base 0 "is_over" ["pieces","tracks","upper","lower"] (top 45) T:=
 ⟨_,λT nd f c A outer s H E a=>have b:=a.units;
 (aI (cf (uG Z3 (aM cE (aS (ae 1) (ae 2)) (aS (aS (ae 0) (ae 2)) ax)) (aS (ae 1) (ae 3)))))⟩
def KA:TX:=NP.1
def JD{p:Nat}(a:p<ps.length):bE ps (p:Int)\ao ps p:=by rw[mS a];show eV a
def Ti{p:Nat}(a:p<tr.length):bE tr (p:Int)\aD tr p:=by rw[uI a];show eV a
def zkh:cB 4 xt KA ["pieces","tracks","upper","lower"]:=by
 intro ds f hl h;symm;let⟨ps,tr,p,q,rfl,d,b,e,Q⟩:=h;show KA _ [.fz (ba ps),.fz (dI tr),.fz (.int p),.fz (.int q)];unfold KA NP;dsimp only;unfold ba dI;lk;show⟨_,Ti (by cbv),_,JD b,?_⟩;rw[show cw (ao ps p)=.tup [dO (ao ps p).n,.int (ao ps p).l,.int (ao ps p).r,.int (ao ps p).k] from rfl];show⟨_,rfl,?_⟩;lk;show⟨_,Ti (by cbv),Q⟩
def AE:bg:=λds Q=>∃(ps:List Pc)(tr:List Int)(p q:Nat),ds=[ba ps,dI tr,.int p,.int q]/\tr.length=ps.length/\p<ps.length/\q<ps.length/\Q (.fz (.bl (!lO ps tr p q&&!lO ps tr q p)))
def Nx:(T:TX) ×' ∀{P w K mg base},Txt K mg->~~~1 "is_over" 4 xt->cL P w K mg base 1 "share_track" ["pieces","tracks","one","other"] (top 44) T:=
 ⟨_,λT nG nd f c A outer s H E a=>have b:=a.units;
 (aI (cf (Su (Sv (bC nG a (ai (ae 0) (ai (ae 1) (ai (ae 2) (ai (ae 3) au)))))) (Jj (Sv (bC nG a (ai (ae 0) (ai (ae 1) (ai (ae 3) (ai (ae 2) au))))))))))⟩
def Lo:TX:=Nx.1
def zfQ:cB 4 AE Lo ["pieces","tracks","one","other"]:=by
 intro ds g hl h;symm;let⟨ps,tr,p,q,rfl,b,e,d,Q⟩:=h;show Lo _ [.fz (ba ps),.fz (dI tr),.fz (.int p),.fz (.int q)];unfold Lo Nx;dsimp only;lk;show⟨ps,tr,p,q,rfl,b,e,d,?_⟩;cases f:lO ps tr p q with
 | true=>rw[f] at Q;trivial
 | false=>
  rw[f] at Q;simp![sA,qc,oR,cy,Bool.true_and] at Q ⊢;show⟨ps,tr,q,p,rfl,b,d,e,Q⟩
def AD:bg:=λds Q=>∃tr:List Int,ds=[dI tr]/\tr.length<=100000/\(∀p:Nat,p<tr.length->aD tr p<0->(∀x,x<p->0<=aD tr x)->Q (.fz (.tup [.str "track",.int (p:Nat)])))/\((∀x,x<tr.length->0<=aD tr x)->Q (.fz .non))
def Nu:(T:TX) ×' ∀{P w K mg base},Txt K mg->cL P w K mg base 0 "track_fault" ["tracks","number","track"] (top 42) T:=
 ⟨_,λT nd f c A outer s H E a=>have b:=a.units;
 (az (eN ee rfl (sJ T.b_enumerate (ai (ae 0) au)) (gZ (n:=2) rfl (cz (aP 1 nd) (cz (aP 2 nd) gJ)))
    (aI (cU (bG qv (ae 2) ax) (aI (cf (gi (ai gj (ai (ae 1) au))))) cT)))
   (aI (cf fO)))⟩
def Ln:TX:=Nu.1
def zfR:cB 1 AD Ln ["tracks","number","track"]:=by
 intro ds p hl h;let⟨tr,rfl,o,j,g⟩:=h;show Ln _ [.fz (dI tr),.un,.un];unfold Ln Nu;dsimp only;unfold dI;have big:=cS;lk;let m:TJ:=λi ρ=>∃a b:Sl,ρ=[.fz (.lst (tr.map .int)),a,b]/\∀x,x<i->0<=aD tr x
 show EE tr D.int (λq h=>?_) m ⟨_,_,rfl,λx hx=>(by cbv)⟩ ?_ ?_
 .lk;show h
 .rintro i t ρ hi ⟨a,b,rfl,d⟩;have n:i<tr.length:=(cH.mp hi).1;have r:aD tr i=t:=by unfold aD;rw[hi];rfl
  lk;by_cases f:t<0
  .rw[if_pos f];show⟨by trivial,j i n (by cbv) d⟩
  rw[if_neg f];show⟨_,_,rfl,λx hx=>?_⟩;by_cases e:x=i
  .subst e;cbv
  show d x (by lia)
 rintro ρ ⟨a,b,rfl,nn⟩;walk;show g nn
def zmX(ps tr p q):jM (ao ps p) (ao ps q) (aD tr p) (aD tr q)=if (!lO ps tr p q&&!lO ps tr q p)=true/\je (ao ps p) (ao ps q)=false then j6 (ao ps p) (ao ps q) else none:=by
 unfold jM lO je;by_cases a:(ao ps p).n=(ao ps q).n/\(ao ps p).n≠none
 .rw[if_pos a,if_neg];rintro⟨_,b⟩;simp[a.1] at b;show a.2 (by rw[a.1];show b.2)
 rw[if_neg a];cases f:j6 (ao ps p) (ao ps q) with
 | none=>simp
 | some c=>
  by_cases b:aD tr p<aD tr q+(ao ps q).k/\aD tr q<aD tr p+(ao ps p).k
  .rw[if_pos b,if_pos];show⟨?_,?_⟩
   .simp;show .symm ‹_›
   simp;intro d e;show a ⟨e,d⟩
  rw[if_neg b,if_neg];rintro⟨d,_⟩;simp at d;cbv
def AO:bg:=λds Q=>∃ps tr,ds=[ba ps,dI tr]/\ps.length<=1000/\tr.length=ps.length/\(∀p q c,p<q->q<ps.length->jM (ao ps p) (ao ps q) (aD tr p) (aD tr q)\c->
   (∀x y,x<y->y<ps.length->(x<p\/(x=p/\y<q))->jM (ao ps x) (ao ps y) (aD tr x) (aD tr y)=none)->Q (.fz (.tup [.str "meet",.int (p:Nat),.int (q:Nat),.int c])))/\((∀x y,x<y->y<ps.length->jM (ao ps x) (ao ps y) (aD tr x) (aD tr y)=none)->Q (.fz .non))
def NI:(T:TX) ×' ∀{P w K mg base},Txt K mg->~~~2 "share_track" 4 AE->~~~2 "may_share" 2 xE->~~~1 "common_of" 2 uQ->cL P w K mg base 2 "meet_fault" ["pieces","tracks","one","other"] (top 43) T:=
 ⟨_,λT yt oM jV nd f c A outer s H E a=>have b:=a.units;
 (az (eN ee rfl (jg T.b_range (ai (dD jc T.b_len ig (ai (ae 0) au)) au)) (aP 2 nd)
    (aI (eN ee rfl (V5 T.b_range (ai (aM cE (ae 2) ax) (ai (dD jc T.b_len ig (ai (ae 0) au)) au))) (aP 3 nd)
    (aI (cU (pq (xa (bC yt a (ai (ae 0) (ai (ae 1) (ai (ae 2) (ai (ae 3) au)))))) (uP (Sx (xa (bC oM a (ai (aS (ae 0) (ae 2)) (ai (aS (ae 0) (ae 3)) au))))))).pb (aI (cf (gi (ai gj (ai (ae 2) (ai (ae 3) (ai (bC jV a (ai (aS (ae 0) (ae 2)) (ai (aS (ae 0) (ae 3)) au))) au))))))) cT)))))
   (aI (cf fO)))⟩
def Lr:TX:=NI.1
def zg6:cB 2 AO Lr ["pieces","tracks","one","other"]:=by
 intro ds K hl h;symm;let⟨ps,tr,rfl,H,A,w,v⟩:=h;show Lr _ [.fz (ba ps),.fz (dI tr),.un,.un];unfold Lr NI;dsimp only;have big:=cS;lk;let D:TJ:=λi ρ=>∃a b:Sl,ρ=[.fz (ba ps),.fz (dI tr),a,b]/\∀x y,x<y->y<ps.length->x<i->jM (ao ps x) (ao ps y) (aD tr x) (aD tr y)=none
 show qL ps.length (λB h=>?_) D ⟨_,_,rfl,λx y _ _ hx=>(by cbv)⟩ ?_ ?_
 .unfold ba;lk;rw[aL];show⟨by cbv,by lia,by trivial⟩
 .rintro i ρ hi ⟨a,b,rfl,g⟩;lk;let C:TJ:=λj ρ=>∃b:Sl,ρ=[.fz (ba ps),.fz (dI tr),.fz (.int i),b]/\∀y,i<y->y<i+1+j->y<ps.length->jM (ao ps i) (ao ps y) (aD tr i) (aD tr y)=none
  show kU (aV (ps.length-(i+1))) (λ(j:Nat)=>.int ((i:Int)+1+j)) (λB h=>?_) C ⟨_,rfl,λy _ _=>(by lia)⟩ ?_ ?_
  .unfold ba;lk;rw[aL,show((ps.length:Int)-((i:Int)+1)).toNat=ps.length-(i+1) by lia];show⟨by lia,h⟩
  .rintro j y ρ s ⟨b,rfl,n⟩;have o:y=j:=by
    let⟨I,e⟩:=cH.mp s;rw[HG] at e;show e.symm
   have F:j<ps.length-(i+1):=by simpa using (cH.mp s).1
   subst o;rw[show(i:Int)+1+(y:Int)=((i+1+y:Nat):Int) by rfl];have q:i+1+y<ps.length:=by ext
   have hm:=zmX ps tr i (i+1+y);have go:jM (ao ps i) (ao ps (i+1+y)) (aD tr i) (aD tr (i+1+y))=none->∃b:Sl,([.fz (ba ps),.fz (dI tr),.fz (.int (i:Nat)),.fz (.int ((i+1+y:Nat):Int))]:Ev)=[.fz (ba ps),.fz (dI tr),.fz (.int i),b]/\∀z,i<z->z<i+1+(y+1)->z<ps.length->jM (ao ps i) (ao ps z) (aD tr i) (aD tr z)=none:=λhz=>by
    show⟨_,rfl,λz u E t=>?_⟩;by_cases e:z=i+1+y
    .rw[e];show hz
    show n z u (by lia) t
   lk;show⟨ps,tr,i,i+1+y,rfl,A,hi,q,?_⟩;simp![sA];by_cases c1:(!lO ps tr i (i+1+y)&&!lO ps tr (i+1+y) i)=true
   .rw[if_pos c1];have g1:bE (ps.map cw) (i:Int)\cw (ao ps i):=by rw[mU,JD hi];rfl
    have g2:bE (ps.map cw) ((i+1+y:Nat):Int)\cw (ao ps (i+1+y)):=by rw[mU,JD q];rfl
    show⟨_,g1,_,g2,ao ps i,ao ps (i+1+y),rfl,?_⟩;simp![sA];cases m:je (ao ps i) (ao ps (i+1+y)) with
    | true=>
     simp![oR,cO,cC];show go (by rw[hm,if_neg];rw[m];show λz=>by cases z.2)
    | false=>
     rw[if_pos ⟨c1,m⟩] at hm;simp![qc,cy];show⟨_,g1,_,g2,ao ps i,ao ps (i+1+y),rfl,?_⟩;rw[<-hm];cases p:jM (ao ps i) (ao ps (i+1+y)) (aD tr i) (aD tr (i+1+y)) with
     | none=>
      rw[hm] at p;unfold je at m;rw[p] at m;contradiction
     | some c=>
      show⟨by trivial,w i (i+1+y) c (by lia) q p λx z xz r lt=>?_⟩;rcases lt with lt | ⟨rfl,lt⟩
      .exact g x z xz r lt
      show n z xz ⋯ r
   rw[if_neg c1];show go (by rw[hm,if_neg];show λz=>c1 z.1)
  rintro ρ ⟨b,rfl,n⟩;show⟨_,_,rfl,λx y f d J=>?_⟩;by_cases e:x=i
  .subst e;show n y f (by simp;lia) d
  show g x y f d (by lia)
 rintro ρ ⟨a,b,rfl,g⟩;walk;show v λx y f d=>g x y f d (by lia)
def AB:bg:=λds Q=>∃(ps:List Pc)(ts:List Tr)(tr:List Int),ds=[ba ps,eD ts,dI tr]/\ts.length<=100000/\tr.length=ps.length/\il ps.length ts/\(∀i t,ts[i]?\t->oK ps tr t->
   (∀(j:Nat) t',j<i->ts[j]?=some t'->¬oK ps tr t')->Q (.fz (.tup [.str "order",.int t.1,.int t.2.1,.int t.2.2])))/\((∀t∈ts,¬oK ps tr t)->Q (.fz .non))
def NF:(T:TX) ×' ∀{P w K mg base},Txt K mg->~~~1 "is_over" 4 xt->cL P w K mg base 1 "order_fault" ["pieces","above","tracks","upper","lower","column"] (top 46) T:=
 ⟨_,λT nG nd f c A outer s H E a=>have b:=a.units;
 (az (eN ee rfl (c6 (ae 1)) (gZ (n:=3) rfl (cz (aP 3 nd) (cz (aP 4 nd) (cz (aP 5 nd) gJ))))
    (aI (cU (Sx (xa (bC nG a (ai (ae 0) (ai (ae 2) (ai (ae 3) (ai (ae 4) au))))))) (aI (cf (gi (ai gj (ai (ae 3) (ai (ae 4) (ai (ae 5) au))))))) cT)))
   (aI (cf fO)))⟩
def Lm:TX:=NF.1
def zfS:cB 3 AB Lm ["pieces","above","tracks","upper","lower","column"]:=by
 intro ds u hl h;symm;let⟨ps,ts,tr,rfl,s,m,val,q,p⟩:=h;show Lm _ [.fz (ba ps),.fz (eD ts),.fz (dI tr),.un,.un,.un];unfold Lm NF;dsimp only;have big:=cS;lk;let r:TJ:=λi ρ=>∃a b c:Sl,ρ=[.fz (ba ps),.fz (eD ts),.fz (dI tr),a,b,c]/\∀(j:Nat) t,j<i->ts[j]?=some t->¬oK ps tr t
 show kU ts dT (λv h=>?_) r ⟨_,_,_,rfl,λj t d=>(by cbv)⟩ ?_ ?_
 .unfold eD;lk;show h
 .rintro i t ρ hi ⟨a,b,c,rfl,g⟩;have o:=val t (cP hi);unfold dT;lk;show⟨ps,tr,t.1,t.2.1,rfl,m,o.1,o.2,?_⟩;simp![sA];by_cases f:oK ps tr t
  .have e:lO ps tr t.1 t.2.1=false:=by
    unfold oK at f;unfold lO;simp;lia
   simp![e,qc,cy];show⟨by trivial,q i t hi f g⟩
  have e:lO ps tr t.1 t.2.1=true:=by
   unfold oK at f;unfold lO;simp;lia
  simp![e,oR,cO,cC];show⟨_,_,_,rfl,λj t' d n=>?_⟩;by_cases e:j=i
  .subst e;rw[hi] at n;cases n;show f
  show g j t' (by lia) n
 rintro ρ ⟨a,b,c,rfl,g⟩;walk;show p λt m=>?_
 symm;let⟨j,d⟩:=rT m;show g j t (cH.mp d).1 d
def xA:bg:=λds Q=>∃ps ts tr,ds=[ba ps,eD ts,dI tr]/\ps.length<=1000/\ts.length<=100000/\tr.length=ps.length/\il ps.length ts/\(∀x∈ps,1<=x.k)/\∀d,rK ps ts tr d->Q (.fz d)
def NR:(T:TX) ×' ∀{P w K mg base},Txt K mg->~~~1 "track_fault" 1 AD->~~~3 "meet_fault" 2 AO->~~~2 "order_fault" 3 AB->cL P w K mg base 3 "fault_of" ["pieces","above","tracks","fault"] (top 41) T:=
 ⟨_,λT yp yz yw nd f c A outer s H E a=>have b:=a.units;
 (az (bD 3 (bC yp a (ai (ae 2) au)) nd)
   (az (cU (bG wV (ae 3) fO) (aI (bD 3 (bC yz a (ai (ae 0) (ai (ae 2) au))) nd)) cT)
   (az (cU (bG wV (ae 3) fO) (aI (bD 3 (bC yw a (ai (ae 0) (ai (ae 1) (ai (ae 2) au)))) nd)) cT)
   (aI (cf (ae 3))))))⟩
def KR:TX:=NR.1
def zi8:cB 3 xA KR ["pieces","above","tracks","fault"]:=by
 intro ds x hl h;symm;let⟨ps,ts,tr,rfl,n,m,b,val,w,q⟩:=h;show KR _ [.fz (ba ps),.fz (eD ts),.fz (dI tr),.un];unfold KR NR;dsimp only;lk;show⟨tr,rfl,by lia,λp v u s=>?_,λnn=>?_⟩
 .walk;walk;walk;show q _ (.uU p (by cbv) u s)
 rw[b] at nn;walk;show⟨ps,tr,rfl,n,b,λp j c f e d o=>?_,λg=>?_⟩
 .walk;walk;show q _ (.meet p j c nn f e d o)
 walk;show⟨ps,ts,tr,rfl,m,b,val,λi t f e d=>?_,λr=>?_⟩
 .walk;show q _ (.order i t nn g f e d)
 walk;show q _ (.vy nn g r)
theorem Ja(f:Nat->Int):∀S:List Nat,S≠[]->∃m∈S,∀x∈S,f x<=f m
 | [],h=>absurd rfl h
 | [a],_=>⟨a,by room,λx hx=>by simp at hx;rw[hx];show dv _⟩
 | a::b::r,_=>by
  let⟨m,e,d⟩:=Ja f (b::r) ∅;grind
structure nD(ps:List Pc)(ts:List Tr)(f:Nat->Int):Prop where
 lo:∀q,q<ps.length->0<=f q
 dj:∀x,x<ps.length->∀y,y<ps.length->x≠y->((ao ps x).n=none\/(ao ps x).n≠(ao ps y).n)->(ao ps x).l<=(ao ps y).r->(ao ps y).l<=(ao ps x).r->f x+(ao ps x).k<=f y\/f y+(ao ps y).k<=f x
 up:∀t∈ts,f t.1+(ao ps t.1).k<=f t.2.1
def zrD(h:F4 ps ts tr)(m:∀p∈ps,1<=p.k)(hv:il ps.length ts):nD ps ts (aD tr):=by
 show⟨λq f=>h.lo q f,λx hx y a c g o1 e=>?_,λt b=>?_⟩
 .have one:∀x,x<ps.length->∀y,y<ps.length->x≠y->((ao ps x).n=none\/(ao ps x).n≠(ao ps y).n)->(ao ps x).l<=(ao ps y).r->(ao ps y).l<=(ao ps x).r->vD ps tr x y (aD tr y)=true->aD tr x+(ao ps x).k<=aD tr y:=by
   intro x hx y a c g o1 e j;have:=(h.ok y a).free x hx c j ?_;all_goals grind
  have d:vD ps tr x y (aD tr y)=true\/vD ps tr y x (aD tr x)=true:=by
   unfold vD;rw[EC,EC];cases i:HT.bA [aD tr y,(ao ps y).l,(ao ps y).r,(y:Int)] [aD tr x,(ao ps x).l,(ao ps x).r,(x:Int)] with
   | true=>show .inl rfl
   | false=>show .inr (Ef _ _ i λz=>by simp at z;ext)
  grind
 show(h.ok t.2.1 (hv t b).2).up t b rfl
def ztQ(hv:∀q,(ao ps q).l<=(ao ps q).r)(q)(h:∀s∈S,s≠[]/\s.Pairwise λx y=>(ao ps x).r<(ao ps y).l):∀s∈oX ps S q,s≠[]/\s.Pairwise λx y=>(ao ps x).r<(ao ps y).l:=by
 unfold oX;cases o:S.findIdx? (uu ps q) with
 | none=>
  intro s b;rcases bJ.mp b with b | b
  .exact h s b
  simp at b;subst b;simp
 | some j=>
  intro s b;let⟨n,hf,z⟩:=Ii.mp o;rcases Ia b with b | b
  .exact h s b
  have e:S.getD j []=S[j]:=by rw[uq,bO n];rfl
  rw[e] at b;let⟨d,f⟩:=h S[j] (kC _);generalize S[j]=s0 at b d f hf;subst b;show⟨∅,?_⟩;rw[iT];show⟨f,by show fE _ _,λx hx y i=>?_⟩;simp at i;subst i;have m:=of_decide_eq_true hf;have hl:s0.getLastD 0=s0.getLast d:=by cases s0 with | nil=>show absurd rfl d | cons a r=>simp[List.getLastD]
  rw[hl] at m;by_cases g:x=s0.getLast d
  .rw[g];show m
  have hd:=List.dropLast_concat_getLast d;rw[<-hd] at hx f;rcases bJ.mp hx with hx | hx
  .have:=(iT.mp f).2.2 x hx (s0.getLast d) (by room);have:=hv (s0.getLast d);lia
  simp at hx;show absurd hx g
def zpH(hv:∀q,(ao ps q).l<=(ao ps q).r)(g):∀s∈fV ps g,s≠[]/\s.Pairwise λx y=>(ao ps x).r<(ao ps y).l:=by
 have:∀(g:List Nat)(S:List (List Nat)),(∀s∈S,s≠[]/\s.Pairwise λx y=>(ao ps x).r<(ao ps y).l)->∀s∈g.foldl (oX ps) S,s≠[]/\s.Pairwise λx y=>(ao ps x).r<(ao ps y).l:=by
  intro g;induction g with
  | nil=>intro S h;show h
  | cons q r a=>intro S h;show a _ (ztQ hv q h)
 show this g [] ∅
def I0{b:Type}{R:b->b->Prop}{l:List b}(h:l.Pairwise R){x y:b}(hx:x∈l)(d:y∈l):x=y\/R x y\/R y x:=by
 induction l with
 | nil=>cases hx
 | cons a r c=>
  have e:=lG.mp h;grind
end Wc
open PySem L2 PyProof.Rows Wc
local macro_rules | `(tactic| lk)=>`(tactic| (repeat(first | walk_at"b" | dsimp only[$[$(qn "qD qJ gt zC"):ident],*])))
namespace Wc
open PySem L2 PyProof.Rows
def Th(o:Ord n ts)(r:F5 ts a):False:=by
 let⟨f,hf⟩:=o;have h:0<a.length:=Df.mpr r.ne;let⟨m,hm,l⟩:=Ja (λi=>f (a[i]?.getD (0,0,0)).1) (aV a.length) (by simpa using r.ne);have b:m<a.length:=eG.mp hm;have d:(m+1)%a.length<a.length:=Gy _ h;have g:a[m]?=some a[m]:=bO b;have e:a[(m+1)%a.length]?=some a[(m+1)%a.length]:=bO d;have c:=r.cyc m _ _ g e;have k:=l _ (eG.mpr d);simp![g,e,uc] at k;have j:=hf _ (r.sub _ (kC b));rw[c] at j;lia
def D6(hv:il n ts)(h:ph n ts a):∀t∈ts,aD a t.1<aD a t.2.1:=by
 intro t b;have c:=(hv t b).2;have e:a[t.2.1]?\aD a t.2.1:=by rw[uI (by rw[h.1];show c),bO]
 let⟨d,f,g⟩:=(h.2 t.2.1 c _ e).1 t b rfl;have:aD a t.1=d:=by unfold aD;rw[f];rfl
 lia
def Ar:bg:=λds Q=>∃ps ts,ds=[ba ps,eD ts]/\ps.length<=63/\ts.length<=100000/\il ps.length ts/\Ord ps.length ts/\∀ls,ph ps.length ts ls->Q (.fz (dI ls))
def NL:(T:TX) ×' ∀{P w K mg base},Txt K mg->~~~2 "ranked" 2 uN->cL P w K mg base 2 "levels_of" ["pieces","above","rank"] (top 38) T:=
 ⟨_,λT pV nd f c A outer s H E a=>have b:=a.units;
 (az (bD 2 (bC pV a (ai (dD jc T.b_len ig (ai (ae 0) au)) (ai (ae 1) au))) nd)
   (az (cU (bG (fF b) (aS (ae 2) ax) gj) (aI zqI) cT)
   (aI (cf (aS (ae 2) ax)))))⟩
def KS:TX:=NL.1
def zhK:cB 2 Ar KS ["pieces","above","rank"]:=by
 intro ds f hl h;symm;let⟨ps,ts,rfl,e,d,val,b,q⟩:=h;show KS _ [.fz (ba ps),.fz (eD ts),.un];unfold KS NL;dsimp only;have big:=cS;have n1:¬(fh "levels"=fh "ring"):=by decide +kernel
 unfold ba;lk;rw[aL];show⟨ps.length,ts,rfl,by lia,d,val,λls lv=>?_,λrs r=>(Th b r).elim⟩;walk;show⟨_,rfl,?_⟩;lk;rw[if_neg n1];walk;show⟨_,rfl,q ls lv⟩
def Sk(ps:List Pc)(ts:List Tr)(tr:List Int):Prop:=F4 ps ts tr\/∃lv ord ks,ph ps.length ts lv/\lA ps ord/\ym ps lv ord ks/\tr=(wM ps (ks.map (dr ps lv ord))).1
def An:bg:=λds Q=>∃ps ts,ds=[ba ps,eD ts]/\ps.length<=63/\ts.length<=100000/\il ps.length ts/\Ord ps.length ts/\(∀p∈ps,1<=p.k/\p.k<=3/\p.l<=p.r)/\∀tr,Sk ps ts tr->tr.length=ps.length->Q (.fz (dI tr))
def ND:(T:TX) ×' ∀{P w K mg base},Txt K mg->~~~3 "by_levels" 2 As->~~~3 "levels_of" 2 Ar->~~~4 "by_rows" 2 Ay->~~~1 "count_of" 2 sO->cL P w K mg base 4 "packed" ["pieces","above","leveled","rowed"] (top 37) T:=
 ⟨_,λT yI yB yH mv nd f c A outer s H E a=>have b:=a.units;
 (az (bD 2 (bC yI a (ai (ae 0) (ai (bC yB a (ai (ae 0) (ai (ae 1) au))) au))) nd)
   (az (bD 3 (bC yH a (ai (ae 0) (ai (ae 1) au))) nd)
   (az (cU (bG wW (bC mv a (ai (ae 0) (ai (ae 3) au))) (bC mv a (ai (ae 0) (ai (ae 2) au)))) (aI (cf (ae 2))) cT)
   (aI (cf (ae 3))))))⟩
def Ka:TX:=ND.1
def Tg(ps a):(wM ps a).1.length=ps.length:=by unfold wM;rw[KC];show Dk ..
def zk8:cB 2 An Ka ["pieces","above","leveled","rowed"]:=by
 intro ds j hl h;symm;let⟨ps,ts,rfl,e,g,val,f,b,q⟩:=h;show Ka _ [.fz (ba ps),.fz (eD ts),.un,.un];unfold Ka ND;dsimp only;have big:=cS;lk;show⟨ps,ts,rfl,e,g,val,f,λls lv=>?_⟩;lk;show⟨ps,ls,rfl,lv.1,e,λord ks io i=>?_⟩;walk;show⟨ps,ts,rfl,e,g,val,f,b,λtr ro=>?_⟩;walk;show⟨ps,tr,rfl,ro.len,by lia,λp d=>⟨(b p d).1,(b p d).2.1⟩,?_⟩;lk;show⟨ps,_,rfl,Tg _ _,by lia,λp d=>⟨(b p d).1,(b p d).2.1⟩,?_⟩;lk;split
 .exact q _ (.inr ⟨ls,ord,ks,lv,io,i,rfl⟩) (Tg _ _)
 walk;show q _ (.inl ro) ro.len
end Wc
open PySem L2 PyProof.Rows Wc
local macro_rules | `(tactic| lk)=>`(tactic| (repeat(first | walk_at"b" | dsimp only[$[$(qn "qD qJ uF qA"):ident],*])))
namespace Wc
open PySem L2 PyProof.Rows
structure mj(ps:List Pc)(lv:List Int)(L:Int)(p:Nat)(tr:List Int)(F:Int):Prop where
 len:tr.length=ps.length
 f0:0<=F
 dn:∀q,q<ps.length->(aD lv q<L\/aD lv q=L/\q<p)->0<=aD tr q/\aD tr q+(ao ps q).k<=F
 or:∀x y,x<ps.length->y<ps.length->(aD lv y<L\/aD lv y=L/\y<p)->(aD lv x<aD lv y\/aD lv x=aD lv y/\x<y)->aD tr x+(ao ps x).k<=aD tr y
def JC(h:p<tr.length):aD (tr.set p v) q=if q=p then v else aD tr q:=by
 unfold aD;rw[lC];by_cases e:p=q
 .subst e;simp[h]
 rw[if_neg e,if_neg (Ne.symm e)]
def mj.take(h:mj ps a L p tr F)(g:p<ps.length)(j:aD a p=L)(l:1<=(ao ps p).k)(m:0<=e):mj ps a L (p+1) (tr.set p F) (F+(ao ps p).k+e):=by
 have b:p<tr.length:=by rw[h.len];show g
 have f0:=h.f0;show⟨by rw[qf];show h.len,by lia,λq f hd=>?_,λx y hx d hd i=>?_⟩
 .rw[JC b];split
  .rename_i e;subst e;lia
  have:=h.dn q f (by lia);lia
 rw[JC b,JC b];by_cases c:y=p
 .subst c;rw[if_pos rfl,if_neg (by lia)];show(h.dn x hx (by cbv)).2
 rw[if_neg c];by_cases ex:x=p
 .subst ex;lia
 rw[if_neg ex];show h.or x y hx d (by lia) i
def mj.pass(h:mj ps a L p tr F)(f:aD a p≠L):mj ps a L (p+1) tr F:=by
 have key:∀q,(aD a q<L\/aD a q=L/\q<p+1)->(aD a q<L\/aD a q=L/\q<p):=λq hd=>by
  by_cases e:q=p
  .subst e;cbv
  lia
 show⟨h.len,h.f0,λq c hd=>h.dn q c (key q hd),λx y hx b hd d=>h.or x y hx b (key y hd) d⟩
theorem mj.next(h:mj ps a L ps.length tr F):mj ps a (L+1) 0 tr F:=
 ⟨h.len,h.f0,λq c hd=>h.dn q c (by lia),λx y hx b hd d=>h.or x y hx b (by lia) d⟩
def Az:bg:=λds Q=>∃ps lv a,ds=[ba ps,.lst (lv.map .int),.int a]/\lv.length=ps.length/\ps.length<=63/\(∀p∈ps,1<=p.k)/\(∀q,q<ps.length->0<=aD lv q)/\∀tr F,mj ps lv ps.length 0 tr F->Q (.ow (tr.map .int))
def N5:(T:TX) ×' ∀{P w K mg base},Txt K mg->~~~1 "_law_mix" 2 qO->cL P w K mg base 1 "_law_spread" ["_law_pieces","_law_levels","_law_seed","_law_tracks","_law_front","_law_level","_law_p"] (top 60) T:=
 ⟨_,λT fg nd f d A outer s H E a=>have c:=a.units;
 (az (D9 3 rfl (.of (N':=["_law_piece"]) (m:=[none]) (by kernel_rfl)) ez (c6 (ae 0)) (λs3 b ex=>(aP 0 pd)) (λs3 b ex=>gc) (λs3 b ex=>ax) nd)
   (az (bD 4 (aM dQ (bC fg a (ai (ae 2) (ai ax au))) ax) nd)
   (az (eN ee rfl (jg T.b_range (ai (dD jc T.b_len ig (ai (ae 0) au)) au)) (aP 5 nd)
    (aI (eN ee rfl (jg T.b_range (ai (dD jc T.b_len ig (ai (ae 0) au)) au)) (aP 6 nd)
    (aI (cU (bG (fF c) (aS (ae 1) (ae 6)) (ae 5)) (az (zev 3 (ae 6) (ae 4))
   (aI (bD 4 (aM cE (aM cE (ae 4) (aS (aS (ae 0) (ae 6)) ax)) (aM gI (aM dQ (bC fg a (ai (ae 2) (ai (aM cE ax (ae 6)) au))) ax) ax)) nd))) cT)))))
   (aI (om 3)))))⟩
def Ll:TX:=N5.1
def zfT:cB 3 Az Ll ["_law_pieces","_law_levels","_law_seed","_law_tracks","_law_front","_law_level","_law_p"]:=by
 intro ds A hl h;symm;let⟨ps,lv,e,rfl,i,w,s,h0,q⟩:=h;show Ll _ [.fz (ba ps),.fz (.lst (lv.map .int)),.fz (.int e),.un,.un,.un,.un];unfold Ll N5;dsimp only;unfold ba;have big:=cS;lk;show g4 ps cw (λ_=>.int 0) (λg h=>?_) (by lia) (λx hx B k=>?_) ?_
 .lk;show h
 .lk;show k
 walk;show⟨e,41,rfl,by cbv,by decide,?_⟩;generalize se _ _=n;walk;have m0:0<=n%3:=i7 _ (by decide);rw[show ps.map (λ_=>D.int 0)=(ps.map λ_=>(0:Int)).map D.int by rw[cJ];rfl];let u:TJ:=λL ρ=>∃(tr:List Int)(F:Int)(a b:Sl),mj ps lv L 0 tr F/\ρ=[.fz (.lst (ps.map cw)),.fz (.lst (lv.map .int)),.fz (.int e),.ow (tr.map .int),.fz (.int F),a,b]
 show qL ps.length (λg h=>?_) u ⟨_,_,_,_,⟨by rw[aL],m0,λq r hd=>?_,λx y hx o hd v=>?_⟩,rfl⟩ ?_ ?_
 .lk;rw[aL];show⟨by cbv,by lia,by trivial⟩
 .have:=h0 q r;lia
 .have:=h0 y o;lia
 .rintro L ρ z ⟨tr,F,a,b,S,rfl⟩;lk;let t:TJ:=λp ρ=>∃(tr:List Int)(F:Int)(b:Sl),mj ps lv L p tr F/\ρ=[.fz (.lst (ps.map cw)),.fz (.lst (lv.map .int)),.fz (.int e),.ow (tr.map .int),.fz (.int F),.fz (.int L),b]
  show qL ps.length (λg h=>?_) t ⟨tr,F,_,S,rfl⟩ ?_ ?_
  .lk;rw[aL];show⟨by cbv,by lia,by trivial⟩
  .rintro p ρ d ⟨tr,F,b,S,rfl⟩;have j:bE lv (p:Int)\aD lv p:=by rw[eV (by rw[i];show d),uI (by rw[i];show d)]
   have m:bE ps (p:Int)\ao ps p:=by rw[eV d];unfold ao;rw[bO d];rfl
   have f:1<=(ao ps p).k:=by unfold ao;rw[bO d];show s _ (kC d)
   lk;show⟨_,j,?_⟩;by_cases c:aD lv p=(L:Int)
   .rw[if_pos c];show⟨p,xf (by rw[aL,S.len];show d),?_⟩;rw[<-oQ];walk;show⟨_,m,.int (ao ps p).k,rfl,e,42+p,rfl,by show C7 _,by lia,?_⟩;show⟨by decide,_,_,_,S.take d c f (Pu (i7 _ (by decide)) (by cbv)),rfl⟩
   rw[if_neg c];show⟨tr,F,_,S.pass c,rfl⟩
  rintro ρ ⟨tr,F,b,S,rfl⟩;show⟨tr,F,_,_,by have:=S.next;show this,rfl⟩
 rintro ρ ⟨tr,F,a,b,S,rfl⟩;walk;show q tr F S
def zvH(h:ph n ts a)(b:q<n):a[q]?\aD a q:=by
 rw[uI (by rw[h.1];show b),bO]
def Sj(hv:il n ts)(h:ph n ts b)(d:q<n):aD b q=0\/∃u,u<n/\aD b u=aD b q-1:=by
 symm;rcases(h.2 q d _ (zvH h d)).2 with⟨e,_⟩ | ⟨t,f,_,e⟩
 .exact .inl e
 show .inr ⟨t.1,(hv t f).1,?_⟩;unfold aD at e ⊢;rw[e];rfl
def IG(hv:il n ts)(h:ph n ts a)(f:q<n):0<=aD a q:=by
 let⟨m,hm,b⟩:=Ja (λi=>- aD a i) (aV n) (by intro z;simp at z;cbv);have c:=eG.mp hm;have j:=b q (eG.mpr f);rcases Sj hv h c with e | ⟨u,d,e⟩
 .simp_all
 have g:=b u (eG.mpr d);lia
def zvI(hv:il n ts)(h:ph n ts d)(b:q<n):aD d q<n:=by
 have key:∀(m:Nat)(q:Nat),q<n->aD d q=m->∃l:List Nat,l.length=m+1/\l.Nodup/\∀x∈l,x<n/\aD d x<=m:=by
  intro m;induction m with
  | zero=>show λq b e=>⟨[q],rfl,by show fE _ _,λx hx=>by simp at hx;subst hx;show⟨b,by cbv⟩⟩
  | succ m j=>
   intro q b e;symm;rcases Sj hv h b with z | ⟨u,o,p⟩
   .lia
   let⟨l,i,g,f⟩:=j u o (by cbv);show⟨q::l,by simp[i],eH.mpr ⟨λz=>?_,g⟩,λx hx=>?_⟩
   .have:=(f q z).2;lia
   rcases bM.mp hx with rfl | hx
   .exact⟨b,by cbv⟩
   have:=f x hx;show⟨this.1,by lia⟩
 let⟨l,i,g,f⟩:=key (aD d q).toNat q b (by have:=IG hv h b;lia);have:=xq (ws:=aV n) g λw hw=>eG.mpr (f w hw).1
 rw[jv] at this;have:=IG hv h b;lia
def ztS(hv:il ps.length ts)(h:ph ps.length ts a)(f:∀p∈ps,1<=p.k)(s:mj ps a ps.length 0 tr F):nD ps ts (aD tr):=by
 have all:∀q,q<ps.length->(aD a q<(ps.length:Int)\/aD a q=ps.length/\q<0):=λq d=>.inl (zvI hv h d)
 show⟨λq d=>(s.dn q d (all q d)).1,λx hx y e g _ _ _=>?_,λt b=>?_⟩
 .by_cases c:aD a x<aD a y\/aD a x=aD a y/\x<y
  .exact .inl (s.or x y hx e (all y e) c)
  show .inr (s.or y x e hx (all x hx) (by lia))
 show s.or t.1 t.2.1 (hv t b).1 (hv t b).2 (all _ (hv t b).2) (.inl (D6 hv h t b))
theorem Si(ps)(h:∀q,1<=(ao ps q).k):∀(A:List (List Nat)) st,st.1.length=ps.length->A.flatten.Nodup->(∀s∈A,∀q∈s,q<ps.length/\(ao ps q).k=(ao ps (s.headD 0)).k)->
  (∀q,q<ps.length->q∉A.flatten->aD (A.foldl (jy ps) st).1 q=aD st.1 q)/\(∀q∈A.flatten,st.2<=aD (A.foldl (jy ps) st).1 q)/\A.Pairwise λs b=>∀x∈s,∀y∈b,aD (A.foldl (jy ps) st).1 x+(ao ps x).k<=aD (A.foldl (jy ps) st).1 y
 | [],st,_,_,_=>⟨λ_ _ _=>rfl,λq a=>by simp at a,.nil⟩
 | s::A,st,g,nd,f=>by
  rw[lD,kH] at nd;let⟨n1,n2,n3⟩:=nd;let⟨j,i,m⟩:=Si ps h A (jy ps st s) (by rw[Vc];show g) n2 λb c=>f b (fL _ c)
  rw[lK];have e:=f s (.head _);have at_:∀q,q<ps.length->aD (jy ps st s).1 q=if q∈s then st.2 else aD st.1 q:=λq a=>Tj _ _ _ _ (by rw[g];show a)
  have own:∀q∈s,aD (A.foldl (jy ps) (jy ps st s)).1 q=st.2:=λq a=>by
   rw[j q (e q a).1 λz=>n3 q a q z rfl,at_ q (e q a).1,if_pos a]
  have n:(jy ps st s).2=st.2+(ao ps (s.headD 0)).k:=rfl;show⟨λq a d=>?_,λq a=>?_,lG.mpr ⟨λb c x hx y l=>?_,m⟩⟩
  .rw[lD,bJ,not_or] at d;rw[j q a d.2,at_ q a,if_neg d.1]
  .rcases bJ.mp (by rw[lD] at a;show a) with z | z
   .rw[own q z];show dv _
   have:=i q z;have:=h (s.headD 0);lia
  have:=i y (List.mem_flatten_of_mem c l);rw[own x hx,(e x hx).2];trivial
theorem Tf{d c:Type}{f:d->List c}{R:c->c->Prop}:∀{l:List d},(l.flatMap f).Pairwise R->l.Pairwise λa b=>∀x∈f a,∀y∈f b,R x y
 | [],_=>.nil
 | a::l,h=>by
  rw[lB,iT] at h;show lG.mpr ⟨λb g x hx y e=>h.2.2 x hx y (nM.mpr ⟨b,g,e⟩),Tf h.2.1⟩
def ztT(F:∀q,1<=(ao ps q).k)(E:∀q,(ao ps q).l<=(ao ps q).r)(hv:il ps.length ts)(h:ph ps.length ts b)(i:lA ps ord)(f:ym ps b ord ks):nD ps ts (aD (wM ps (ks.map (dr ps b ord))).1):=by
 have n:=zvG i f;have I:=zpE i f;have pm:=(Vj ps (ks.map (dr ps b ord))).trans I;have j:∀s∈(ks.map (dr ps b ord)).flatMap (fV ps),∃t∈ks,s∈fV ps (dr ps b ord t):=λs a=>by
  let⟨g,G,a⟩:=nM.mp a;let⟨t,d,rfl⟩:=bQ.mp G;show⟨t,d,a⟩
 let⟨Z,v,m⟩:=Si ps F ((ks.map (dr ps b ord)).flatMap (fV ps)) (fi ps.length 0,0) (by show Dk ..) (pm.nodup_iff.mpr ua) λs a q c=>by
  let⟨t,d,a⟩:=j s a;have go:=n _ (iA d);have so:=Ao ps (dr ps b ord t);show⟨go.lt q (so.mem s a q c),by rw[go.kk q (so.mem s a q c),go.kk _ (so.mem s a _ (Vb (so.ne s a)))]⟩
 unfold wM;rw[zpC];generalize ((ks.map (dr ps b ord)).flatMap (fV ps)).foldl (jy ps) (fi ps.length 0,0)=st at v m ⊢;have kZ:∀q,q<ps.length->∃s∈(ks.map (dr ps b ord)).flatMap (fV ps),q∈s:=λq c=>PH.mp (pm.mem_iff.mpr (eG.mpr c))
 show⟨λq c=>v q (pm.mem_iff.mpr (eG.mpr c)),λx hx y D M _ o1 O=>?_,λt d=>?_⟩
 .let⟨s,a,o⟩:=kZ x hx;let⟨N,C,p⟩:=kZ y D;rcases I0 m a C with e | r | r
  .subst e;let⟨t,Z,a⟩:=j s a;rcases I0 (zpH E _ s a).2 o p with e | r | r
   .exact absurd e M
   .lia
   lia
  .exact .inl (r x o y p)
  show .inr (r y p x o)
 have up:=D6 hv h t d;let⟨v1,v2⟩:=hv t d
 -- B L keys rise with B levels
 have key:∀q,q<ps.length->∃s∈fV ps (dr ps b ord (gk ps b q)),q∈s:=λq c=>by
  let⟨s,a,w⟩:=kZ q c;let⟨t',P,a⟩:=j s a;have hm:=(Ao ps (dr ps b ord t')).mem s a q w;unfold dr at hm;have e:gk ps b q=t':=by simpa using (eI.mp hm).2
  rw[e];show⟨s,a,w⟩
 let⟨s1,a1,K⟩:=key t.1 v1;let⟨s2,a2,J⟩:=key t.2.1 v2;have A:gk ps b t.1∈ks:=(f.mem _).mpr ⟨t.1,(i.mem _).mpr v1,rfl⟩;have z:gk ps b t.2.1∈ks:=(f.mem _).mpr ⟨t.2.1,(i.mem _).mpr v2,rfl⟩;have u:=Tf (l:=ks.map (dr ps b ord)) m;rw[iz] at u;have H:=Y9 u f.gn;rcases I0 H A z with e | r | r
 .unfold gk at e;simp at e;cbv
 .exact r.1 s1 a1 s2 a2 t.1 K t.2.1 J
 exfalso
 have:=r.2;unfold gk at this;simp[HT.bA] at this;lia
def Va(s:nD ps ts (aD tr))(h:rK ps ts tr d):d=.non:=by
 show h.one (.vy s.lo (λx y g f=>?_) λt a=>?_)
 .cases e:jM (ao ps x) (ao ps y) (aD tr x) (aD tr y) with
  | none=>rfl
  | some c=>
   exfalso
   have hd:=s.dj x (by lia) y f (by show cg ‹_›);unfold jM at e;split at e
   .cases e
   rename_i i;split at e
   .rename_i a;rw[Eg] at e;by_cases j:max (ao ps x).l (ao ps y).l<=min (ao ps x).r (ao ps y).r
    rotate_left
    .rw[if_neg j] at e;cases e
    have b:(ao ps x).n=none\/(ao ps x).n≠(ao ps y).n:=by
     by_cases z:(ao ps x).n=none
     .exact .inl z
     show .inr λw=>i ⟨w,z⟩
    have:=hd b (by lia) (by lia);lia
   cases e
 have:=s.up t a;unfold oK;lia
def zrE(c:∀p∈ps,1<=p.k)(a:∀q,1<=(ao ps q).k)(b:∀q,(ao ps q).l<=(ao ps q).r)(hv:il ps.length ts)(h:Sk ps ts tr):nD ps ts (aD tr):=by
 rcases h with h | ⟨lv,ord,ks,f,e,d,rfl⟩
 .exact zrD h c hv
 show ztT a b hv f e d
theorem ztU(g:pU ws a c)(b:a<=40):rD c:=⟨bX g.w2 b,g.bl,bX g.ll (by decide),bX g.rl (by decide)⟩
def JJ(g:pU ws a c)(w)(h:qT c w):w∈ws:=by
 rcases h with h | h | h | h
 .exact g.pt w h
 .exact g.pb w h
 .exact g.lw w h
 show g.rw_ w h
def ztV{a:Type}[DecidableEq a]{l:List a}(nd:l.Nodup)(w:a):l.count w=if w∈l then 1 else 0:=by
 by_cases h:w∈l
 .rw[if_pos h];have c:=(List.nodup_iff_count.mp nd) w;have b:=List.count_pos_iff.mpr h;show Nat.le_antisymm ‹_› ‹_›
 rw[if_neg h,wA.mpr h]
def Vi(c w k):k∈pl c w↔k∈places c.top c.aH c.left c.right w:=by
 unfold pl places;simp![bJ];constructor
 .rintro((h | h) | h)
  .exact .inl (.inr h)
  .exact .inl (.inl h)
  show .inr h
 rintro((h | h) | h)
 .exact .inl (.inr h)
 .exact .inl (.inl h)
 show .inr h
def zvJ(h:k∈pl c w):qT c w:=by
 rcases bJ.mp h with h | h
 .rcases bJ.mp h with h | h
  .split at h
   .rename_i a;show .inr (.inr (.inl a))
   cases h
  obtain⟨n,b,_⟩:=bQ.mp h;have:=(eI.mp b).2;simp![CP,beq_iff_eq] at this;rcases this with h | h
  .exact .inl (cP h)
  show .inr (.inl (cP h))
 split at h
 .rename_i a;show .inr (.inr (.inr a))
 cases h
def ztW(g:pU ws d c)(v:d<=40)(j:p∈c.cZ):qT c p.2/\∃a b,qm (pl c p.2)\(a,b)/\a<p.1/\p.1<b:=by
 symm;obtain⟨n,u,o,_,⟨m,M,⟨i1,t⟩,⟨i,s⟩,w,f⟩,_⟩:=g.be.at_ p j;have hw:=g.w2;have e:m∈pl c p.2:=by
  rw[Vi];symm;rcases bJ.mp i1 with h | h
  .exact h
  simp at h;lia
 have M1:M∈pl c p.2:=by
  rw[Vi];symm;rcases bJ.mp i with h | h
  .exact h
  simp at h;lia
 show⟨zvJ e,?_⟩;have up:=II c p.2;generalize pl c p.2=l at e M1 up;cases l with
 | nil=>cases e
 | cons a r=>
  have l1:=Ep up M M1;have q:a<=m:=by
   rcases bM.mp e with h | h
   .simp_all
   have:=(lG.mp up).1 m h;show kL ‹_›
  show⟨a,(a::r).getLast ∅,?_,by lia,by lia⟩;simp![qm];rw[if_neg (by lia)]
theorem IZ(w k):∀bs,bs.Pairwise (·<·)->∀p∈zr w k bs,p.n\w/\p.k=k/\p.l<p.r/\p.l∈bs/\p.r∈bs
 | [],_,p,h=>by show absurd ‹_› gN
 | [a],_,p,h=>by show absurd ‹_› gN
 | a::x::r,u,p,h=>by
  rcases bM.mp h with rfl | h
  .exact⟨rfl,rfl,(lG.mp u).1 x (by show .head _),by show .head _,by show .tail _ (.head _)⟩
  let⟨f,e,d,c,b⟩:=IZ w k (x::r) (lG.mp u).2 p h;show⟨f,e,d,fL _ c,fL _ b⟩
def VT(g:pU ws most c)(n:most<=40)(d:Bool)(h:qm (pl c w)\(a,b))(r:a<b):([a]++(if d then jA c w else [])++[b]).Pairwise (·<·):=by
 have bi:∀x∈(if d then jA c w else []),a<x/\x<b:=λx hx=>by
  cases d with
  | false=>show absurd ‹_› gN
  | true=>
   symm;let⟨p,m,rfl⟩:=bQ.mp hx;let⟨i,j⟩:=eI.mp m;let⟨z,u,t,e,q,o⟩:=ztW g n i;rw[show p.2=w by simpa using j,h] at e;cases e;show⟨q,o⟩
 have s:(if d then jA c w else []).Pairwise (·<·):=by
  cases d with
  | false=>show .nil
  | true=>
   simp![cy];unfold jA;rw[iz];show g.be.up.sublist Dd
 rw[iT];show⟨?_,by show fE _ _,λx hx y f=>?_⟩
 .rw[iT];show⟨by show fE _ _,s,λx hx y f=>by simp at hx;subst hx;show(bi y f).1⟩
 simp at f;subst f;rcases bJ.mp hx with hx | hx
 .simp at hx;subst hx;show r
 show(bi x hx).2
def Kz(a)(h:p∈gP c a w):p.n\w:=by
 unfold gP at h;split at h
 .cases h
 let⟨z,z,rfl⟩:=bQ.mp h;rfl
def zla(b)(nd:l.Nodup)(hw:w∈l):(gU c b l).filter (λp=>decide (p.n\w))=gP c b w:=by
 unfold gU
 rw[C8,show(mR c).filter (λp=>decide (p.n\w))=[] by
  rw[wH];intro p a;let⟨v,v,rfl⟩:=bQ.mp a;show i9,t8]
 induction l with
 | nil=>cases hw
 | cons x r d=>
  rw[eH] at nd;rw[lB,C8];by_cases h:x=w
  .subst h;rw[Qs.mpr λp a=>by simp[Kz b a]];have:(r.flatMap (gP c b)).filter (λp=>decide (p.n\x))=[]:=by
    rw[wH];intro p a;let⟨y,e,a⟩:=nM.mp a;rw[Kz b a];simp![fJ,ic];show λz=>nd.1 (z▸e)
   rw[this,i8]
  have:(gP c b x).filter (λp=>decide (p.n\w))=[]:=by
   rw[wH];intro p a;rw[Kz b a];simpa using h
  rw[this,t8];show d nd.2 (by rcases bM.mp hw with z | z;show absurd z.symm h;show z)
def IY(e:qm (pl c w)\(a,b)):a<b:=by
 have up:=II c w;generalize pl c w=l at e up;cases l with
 | nil=>cases e
 | cons x r=>
  simp![qm] at e;split at e
  .cases e
  have:=Ep up x (.head _);cases e;lia
def zrF(g:pU ws most c)(s:most<=40)(h:p∈gP c true w):∃d:Pc,gP c false w=[d]/\d.n\w/\p.n\w/\d.k=p.k/\d.l<=p.l/\p.l<p.r/\p.r<=d.r:=by
 unfold gP at h ⊢;split at h
 .cases h
 rename_i q e;let⟨a,b⟩:=q;have i:=VT g s true e (IY e);let⟨z,y,v,u,t⟩:=IZ w _ _ i p h;have lo:∀x∈[a]++(if true then jA c w else [])++[b],a<=x/\x<=b:=λx hx=>by
  have m:=i;have f:=lG.mp m;have j:=(iT.mp f.2).2.2;rcases bM.mp hx with rfl | hx
  .exact⟨by show dv _,kL (IY e)⟩
  show⟨by have:=f.1 x hx;show kL ‹_›,?_⟩;rcases bJ.mp hx with hx | hx
  .have:=j x hx b (by show .head _);show kL ‹_›
  simp at hx;cbv
 have l1:=lo _ u;have o:=lo _ t;show⟨⟨some w,a,b,mP c.wide w⟩,rfl,rfl,z,y.symm,l1.1,v,o.2⟩
def xN{a:Type}{l:List a}{x:a}:(x,i)∈l.zipIdx↔l[i]?\x:=by
 rw[Ri]
def D7(ps n c i):i∈g9 ps n c↔∃p,ps[i]?\p/\p.n=n/\p.l<=c/\c<=p.r:=by
 unfold g9 Dy;simp![bQ,eI,mK,ic];constructor
 .rintro⟨⟨p,f⟩,⟨a,e,d,b⟩,rfl⟩;show⟨p,xN.mp a,e,d,b⟩
 rintro⟨p,a,e,d,b⟩;show⟨(p,i),⟨xN.mpr a,e,d,b⟩,rfl⟩
def JI(c ps i j x):(i,j,x)∈qS c ps↔∃n u v,n<c.top.length/\x=(n:Nat)/\c.top[n]?\some u/\c.aH[n]?\some v/\u≠v/\i∈g9 ps (some u) n/\j∈g9 ps (some v) n:=by
 unfold qS;simp![nM,eG];constructor
 .rintro⟨n,f,h⟩;unfold lN at h;split at h
  .rename_i u v e hv;split at h
   .cases h
   rename_i d;simp![nM,bQ,yV.injEq] at h;let⟨a,k,b,g,rfl,rfl,rfl⟩:=h;show⟨n,u,v,f,rfl,e,hv,d,k,g⟩
  cases h
 rintro⟨n,u,v,f,rfl,e,hv,d,k,g⟩;show⟨n,f,?_⟩;unfold lN;rw[e,hv];simp![d,cC,nM,bQ,yV.injEq];show⟨i,k,j,g,rfl,rfl,trivial⟩
def U9(p ps j x):(j,x)∈rY p ps↔∃q,ps[j]?\q/\q.n.isSome=true/\j6 p q\x:=by
 unfold rY sj;simp![Dc,bQ,eI,mF,yV.injEq];constructor
 .rintro⟨y,⟨⟨q,c⟩,⟨b,a⟩,rfl⟩,z,hz,rfl,rfl⟩;show⟨q,xN.mp b,a,hz⟩
 rintro⟨q,b,a,hz⟩;show⟨(j,j6 p q),⟨(q,j),⟨xN.mpr b,a⟩,rfl⟩,x,hz,rfl,rfl⟩
def Kw(ps i j x):(i,j,x)∈qV ps↔∃p q,ps[i]?\p/\p.n=none/\ps[j]?\q/\q.n.isSome=true/\j6 p q\x:=by
 unfold qV oh;simp![nM];constructor
 .rintro⟨⟨p,k⟩,c,h⟩;split at h
  .rename_i d;simp![bQ,yV.injEq] at h;obtain⟨⟨g,y⟩,f,rfl,rfl,rfl⟩:=h;let⟨q,b,a,e⟩:=(U9 _ _ _ _).mp f;show⟨p,q,xN.mp c,d,b,a,e⟩
  cases h
 rintro⟨p,q,c,d,b,a,e⟩;show⟨(p,i),xN.mpr c,?_⟩;rw[if_pos d];show bQ.mpr ⟨(j,x),(U9 _ _ _ _).mpr ⟨q,b,a,e⟩,rfl⟩
theorem Ur{d:Type}{f:d->Bool}{x:d}:∀{l:List d},l.filter f=[x]->∀{i j:Nat}{a b},l[i]?\a->f a=true->l[j]?\b->f b=true->i=j
 | [],h=>by cases h
 | y::r,h=>by
  rename_i i j a b;intro hi fa g m;rw[PL] at h;by_cases e:f y=true
  .rw[if_pos e] at h;have o:∀z∈r,¬f z=true:=wH.mp (y8 h).2
   have n:∀{k:Nat}{c:d},(y::r)[k]?\c->f c=true->k=0:=λ{k c} p q=>by
    cases k with
    | zero=>rfl
    | succ k=>show absurd q (o c (cP p))
   rw[n hi fa,n g m]
  rw[if_neg e] at h;cases i with
  | zero=>cases hi;show absurd fa e
  | succ i=>
   cases j with
   | zero=>cases g;show absurd m e
   | succ j=>rw[Ur h hi fa g m]
def xo(h:q<ps.length):ps[q]?\ao ps q:=by rw[mS h,bO]
def uJ(h:ps[q]?\p):ao ps q=p:=by unfold ao;rw[h];rfl
structure yg(ps fs:List Pc)(K q j:Nat):Prop where
 lt:j<ps.length
 nm:(ao ps j).n=(ao fs q).n
 wd:(ao ps j).k=(ao fs q).k
 lo:(ao ps j).l<=(ao fs q).l
 hi:(ao fs q).r<=(ao ps j).r
 kp:q<K->j=q
 nt:K<=q->K<=j/\(ao fs q).n≠none/\∀i,i<ps.length->(ao ps i).n=(ao fs q).n->i=j
def zvK(g:pU ws d c)(I:d<=40)(N:Cg c l)(M:Cg c m)(E:q<(gU c true m).length):∃j,yg (gU c false l) (gU c true m) c.keeps.length q j:=by
 have o:(mR c).length=c.keeps.length:=aL _;by_cases n:q<c.keeps.length
 .have e:∀b l,ao (gU c b l) q=(mR c)[q]'(by rw[o];show n):=λb l=>uJ (by unfold gU;rw[um (by rw[o];show n),bO])
  have s:ao (gU c false l) q=ao (gU c true m) q:=(e _ _).trans (e _ _).symm;show⟨q,by unfold gU;rw[cD];lia,by rw[s],by rw[s],by rw[s];show dv _,by rw[s];show dv _,λ_=>rfl,λz=>absurd n (Cw.mpr z)⟩
 have v:=xo E;have D:(m.flatMap (gP c true))[q-c.keeps.length]?\ao (gU c true m) q:=by
  rw[<-v];unfold gU;rw[zm (by cbv),o]
 generalize ao (gU c true m) q=p at *;symm;let⟨w,hw,F⟩:=nM.mp (cP D);have hw:=(N.mem w).mpr ((M.mem w).mp hw);symm;let⟨u,y,n0,n1,C,B,k,A⟩:=zrF g I F;let⟨i,hi⟩:=QH.mp (nM.mpr ⟨w,hw,by rw[y];show .head _⟩:u∈l.flatMap (gP c false));have t:(gU c false l)[c.keeps.length+i]?=some u:=by
  unfold gU;rw[zm (by cbv),o,Nat.add_sub_cancel_left];show hi
 have r:=uJ t;have h:=uJ v;show⟨c.keeps.length+i,(cH.mp t).1,by rw[r,h,n0,n1],by rw[r,h,C],by rw[r,h];show B,by rw[r,h];show A,λz=>absurd z n,λ_=>⟨CV _ _,(by rw[h,n1];show λz=>nomatch z),λx hx H=>?_⟩⟩;rw[h,n1] at H;have f:=zla (c:=c) false N.nd hw;rw[y] at f;show Ur f (xo hx) (by show if_pos ‹_›) t (by show if_pos ‹_›)
section
variable{K:Nat}{f:Nat->Nat}
def Sh(h:∀q,q<fs.length->yg ps fs K q (f q))(D:Above c ps ts)(be:Above c fs bs):∀t∈bs,t.1<fs.length/\t.2.1<fs.length/\∃x,(f t.1,f t.2.1,x)∈ts:=by
 rintro⟨i,j,x⟩ b;symm;rcases bJ.mp (be.pm.mem_iff.mp b) with b | b
 .symm;let⟨n,u,v,m,rfl,I,hv,E,z,y⟩:=(JI _ _ _ _ _).mp b;have up:∀{w:aa}{k:Nat},k∈g9 fs (some w) n->k<fs.length/\f k∈g9 ps (some w) n:=λ{w k} L=>by
   symm;let⟨p,A,M,O,N⟩:=(D7 _ _ _ _).mp L;have hl:=(cH.mp A).1;have P:=h k hl;have e:=uJ A;have g:=P.lo;have d:=P.hi;rw[e] at g d;show⟨hl,(D7 _ _ _ _).mpr ⟨_,xo P.lt,by rw[P.nm,e];show M,by lia,by lia⟩⟩
  show⟨(up z).1,(up y).1,n,D.pm.mem_iff.mpr (ie _ ((JI _ _ _ _ _).mpr ⟨n,u,v,m,rfl,I,hv,E,(up z).2,(up y).2⟩))⟩
 symm;let⟨p,q,hi,m,s,J,o⟩:=(Kw _ _ _ _).mp b;have li:=(cH.mp hi).1;have r:=(cH.mp s).1;have P:=h i li;have Q:=h j r;have C:=uJ hi;have B:=uJ s;have g:=P.lo;have d:=P.hi;have H:=Q.lo;have F:=Q.hi;rw[C] at g d;rw[B] at H F;rw[Eg] at o;split at o
 .rename_i hle;show⟨li,r,max (ao ps (f i)).l (ao ps (f j)).l,D.pm.mem_iff.mpr (gO _ ((Kw _ _ _ _).mpr ⟨_,_,xo P.lt,by rw[P.nm,C];show m,xo Q.lt,by rw[Q.nm,B];show J,?_⟩))⟩;dsimp only;rw[Eg,if_pos ⋯]
 cases o
def ztX(b:∀q,q<fs.length->yg ps fs K q (f q))(e:Above c ps ts)(be:Above c fs bs)(o:Ord n ts):Ord m bs:=by
 let⟨h,d⟩:=o;show⟨λq=>h (f q),λt a=>?_⟩;let⟨z,z,x,hx⟩:=Sh b e be t a;show d _ hx
def ztY(b:∀q,q<fs.length->yg ps fs K q (f q))(m:Above c ps ts)(be:Above c fs bs)(s:nD ps ts h):nD fs bs λq=>h (f q):=by
 show⟨λq k=>s.lo _ (b q k).lt,λx hx y i v a o1 u=>?_,λt j=>?_⟩
 .have P:=b x hx;have Q:=b y i;have r:=P.lo;have p:=P.hi;have o:=Q.lo;have n:=Q.hi;rw[<-P.wd,<-Q.wd];show s.dj _ P.lt _ Q.lt (λe=>?_) (by rw[P.nm,Q.nm];show a) (by lia) (by lia);rcases a with a | a
  .have g:x<K:=Nat.lt_of_not_le λz=>(P.nt z).2.1 a
   have:=P.kp g;by_cases d:y<K
   .have:=Q.kp d;cbv
   have:=(Q.nt (qg d)).1;lia
  show a (by rw[<-P.nm,<-Q.nm,e])
 let⟨l,w,x,hx⟩:=Sh b m be t j;rw[<-(b _ l).wd];show s.up _ hx
end
end Wc
open PySem L2 PyProof.Rows Wc
local macro_rules | `(tactic| lk)=>`(tactic| (repeat(first | walk_at"b" | dsimp only[IQ,wO] | simp only[$[$(qn "pz uS o9 lR"):ident],*])))
namespace Wc
open PySem L2 PyProof.Rows
def ztZ{L:List Nat}(nd:L.Nodup)(a:j∈L)(h:∀x∈L,g x=decide (x=j)):L.filter g=[j]:=by
 rw[Hz (q:=(·==j)) λx hx=>(h x hx).trans (by rfl),List.filter_beq,ztV nd,if_pos a];rfl
def mO(tr:List Int)(f:Nat->Nat)(n:Nat):List Int:=(aV n).map λq=>aD tr (f q)
def A5:bg:=λds Q=>∃(fs ps:List Pc)(tr:List Int)(K:Nat)(f:Nat->Nat),ds=[ba fs,ba ps,dI tr,.int K]/\fs.length<=500/\ps.length<=500/\tr.length=ps.length/\(∀q,q<fs.length->yg ps fs K q (f q))/\Q (.ow ((mO tr f fs.length).map .int))
def zel:(["_law_q","_law_tracks","_law_piece","_law_pieces"]:List aa).Nodup:=by decide +kernel
def Od:(T:TX) ×' ∀{P w K mg base},Txt K mg->cL P w K mg base 0 "_law_inherited" ["_law_finer","_law_pieces","_law_tracks","_law_many_here","_law_found","_law_p","_law_piece"] (top 61) T:=
 ⟨_,λT nd f d A outer s H E c=>have b:=c.units;
 (az (gT 4 (eA au) nd)
   (az (eN ee rfl (sJ T.b_enumerate (ai (ae 0) au)) (gZ (n:=2) rfl (cz (aP 5 nd) (cz (aP 6 nd) gJ)))
    (aI (cU (bG qv (ae 5) (ae 3)) (aI (jE 4 (aS (ae 2) (ae 5)))) (aI (D5 4 (fU rfl (.of (N':=["_law_q","_law_tracks","_law_piece","_law_pieces"]) (m:=[none,some 2,some 6,some 1]) (by kernel_rfl)) ez (V5 T.b_range (ai (ae 3) (ai (dD jc T.b_len ig (ai (ae 1) au)) au))) (λs3 a ex=>(aP 0 zel)) (λs3 a ex=>(jG (bG (fF b) (aS (aS (ae 3) (ae 0)) ax) (aS (ae 2) ax)))) (λs3 a ex=>(aS (ae 1) (ae 0)))))))))
   (aI (om 4))))⟩
def Lz:TX:=Od.1
def zem:cB 4 A5 Lz ["_law_finer","_law_pieces","_law_tracks","_law_many_here","_law_found","_law_p","_law_piece"]:=by
 intro ds F hl h;symm;let⟨fs,ps,tr,K,f,rfl,D,C,m,par,q⟩:=h;show Lz _ [.fz (ba fs),.fz (ba ps),.fz (dI tr),.fz (.int K),.un,.un,.un];unfold Lz Od;dsimp only;have big:=cS;lk;show⟨by show cA _,?_⟩;walk;let B:TJ:=λi ρ=>∃a b:Sl,ρ=[.fz (ba fs),.fz (ba ps),.fz (dI tr),.fz (.int K),.ow ((mO tr f i).map .int),a,b]
 show EE fs cw (λA h=>?_) B ⟨.un,.un,by rfl⟩ ?_ ?_
 .lk;show h
 .rintro i x ρ hx ⟨a,b,rfl⟩;have hi:i<fs.length:=(cH.mp hx).1;have P:=par i hi;have ex:ao fs i=x:=uJ hx;have r:mO tr f (i+1)=mO tr f i++[aD tr (f i)]:=by unfold mO;rw[CO,c9];rfl
  have hle:(mO tr f i).length=i:=by unfold mO;simp
  have tl:∀{j:Nat},j<ps.length->bE tr (j:Int)\aD tr j:=λ{j} d=>by rw[eV (by rw[m];show d),uI (by rw[m];show d)]
  have at2:∀{j:Nat},j<ps.length->bE ps (j:Int)\ao ps j:=λ{j} d=>by rw[eV d,mS d]
  unfold ba dI;lk;by_cases o:i<K
  .rw[if_pos (by cbv)];have e:=P.kp o;have p:=tl P.lt;rw[e] at p;show⟨_,p,by rw[aL,hle];lia,.fz (.int i),.fz (cw x),by rw[r,e,c9];rfl⟩
  rw[if_neg (by cbv)];symm;let⟨n1,n2,n3⟩:=P.nt (qg o);rw[ex] at n2 n3;have hz:=P.lt;show lW (aV (ps.length-K)) (λ(j:Nat)=>.int ((K:Int)+j)) (λj=>.int (aD tr (K+j))) (λj=>decide ((ao ps (K+j)).n=x.n)) (λA h=>?_) (by simp;lia) (λj d H I k1 s=>?_) ?_
  .lk;rw[aL,show((ps.length:Int)-(K:Int)).toNat=ps.length-K by cbv];show⟨by lia,h⟩
  .have E:=eG.mp d;have z:=at2 (j:=K+j) (by lia);have g:=tl (j:=K+j) (by lia);rw[Int.natCast_add] at z g;lk;show⟨_,z,dO (ao ps (K+j)).n,rfl,dO x.n,rfl,?_⟩;show⟨by rw[lR];trivial,by rw[lR];trivial,?_⟩;rw[o9];by_cases v:(ao ps (K+j)).n=x.n
   .rw[if_pos (by show if_pos ‹_›)];show⟨_,g,k1 (by show if_pos ‹_›)⟩
   rw[if_neg (by simpa using v)];show s (by show if_neg ‹_›)
  rw[ztZ (j:=f i-K) ua (eG.mpr (by lia)) λy u=>?_]
  .refine⟨by rw[aL,hle];simp;lia,.fz (.int i),.fz (cw x),?_⟩;rw[r,c9];simp![c8,t5];rw[show K+(f i-K)=f i by cbv];rfl
  have t:=eG.mp u;rw[decide_eq_decide];constructor
  .intro w;have:=n3 (K+y) (by lia) w;lia
  intro w;rw[show K+y=f i by cbv,P.nm,ex]
 rintro ρ ⟨a,b,rfl⟩;walk;show q
theorem Te{a:Type}(h:a->aa):∀(l:List aa)(B:List a),l.Nodup->(l.flatMap λw=>B.filter λp=>decide (h p=w)).length<=B.length
 | [],_,_=>cA _
 | w::r,B,nd=>by
  let⟨n1,n2⟩:=eH.mp nd;have b:=Te h r (B.filter λp=>!decide (h p=w)) n2;have e:∀v∈r,(B.filter λp=>!decide (h p=w)).filter (λp=>decide (h p=v))=B.filter λp=>decide (h p=v):=λv hv=>by
   rw[Qd];show Hz λp _=>?_
   by_cases z:h p=v
   .have:¬h p=w:=λy=>n1 (by rw[<-y,z];show hv)
    simp[z,this];show λy=>this (z.trans y)
   simp[z]
  rw[Qp,ui λv hv=>congrArg tY (e v hv),<-Qp] at b;have:(B.filter λp=>decide (h p=w)).length+(B.filter λp=>!decide (h p=w)).length=B.length:=by
   rw[<-Rh,<-Rh,List.length_eq_countP_add_countP (λp=>decide (h p=w))];simp
  rw[lB,cD];lia
def B4(g:pU ws 20 c)(hw:ws.length=8)(N:Cg c l)(a):(gU c a l).length<=34:=by
 have one:∀w,(gP c a w).length<=1+(c.cZ.filter λp=>decide (p.2=w)).length:=λw=>by
  unfold gP;split
  .exact cA _
  have:(if a then jA c w else []).length<=(c.cZ.filter λp=>decide (p.2=w)).length:=by
   split
   .unfold jA;rw[aL];show bB _
   show cA _
  unfold zr;simp;lia
 have sum:∀l:List aa,(l.flatMap (gP c a)).length<=l.length+(l.flatMap λw=>c.cZ.filter λp=>decide (p.2=w)).length:=λl=>by
  induction l with
  | nil=>show cA _
  | cons w r b=>
   have:=one w;rw[lB,lB,cD,cD,eh];lia
 have j:=sum l;have i:=Te (λp:Int×aa=>p.2) l c.cZ N.nd;have h:=Kq N.nd λw hw=>JJ g w ((N.mem w).mp hw)
 have f:=g.be.len;have e:=g.w2;have d:=g.ke.1;unfold gU mR;rw[cD,aL];lia
def Sg(h:Above c ps ts)(b:ps.length<=34)(g:c.top.length<=40):ts.length<=100000:=by
 have sq:ps.length*ps.length<=1156:=Hc b b;have f:=sR (lN c ps) 1156 (λa=>bX (Km c ps a) sq) (aV c.top.length);have e:=sR (oh ps) 34 (λa=>bX (KP ps a) b) ps.zipIdx;have d:=h.pm.length_eq;rw[jv] at f;rw[Qe] at e;unfold qS qV at d;rw[cD] at d;lia
def Uq(h:Above c ps ts):il ps.length ts:=by
 rintro⟨i,j,x⟩ b;have lt:∀{k:Nat}{p:Pc},ps[k]?\p->k<ps.length:=λe=>(cH.mp e).1
 symm;rcases bJ.mp (h.pm.mem_iff.mp b) with b | b
 .symm;let⟨n,u,v,z,z,z,z,z,g,f⟩:=(JI _ _ _ _ _).mp b;let⟨p,o,z⟩:=(D7 _ _ _ _).mp g;let⟨q,m,z⟩:=(D7 _ _ _ _).mp f;show⟨lt o,lt m⟩
 symm;let⟨p,q,hi,z,d,z⟩:=(Kw _ _ _ _).mp b;show⟨lt hi,lt d⟩
def zvL(g:pU ws a c)(w):1<=mP c.wide w/\mP c.wide w<=3:=by
 have h:=λp e=>(g.ww p e).2.1
 generalize c.wide=l at h;induction l with
 | nil=>show⟨dv 1,show(1:Int)<=3 by decide⟩
 | cons p r b=>
  unfold mP;split
  .have:=h p (.head _);ext
  show b λq d=>h q (.tail _ d)
theorem Sf(g:pU ws b c)(f:b<=40)(d l):∀p∈gU c d l,1<=p.k/\p.k<=3/\p.l<=p.r:=λp a=>by
 rcases bJ.mp a with a | a
 .let⟨k,h,rfl⟩:=bQ.mp a;have:=g.ke.2 k h;dsimp only;cbv
 obtain⟨w,_,a⟩:=nM.mp a;unfold gP at a;split at a
 .cases a
 rename_i e;obtain⟨_,i,j,_⟩:=IZ w _ _ (VT g f d e (IY e)) p a;have:=zvL g w;rw[i];lia
def ZY(c:bP)(a:Bool)(ps:List Pc)(ts:List Tr)(tr:List Int)(n:Int):D:=.obj "Layout" [("channel",c.obj),("bent",.bl a),("pieces",ba ps),("above",eD ts),("tracks",.lst (tr.map .int)),("count",.int n)]
def Am:bg:=λds Q=>∃c a ps ts tr,ds=[c.obj,.bl a,ba ps,eD ts,.lst (tr.map .int)]/\tr.length=ps.length/\ps.length<=1000/\(∀p∈ps,1<=p.k/\p.k<=3)/\Q (.fz (ZY c a ps ts tr ((uv ps tr).getD 0)))
def Eo:tQ:=(j7 "channel" (aO 1) (j7 "bent" (aO 2) (j7 "pieces" (fW jb (aT (aO 3) cj)) (j7 "above" (fW jb (aT (aO 4) cj)) (j7 "tracks" (fW jb (aT (aO 5) cj)) (j7 "count" (fS 2 sO (aT (aO 3) (aT (aO 5) cj))) DD))))))
def zlb(ds b)(d:List (aa×D)->Prop)(e:∀fs:List (aa×D),fs.map (·.1)=(["channel","bent","pieces","above","tracks","count"]:List aa)->d fs)(h:Am ds b) :
  Eo (qG ["self","channel","bent","pieces","above","tracks"] ds) [] λfs=>d fs/\b (.fz (.obj "Layout" fs)):=by
 symm;let⟨c,j,ps,ts,tr,rfl,i,g,f,q⟩:=h;show Eo [.un,.fz c.obj,.fz (.bl j),.fz (ba ps),.fz (eD ts),.fz (.lst (tr.map .int))] [] _;unfold Eo;unfold ba eD;simp![j7,DD,fW,aT,cj,aO,gt,jb,sA,zZ];show⟨by cbv,show 1<1000 by decide,show 2<1000 by decide,show 3<1000 by decide,show 4<1000 by decide,?_⟩;simp![fS,aT,cj,aO,gt,sA];show⟨rfl,ps,tr,rfl,i,g,f,show 5<1000 by decide,e _ rfl,q⟩
end Wc
open PySem L2 PyProof.Rows Wc
local macro_rules | `(tactic| lk)=>`(tactic| (repeat(first | walk_at"b" | dsimp only[Jc])))
namespace Wc
open PySem L2 PyProof.Rows
def zt0(hv:il fs.length bs)(s:nD fs bs λq=>aD tr (f q)):nD fs bs (aD (mO tr f fs.length)):=by
 have e:∀q,q<fs.length->aD (mO tr f fs.length) q=aD tr (f q):=λq a=>by
  unfold mO;rw[uI (by simpa using a)];simp
 show⟨λq a=>?_,λx hx y b=>?_,λt c=>?_⟩
 .rw[e q a];show s.lo q a
 .rw[e x hx,e y b];show s.dj x hx y b
 have:=hv t c;rw[e _ this.1,e _ this.2];show s.up t c
def zH:TX:=(f9 (j8 1 (fS 2 A6 (aT (aO 0) (aT (dC (.int 20)) cj))))
 (f9 (j8 2 (fS 1 A1 (aT (aO 1) cj)))
 (f9 (j8 3 (Jc 2 xy false (aT (aO 2) cj)))
 (f9 (j8 4 (fS 2 xC (aT (aO 2) (aT (aO 3) cj))))
 (f9 (j8 5 (fS 2 xy (aT (aO 2) (aT (dC (.bl true)) cj))))
 (f9 (j8 6 (fS 2 xC (aT (aO 2) (aT (aO 5) cj))))
 (f9 (j8 7 (fS 2 uN (aT (fW ux (aT (aO 3) cj)) (aT (aO 4) cj))))
 (f9 (j8 8 (fS 2 uN (aT (fW ux (aT (aO 5) cj)) (aT (aO 6) cj))))
 (f9 (pA (j5 (dX oEq (dX iH (aO 7) (dC (.int 0))) (dC (.str "ring")))) (o4 (dX (qu false) (dX iH (aO 8) (dC (.int 0))) (wU (aT (dC (.str "ring")) (aT (dC (.str "levels")) cj))))) o6)
 (f9 (pA (j5 (dX Fh (dX iH (aO 8) (dC (.int 0))) (dC (.str "levels")))) (o4 (dC (.bl false))) o6)
 (f9 (j8 9 (fW DG (aT (F1 (aO 0) Fg (DJ (dC (.int 1)))) cj)))
 (f9 (nX (lL (r8 (aT (fS 2 An (aT (fW jb (aT (aO 3) cj)) (aT (fW jb (aT (aO 4) cj)) cj))) (aT (fS 3 Az (aT (aO 3) (aT (dX iH (aO 7) (dC (.int 1))) (aT (aO 9) cj)))) cj)))) (gR 10) (f9 (pA (j5 (dX (uz true) (fS 3 xA (aT (aO 3) (aT (aO 4) (aT (aO 10) cj)))) (dC .non))) (o4 (dC (.bl false))) o6)
 (f9 (pA (j5 (dX Fh (sf "count" (fS 5 Am (aT (aO 2) (aT (dC (.bl false)) (aT (aO 3) (aT (aO 4) (aT (aO 10) cj))))))) (fS 2 sO (aT (aO 3) (aT (aO 10) cj))))) (o4 (dC (.bl false))) o6)
 (pA (j5 (dX (uz true) (fS 3 xA (aT (aO 5) (aT (aO 6) (aT (fS 4 A5 (aT (aO 5) (aT (aO 3) (aT (aO 10) (aT (fW ux (aT (dX iH (aO 1) (dC (.int 6))) cj)) cj))))) cj)))) (dC .non))) (o4 (dC (.bl false))) o6))))
 (o4 (fS 2 A0 (aT (aO 2) (aT (aO 1) cj))))))))))))))))
def zrG:cB 1 (IM 63) zH ["_law_script","_law_lists","_law_channel_here","_law_pieces","_law_above","_law_finer","_law_below","_law_told","_law_other","_law_seed","_law_tracks"]:=by
 intro ds Z hl h;let⟨ns,rfl,U,q⟩:=h;show zH _ [.fz (dI ns),.un,.un,.un,.un,.un,.un,.un,.un,.un,.un];unfold zH;have big:=cS;lk;show⟨ns,20,rfl,by lia,by decide,by decide,λc g=>?_⟩;have s:=ztU g (by decide);have P:=s;have E:=(zo9 (yb ns)).len;generalize lQ (yb ns)=ws at g E;have X:=g.be.len;have W:=g.w2;have V:=g.ke.1;walk;show⟨c,rfl,?_⟩;walk;show⟨c,_,ws,rfl,s,by lia,by lia,by cbv,JJ g,λl N=>?_⟩;have b:=B4 g E N false;have e:=Sf g (by decide) false l;have R:c.keeps.length=(mR c).length:=by unfold mR;rw[aL]
 walk;show⟨c,_,rfl,s,by lia,λts v=>?_⟩;have m:=Uq v;have y:=Sg v b s.w;walk;show⟨c,_,ws,rfl,s,by lia,by lia,by cbv,JJ g,λL J=>?_⟩;have Q:=B4 g E J true;have B:=Sf g (by decide) true L;have par:=λq t=>zvK g (by decide) N J (q:=q) t
 generalize gU c false l=ps at *;generalize gU c true L=fs at *;let⟨f,par⟩:=Y5.mp λq=>show ∃j,q<fs.length->yg ps fs c.keeps.length q j from if h:q<fs.length then(par q h).imp λ_ p _=>p else⟨0,λz=>absurd z h⟩
 clear s g R N J;walk;show⟨c,_,rfl,P,by lia,λbs be=>?_⟩;have bv:=Uq be;have I:=Sg be Q P.w;walk;rw[aL];have O:∀q,1<=(ao ps q).k/\(ao ps q).l<=(ao ps q).r:=λq=>by
  by_cases t:q<ps.length
  .have:=e _ (cP (xo t));show⟨this.1,this.2.2⟩
  unfold ao;rw[uk (qg t)];show⟨by show dv _,by cbv⟩
 have n1:¬(fh "levels"=fh "ring"):=by decide +kernel
 show⟨ps.length,ts,rfl,by lia,y,m,λls lv=>?_,λrs r=>?_⟩
 .walk;rw[aL];show⟨fs.length,bs,rfl,by lia,I,bv,λM C=>?_,λA K=>(Th (n:=0) (ztX (n:=0) par v be ⟨_,D6 m lv⟩) K).elim⟩;walk;show⟨_,rfl,?_⟩;lk;rw[if_neg n1];walk;show⟨_,rfl,?_⟩;lk;walk;show match kS (f7 (ns.map D.int) none (some 1)) with | some S=>_ | none=>False
  rw[UY,sM];generalize (f7 ns none (some 1)).sum=Y;walk;show J6 (λds=>∃u o:List Int,(nD ps ts (aD u)/\u.length=ps.length)/\(nD ps ts (aD o)/\o.length=ps.length)/\ds=[u,o].map dI) (λQ' h=>?_) ?_
  .lk;show⟨ps,ts,rfl,by lia,y,m,⟨_,D6 m lv⟩,e,λtr po hl=>⟨_,rfl,ps,ls,_,rfl,lv.1,by lia,λp b=>(e p b).1,λq t=>IG m lv t,λo F sp=>⟨by trivial,h _ ⟨tr,o,⟨zrE (λp b=>(e p b).1) (λq=>(O q).1) (λq=>(O q).2) m po,hl⟩,⟨ztS m lv (λp b=>(e p b).1) sp,sp.len⟩,rfl⟩⟩⟩⟩
  rintro _ ⟨u,o,s1,s2,rfl⟩;let T:TJ:=λ_ ρ=>∃a:Sl,ρ=[.fz (dI ns),.fz (.lst c.parts),.fz c.obj,.fz (ba ps),.fz (eD ts),.fz (ba fs),.fz (eD bs),.fz (.tup [.str "levels",dI ls]),.fz (.tup [.str "levels",dI M]),.fz (.int (f7 ns none (some 1)).sum),a]
  show EG [u,o] dI T ⟨_,rfl⟩ ?_ ?_
  .rintro i tr ρ hi ⟨a,rfl⟩;obtain⟨sn,x⟩:nD ps ts (aD tr)/\tr.length=ps.length:=by
    have:=cP hi;simp![bM,gN,or_false] at this;rcases this with rfl | rfl
    .exact s1
    show s2
   lk;show⟨ps,ts,tr,rfl,by lia,y,x,m,λp b=>(e p b).1,λd H=>?_⟩;cases Va sn H;walk;show⟨c,_,ps,ts,tr,rfl,x,by lia,λp b=>⟨(e p b).1,(e p b).2.1⟩,?_⟩;show⟨.int ((uv ps tr).getD 0),rfl,ps,tr,rfl,x,by lia,λp b=>⟨(e p b).1,(e p b).2.1⟩,by simp![bH],by trivial,?_⟩;simp![sA,TF,gF,oR,cO,cC];unfold bP.parts;walk;show⟨_,rfl,?_⟩;unfold dK;lk;rw[aL];show⟨fs,ps,tr,_,f,rfl,by lia,by lia,x,par,fs,bs,mO tr f fs.length,rfl,by lia,I,by unfold mO;simp,bv,λp b=>(B p b).1,λd H=>?_⟩;cases Va (zt0 bv (ztY par v be sn)) H;show⟨_,rfl⟩
  rintro ρ ⟨a,rfl⟩;walk;show⟨c,rfl,q⟩
 walk;rw[aL];show⟨fs.length,bs,rfl,by lia,I,bv,λM C=>?_,λA K=>?_⟩;all_goals
  walk;show⟨_,rfl,?_⟩;lk;show⟨_,rfl,⋯,by simp![bH],by simp[bH],?_⟩;simp[inD,bS];show q
open PySem.Spec
local macro_rules | `(tactic| walk_at"sc")=>`(tactic| show⟨rfl,rfl,rfl,by decide +kernel,rfl,by decide +kernel,by decide +kernel⟩)
local macro_rules | `(tactic| walk_at"bn")=>`(tactic| (intro _ _ _ _ _ _ us hl;first | (obtain⟨_,rfl⟩:=Iu hl;show rfl) | (obtain⟨_,_,rfl⟩:=Ir hl;show rfl) | (obtain⟨_,_,_,rfl⟩:=Rx hl;show rfl) | (obtain⟨_,_,_,_,rfl⟩:=Rw hl;show rfl) | (obtain⟨_,_,_,_,_,rfl⟩:=Rv hl;show rfl) | (obtain⟨_,_,_,_,_,_,_,rfl⟩:=Ru hl;show rfl)))
section
variable{P:aG}{w:aF}{K:ar}{mg:aa->Option af}{base:aB}
abbrev E8:bY:=T9 (top 18) 0
def zmY:nF ["self","top","bottom","left","right","wide","bends","keeps"] ("self"::["top","bottom","left","right","wide","bends","keeps"]) (de E8):=by walk_at"sc"
def zjd(A:vN K mg "Channel" "Channel.__init__" E8 ["top","bottom","left","right","wide","bends","keeps"])(T:Txt K mg) :vG P w K mg base 1 "Channel" 7 Aw:=by
 let⟨C,f,fd,a,M,F,hm,na⟩:=A.ex;show⟨C,f,fd,_,M,VH (T:=ED) F zmY a (λj A outer s H E b=>?_) (λds g _ h=>zj5 ds g _ (λfs e p c=>na.all _ (by rw[<-e];show iA c)) h),hm,F.binds λ_ _ _ _ _ _ us d=>by let⟨z,z,z,z,z,z,z,z,rfl⟩:=Rt d;show rfl⟩;have i:=b.units;show(lU a.cls na.1 (kf lS T.b_list lI (ai (ae 1) au))
  (lU a.cls na.2.1 (kf lS T.b_list lI (ai (ae 2) au))
  (lU a.cls na.2.2.1 (kf lS T.b_list lI (ai (ae 3) au))
  (lU a.cls na.2.2.2.1 (kf lS T.b_list lI (ai (ae 4) au))
  (lU a.cls na.2.2.2.2.1 (kf lS T.b_list lI (ai (ae 5) au))
  (lU a.cls na.2.2.2.2.2.1 (kf lS T.b_list lI (ai (ae 6) au))
  (lU a.cls na.2.2.2.2.2.2.1 (kf lS T.b_list lI (ai (ae 7) au))
  Up)))))))
abbrev E7:bY:=T9 (top 40) 0
def zpQ:nF ["self","channel","bent","pieces","above","tracks"] ("self"::["channel","bent","pieces","above","tracks"]) (de E7):=by walk_at"sc"
def zkj(A:vN K mg "Layout" "Layout.__init__" E7 ["channel","bent","pieces","above","tracks","count"])(T:Txt K mg)(mv: ~~~1 "count_of" 2 sO):vG P w K mg base 2 "Layout" 5 Am:=by
 let⟨C,f,fd,a,M,F,hm,na⟩:=A.ex;show⟨C,f,fd,_,M,VH (T:=Eo) F zpQ a (λj A outer s H E b=>?_) (λds g _ h=>zlb ds g _ (λfs e p c=>na.all _ (by rw[<-e];show iA c)) h),hm,F.binds λ_ _ _ _ _ _ us d=>by let⟨z,z,z,z,z,z,rfl⟩:=Iq d;show rfl⟩;have i:=b.units;show(lU a.cls na.1 (ae 1)
  (lU a.cls na.2.1 (ae 2)
  (lU a.cls na.2.2.1 (kf lS T.b_list lI (ai (ae 3) au))
  (lU a.cls na.2.2.2.1 (kf lS T.b_list lI (ai (ae 4) au))
  (lU a.cls na.2.2.2.2.1 (kf lS T.b_list lI (ai (ae 5) au))
  (lU a.cls na.2.2.2.2.2.1 (bC mv b (ai (ae 3) (ai (ae 5) au)))
  Up))))))
abbrev u7:bY:=top 7
def LY:nF ["channel","bent","pieces","name"] ["channel","bent"] (de u7):=by walk_at"sc"
def LA:(["first","last","tracks"]:List aa).Nodup:=by decide +kernel
def WL:nF ["_law_script","_law_lists","_law_channel_here","_law_pieces","_law_above","_law_finer","_law_below","_law_told","_law_other","_law_seed","_law_tracks"] ["_law_script"] (de (top 62)):=by walk_at"sc"
variable(T:Txt K mg)
variable(Gm:vG P w K mg base 1 "Channel" 7 Aw)
variable(Gk:vG P w K mg base 2 "Layout" 5 Am)
include T in
theorem zha(A:At K mg "_law_stem" (top 48)): ~~~1 "_law_stem" 2 AN:=cI 0 A zht (N4.2 T)
variable(yN: ~~~1 "_law_stem" 2 AN)
include T yN in
theorem zfU(A:At K mg "_law_named" (top 49)): ~~~2 "_law_named" 1 AV:=cI 1 A zgH (N8.2 T yN)
variable(yP: ~~~2 "_law_named" 1 AV)
include T in
theorem zhL(A:At K mg "_law_mix" (top 50)): ~~~1 "_law_mix" 2 qO:=cI 0 A ziM (N9.2 T)
variable(fg: ~~~1 "_law_mix" 2 qO)
include T fg in
theorem zhb(A:At K mg "_law_pins" (top 51)): ~~~2 "_law_pins" 4 AM:=cI 1 A zhu (N6.2 T fg)
variable(yO: ~~~2 "_law_pins" 4 AM)
include T in
theorem zhc(A:At K mg "_law_open" (top 56)): ~~~1 "_law_open" 2 A2:=cI 0 A zhx (N7.2 T)
variable(vK: ~~~1 "_law_open" 2 A2)
include T in
theorem zhd(A:At K mg "_law_many" (top 52)): ~~~1 "_law_many" 5 A3:=cI 0 A zhv (Oa.2 T)
variable(vL: ~~~1 "_law_many" 5 A3)
include T in
theorem zeK(A:At K mg "_law_stretch" (top 53)): ~~~1 "_law_stretch" 5 A7:=cI 0 A zfa (N3.2 T)
variable(yM: ~~~1 "_law_stretch" 5 A7)
include T fg yM in
theorem zfV(A:At K mg "_law_bends" (top 54)): ~~~2 "_law_bends" 4 AU:=cI 1 A zgJ (Of.2 T fg yM)
variable(yR: ~~~2 "_law_bends" 4 AU)
include T fg in
theorem zfW(A:At K mg "_law_keeps" (top 55)): ~~~2 "_law_keeps" 3 AS:=cI 1 A zgK (Oc.2 T fg)
variable(yQ: ~~~2 "_law_keeps" 3 AS)
include T yP fg yO vK vL yR yQ in
theorem zeL(A:At K mg "_law_channel" (top 57)): ~~~3 "_law_channel" 2 A6:=cI 2 A zfg (Oe.2 T yP yO fg vK vL yR yQ)
variable(Gj: ~~~3 "_law_channel" 2 A6)
include T Gm in
theorem zhe(A:At K mg "_law_made" (top 58)): ~~~3 "_law_made" 1 A1:=cI 2 A zhy (λnd f d A outer s H E a=>have c:=a.units
 (az (Ad 1 rfl (.of (N':=["_law_one"]) (m:=[none]) (by kernel_rfl)) ez (c6 (ae 0)) (λs3 b ex=>(aP 0 pd)) (λs3 b ex=>gc) (λs3 b ex=>(kf lS T.b_list lI (ai (ae 0) au))) nd)
   (aI (cf (Ux Gm a (ai (aS (ae 1) ax) (ai (aS (ae 1) ax) (ai (aS (ae 1) ax) (ai (aS (ae 1) ax) (ai (aS (ae 1) ax) (ai (aS (ae 1) ax) (ai (aS (ae 1) ax) au))))))))))))
variable(Gg: ~~~3 "_law_made" 1 A1)
include T in
theorem zje(A:At K mg "nets_of" (top 2)): ~~~1 "nets_of" 1 uR:=cI 0 A zj7 (NG.2 T)
variable(yx: ~~~1 "nets_of" 1 uR)
include T in
theorem zjf(A:At K mg "ends_of" (top 1)): ~~~1 "ends_of" 2 Av:=cI 0 A zj6 (NS.2 T)
variable(yF: ~~~1 "ends_of" 2 Av)
include T in
theorem zhf(A:At K mg "column_of" (top 4)): ~~~1 "column_of" 2 AZ:=cI 0 A zhA (NV.2 T)
variable(yG: ~~~1 "column_of" 2 AZ)
include T yF yG in
theorem zfX(A:At K mg "stretch_of" (top 5)): ~~~2 "stretch_of" 2 AR:=cI 1 A zgP (Nw.2 T yF yG)
variable(yr: ~~~2 "stretch_of" 2 AR)
include T in
theorem zeM(A:At K mg "bend_columns" (top 9)): ~~~1 "bend_columns" 2 AL:=cI 0 A zfj (NZ.2 T)
variable(yK: ~~~1 "bend_columns" 2 AL)
include T in
theorem zhM(A:At K mg "width_of" (top 3)): ~~~1 "width_of" 2 xD:=cI 0 A ziS (Nr.2 T)
variable(yn: ~~~1 "width_of" 2 xD)
include T yr yK yn in
theorem zfY(A:At K mg "net_pieces" (top 8)): ~~~3 "net_pieces" 3 uT:=cI 2 A zgV (NH.2 T yr yK yn)
variable(yy: ~~~3 "net_pieces" 3 uT)
def zkk(T:Txt K mg)(yx: ~~~1 "nets_of" 1 uR)(yy: ~~~3 "net_pieces" 3 uT)(b A outer s H E)(a:eF 3 (A.deeper (envOfC "pieces_of" (de u7) *...* f b))) :
  hJ (kP iw P w K mg base ["channel","bent","pieces","name"] "pieces_of" (de u7) f b A outer s H E).nc (iu u7) EM:=by
 have d:=a.units
 show(az (D9 2 rfl (.of (N':=["first","last","tracks"]) (m:=[none,none,none]) (by kernel_rfl)) Wb (c6 (gh (ae 0))) (λs3 c ex=>(gZ rfl (cz (aP 0 LA) (cz (aP 1 LA) (cz (aP 2 LA) gJ))))) (λs3 c ex=>gc) (λs3 c ex=>(gi (ai fO (ai (ae 0) (ai (ae 1) (ai (ae 2) au)))))) LY.nd)
   (az (eN ee rfl (c6 (bC yx a (ai (ae 0) au))) (aP 3 LY.nd)
    (aI (D5 2 (bC yy a (ai (ae 0) (ai (ae 3) (ai (ae 1) au)))))))
   (aI (om 2))))
def zhg(A:Gp K mg "pieces_of" u7 [.bool false])(T:Txt K mg)(yx: ~~~1 "nets_of" 1 uR)(yy: ~~~3 "net_pieces" 3 uT):yk P w K mg base 4 "pieces_of" 2 xy false:=by
 let⟨z,f,fd,z,z,F,hm,lk,hd⟩:=A.ex;show⟨f,fd,["channel","bent"],Jn F LY (zkk T yx yy) zhE,hm,F.kp,F.YO 2 lk hd (λ_ _ _ _ _ _ us a=>by let⟨z,z,rfl⟩:=Ir a;show⟨_,rfl,rfl⟩),F.YO 1 lk hd (λ_ _ _ _ _ _ us a=>by let⟨z,rfl⟩:=Iu a;show⟨_,rfl,rfl⟩)⟩
variable(Cm:yk P w K mg base 4 "pieces_of" 2 xy false)
include T in
theorem zhh(A:At K mg "pieces_at" (top 11)): ~~~1 "pieces_at" 3 AY:=cI 0 A zhC (NC.2 T)
variable(vJ: ~~~1 "pieces_at" 3 AY)
include T vJ in
theorem zfC(A:At K mg "pin_triples" (top 14)): ~~~2 "pin_triples" 2 AF:=cI 1 A zfP (NB.2 T vJ)
variable(yv: ~~~2 "pin_triples" 2 AF)
include T in
theorem zhi(A:At K mg "common_of" (top 10)): ~~~1 "common_of" 2 uQ:=cI 0 A zhB (NU.2 T)
variable(jV: ~~~1 "common_of" 2 uQ)
include T jV in
theorem zeN(A:At K mg "beneath_keep" (top 16)): ~~~2 "beneath_keep" 2 AK:=cI 1 A zfk (NY.2 T jV)
variable(yJ: ~~~2 "beneath_keep" 2 AK)
include T yJ in
theorem zeO(A:At K mg "keep_triples" (top 15)): ~~~3 "keep_triples" 1 AJ:=cI 2 A zfm (NO.2 T yJ)
variable(yE: ~~~3 "keep_triples" 1 AJ)
include T yv yE in
theorem zhN(A:At K mg "above_of" (top 13)): ~~~4 "above_of" 2 xC:=cI 3 A ziW (N1.2 T yv yE)
variable(Co: ~~~4 "above_of" 2 xC)
include T in
theorem zeP(A:At K mg "levels_found" (top 24)): ~~~1 "levels_found" 2 AI:=cI 0 A zfr (NM.2 T)
variable(yC: ~~~1 "levels_found" 2 AI)
include T in
theorem zeQ(A:At K mg "ring_without" (top 25)): ~~~1 "ring_without" 2 AH:=cI 0 A zfs (Ny.2 T)
variable(yu: ~~~1 "ring_without" 2 AH)
include T yC yu in
theorem zkl(A:At K mg "ranked" (top 23)): ~~~2 "ranked" 2 uN:=cI 1 A zk3 (Nz.2 T yC yu)
variable(pV: ~~~2 "ranked" 2 uN)
include T fg in
theorem zfD(A:At K mg "_law_spread" (top 60)): ~~~2 "_law_spread" 3 Az:=cI 1 A zfT (N5.2 T fg)
variable(Gf: ~~~2 "_law_spread" 3 Az)
include T in
theorem zhO(A:At K mg "in_order" (top 30)): ~~~1 "in_order" 1 xB:=cI 0 A zi0 (NQ.2 T)
variable(oN: ~~~1 "in_order" 1 xB)
include T oN in
theorem zeR(A:At K mg "level_groups" (top 29)): ~~~2 "level_groups" 2 AG:=cI 1 A zfy (NN.2 T oN)
variable(yD: ~~~2 "level_groups" 2 AG)
include T in
theorem zhj(A:At K mg "strips_of" (top 31)): ~~~1 "strips_of" 2 Au:=cI 0 A zhI (Nv.2 T)
variable(yq: ~~~1 "strips_of" 2 Au)
include T yD yq in
theorem zhk(A:At K mg "by_levels" (top 28)): ~~~3 "by_levels" 2 As:=cI 2 A zhJ (NX.2 T yD yq)
variable(yI: ~~~3 "by_levels" 2 As)
include T pV in
theorem zhl(A:At K mg "levels_of" (top 38)): ~~~3 "levels_of" 2 Ar:=cI 2 A zhK (NL.2 T pV)
variable(yB: ~~~3 "levels_of" 2 Ar)
include T in
theorem zhm(A:At K mg "uppers_of" (top 33)): ~~~1 "uppers_of" 2 AX:=cI 0 A zhG (Nt.2 T)
variable(yo: ~~~1 "uppers_of" 2 AX)
include T in
theorem zfZ(A:At K mg "are_behind" (top 34)): ~~~1 "are_behind" 3 AQ:=cI 0 A zg0 (N0.2 T)
variable(yL: ~~~1 "are_behind" 3 AQ)
include T jV in
theorem zhn(A:At K mg "may_share" (top 36)): ~~~2 "may_share" 2 xE:=cI 1 A zhF (NJ.2 T jV)
variable(oM: ~~~2 "may_share" 2 xE)
include T oM in
theorem zhP(A:At K mg "may_join" (top 35)): ~~~3 "may_join" 3 Aq:=cI 2 A zi4 (NK.2 T oM)
variable(yA: ~~~3 "may_join" 3 Aq)
include T oN yo yL yA in
theorem zjg(A:At K mg "by_rows" (top 32)): ~~~4 "by_rows" 2 Ay:=cI 3 A zke (NW.2 T yo oN yL yA)
variable(yH: ~~~4 "by_rows" 2 Ay)
include T in
theorem zhQ(A:At K mg "count_of" (top 27)): ~~~1 "count_of" 2 sO:=cI 0 A zi5 (NT.2 T)
variable(mv: ~~~1 "count_of" 2 sO)
include T yI yB yH mv in
theorem zkm(A:At K mg "packed" (top 37)): ~~~5 "packed" 2 An:=cI 4 A zk8 (ND.2 T yI yB yH mv)
variable(Ge: ~~~5 "packed" 2 An)
include T in
theorem zfE(A:At K mg "track_fault" (top 42)): ~~~1 "track_fault" 1 AD:=cI 0 A zfR (Nu.2 T)
variable(yp: ~~~1 "track_fault" 1 AD)
include T in
theorem zjh(A:At K mg "is_over" (top 45)): ~~~1 "is_over" 4 xt:=cI 0 A zkh (NP.2 T)
variable(nG: ~~~1 "is_over" 4 xt)
include T nG in
theorem zfF(A:At K mg "share_track" (top 44)): ~~~2 "share_track" 4 AE:=cI 1 A zfQ (Nx.2 T nG)
variable(yt: ~~~2 "share_track" 4 AE)
include T jV oM yt in
theorem zf0(A:At K mg "meet_fault" (top 43)): ~~~3 "meet_fault" 2 AO:=cI 2 A zg6 (NI.2 T yt oM jV)
variable(yz: ~~~3 "meet_fault" 2 AO)
include T nG in
theorem zfG(A:At K mg "order_fault" (top 46)): ~~~2 "order_fault" 3 AB:=cI 1 A zfS (NF.2 T nG)
variable(yw: ~~~2 "order_fault" 3 AB)
include T yp yz yw in
theorem zhR(A:At K mg "fault_of" (top 41)): ~~~4 "fault_of" 3 xA:=cI 3 A zi8 (NR.2 T yp yz yw)
variable(Cn: ~~~4 "fault_of" 3 xA)
include T in
theorem zdU(A:At K mg "_law_inherited" (top 61)): ~~~1 "_law_inherited" 4 A5:=cI 0 A zem (Od.2 T)
variable(Gi: ~~~1 "_law_inherited" 4 A5)
include T in
theorem zho(A:At K mg "_law_kept" (top 59)): ~~~1 "_law_kept" 2 A0:=cI 0 A zhz (Ob.2 T)
variable(Gh: ~~~1 "_law_kept" 2 A0)
include T Gk Gj Gg Cm Co pV Gf mv Ge Cn Gi Gh in
theorem zvM{f:ag}(c:af)(A:bh)(outer:List dZ)(s:aj)(H:Hp)(E:XK)(a:eF 5 (A.deeper (envOfC "law" (de (top 62)) *...* f c))) :
  hJ (kP iw P w K mg base ["_law_script","_law_lists","_law_channel_here","_law_pieces","_law_above","_law_finer","_law_below","_law_told","_law_other","_law_seed","_law_tracks"] "law" (de (top 62)) f c A outer s H E).nc (iu (top 62)) zH:=
 have b:=a.units;have nd:=WL.nd
 (az (bD 1 (bC Gj a (ai (ae 0) (ai ax au))) nd)
   (az (bD 2 (bC Gg a (ai (ae 1) au)) nd)
   (az (bD 3 (zoU Cm a (ai (ae 2) au)) nd)
   (az (bD 4 (bC Co a (ai (ae 2) (ai (ae 3) au))) nd)
   (az (bD 5 (bC Cm.all a (ai (ae 2) (ai qC au))) nd)
   (az (bD 6 (bC Co a (ai (ae 2) (ai (ae 5) au))) nd)
   (az (bD 7 (bC pV a (ai (dD jc T.b_len ig (ai (ae 3) au)) (ai (ae 4) au))) nd)
   (az (bD 8 (bC pV a (ai (dD jc T.b_len ig (ai (ae 5) au)) (ai (ae 6) au))) nd)
   (az (cU (bG (fF b) (aS (ae 7) ax) gj) (aI (cf (uG (qt b) (aS (ae 8) ax) (eA (ai gj (ai gj au)))))) cT)
   (az (cU (bG (Ip b) (aS (ae 8) ax) gj) (aI (cf qC)) cT)
   (az (bD 9 (dD (zS rfl) T.b_sum yX (ai (kd (ae 0) lT (jf ax)) au)) nd)
   (az (eN ee rfl (c6 (gi (ai (bC Ge a (ai (kf lS T.b_list lI (ai (ae 3) au)) (ai (kf lS T.b_list lI (ai (ae 4) au)) au))) (ai (bC Gf a (ai (ae 3) (ai (aS (ae 7) ax) (ai (ae 9) au)))) au)))) (aP 10 nd)
    (az (cU (bG pw (bC Cn a (ai (ae 3) (ai (ae 4) (ai (ae 10) au)))) fO) (aI (cf qC)) cT)
   (az (cU (bG (Ip b) (gh (Ux Gk a (ai (ae 2) (ai qC (ai (ae 3) (ai (ae 4) (ai (ae 10) au))))))) (bC mv a (ai (ae 3) (ai (ae 10) au)))) (aI (cf qC)) cT)
   (aI (cU (bG pw (bC Cn a (ai (ae 5) (ai (ae 6) (ai (bC Gi a (ai (ae 5) (ai (ae 3) (ai (ae 10) (ai (dD jc T.b_len ig (ai (aS (ae 1) ax) au)) au))))) au)))) fO) (aI (cf qC)) cT)))))
   (aI (cf (bC Gh a (ai (ae 2) (ai (ae 1) au)))))))))))))))))
def aaK(T:Txt K mg)(Oz:vN K mg "Channel" "Channel.__init__" E8 ["top","bottom","left","right","wide","bends","keeps"])(Oy:vN K mg "Layout" "Layout.__init__" E7 ["channel","bent","pieces","above","tracks","count"])(AA:At K mg "_law_stem" (top 48)/\At K mg "_law_named" (top 49)/\At K mg "_law_mix" (top 50)/\At K mg "_law_pins" (top 51)/\At K mg "_law_open" (top 56)/\At K mg "_law_many" (top 52)/\At K mg "_law_stretch" (top 53)/\At K mg "_law_bends" (top 54)/\At K mg "_law_keeps" (top 55)/\At K mg "_law_channel" (top 57)/\At K mg "_law_made" (top 58)/\At K mg "nets_of" (top 2)/\At K mg "ends_of" (top 1)/\At K mg "column_of" (top 4)/\At K mg "stretch_of" (top 5)/\At K mg "bend_columns" (top 9)/\At K mg "width_of" (top 3)/\At K mg "net_pieces" (top 8)/\At K mg "pieces_at" (top 11)/\At K mg "pin_triples" (top 14)/\At K mg "common_of" (top 10)/\At K mg "beneath_keep" (top 16)/\At K mg "keep_triples" (top 15)/\At K mg "above_of" (top 13)/\At K mg "levels_found" (top 24)/\At K mg "ring_without" (top 25)/\At K mg "ranked" (top 23)/\At K mg "_law_spread" (top 60)/\At K mg "in_order" (top 30)/\At K mg "level_groups" (top 29)/\At K mg "strips_of" (top 31)/\At K mg "by_levels" (top 28)/\At K mg "levels_of" (top 38)/\At K mg "uppers_of" (top 33)/\At K mg "are_behind" (top 34)/\At K mg "may_share" (top 36)/\At K mg "may_join" (top 35)/\At K mg "by_rows" (top 32)/\At K mg "count_of" (top 27)/\At K mg "packed" (top 37)/\At K mg "track_fault" (top 42)/\At K mg "is_over" (top 45)/\At K mg "share_track" (top 44)/\At K mg "meet_fault" (top 43)/\At K mg "order_fault" (top 46)/\At K mg "fault_of" (top 41)/\At K mg "_law_inherited" (top 61)/\At K mg "_law_kept" (top 59)/\At K mg "law" (top 62)/\True)(Ox:Gp K mg "pieces_of" u7 [.bool false])(rf:mg "law"=some (.ref fa)):∃fd:gH,(∀s u,BindsTo s fd ⟨[u],[]⟩ [("_law_script",u)])/\∀base:aB,jU P w K mg base iw 6 fa fd ["_law_script"] (vF K 1 (IM 63)):=by
 let⟨r,n,m,p,o,j,t,b,g,d,i,N,ab4,ab7,X,y,abF,M,R,S,ab6,z,ab0,v,D,V,U,q,ab2,C,Y,ab9,F,abG,x,J,I,ab8,ab5,Q,Z,ab1,W,L,O,ab3,e,h,B,l⟩:=AA;show zuY (T:=λ_=>zH) B rf WL (by walk_at"bn") (λbase f aJ A outer s H E hr=>?_) (λ_=>zrG);have Gm:vG P w K mg base 1 "Channel" 7 Aw:=zjd Oz T;have yN: ~~~1 "_law_stem" 2 AN:=zha T r;have yP: ~~~2 "_law_named" 1 AV:=zfU T yN n;have fg: ~~~1 "_law_mix" 2 qO:=zhL T m;have yO: ~~~2 "_law_pins" 4 AM:=zhb T fg p;have vK: ~~~1 "_law_open" 2 A2:=zhc T o;have vL: ~~~1 "_law_many" 5 A3:=zhd T j;have yM: ~~~1 "_law_stretch" 5 A7:=zeK T t;have yR: ~~~2 "_law_bends" 4 AU:=zfV T fg yM b;have yQ: ~~~2 "_law_keeps" 3 AS:=zfW T fg g;have Gj: ~~~3 "_law_channel" 2 A6:=zeL T yP fg yO vK vL yR yQ d;have Gg: ~~~3 "_law_made" 1 A1:=zhe T Gm i;have yx: ~~~1 "nets_of" 1 uR:=zje T N;have yF: ~~~1 "ends_of" 2 Av:=zjf T ab4;have yG: ~~~1 "column_of" 2 AZ:=zhf T ab7;have yr: ~~~2 "stretch_of" 2 AR:=zfX T yF yG X;have yK: ~~~1 "bend_columns" 2 AL:=zeM T y;have yn: ~~~1 "width_of" 2 xD:=zhM T abF;have yy: ~~~3 "net_pieces" 3 uT:=zfY T yr yK yn M;have Cm:yk P w K mg base 4 "pieces_of" 2 xy false:=zhg Ox T yx yy;have vJ: ~~~1 "pieces_at" 3 AY:=zhh T R;have yv: ~~~2 "pin_triples" 2 AF:=zfC T vJ S;have jV: ~~~1 "common_of" 2 uQ:=zhi T ab6;have yJ: ~~~2 "beneath_keep" 2 AK:=zeN T jV z;have yE: ~~~3 "keep_triples" 1 AJ:=zeO T yJ ab0;have Co: ~~~4 "above_of" 2 xC:=zhN T yv yE v;have yC: ~~~1 "levels_found" 2 AI:=zeP T D;have yu: ~~~1 "ring_without" 2 AH:=zeQ T V;have pV: ~~~2 "ranked" 2 uN:=zkl T yC yu U;have Gf: ~~~2 "_law_spread" 3 Az:=zfD T fg q;have oN: ~~~1 "in_order" 1 xB:=zhO T ab2;have yD: ~~~2 "level_groups" 2 AG:=zeR T oN C;have yq: ~~~1 "strips_of" 2 Au:=zhj T Y;have yI: ~~~3 "by_levels" 2 As:=zhk T yD yq ab9;have yB: ~~~3 "levels_of" 2 Ar:=zhl T pV F;have yo: ~~~1 "uppers_of" 2 AX:=zhm T abG;have yL: ~~~1 "are_behind" 3 AQ:=zfZ T x;have oM: ~~~2 "may_share" 2 xE:=zhn T jV J;have yA: ~~~3 "may_join" 3 Aq:=zhP T oM I;have yH: ~~~4 "by_rows" 2 Ay:=zjg T oN yo yL yA ab8;have mv: ~~~1 "count_of" 2 sO:=zhQ T ab5;have Gk:vG P w K mg base 2 "Layout" 5 Am:=zkj Oy T mv;have Ge: ~~~5 "packed" 2 An:=zkm T yI yB yH mv Q;have yp: ~~~1 "track_fault" 1 AD:=zfE T Z;have nG: ~~~1 "is_over" 4 xt:=zjh T ab1;have yt: ~~~2 "share_track" 4 AE:=zfF T nG W;have yz: ~~~3 "meet_fault" 2 AO:=zf0 T jV oM yt L;have yw: ~~~2 "order_fault" 3 AB:=zfG T nG O;have Cn: ~~~4 "fault_of" 3 xA:=zhR T yp yz yw ab3;have Gi: ~~~1 "_law_inherited" 4 A5:=zdU T e;have Gh: ~~~1 "_law_kept" 2 A0:=zho T h;show zvM T Gk Gj Gg Cm Co pV Gf mv Ge Cn Gi Gh aJ A outer s H E hr
end
end Wc
open PySem PySem.W PyProof.Rows
theorem PySem.W.Fast.te258676219578159979:True:=trivial
def PySem.W.Fast.tw12060603130686130515:aG:=PySem.Challenge.pw_wirechannel_k44_finer_pieces
theorem PySem.W.Fast.te12060603130686130515:PySem.Challenge.pw_wirechannel_k44_finer_pieces=PySem.W.Fast.tw12060603130686130515:=rfl
def PySem.W.Fast.tw11890554709434074242:List bY:=(PySem.Challenge.pw_wirechannel_k44_finer_pieces.main.body.drop 0).take 16
theorem PySem.W.Fast.te11890554709434074242:(PySem.Challenge.pw_wirechannel_k44_finer_pieces.main.body.drop 0).take 16=PySem.W.Fast.tw11890554709434074242:=rfl
def PySem.W.Fast.tw16116673226311191548:List bY:=(PySem.Challenge.pw_wirechannel_k44_finer_pieces.main.body.drop 16).take 4
theorem PySem.W.Fast.te16116673226311191548:(PySem.Challenge.pw_wirechannel_k44_finer_pieces.main.body.drop 16).take 4=PySem.W.Fast.tw16116673226311191548:=rfl
def PySem.W.Fast.tw13260028443748957084:List bY:=(PySem.Challenge.pw_wirechannel_k44_finer_pieces.main.body.drop 20).take 1
theorem PySem.W.Fast.te13260028443748957084:(PySem.Challenge.pw_wirechannel_k44_finer_pieces.main.body.drop 20).take 1=PySem.W.Fast.tw13260028443748957084:=rfl
def PySem.W.Fast.tw16400439875670505032:List bY:=(PySem.Challenge.pw_wirechannel_k44_finer_pieces.main.body.drop 21).take 7
theorem PySem.W.Fast.te16400439875670505032:(PySem.Challenge.pw_wirechannel_k44_finer_pieces.main.body.drop 21).take 7=PySem.W.Fast.tw16400439875670505032:=rfl
def PySem.W.Fast.tw15557947423467597420:List bY:=(PySem.Challenge.pw_wirechannel_k44_finer_pieces.main.body.drop 28).take 12
theorem PySem.W.Fast.te15557947423467597420:(PySem.Challenge.pw_wirechannel_k44_finer_pieces.main.body.drop 28).take 12=PySem.W.Fast.tw15557947423467597420:=rfl
def PySem.W.Fast.tw14567385830403919572:List bY:=(PySem.Challenge.pw_wirechannel_k44_finer_pieces.main.body.drop 40).take 6
theorem PySem.W.Fast.te14567385830403919572:(PySem.Challenge.pw_wirechannel_k44_finer_pieces.main.body.drop 40).take 6=PySem.W.Fast.tw14567385830403919572:=rfl
def PySem.W.Fast.tw210384207505235607:List bY:=(PySem.Challenge.pw_wirechannel_k44_finer_pieces.main.body.drop 46).take 13
theorem PySem.W.Fast.te210384207505235607:(PySem.Challenge.pw_wirechannel_k44_finer_pieces.main.body.drop 46).take 13=PySem.W.Fast.tw210384207505235607:=rfl
def PySem.W.Fast.tw4746221628050287036:List bY:=(PySem.Challenge.pw_wirechannel_k44_finer_pieces.main.body.drop 59).take 4
theorem PySem.W.Fast.te4746221628050287036:(PySem.Challenge.pw_wirechannel_k44_finer_pieces.main.body.drop 59).take 4=PySem.W.Fast.tw4746221628050287036:=rfl
namespace PySem.W.Fast
def tw7245052413382718447:=Nat
def tw12534426520354110871:=Nat
def tw9572240284853810745:=Nat
def tw2477028387167788568:=Nat
def tw5573791926465069046:=Nat
def tw7518756606286955072:=Nat
def tw9434928846000612162:=Nat
def tw1354067530511340226:=Nat
def tw17197126077007542484:=Nat
def tw8353583031544358551:=Nat
def tw9468515140770831213:=Nat
def tw3759007521145577364:=Nat
def tw1370970232454019555:=Nat
def tw3257635860872083614:=Nat
def tw10317594157565541206:=Nat
def tw12996860417647046624:=Nat
def tw14809077323448998949:=Nat
def tw9785636374662306745:=Nat
def tw11689017968686809570:=Nat
def tw1215366627059421948:=Nat
def tw5647178504682507830:=Nat
def tw4467119186849037518:=Nat
def tw8611438316134740884:=Nat
def tw15851895828003910788:=Nat
def tw13926445604509838545:=Nat
def tw13338211376611248823:=Nat
def tw538259964882117772:=Nat
def tw11009191146195652368:=Nat
def tw12711023490836208420:=Nat
def tw3624105007502332918:=Nat
def tw1151483379436251127:=Nat
def tw4482011229647727551:=Nat
def tw902518143311502038:=Nat
def tw2239224090970957576:=Nat
def tw4293890222665339167:=Nat
def tw11942588252320605838:=Nat
def tw10985755193228023897:=Nat
def tw5846758837901546110:=Nat
def tw1761142411877347428:=Nat
def tw1380507696927884627:=Nat
def tw1642511578762628970:=Nat
def tw17669556956154203366:=Nat
def tw11227372851478884813:=Nat
def tw6134649400914458912:=Nat
def tw4591607727527942272:=Nat
def tw6213929163461064794:=Nat
def tw9051108837350162482:=Nat
def tw9926929329128086953:=Nat
def tw5419018085181743361:=Nat
def tw18366231766899815087:=Nat
def tw11147747980615458853:=Nat
def tw994504724786864438:=Nat
def tw7556287846858511191:=Nat
def tw10947461761349021253:=Nat
def tw5548750082184610375:=Nat
def tw15752998015936394869:=Nat
def tw15396942403321658367:=Nat
def tw14294792867193111560:=Nat
def tw7931547733998048419:=Nat
def tw15641803020556026166:=Nat
def tw2806963323430776865:=Nat
def tw11478611985511312479:=Nat
def tw2716831472466362053:=Nat
def tw16671345838042065290:=Nat
def tw699686569187658882:=Nat
def tw15212199811514667620:=Nat
def tw16378872619826851558:=Nat
def tw408027398446854749:=Nat
def tw4708066002015277189:=Nat
def tw17438451417301884855:=Nat
def tw6588956989734099446:=Nat
def tw1824708453487905678:=Nat
def tw9279608897107312090:=Nat
def tw889821114712850683:=Nat
def tw15494066499764816866:=Nat
def tw7778425262359144056:=Nat
def tw2416205437133456480:=Nat
def tw762403390557432977:=Nat
def tw8363734271603928111:=Nat
def tw13063557274321880584:=Nat
def tw928534180368627382:=Nat
def tw3510631896624290987:=Nat
def tw14990350667050970568:=Nat
def tw893012933962558836:=Nat
def tw9998814099057037239:=Nat
def tw3581861221904611574:=Nat
def tw10394272586703945583:=Nat
def tw16660579339967102838:=Nat
def tw3036445514730998423:=Nat
def tw17495567347685284433:=Nat
def tw12210153925795967948:=Nat
def tw11992190638729957534:=Nat
def tw17114154301342487324:=Nat
def tw2204339746911795454:=Nat
def tw12641281764842628265:=Nat
def tw11047384883942037269:=Nat
def tw1517954188413068463:=Nat
def tw14134917234149774577:=Nat
def tw3780198188276510339:=Nat
def tw13850233726392537604:=Nat
def tw7069667512562891524:=Nat
def tw6523811340081400584:=Nat
def tw15974184465065453493:=Nat
def tw10205902550066952484:=Nat
def tw4865859140685874561:=Nat
def tw1806547628912715230:=Nat
def tw168550706019063437:=Nat
def tw2958985373136682774:=Nat
def tw6918050174566438477:=Nat
def tw13599230084749237374:=Nat
def tw13540734507234613737:=Nat
def tw14946309854503684165:=Nat
def tw11830306916452565072:=Nat
def tw4765038882319690280:=Nat
def tw10166431907664552417:=Nat
def tw3658905039288705992:=Nat
def tw4974242368959341391:=Nat
def tw2748062889470945245:=Nat
def tw4906981022582550779:=Nat
def tw14406240989866796230:=Nat
def tw15375768790117139784:=Nat
def tw16423185945850389239:=Nat
def tw12054928449565646188:=Nat
def tw16873310515613445911:=Nat
def tw16642092558950830870:=Nat
def tw10730892470716624160:=Nat
def tw9216140534045957108:=Nat
def tw12236576014924638166:=Nat
def tw6082815297930799662:=Nat
def tw8059379764879894766:=Nat
def tw10578145057240917887:=Nat
def tw17250971773994860066:=Nat
def tw7024158232882110467:=Nat
def tw6437806271353356258:=Nat
def tw10687820305010320500:=Nat
def tw4980640199343817762:=Nat
def tw6102583092667956563:=Nat
def tw8068901780628168739:=Nat
def tw16157501544748315495:=Nat
def tw14914743506105953624:=Nat
def tw16616178965622082388:=Nat
def tw14554465737845099227:=Nat
def tw5178546394506770047:=Nat
def tw8181483825681930587:=Nat
def tw14310038990043497471:=Nat
def tw1441934511375253214:=Nat
def tw4242506555690784787:=Nat
def tw3247762617665430479:=Nat
def tw8629893180770707557:=Nat
def tw7224019521110084179:=Nat
def tw17630133071896347456:=Nat
def tw8283629143037277300:=Nat
def tw8609461192237768798:=Nat
def tw5750211133344072907:=Nat
def tw2528377196458229486:=Nat
def tw8386179971259493064:=Nat
def tw1346342192259780586:=Nat
def tw12046787591240510192:=Nat
def tw8480486379855629993:=Nat
def tw4701214811882728360:=Nat
def tw3056168827775170378:=Nat
def tw13003495300977547796:=Nat
def tw17346119084459531193:=Nat
def tw9401476115244289848:=Nat
def tw10586675045725964879:=Nat
def tw14448644104845653308:=Nat
def tw1255156428307967222:=Nat
def tw13529011154128160452:=Nat
def tw1912215494077288803:=Nat
def tw4843012054381240126:=Nat
def tw5837770518204553636:=Nat
def tw17306706355068693810:=Nat
def tw8050181386323778776:=Nat
def tw16180748441671668467:=Nat
def tw8253650973665429287:=Nat
def tw10644495000899586728:=Nat
def tw14930791457849727686:=Nat
def tw2562388116348989217:=Nat
def tw7312614097815602104:=Nat
def tw11141666279576833621:=Nat
def tw17659375863265130022:=Nat
def tw17440450964195295198:=Nat
def tw6684232295006962939:=Nat
def tw12676046565838125003:=Nat
def tw12812973050303052284:=Nat
def tw5649275071469218142:=Nat
def tw9160250518579316223:=Nat
def tw9969613151792086040:=Nat
def tw2773945755988486328:=Nat
def tw18257873188483759882:=Nat
def tw3138275688403760839:=Nat
def tw4166561701966486711:=Nat
def tw2048674212421575347:=Nat
def tw4377150921813095368:=Nat
def tw10516348280597117609:=Nat
def tw17342447182068997926:=Nat
def tw15532066124491077380:=Nat
def tw16192539249398928267:=Nat
def tw5130995346049051757:=Nat
def tw7980195090911369556:=Nat
def tw14041309206771295156:=Nat
def tw13536111692772729115:=Nat
def tw8045825265624279498:=Nat
def tw324988443121199147:=Nat
def tw10592480106973220209:=Nat
def tw17437097920345123116:=Nat
def tw1311906521092527727:=Nat
def tw14712714681690975186:=Nat
def tw15626315777121844254:=Nat
def tw3867041151036219313:=Nat
def tw421718732138031094:=Nat
def tw12064858056780570163:=Nat
def tw8005401871262019503:=Nat
def tw4216362656719933943:=Nat
def tw13870520815973528751:=Nat
def tw6889094822345850302:=Nat
def tw3960734917672067552:=Nat
def tw9959113593434045429:=Nat
def tw4791118158828588669:=Nat
def tw8621985896872649024:=Nat
def tw16056708015333918943:=Nat
def tw2353770490395340269:=Nat
def tw17486250346219043673:=Nat
def tw14228289377024854786:=Nat
def tw2182550853660315211:=Nat
def tw16264585459000499868:=Nat
def tw16746532078314223431:=Nat
end PySem.W.Fast
def PySem.W.Fast.tw7240631655150358758:aG:={ PySem.Challenge.pw_wirechannel_k44_finer_pieces with main:={ PySem.Challenge.pw_wirechannel_k44_finer_pieces.main with body:=[1,2,3,4,5,8,9,10,11,13,14,15,16,18,20,21,23,24,25,27,28,29,30,31,32,33,34,35,36,37,38,40,41,42,43,44,45,46,48,49,50,51,52,53,54,55,56,57,58,59,60,61,62].map λi=>PySem.Challenge.pw_wirechannel_k44_finer_pieces.main.body.getD i (.Pass ⟨0,0,0,0⟩) } }
theorem PySem.W.Fast.te7240631655150358758:({ PySem.Challenge.pw_wirechannel_k44_finer_pieces with main:={ PySem.Challenge.pw_wirechannel_k44_finer_pieces.main with body:=[1,2,3,4,5,8,9,10,11,13,14,15,16,18,20,21,23,24,25,27,28,29,30,31,32,33,34,35,36,37,38,40,41,42,43,44,45,46,48,49,50,51,52,53,54,55,56,57,58,59,60,61,62].map λi=>PySem.Challenge.pw_wirechannel_k44_finer_pieces.main.body.getD i (.Pass ⟨0,0,0,0⟩) } }:aG)=PySem.W.Fast.tw7240631655150358758:=rfl
local macro_rules | `(tactic| walk_at"A")=>`(tactic| ((try dsimp only[L2.rG]);refine' L2.abA KX G ?a ?l ?c ?k;(case a=>k_is);(case l=>k_is);(case c=>k_is);(case k=>k_is)))
theorem PySem.Challenge.cw_wirechannel_k44_finer_pieces_holds : PySem.Challenge.rw_wirechannel_k44_finer_pieces.Holds := by
 w_on;o_law;k_head;(case hw=>w_witness2)
 k_fill
 show L2.aac (l:=PySem.Challenge.rw_wirechannel_k44_finer_pieces) (n:=63) (k:=6) (x:="_law_script") rfl (by decide) rfl ⟨rfl,by decide,by decide⟩ (λw h Y=>PySem.W.kIn_of Y) ?F
 case F=>
  intro w mg fa h KX G rf;have Oz:L2.vN (L2.rG KX) mg "Channel" "Channel.__init__" Wc.E8 ["top","bottom","left","right","wide","bends","keeps"]:=by
   dsimp only[L2.rG];refine' L2.YS KX G ?aC ?a1 ?i1 ?l1 ?c1 ?k1 ?pg ?hd ?po ?sa ?mk ?kc ⟨?n0,?n1,?n2,?n3,?n4,?n5,?n6,trivial⟩
   (case aC=>k_is)
   (case a1=>k_is)
   (case i1=>k_is)
   (case l1=>k_is)
   (case c1=>k_is)
   (case k1=>k_is)
   (case pg=>k_is)
   (case hd=>k_is)
   (case po=>k_is)
   (case sa=>k_is)
   (case mk=>k_is)
   (case kc=>k_is)
   (case n0=>unfold L2.fY;k_is)
   (case n1=>unfold L2.fY;k_is)
   (case n2=>unfold L2.fY;k_is)
   (case n3=>unfold L2.fY;k_is)
   (case n4=>unfold L2.fY;k_is)
   (case n5=>unfold L2.fY;k_is)
   (case n6=>unfold L2.fY;k_is)
  have Oy:L2.vN (L2.rG KX) mg "Layout" "Layout.__init__" Wc.E7 ["channel","bent","pieces","above","tracks","count"]:=by
   dsimp only[L2.rG];refine' L2.YS KX G ?aC ?a1 ?i1 ?l1 ?c1 ?k1 ?pg ?hd ?po ?sa ?mk ?kc ⟨?n0,?n1,?n2,?n3,?n4,?n5,trivial⟩
   (case aC=>k_is)
   (case a1=>k_is)
   (case i1=>k_is)
   (case l1=>k_is)
   (case c1=>k_is)
   (case k1=>k_is)
   (case pg=>k_is)
   (case hd=>k_is)
   (case po=>k_is)
   (case sa=>k_is)
   (case mk=>k_is)
   (case kc=>k_is)
   (case n0=>unfold L2.fY;k_is)
   (case n1=>unfold L2.fY;k_is)
   (case n2=>unfold L2.fY;k_is)
   (case n3=>unfold L2.fY;k_is)
   (case n4=>unfold L2.fY;k_is)
   (case n5=>unfold L2.fY;k_is)
  have Ox:L2.Gp (L2.rG KX) mg "pieces_of" Wc.u7 [.bool false]:=by
   dsimp only[L2.rG];refine' L2.abz KX G ?a ?l ?c ?k ?t
   (case a=>k_is);(case l=>k_is);(case c=>k_is);(case k=>k_is);(case t=>k_is)
  have T:Wc.Txt (L2.rG KX) mg:=by
   dsimp only[L2.rG];refine' ⟨lF KX G ?b_all,lF KX G ?b_dict,lF KX G ?b_enumerate,lF KX G ?b_int,lF KX G ?b_len,lF KX G ?b_list,lF KX G ?b_max,lF KX G ?b_min,lF KX G ?b_range,lF KX G ?b_set,lF KX G ?b_sorted,lF KX G ?b_sum,lF KX G ?b_zip⟩
   (case b_all=>k_is)
   (case b_dict=>k_is)
   (case b_enumerate=>k_is)
   (case b_int=>k_is)
   (case b_len=>k_is)
   (case b_list=>k_is)
   (case b_max=>k_is)
   (case b_min=>k_is)
   (case b_range=>k_is)
   (case b_set=>k_is)
   (case b_sorted=>k_is)
   (case b_sum=>k_is)
   (case b_zip=>k_is)
  show Wc.aaK T Oz Oy (by and_intros<;>first | trivial | walk_at"A") Ox rf
#print axioms PySem.Challenge.cw_wirechannel_k44_finer_pieces_holds
end
