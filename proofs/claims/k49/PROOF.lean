import PyProof.Rows.All
import Wide.All
import OpenK.AllK
import Wide.FinOn
import Lean
import PyProof.EqAt
import PyProof.EqKinds
import PyProof.TupleCall
import PyProof.IsiNone
import PyProof.NeKinds
import PyProof.MaxThree
import PyProof.Rows.SetFrom
import PyProof.WalksMore
import PyProof.CallStr
import KE.KRevIter
import PySem.Challenge.RW_mowfloor_k49_several_walks
set_option maxHeartbeats 4000000
set_option Elab.async false
set_option compiler.extract_closed false
open List (range range')
open Nat (beq)
noncomputable section
local macro_rules|`(∅)=>`(by decide)
local macro_rules|`(⇑$e)=>`(by simpa using $e)
local macro_rules|`(↥$_)=>`(by simp)
local macro_rules|`(tactic|let $p:term:=$e)=>do
 let q:=p.raw
 let X (s:Lean.Syntax):=s.isOfKind ``Lean.Parser.Term.explicit
 let I (s:String):=Lean.mkIdent (.mkSimple s)
 let l:=(if X q then q[1] else q)[1].getSepArgs
 let n:=l.size
 let j:=if X q then 0 else ((l.findIdx? X).map (·+1)).getD 99
 let mut b:Array Lean.Ident:=#[]
 let mut t:Array (Lean.TSyntax `tactic):=#[]
 let w:=I "ζ"
 let E:=e.raw
 let u:=E.getId
 let c:=j<99&&E.isIdent&&l.any fun s=>s.getId==u||s[1].getId==u
 let h:=I "ξ"
 let u:=u.toString
 let u:=if u.startsWith "ζ" then u else "ζ"
 let d:Lean.Term:=if c then h else e
 let r ←if c then `(tactic|(revert $(⟨e⟩):ident;intro $h:ident)) else `(tactic|skip)
 if j<99&&E.isIdent then t:=t.push (←`(tactic|try clear $(⟨d⟩):ident))
 for i in [0:n] do
  let s:=if i+1==j then l[i]![1] else l[i]!
  let z:=I s!"{u}{i}"
  if s.isIdent&&(j==99||s.getId != `rfl) then b:=b.push ⟨s⟩
  else
   b:=b.push z
   if s.isIdent then t:=t.push (←`(tactic|subst $z))
   else if !s.isOfKind ``Lean.Parser.Term.hole then t:=t.push (←`(tactic|let $(⟨s⟩):term:=$z))
 let A:=b.extract j n
 let B:=b.extract 0 j
 let k:=I s!"xE{j}"
 if j==99 then `(tactic|(obtain ⟨$[$b:ident],*⟩:=$e;$t;*)) else if j==0 then `(tactic|($r;refine $(I s!"xA{n}") ($d :) fun $b* =>?_;$t;*)) else if j+1==n then `(tactic|($r;refine $k ($d :) fun $b* =>?_;$t;*)) else `(tactic|($r;refine $k ($d :) fun $B* $w=>?_;refine $(I s!"xA{n-j}") $w fun $A* =>?_;clear $w;$t;*))
local macro_rules|`(command|def $i:declId $s:optDeclSig:=$v)=>if v.raw.isOfKind ``Lean.Parser.Term.paren then `(command|noncomputable def $i $s:optDeclSig:=$v) else (·.raw.rewriteBottomUp (·.setInfo .none))<$>`(command|theorem $i $(⟨.node .none ``Lean.Parser.Command.declSig #[s.raw[0],s.raw[1][0]]⟩):declSig:=$v)|`(command|def $i:declId $s:optDeclSig $v:matchAlts)=>`(command|noncomputable def $i $s:optDeclSig $v:matchAlts)|`(command|@[simp] def $i:declId $s:optDeclSig:=$v)=>`(command|@[simp] noncomputable def $i $s:optDeclSig:=$v)|`(command|@[simp] def $i:declId $s:optDeclSig $v:matchAlts)=>`(command|@[simp] noncomputable def $i $s:optDeclSig $v:matchAlts)|`(command|abbrev $i:declId $s:optDeclSig:=$v)=>`(command|noncomputable abbrev $i $s:optDeclSig:=$v)
local macro_rules|`(⋯)=>`(by lia)
open PySem renaming wpAny_bind->ao,wpAny_pure->aM,wpAny_newObj_type->gz,wpAny_holding->fM,wpAny_seqItems->gT,wpAny_call_entry->hP,wpAny_callSpecial?_slot->lA,codeAny_builtin->h2,wpAny_field->gJ,plainId_quiet->hV,wpAny_mono->g7,wpAny_setState_of->lh,builtinLookup_eq_fast->oA,wpAny_rule->iJ,wpAny_specialOf->mx,wpAny_updateSeq->mU,wpAny_forIn_list->nF,wpAny_Call_Name_kw->oT,wpAny_setField_rec->n9,wpAny_typeNameOfWhole_keyiter->vU,wpAny_isInstance->oe,wpAny_passesOwn->oK,typeLookup_type->oj,wpAny_setEntries_of->sX,wpAny_setField->oG,wpAny_attempt->ov,wpAny_truthy_bool->tX,call_meets->my,wpAny_fieldsOf->ru,wpAny_letGo->nQ,isSubtype_type->qz,wpAny_of_eq->og,wpAny_tryCatch->s_,wpAny_updateSeq_pair->z5,wpAny_execs_nil->uN,codeAny_mono->tu,isSubtype_stop->wZ,wpAny_pyIter_slot->xD,wpAny_dictEntries->zj,wpAny_standAt->wO,wpAny_newList->uF,wpAny_onRaise->v3,filterMap_getElem?_range->C4,noFill_tuple_add->z8,wpAny_pyIter_zip->x5,wpAny_askSetting->zt,wpAny_Call_method_late->JJ,richCompare_meets_room->EO,wpAny_dictEpoch->B7,codeAny_of_tree->zS,wpAny_ite_split->zE,wpAny_notOrdered_dict->II,wpAny_isOneOf_keyiter->Dz,seqIndex_of->uP,wpAny_newTuple->yN,wpAny_runValue->Ad,callType_codes->yB,codeAny_extend_loopS->J6,seq_tuple_add->zJ,wpAny_handled->Aq,wpAny_tupleItemsOf->E6,wpAny_load->u1,wpAny_getItem_heap->Fs,eqIsQuiet_byValue->Cz,wpAny_assign_Name->Hi,concat_meets->x3,wpAny_sequenceKey->Kx,seqIndex_neg->xM,slot_list_getitem->Ga,list_append->E7,wpAny_storeSet_of->F3,wpAny_setEpoch_of->Dt,wpAny_pyHash_int->CM,wpAny_pyHash_str->H2,wpAny_execs_cons->Dy,entryFor_of_tree->HQ,sizeLine_eq->zv,wpAny_throw->Bh,wpAny_Name->x8,wpAny_bindName->Dq,typeIs_int->x9,fitsIndex_both->D0,entryFor_alias->Js,evalPart_none->GB,call_list_seq->Gz,intBits_le_64->GH,signature?_of->I4,callType_new->Gy
open Option renaming bind_eq_some_iff->bC,map_eq_some_iff->cB,getD_some->tw,bind_some->rQ,map_some->r1,isSome_map->Bm,isSome_iff_exists->DF,getD_none->Hk
open PySem.Heap renaming get?_push_of_some->bJ,get?_push_size->cO,lt_size->bM,get?_update_other->g4,get?_update_self->jh,size_push->hb,get?_none_of_le->AJ
open List renaming append_assoc->bq,length_map->ba,getD_eq_getElem?_getD->cG,size_toArray->cv,mem_cons->bW,getElem?_eq_getElem->dz,mem_singleton->cX,append_nil->cA,length_append->c6,perm_append_comm->dy,getElem?_eq_some_iff->eA,map_cons->cy,length_cons->c8,mem_map->cW,nodup_append->d0,getElem?_map->ea,pairwise_singleton->f9,mem_append_right->fE,mem_of_getElem?->fL,take_append_drop->f7,mem_append->eh,mem_append_left->gd,length_drop->fg,map_append->eX,mem_range->eT,length_range->gh,pairwise_cons->gN,not_mem_nil->gq,length_take->gx,map_map->eP,getElem?_append_right->j6,drop_eq_getElem_cons->jF,getElem?_append_left->kL,nodup_cons->g5,length_pos_iff->jg,getElem?_zip_eq_some->mC,mem_iff_getElem->kF,nil_append->ih,length_nil->ik,flatMap_cons->jE,eq_nil_of_length_eq_zero->oy,map_congr_left->kH,pairwise_iff_getElem->nT,lookup_cons->jy,mem_nil_iff->jf,mem_cons_of_mem->lV,length_replicate->mK,length_singleton->mw,find?_cons->jd,getElem?_drop->lq,drop_of_length_le->m_,mem_cons_self->md,mem_of_mem_drop->m9,getElem?_take->mI,all_eq_true->k9,nodup_nil->kR,map_drop->kc,map_take->jO,length_zip->ll,getElem?_set_ne->n_,mem_of_mem_take->oF,drop_zero->lx,foldl_cons->mj,length_dropLast->rt,replicate_succ->qE,length_reverse->qf,any_eq_true->pa,getElem?_eq_none->tf,getElem?_toArray->tS,getElem_drop->p1,ext_getElem?->rl,pairwise_map->qS,any_cons->nI,filterMap_cons->sI,mem_map_of_mem->rH,cons_append->pP,drop_drop->od,take_length->q5,getElem?_set_self->w5,take_of_length_le->vv,of_mem_zip->pY,getLast?_cons_of_ne_nil->A4,take_sublist->sY,getElem?_of_mem->v5,mem_erase_of_ne->xv,length_eraseIdx->xj,dropLast_subset->vp,perm_ext_iff_of_nodup->Az,nodup_range->sA,getElem_mem->sN,count_replicate_self->Bf,filterMap_cons_some->xC,forIn_cons->sg,mem_filterMap->wH,getElem?_cons_succ->xW,range_succ_eq_map->Ay,flatten_cons->wg,getElem_take->ui,drop_take->sv,drop_sublist->xy,take_succ_eq_append_getElem->DG,count_append->w8,eraseIdxIfInBounds_toArray->D5,any_toArray->uU,mem_flatMap->vq,map_eq_cons_iff->B_,count_replicate->yy,mem_filter->uH,length_set->xq,map_nil->r_,take_take->u3,take_zero->uY,setIfInBounds_toArray->Jt,forIn_nil->vf,zip_cons_cons->yL,length_eraseIdx_of_lt->FZ,mem_of_find?_eq_some->K1,getLast?_eq_none_iff->Jq,foldl_append->B1,mem_of_mem_eraseIdx->Hm,length_erase_of_mem->K2,drop_length->zi,zipIdx_cons->yV,ext_getElem->BR,filter_cons->A7,length_eq_zero_iff->E3,flatMap_nil->Bv,pairwise_lt_range->Es,length_pos_of_mem->JS,singleton_append->Gx,pairwise_append->C1,extract_toArray->EM,perm_cons_erase->C6,getElem?_range->GL,map_eq_nil_iff->EF,set_comm->A0,map_filterMap->Hv,all_map->zC,getElem?_set->J9,set_set->zQ,reverse_cons->IY,getElem?_inj->J7,getElem_inj->Hz,map_toArray->IW,getElem_map->GQ,countP_cons->I6,map_fst_zip->HM,map_reverse->CU,getElem_zip->D1,range'_succ->Jc,zipIdx_nil->HX,find?_some->IC,range_succ->JP,zip_append->GX,any_map->Jj,map_id->Kk
open Nat renaming le_refl->bp,ne_of_lt->cZ,le_of_ble_eq_true->fC,lt_of_lt_of_le->fP,le_trans->fa,lt_or_ge->gS,zero_le->g0,le_add_right->jW,lt_succ_self->ko,ne_of_gt->iQ,lt_irrefl->j9,le_of_lt->m5,min_eq_left->qF,not_lt_zero->pO,lt_trichotomy->te,le_of_lt_succ->sr,lt_of_le_of_lt->vh,add_comm->rn,lt_trans->rk,lt_succ_of_lt->vH,lt_of_succ_lt_succ->AA,add_assoc->rG,succ_pos->rZ,not_lt->rr,mod_lt->rd,eq_zero_or_pos->AH,lt_add_of_pos_right->FP,mod_eq_of_lt->yh,min_self->xc,sub_zero->uX,eq_of_beq_eq_true->Dn,sub_self->Bo,mod_self->An,lt_succ_of_le->G2,min_eq_right->CS,le_succ->zp,add_zero->CW,zero_add->IZ,min_def->Jn
open Bool renaming and_eq_true->cU,false_ne_true->dj,false_eq_true->g_,eq_iff_iff->mv,not_true->rC,not_eq_true'->uV,or_eq_true->vz,and_false->BE,and_true->y9,false_bne->JM,false_or->Ds,true_bne->IA,or_false->Gq,true_or->JA,or_true->F1
open PySem.W renaming kasC_pure->bf,kasC_bind->bl,mg_none_of->iZ,kasC_range->gA,mg_of->mg,kasC_modify->kW,kasC_get->km,kasC_lift->om,cellsFrom_some->Hj,ktu_apart->Kd,kat_item->ve,kas_swaps_map->KD
open Array renaming length_toList->dq,getElem?_toList->e0,getElem?_eq_getElem->jN,getElem?_eq_some_iff->pv,forIn_toList->qU,ext'->k0,getElem?_eq_none->Be,toList_push->vT,toList_filterMap->Am,getD_eq_getD_getElem?->Ki,perm_iff_toList_perm->G8,getElem_toList->KV,size_map->x2,mem_toList_iff->Ge,size_push->JH
open List.Perm renaming append_left->d1,append_right->fI,map->uj,eq_of_pairwise->Na,flatMap_right->OS,cons_inv->Pq
open PySem.Around renaming under_plainId->ig
open PySem.F renaming plainAttrs_list->jI,slot_list_append->oV,type_list_append->o7,slot_dict_keyiterator_next->ti,called_set->nY,slot_tuple_iterator_next->vc,plain_extend_loop->sf,slot_zip_next->pR,slot_tuple_hash->rI,args_tuple_add_2->BG,slot_list_getattribute->Ag,slot_list_extend->AQ,type_list_extend->y8,entry_tuple_add->y3,slot_tuple_add->zV,args_dict_keyiterator_next_1->HP,entry_dict_keyiterator_next->FN,args_tuple_iterator_next_1->Fb,entry_tuple_iterator_next->JI,slot_dict_getitem->G3,plain_extend_loop->Eb,args_zip_next_1->yl,entry_zip_next->Ae,plain_list_iadd->Fo,plain_set_new->DQ,slot_set_iter->KL,slot_list_pop->HC,type_list_pop->Dc,args_list_append_2->Ef,args_list_extend_2->Lb,args_object_init_3->Ig,called_tuple->zD,entry_list_append->Ks,entry_list_extend->H3,entry_extend_loop->JZ,slot_list_append->D8,slot_list_extend->EP,slot_tuple_index->Fg,plain_list_iadd->EC,plain_tuple_new->Gj,slot_dict_iter->CC,typeCall_zip_2->HA,slot_int_rmul->CQ,newCall_zip_2->Cx,entry_zip_new->KC,called_zip->Jh
open PyProof.Rows renaming callWith_type1->lX,slot_tuple_getitem->rh,callWith_builtin1->zB,assignInOrder_cons->zG,subscriptTail_builtinR->Lc,entry_list_sort->AO,slot_list_sort->xR,args_list_sort->yK,entry_tuple_getitem->JV,args_tuple_getitem->Hh,assignInOrder_nil->Ji,plain_sorted->zA,entry_sorted->xI,args_sorted1->A1,kind_sorted->y7,get?_update_seq->He,slicePart_none->Ep,elem'_eq->wo,tupleItemsOf_->Kj,listUpdate_at->Jp,Call_->o5,tail_any->BN,lt_int->Pd,gt_int->Sb
open PySem.PassesOwn renaming never->iI
open Prod renaming ext->fj
open Int renaming le_refl->hl,toNat_natCast->kY,emod_lt_of_pos->nV,emod_nonneg->l_,emod_eq_of_lt->ry,le_trans->m3,natCast_add->z4,mul_add->xg,toNat_of_nonneg->KO,not_lt->t9,add_emod_right->DL,le_of_lt->IP,mul_one->Lp
open PySem.Heap.SameBut renaming update->mJ
open Ne renaming symm->eQ
open Classical renaming byContradiction->sx
open PyProof.Rows.F renaming plain_set_update_loop->xV,entry_set_update_loop->Gg
open PySem.Obj renaming data_mapFields->qm,isFreed_of_fields->Ac,cls_mapFields->yP
open PySem.Calls renaming spliced_cons->sJ,spliced_nil->sC,call_function_entry->Bl,Name_function_global->JO,callWith_builtin->H7,evalArgs_plain->FF
open PySem.AutoSeq1 renaming list_extend_list_list_0->Lr,sub_tuple_tuple->HZ
open PySem.SeqAt.RcNeAt renaming lists_lengths->GA,lists->DN,none_tuple->Nm,bool_tuple->RQ,tuple_none->Xt,tuple_bool->Pl,none_none->VD,none_bool->ML,bool_none->OD,bool_bool->Om,int_tuple->O5,str_tuple->Nj,tuple_int->Qh,tuple_str->Ml,none_int->Uh,none_str->Ta,bool_int->PM,bool_str->Sm,int_none->Me,int_bool->Mv,str_none->WO,str_bool->NY,int_int->QO,int_str->Nx,str_int->LL,str_str->W_,tuples->LM
open List.Pairwise renaming imp_of_mem->Gd,sublist->DZ,map->Lu,filterMap->UW,filter->Vc,imp₂->Mr
open PySem.SetTable renaming toList_insertAt->HL
open Std.Legacy.Range renaming forIn_eq_forIn_range'->Xr
open PyProof.Rows.LSm renaming kept_iter->BZ
open Prod.mk renaming injEq->zd
open PySem.SeqAt.EqAt renaming int_str->D2,str_int->DD,none_tuple->L1,bool_tuple->Vq,tuple_none->Sh,tuple_bool->Qp,none_bool->QW,bool_none->V6,bool_bool->Uy,int_tuple->LV,str_tuple->Py,tuple_int->RR,tuple_str->S6,none_int->PV,none_str->Wh,bool_int->Uo,bool_str->M3,int_none->MN,int_bool->Pg,str_none->S3,str_bool->U6,int_int->PT,str_str->Pr,of_refs->UG
open PySem.AutoListH renaming list___mul___list_int_3->N8
open PySem.SeqAt.RcAt renaming tuples->Jd,lists_lengths->QB,none_tuple->TX,bool_tuple->Qu,tuple_none->P8,tuple_bool->Xz,none_none->QA,none_bool->QH,bool_none->Wo,bool_bool->P7,int_tuple->O1,str_tuple->Rw,tuple_int->NT,tuple_str->VE,none_int->T_,none_str->M1,bool_int->WG,bool_str->SW,int_none->QY,int_bool->OX,str_none->Vh,str_bool->U3,int_int->PY,int_str->UT,str_int->XI,str_str->Sn,lists->TO
open PySem.IsL renaming update->H8
open PySem.W.Looks renaming of_pure->Lm
open List.Sublist renaming append_left->N9
open PySem renaming Scope->hO,Str->aG,Heap->aX,Value->ab,CmpOp->n3,Sem->dA,Addr->ag,Stmt->cf,Expr->bz,Obj->a3,Shared->ai,Around->bA,World->bh,Program->bO,Builtin->aY,cLine->bQ,model->aN,isInstance->xJ,Tok->hY,Paired->es,sysModules->j5,mainGlobals->dV,builtinsNs->zk,bootBuiltins->e4,Env->fA,GenState->vu,Model->gW,eval->b0,isTrue->ro,backTo->gp,starEach->bH,swapsWith->oQ,assign->ju,assignInOrder->A6,assignEach->hM,setItem->wB,swapsWithSole->uT,swappedStores->wa,bindName->vK,PassesOwn->ri,pyNext->fv,letOwnedTupleGo->ts,pyIter->o_,rawInt->eD,Walks->iD,foldedSetIterable->me,Operator->AZ,binaryOp->gr,compareOp->eS,behindInMarks->qk,recursionLimit->HH,Result->pG,FuncData->hL,BindsTo->nC,bindArgs->lQ,Keyword->mB,NameKind->dQ,cellsFrom->yn,richCompare->oW,IsPart->lG,getItem->nN,typeLookup->oM,seqIndex?->xG,sliceBounds->oY,typeOf->ug,attributeBase->ue,backToKw->wu,keywordEach->vB,valueAt->pb,atKey->kK,Params->uv,callerA->ot,cellOf->wJ,compEnvC->uo,comprehension->Ah,newList->pB,setField->vo,newExc->p9,newTuple->tv,firstArgMember->qP,field->jn,seqItems?->nj,shortFactorBits->wG,checkCount->yb,ZipApart->l2,IsZip->jL,IsPair->gE,updateSeq->nE,collect->uc,checkBuiltinCall->HG,getattributeRaised->Ht,entryFor->q8,table->qM,argsOk->sO,PyData->sk,SetTable->aT,hashByValue->w2,ofAClassStatement->w_,searchCouldBeSeen->FA,carriedByValue->Lg,setSearchFrom->Ff,drawOrder->yH,setNext->mV,setEntries->vV,pickOrder->jT,ItemsOf->uZ,argBest->uS
open Bool renaming true->aa,false->au
open Option renaming some->Z,none->Y
open PyProof.Rows renaming IsTup->pj,AllBare->mE,envOfC->jR,subscriptTail->GJ,IntsAre->rY,bubble->rO,SortKind->hq,Keyed->bk,SortSt->bD,pendingOf->iv,failedOf->iC,mergeAt'->uI,ltAt'->pJ,reverseSlice'->r8,seqObj->gc,keyKind'->yx,tuples'->qy
open PySem.W renaming WData->r6,WShape->sV,kas_rev->mX,kas_cmp->fX,kas_item->bg,kas_st->wy,Frag->Φ,nsIn->Ψ,fnOf->Ξ,keepIn->Θ,codeIn->Δ,methodObj->Γ
open PySem
abbrev aE:=@if_pos
abbrev aH:=@if_neg
abbrev dC:=@decide_eq_false
abbrev dx:=@decide_eq_true
abbrev gf:=@of_decide_eq_true
abbrev g8:=@decide_eq_true_iff
abbrev e9:=@or_false
abbrev f5:=@if_false
abbrev l5:=@beq_self_eq_true
abbrev h7:=@if_true
abbrev u5:=@beq_eq_false_iff_ne
abbrev BX:=@decide_eq_false_iff_not
abbrev wI:=@decide_eq_true_eq
abbrev pH:=@beq_iff_eq
abbrev ob:=@not_or
variable{YH:Sort _}{p:Prop}
def xE1{q:YH->Prop}(e:∃g,q g)(o:∀g,q g->p):p:=have ⟨g,D⟩:=e;o g D
variable{Zh:Sort _}
def xE2{q:YH->Zh->Prop}(e:∃g d,q g d)(o:∀g d,q g d->p):p:=have ⟨g,d,D⟩:=e;o g d D
variable{ZK:Sort _}
def xE3{q:YH->Zh->ZK->Prop}(e:∃g d n,q g d n)(o:∀g d n,q g d n->p):p:=have ⟨g,d,n,D⟩:=e;o g d n D
variable{ZL:Sort _}
def xE4{q:YH->Zh->ZK->ZL->Prop}(e:∃g d n u,q g d n u)(o:∀g d n u,q g d n u->p):p:=have ⟨g,d,n,u,D⟩:=e;o g d n u D
variable{ZM:Sort _}
def xE5{q:YH->Zh->ZK->ZL->ZM->Prop}(e:∃g d n u c,q g d n u c)(o:∀g d n u c,q g d n u c->p):p:=have ⟨g,d,n,u,c,D⟩:=e;o g d n u c D
variable{ZO:Sort _}
def xE6{q:YH->Zh->ZK->ZL->ZM->ZO->Prop}(e:∃g d n u c F,q g d n u c F)(o:∀g d n u c F,q g d n u c F->p):p:=have ⟨g,d,n,u,c,F,D⟩:=e;o g d n u c F D
variable{ZP:Sort _}
def xE7{q:YH->Zh->ZK->ZL->ZM->ZO->ZP->Prop}(e:∃g d n u c F J,q g d n u c F J)(o:∀g d n u c F J,q g d n u c F J->p):p:=have ⟨g,d,n,u,c,F,J,D⟩:=e;o g d n u c F J D
variable{YQ:Sort _}
def xE8{q:YH->Zh->ZK->ZL->ZM->ZO->ZP->YQ->Prop}(e:∃g d n u c F J a,q g d n u c F J a)(o:∀g d n u c F J a,q g d n u c F J a->p):p:=have ⟨g,d,n,u,c,F,J,a,D⟩:=e;o g d n u c F J a D
def xE9{b:Sort _}{q:YH->Zh->ZK->ZL->ZM->ZO->ZP->YQ->b->Prop}(e:∃g d n u c F J a r,q g d n u c F J a r)(o:∀g d n u c F J a r,q g d n u c F J a r->p):p:=have ⟨g,d,n,u,c,F,J,a,r,D⟩:=e;o g d n u c F J a r D
variable{g d:Prop}
def xA2(e:g/\d)(o:g->d->p):p:=o e.1 e.2
variable{n:Prop}
def xA3(e:g/\d/\n)(o:g->d->n->p):p:=o e.1 e.2.1 e.2.2
variable{u:Prop}
def xA4(e:g/\d/\n/\u)(o:g->d->n->u->p):p:=o e.1 e.2.1 e.2.2.1 e.2.2.2
variable{c:Prop}
def xA5(e:g/\d/\n/\u/\c)(o:g->d->n->u->c->p):p:=o e.1 e.2.1 e.2.2.1 e.2.2.2.1 e.2.2.2.2
variable{F:Prop}
def xA6(e:g/\d/\n/\u/\c/\F)(o:g->d->n->u->c->F->p):p:=o e.1 e.2.1 e.2.2.1 e.2.2.2.1 e.2.2.2.2.1 e.2.2.2.2.2
variable{J:Prop}
def xA7(e:g/\d/\n/\u/\c/\F/\J)(o:g->d->n->u->c->F->J->p):p:=o e.1 e.2.1 e.2.2.1 e.2.2.2.1 e.2.2.2.2.1 e.2.2.2.2.2.1 e.2.2.2.2.2.2
def xA8{a:Prop}(e:g/\d/\n/\u/\c/\F/\J/\a)(o:g->d->n->u->c->F->J->a->p):p:=o e.1 e.2.1 e.2.2.1 e.2.2.2.1 e.2.2.2.2.1 e.2.2.2.2.2.1 e.2.2.2.2.2.2.1 e.2.2.2.2.2.2.2
set_option linter.all false
set_option maxRecDepth 100000
namespace L2
open Spec PyProof.Rows
variable{YS:hO}{Zr f:aG}{YF e:aX}{aI:aG->Option ab}{Yz Y0:List aG}{Zc:n3}{F:ab->ab->dA ab}{cg Zw:List ag}{q YD:Pos}{ZD:List cf}{r w o a YU:Nat}{J:Int->Int->Int}{YT n c:bz}{Q:List bz}{Yo:Φ}{M:List (ag×a3)}{h Yn:ai}{B Yq:ab->ai->Prop}{O:bA}{Yu d g:ag}{l:bh}{YC:bO}{L:ab}{YM:List ab}
inductive V where
 | aV|aB (d:Bool)|int (a:Int)|str (f:aG)|tup (I:List V)|fn (g:ag)|aR (I:List V)|fd
mutual
def V.beq:V->V->Bool
 |.aV,.aV=>aa
 |.aB g,.aB d=>g==d
 |.int a,.int r=>decide (a=r)
 |.str f,.str H=>decide (f=H)
 |.tup g,.tup d=>V.mh g d
 |.fn g,.fn d=>decide (g=d)
 |.aR g,.aR d=>V.mh g d
 |.fd,.fd=>aa
 |_,_=>au
def V.mh:List V->List V->Bool
 |[],[]=>aa
 |g::s,d::i=>V.beq g d&&V.mh s i
 |_,_=>au
end
mutual
theorem V.beq_iff:∀g d:V,V.beq g d=aa↔g=d
 |.aV,d=>by cases d<;>simp[V.beq]
 |.aB g,d=>by cases d<;>simp[V.beq]
 |.int a,d=>by cases d<;>simp[V.beq]
 |.str f,d=>by cases d<;>simp[V.beq]
 |.tup f,d=>by
  cases d with
  |tup H=>rw[V.beq,V.yu f H];simp
  |_=>simp[V.beq]
 |.fn g,d=>by cases d<;>simp[V.beq]
 |.aR f,d=>by
  cases d with
  |aR H=>rw[V.beq,V.yu f H];simp
  |_=>simp[V.beq]
 |.fd,d=>by cases d<;>simp[V.beq]
theorem V.yu:∀g d:List V,V.mh g d=aa↔g=d
 |[],d=>by cases d<;>simp[V.mh]
 |f::s,d=>by
  cases d with
  |nil=>simp[V.mh]
  |cons H i=>rw[V.mh,cU,V.beq_iff f H,V.yu s i];simp
end
noncomputable instance:DecidableEq V:=λg d=>decidable_of_iff (V.beq g d=aa) (V.beq_iff g d)
mutual
def dS(e:aX):V->ab->Prop
 |.aV,v=>v=.none
 |.aB d,v=>v=.bool d
 |.int a,v=>∃i,v=.int a i
 |.str f,v=>∃i,v=.str f i
 |.fn g,v=>v=.ref g
 |.aR _,v=>∃g,v=.ref g
 |.fd,v=>∃g,v=.ref g
 |.tup I,v=>∃g m YJ w,v=.ref g/\e.get? g=Z m/\m.cls=.type "tuple" /\ m.data=.seq YJ w/\dM e I YJ.toList
def dM(e:aX):List V->List ab->Prop
 |[],Yl=>Yl=[]
 |u::I,Yl=>∃v s,Yl=v::s/\dS e u v/\dM e I s
end
mutual
def V.key:Nat->V->Bool
 |_,.int _=>aa
 |_,.str _=>aa
 |w+1,.tup I=>V.keys w I
 |_,_=>au
def V.keys:Nat->List V->Bool
 |_,[]=>aa
 |w,u::I=>V.key w u&&V.keys w I
end
mutual
def du(l:bh):V->Int
 |.int a=>hashInt a
 |.str f=>hashStr l f
 |.tup I=>reduceHash (aY.Tuple.tupleHashOf<|i2 l I)
 |_=>0
def i2(l:bh):List V->List Int
 |[]=>[]
 |u::I=>du l u::i2 l I
end
mutual
def uk:V->Nat
 |.tup I=>kz I+1
 |_=>1
def kz:List V->Nat
 |[]=>0
 |u::I=>uk u+kz I
end
theorem yd(l:bh):∀g d:List V,i2 l (g++d)=i2 l g++i2 l d
 |[],d=>rfl
 |u::g,d=>by rw[pP,i2,i2,yd l g d,pP]
theorem Bs:∀g d:List V,kz (g++d)=kz g+kz d
 |[],d=>by simp[kz]
 |u::g,d=>by rw[pP,kz,kz,Bs g d];lia
theorem C5{w:Nat}:∀{g d:List V},V.keys w (g++d)=aa->V.keys w d=aa
 |[],d,e=>e
 |u::g,d,e=>by rw[pP,V.keys,cU]at e;exact C5 e.2
theorem dM.length{e:aX}:∀{I:List V}{Yl:List ab},dM e I Yl->I.length=Yl.length
 |[],Yl,c=>by rw[show Yl=[] from c];rfl
 |u::I,Yl,c=>by
  let⟨v,@s,rfl,W,c⟩:=c;rw[c8,c8,dM.length c]
def uy(e R:aX):Prop:=(∀g m YJ w,e.get? g=Z m->m.cls=.type "tuple" -> m.data=.seq YJ w->R.get? g=Z m)
mutual
theorem dS.keep{e R:aX}(o:uy e R):∀{u:V}{v:ab},dS e u v->dS R u v
 |.aV,_,c=>c
 |.aB _,_,c=>c
 |.int _,_,c=>c
 |.str _,_,c=>c
 |.fn _,_,c=>c
 |.aR _,_,c=>c
 |.fd,_,c=>c
 |.tup I,_,c=>by
  let⟨g,m,YJ,@w,rfl,z,E,a,b⟩:=c;exact⟨g,m,YJ,w,rfl,o g m YJ w z E a,E,a,dM.keep o b⟩
theorem dM.keep{e R:aX}(o:uy e R):∀{I:List V}{Yl:List ab},dM e I Yl->dM R I Yl
 |[],_,c=>c
 |u::I,_,c=>by
  let⟨v,@s,rfl,z,E⟩:=c;exact⟨v,s,rfl,dS.keep o z,dM.keep o E⟩
end
theorem GF{e:aX}:∀(w:Nat) {f H:V}{v:ab},V.key w f=aa->V.key w H=aa->dS e f v->dS e H v->f=H
 |w,.int a,H,v,_,a7,h,b=>by
  let⟨@i,rfl⟩:=h;cases H with
  |int r=>let⟨@L,c⟩:=b;injection c with c;rw[c]
  |str D=>let⟨@L,c⟩:=b;cases c
  |tup I=>let⟨W,W,W,@W,c,W⟩:=b;cases c
  |_=>cases w<;>cases a7
 |w,.str D,H,v,_,a7,h,b=>by
  let⟨@i,rfl⟩:=h;cases H with
  |int r=>let⟨@L,c⟩:=b;cases c
  |str D=>let⟨@L,c⟩:=b;injection c with c;rw[c]
  |tup I=>let⟨W,W,W,@W,c,W⟩:=b;cases c
  |_=>cases w<;>cases a7
 |w+1,.tup I,H,v,n,a7,h,b=>by
  let⟨g,m,YJ,@k,rfl,z,E,q,t⟩:=h;cases H with
  |int r=>let⟨@L,c⟩:=b;cases c
  |str D=>let⟨@L,c⟩:=b;cases c
  |tup Q=>
   let⟨B,Y7,C,@F,c,l,G,j,x⟩:=b;cases c;rw[z]at l;cases l;rw[q]at j;injection j with j _;subst j;have all:∀(I Q:List V) (Yl:List ab),V.keys w I=aa->V.keys w Q=aa->dM e I Yl->dM e Q Yl->I=Q:=by
    intro I;induction I with
    |nil=>
     intro Q Yl W W g d;cases Q with
     |nil=>rfl
     |cons c Q=>let⟨W,@W,p,W⟩:=d;rw[show Yl=[] from g]at p;cases p
    |cons u I y=>
     intro Q Yl YK YR g d;let⟨v,@s,rfl,A,Zi⟩:=g;cases Q with
     |nil=>cases (show v::s=[] from d)
     |cons c Q=>
      let⟨J,@Zd,p,aQ,aS⟩:=d;cases p;rw[V.keys,cU]at YK YR;rw[GF w YK.1 YR.1 A aQ,y Q s YK.2 YR.2 Zi aS]
   rw[all I Q _ n a7 t x]
  |_=>cases a7
 |_,.aV,_,_,o,_,_,_=>by cases ‹Nat›<;>cases o
 |_,.aB _,_,_,o,_,_,_=>by cases ‹Nat›<;>cases o
 |_,.fn _,_,_,o,_,_,_=>by cases ‹Nat›<;>cases o
 |_,.aR _,_,_,o,_,_,_=>by cases ‹Nat›<;>cases o
 |_,.fd,_,_,o,_,_,_=>by cases ‹Nat›<;>cases o
 |0,.tup _,_,_,o,_,_,_=>by cases o
section
variable{Yw:bO}{l:bh}
theorem KH:∀(w:Nat) {O:bA}{Yq:ab->ai->Prop}{h:ai}{u:V}{v:ab}{B:Int->ai->Prop},V.key w u=aa->O.units+w<bQ->dS h.heap u v->B (du l u) {h with toks:=h.toks+uk u}->
  wpAny (aN Yw l) O (pyHash v) B Yq h
 |w,O,Yq,h,.int a,v,B,_,_,b,e=>by
  let⟨@i,rfl⟩:=b;exact CM e
 |w,O,Yq,h,.str a,v,B,_,_,b,e=>by
  let⟨@i,rfl⟩:=b;exact H2 e
 |w+1,O,Yq,h,.tup I,v,B,o,y,b,e=>by
  let⟨g,m,YJ,@k,rfl,r,x,hd,T⟩:=b;have j:h.TypeIs (.ref g) "tuple" := ⟨m,r,x⟩;unfold pyHash;first|unfold pyHashByItsType|skip
  first|refine ao (wpAny_cRoomFor_or (.inr ⋯) ?_)|skip
  refine ao (mx j rI.lookup ?_);show wpAny _ _ (if (Z (ab.builtin "tuple.__hash__")==Z ab.none)=aa then _ else _) B Yq h;rw[aH (by rw[beq_builtin_none];exact dj)];refine ao (mx j rI.lookup ?_);show wpAny _ _ (callSpecialIfBoundUnlessNone? (.ref g) "__hash__" _ >>= _) B Yq h;refine ao (wpAny_callSpecialIfBoundUnlessNone?_slot j rI<|hP rI j F.entry_tuple_hash ?_<|F.args_tuple_hash_1 _);show wpAny _ _ (aY.Tuple.tupleItemsOf (.ref g) >>= _) _ _ h;refine ao (E6 r hd ?_);refine ao ?_;rw[<-qU];refine nF _
   (λc_ (d:Array Int) Yn=>∃done left,I=done++left/\dM h.heap left c_/\d.toList=i2 l done/\Yn={h with toks:=h.toks+kz done})
   _ ?_ ?_ _ _ ⟨[],I,rfl,T,rfl,rfl⟩
  ·rintro f c_ d Yn ⟨done,left,rfl,n,p,rfl⟩;cases left with
   |nil=>cases (show f::c_=[] from n)
   |cons u left=>
    let⟨v,@s,c,z,t⟩:=n;cases c;have YR:=C5 (g:=done) (show V.keys w (done++u::left)=aa from o);rw[V.keys,cU]at YR;refine ao (KH w YR.1 (by show O.units+1+w<bQ;lia) z ?_);first
     | exact aM ⟨done++[u],left,by simp,t,by simp[p,yd,i2],by simp[Bs,kz,rG]⟩
     | exact ao (aM (aM ⟨done++[u],left,by simp,t,by simp[p,yd,i2],by simp[Bs,kz,rG]⟩))
  ·rintro d Yn ⟨done,left,rfl,n,p,rfl⟩;cases left with
   |cons u left=>let⟨W,@W,c,W⟩:=n;cases c
   |nil=>
   rw[cA]at e;show wpAny _ _ (retInt<|aY.Tuple.tupleHashOf d.toList) _ _ _;rw[p];refine wpAny_ret_mkInt ?_;show wpAny _ _ (if (decide (-(2:Int)^63<=aY.Tuple.tupleHashOf (i2 l done))&&decide (aY.Tuple.tupleHashOf (i2 l done)<2^63))=aa then _ else _) B Yq _;rw[du,uk]at e;unfold reduceHash at e;by_cases q:(decide (-(2:Int)^63<=aY.Tuple.tupleHashOf (i2 l done))&&decide (aY.Tuple.tupleHashOf (i2 l done)<2^63))=aa
   ·rw[aE q];rw[aE q]at e;exact aM (by simpa [rG] using e)
   ·rw[aH q];rw[aH q]at e;exact ao (iJ (aM (by simpa [rG] using e)))
 |_,_,_,_,.aV,_,_,o,_,_,_=>by cases ‹Nat›<;>cases o
 |_,_,_,_,.aB _,_,_,o,_,_,_=>by cases ‹Nat›<;>cases o
 |_,_,_,_,.fn _,_,_,o,_,_,_=>by cases ‹Nat›<;>cases o
 |_,_,_,_,.aR _,_,_,o,_,_,_=>by cases ‹Nat›<;>cases o
 |_,_,_,_,.fd,_,_,o,_,_,_=>by cases ‹Nat›<;>cases o
 |0,_,_,_,.tup _,_,_,o,_,_,_=>by cases o
mutual
def ct:V->V->Bool
 |.aV,.aV=>aa
 |.aB g,.aB d=>g==d
 |.aB g,.int r=>(if g then 1 else 0)==r
 |.int a,.aB d=>a==(if d then 1 else 0)
 |.int a,.int r=>a==r
 |.str f,.str H=>f==H
 |.tup g,.tup d=>eU g d
 |_,_=>au
def eU:List V->List V->Bool
 |[],[]=>aa
 |g::s,d::i=>ct g d&&eU s i
 |_,_=>au
end
mutual
def V.bo:Nat->V->Bool
 |_,.aV=>aa
 |_,.aB _=>aa
 |_,.int _=>aa
 |_,.str _=>aa
 |w+1,.tup I=>V.cQ w I
 |_,_=>au
def V.cQ:Nat->List V->Bool
 |_,[]=>aa
 |w,u::I=>V.bo w u&&V.cQ w I
end
theorem i8{w:Nat}:∀{I:List V}{r:Nat}{u:V},V.cQ w I=aa->I[r]?=Z u->V.bo w u=aa
 |[],r,u,_,e=>by simp at e
 |c::I,0,u,o,e=>by
  rw[V.cQ,cU]at o;simp at e;subst e;exact o.1
 |c::I,r+1,u,o,e=>by
  rw[V.cQ,cU]at o;exact i8 o.2 ⇑e
theorem dM.get{e:aX}:∀{I:List V}{Yl:List ab}{r:Nat}{v:ab},dM e I Yl->Yl[r]?=Z v->∃u,I[r]?=Z u/\dS e u v
 |[],Yl,r,v,g,c=>by rw[show Yl=[] from g]at c;simp at c
 |u::I,Yl,0,v,g,c=>by
  let⟨L,@s,rfl,a,Zi⟩:=g;simp at c;subst c;exact⟨u,rfl,a⟩
 |u::I,Yl,r+1,v,g,c=>by
  let⟨L,@s,rfl,a,Zi⟩:=g;let⟨@b,z,E⟩:=dM.get (r:=r) Zi ⇑c;exact⟨b,by simpa using z,E⟩
theorem Hg{e:aX}:∀(w:Nat) {f H:V}{v:ab},V.bo w f=aa->V.bo w H=aa->dS e f v->dS e H v->ct f H=aa
 |w,.aV,H,v,_,a7,h,b=>by
  cases (show v=.none from h);cases H with
  |aV=>rfl
  |aB d=>cases b
  |int r=>let⟨@L,c⟩:=b;cases c
  |str D=>let⟨@L,c⟩:=b;cases c
  |tup I=>let⟨W,W,W,@W,c,W⟩:=b;cases c
  |fn g=>cases w<;>cases a7
  |aR g=>cases w<;>cases a7
  |fd=>cases w<;>cases a7
 |w,.aB d,H,v,_,a7,h,b=>by
  cases (show v=.bool d from h);cases H with
  |aV=>cases b
  |aB n=>cases b;simp[ct]
  |int r=>let⟨@L,c⟩:=b;cases c
  |str D=>let⟨@L,c⟩:=b;cases c
  |tup I=>let⟨W,W,W,@W,c,W⟩:=b;cases c
  |fn g=>cases w<;>cases a7
  |aR g=>cases w<;>cases a7
  |fd=>cases w<;>cases a7
 |w,.int a,H,v,_,a7,h,b=>by
  let⟨@i,rfl⟩:=h;cases H with
  |aV=>cases b
  |aB n=>cases b
  |int r=>let⟨@L,c⟩:=b;cases c;simp[ct]
  |str D=>let⟨@L,c⟩:=b;cases c
  |tup I=>let⟨W,W,W,@W,c,W⟩:=b;cases c
  |fn g=>cases w<;>cases a7
  |aR g=>cases w<;>cases a7
  |fd=>cases w<;>cases a7
 |w,.str a,H,v,_,a7,h,b=>by
  let⟨@i,rfl⟩:=h;cases H with
  |aV=>cases b
  |aB n=>cases b
  |int r=>let⟨@L,c⟩:=b;cases c
  |str D=>let⟨@L,c⟩:=b;cases c;simp[ct]
  |tup I=>let⟨W,W,W,@W,c,W⟩:=b;cases c
  |fn g=>cases w<;>cases a7
  |aR g=>cases w<;>cases a7
  |fd=>cases w<;>cases a7
 |w+1,.tup I,H,v,q,a7,h,b=>by
  let⟨g,m,YJ,@k,rfl,z,E,t,x⟩:=h;cases H with
  |aV=>cases b
  |aB n=>cases b
  |int r=>let⟨@L,c⟩:=b;cases c
  |str D=>let⟨@L,c⟩:=b;cases c
  |fn g=>cases a7
  |aR g=>cases a7
  |fd=>cases a7
  |tup Q=>
   let⟨C,Y7,F,@G,c,l,J,j,y⟩:=b;cases c;rw[z]at l;cases l;rw[t]at j;injection j with j _;subst j;have all:∀(I Q:List V) (Yl:List ab),V.cQ w I=aa->V.cQ w Q=aa->dM e I Yl->dM e Q Yl->eU I Q=aa:=by
    intro I;induction I with
    |nil=>
     intro Q Yl W W g d;cases Q with
     |nil=>rfl
     |cons c Q=>let⟨W,@W,p,W⟩:=d;rw[show Yl=[] from g]at p;cases p
    |cons u I A=>
     intro Q Yl YK YR g d;let⟨v,@s,rfl,B,Zi⟩:=g;cases Q with
     |nil=>cases (show v::s=[] from d)
     |cons c Q=>
      let⟨M,@Zd,p,aQ,aS⟩:=d;cases p;rw[V.cQ,cU]at YK YR;rw[eU,Hg w YK.1 YR.1 B aQ,A Q s YK.2 YR.2 Zi aS];rfl
   rw[ct];exact all I Q _ q a7 x y
 |w,.fn _,_,_,o,_,_,_=>by cases w<;>cases o
 |w,.aR _,_,_,o,_,_,_=>by cases w<;>cases o
 |w,.fd,_,_,o,_,_,_=>by cases w<;>cases o
 |0,.tup _,_,_,o,_,_,_=>by cases o
def qK{c:Nat->Bool}:∀{I Q:List V},(∀(r:Nat) (f H:V),I[r]?=Z f->Q[r]?=Z H->c r=ct f H)->((range<|min I.length Q.length).all c&&I.length==Q.length)=eU I Q:=by
 have S:∀(I Q:List V) (F:Nat->Bool),(∀(r:Nat) (f H:V),I[r]?=Z f->Q[r]?=Z H->F r=ct f H)->((range<|min I.length Q.length).all F&&I.length==Q.length)=eU I Q:=by
  intro I;induction I with
  |nil=>intro Q F W;cases Q<;>simp[eU]
  |cons u I a=>
   intro Q F e;cases Q with
   |nil=>simp[eU]
   |cons n Q=>
    have:=a Q (λr=>F<|r+1) λr f H g d=>e (r+1) f H ⇑g ⇑d;rw[eU,<-this,<-e 0 u n rfl rfl];rw[c8,c8,show min (I.length+1) (Q.length+1)=min I.length Q.length+1 by lia,Ay,List.all_cons,zC,Bool.and_assoc];congr 2;rw[mv];simp
 exact λ{I Q} e=>S I Q c e
theorem ic{h:ai}:∀(w:Nat) {O:bA}{f H:V}{L v:ab},V.bo w f=aa->V.bo w H=aa->O.units+w+1<bQ->dS h.heap f L->dS h.heap H v->SeqAt.EqAt O h L v (ct f H)
 |w,O,.aV,H,L,v,_,a7,q,j,b=>by
  cases (show L=.none from j);cases H with
  |aV=>cases (show v=.none from b);exact SeqAt.EqAt.same _
  |aB d=>cases (show v=.bool d from b);exact QW d
  |int r=>let⟨@i,rfl⟩:=b;exact PV r i
  |str D=>let⟨@i,rfl⟩:=b;exact Wh D i
  |tup I=>let⟨g,m,YJ,@k,rfl,z,E,l,W⟩:=b;exact L1 ⟨m,z,E,k,l⟩ ⋯
  |fn g=>cases w<;>cases a7
  |aR g=>cases w<;>cases a7
  |fd=>cases w<;>cases a7
 |w,O,.aB d,H,L,v,_,a7,q,j,b=>by
  cases (show L=.bool d from j);cases H with
  |aV=>cases (show v=.none from b);exact V6 d
  |aB n=>cases (show v=.bool n from b);exact Uy d n
  |int r=>let⟨@i,rfl⟩:=b;exact Uo d r i
  |str D=>let⟨@i,rfl⟩:=b;exact M3 d D i
  |tup I=>let⟨g,m,YJ,@k,rfl,z,E,l,W⟩:=b;exact Vq d ⟨m,z,E,k,l⟩ ⋯
  |fn g=>cases w<;>cases a7
  |aR g=>cases w<;>cases a7
  |fd=>cases w<;>cases a7
 |w,O,.int a,H,L,v,_,a7,q,j,b=>by
  let⟨@e,rfl⟩:=j;cases H with
  |aV=>cases (show v=.none from b);exact MN a e
  |aB n=>cases (show v=.bool n from b);exact Pg a e n
  |int r=>let⟨@i,rfl⟩:=b;exact PT a e r i
  |str D=>let⟨@i,rfl⟩:=b;exact D2 a e D i
  |tup I=>let⟨g,m,YJ,@k,rfl,z,E,l,W⟩:=b;exact LV a e ⟨m,z,E,k,l⟩ ⋯
  |fn g=>cases w<;>cases a7
  |aR g=>cases w<;>cases a7
  |fd=>cases w<;>cases a7
 |w,O,.str a,H,L,v,_,a7,q,j,b=>by
  let⟨@e,rfl⟩:=j;cases H with
  |aV=>cases (show v=.none from b);exact S3 a e
  |aB n=>cases (show v=.bool n from b);exact U6 a e n
  |int r=>let⟨@i,rfl⟩:=b;exact DD a e r i
  |str D=>let⟨@i,rfl⟩:=b;exact Pr a e D i
  |tup I=>let⟨g,m,YJ,@k,rfl,z,E,l,W⟩:=b;exact Py a e ⟨m,z,E,k,l⟩ ⋯
  |fn g=>cases w<;>cases a7
  |aR g=>cases w<;>cases a7
  |fd=>cases w<;>cases a7
 |w+1,O,.tup I,H,L,v,t,a7,q,j,b=>by
  have F:=j;let⟨g,m,YJ,@k,rfl,z,E,l,u⟩:=j;have Za:h.heap.IsTuple g YJ:=⟨m,z,E,k,l⟩;cases H with
  |aV=>cases (show v=.none from b);exact Sh Za ⋯
  |aB n=>cases (show v=.bool n from b);exact Qp n Za ⋯
  |int r=>let⟨@i,rfl⟩:=b;exact RR r i Za ⋯
  |str D=>let⟨@i,rfl⟩:=b;exact S6 D i Za ⋯
  |fn g=>cases a7
  |aR g=>cases a7
  |fd=>cases a7
  |tup Q=>
   have G:=b;let⟨d,Y7,s,@J,rfl,M,N,P,x⟩:=b;by_cases c:g=d
   ·subst c;rw[Hg (w+1) t a7 F G];exact SeqAt.EqAt.same _
   ·have Zu:h.heap.IsTuple d s:=⟨Y7,M,N,J,P⟩;have y:=u.length;have A:=x.length;have R:YJ.toList.length=YJ.size:=by simp
    have S:s.toList.length=s.size:=by simp
    rw[R]at y;rw[S]at A;have p:=UG (A:=O) c (Jd (e:=λr=>ct (I.getD r .aV)<|Q.getD r .aV) Za Zu ⋯ λr T U=>by
     let⟨@Y2,B,al⟩:=u.get (r:=r) (v:=YJ[r]) (by rw[e0];simp[T]);let⟨@Y8,C,am⟩:=x.get (r:=r) (v:=s[r]) (by rw[e0];simp[U]);rw[cG,B,cG,C];exact ic w (i8 t B) (i8 a7 C) (by show O.units+1+w+1<bQ;lia) al am)
    rw[<-y,<-A,qK (I:=I) (Q:=Q) (λr f H g d=>by rw[cG,g,cG,d];rfl)]at p;rw[ct];exact p
 |w,O,.fn _,_,_,_,o,_,_,_,_=>by cases w<;>cases o
 |w,O,.aR _,_,_,_,o,_,_,_,_=>by cases w<;>cases o
 |w,O,.fd,_,_,_,o,_,_,_,_=>by cases w<;>cases o
 |0,O,.tup _,_,_,_,o,_,_,_,_=>by cases o
mutual
theorem Af:∀{w:Nat}{u:V},V.key w u=aa->V.bo w u=aa
 |w,.int _,_=>by cases w<;>rfl
 |w,.str _,_=>by cases w<;>rfl
 |w+1,.tup I,e=>by rw[V.key]at e;rw[V.bo];exact Lk e
 |0,.tup _,e=>by cases e
 |w,.aV,e=>by cases w<;>cases e
 |w,.aB _,e=>by cases w<;>cases e
 |w,.fn _,e=>by cases w<;>cases e
 |w,.aR _,e=>by cases w<;>cases e
 |w,.fd,e=>by cases w<;>cases e
theorem Lk:∀{w:Nat}{I:List V},V.keys w I=aa->V.cQ w I=aa
 |w,[],_=>by rw[V.cQ]
 |w,u::I,e=>by rw[V.keys,cU]at e;rw[V.cQ,Af e.1,Lk e.2];rfl
end
mutual
theorem CP:∀{w:Nat}{f H:V},V.key w f=aa->V.key w H=aa->ct f H=decide (f=H)
 |w,.int a,H,_,b=>by
  cases H with
  |int r=>rw[ct];by_cases c:a=r<;>simp[c]
  |str D=>simp[ct]
  |tup D=>simp[ct]
  |_=>cases w<;>cases b
 |w,.str a,H,_,b=>by
  cases H with
  |int r=>simp[ct]
  |str D=>rw[ct];by_cases c:a=D<;>simp[c]
  |tup D=>simp[ct]
  |_=>cases w<;>cases b
 |w+1,.tup I,H,d,b=>by
  cases H with
  |int r=>simp[ct]
  |str D=>simp[ct]
  |tup Q=>
   rw[V.key]at d b;rw[ct,BF d b];simp
  |_=>cases b
 |0,.tup _,_,e,_=>by cases e
 |w,.aV,_,e,_=>by cases w<;>cases e
 |w,.aB _,_,e,_=>by cases w<;>cases e
 |w,.fn _,_,e,_=>by cases w<;>cases e
 |w,.aR _,_,e,_=>by cases w<;>cases e
 |w,.fd,_,e,_=>by cases w<;>cases e
theorem BF:∀{w:Nat}{f H:List V},V.keys w f=aa->V.keys w H=aa->eU f H=decide (f=H)
 |w,[],H,_,_=>by cases H<;>simp[eU]
 |w,u::I,[],_,_=>by simp[eU]
 |w,u::I,c::Q,a,b=>by
  rw[V.keys,cU]at a b;rw[eU,CP a.1 b.1,BF a.2 b.2];by_cases z:u=c<;>by_cases E:I=Q<;>simp[z,E]
end
theorem xp:∀(w:Nat) {O:bA}{Yq:ab->ai->Prop}{h:ai}{u:V}{v:ab}{B:Bool->ai->Prop},V.key w u=aa->dS h.heap u v->B aa h->wpAny (aN Yw l) O (eqIsQuiet w v) B Yq h
 |w,O,Yq,h,.int a,v,B,_,b,e=>by
  let⟨@i,rfl⟩:=b;rw[Cz w rfl];exact aM e
 |w,O,Yq,h,.str a,v,B,_,b,e=>by
  let⟨@i,rfl⟩:=b;rw[Cz w rfl];exact aM e
 |w+1,O,Yq,h,.tup I,v,B,o,b,e=>by
  let⟨g,m,YJ,@k,rfl,j,q,hd,T⟩:=b;have n:h.TypeIs (.ref g) "tuple" := ⟨m,j,q⟩;unfold eqIsQuiet;refine ao (mx n F.slot_tuple_eq.lookup ?_);show wpAny _ _ (xJ (.ref g) (.type "tuple") >>= _) _ _ h;refine ao (oe n isSubtype_tuple_tuple ?_);simp only[rC,g_,f5];refine ao (gT j hd ?_);refine ao ?_;show wpAny _ _ (forIn YJ _ _) _ _ h;rw[<-qU];rw[V.key]at o;refine nF _ (λc_ s Yn=>s.1=Y/\Yn=h/\∃left,V.keys w left=aa/\dM h.heap left c_) _ ?_ ?_ _ _ ⟨rfl,rfl,I,o,T⟩
  ·rintro v c_ s Yn ⟨d,rfl,left,f,p⟩;cases left with
   |nil=>cases (show v::c_=[] from p)
   |cons u left=>
    let⟨t,@Zd,c,z,r⟩:=p;cases c;rw[V.keys,cU]at f;refine ao (xp w f.1 z ?_);simp only[rC,g_,f5];exact aM ⟨rfl,rfl,left,f.2,r⟩
  ·rintro⟨x,y⟩ Yn ⟨d,rfl,W⟩;simp only at d;subst d;exact aM e
 |_,_,_,_,.aV,_,_,o,_,_=>by cases ‹Nat›<;>cases o
 |_,_,_,_,.aB _,_,_,o,_,_=>by cases ‹Nat›<;>cases o
 |_,_,_,_,.fn _,_,_,o,_,_=>by cases ‹Nat›<;>cases o
 |_,_,_,_,.aR _,_,_,o,_,_=>by cases ‹Nat›<;>cases o
 |_,_,_,_,.fd,_,_,o,_,_=>by cases ‹Nat›<;>cases o
 |0,_,_,_,.tup _,_,_,o,_,_=>by cases o
def eC(Yw:bO)(l:bh):HeapKind Yw l (List V) where
 is:=λe I g=>V.keys 7 I=aa/\dS e (.tup I) (.ref g)
 hash:=λI=>du l (.tup I)
 draws:=λI=>uk (.tup I)
 room:=λO=>O.units+10<bQ
 inj:=λa b=>by
  have:=GF 8 (f:=.tup _) (H:=.tup _) a.1 b.1 a.2 b.2;injection this
 keeps:=λ{e R o g u m Q YW} f n hd Ys=>⟨f.1,f.2.keep λd L YJ w i r k=>by
  have q:d≠u:=by
   rintro rfl;rw[n]at i;cases i;rw[hd]at k;cases k
  exact (Ys.2 d q).trans i⟩
 pyHash:=λj c e=>KH 8 (u:=.tup _) c.1 (show _<_ by have:_+10<bQ:=j;lia) c.2 e
 eqBool:=λ{O Yq h f H g d B} j a b e=>by
  have p:=ic (h:=h) 8 (O:=O) (f:=.tup f) (H:=.tup H) (Af (w:=8) (u:=.tup f) a.1) (Af (w:=8) (u:=.tup H) b.1) (show _<_ by have:O.units+10<bQ:=j;lia) a.2 b.2;rw[CP (w:=8) (f:=.tup f) (H:=.tup H) a.1 b.1]at p;exact p _ _ Yq B ⇑e
 quiet:=λc e=>xp 8 (u:=.tup _) c.1 c.2 e
end
abbrev eO:=Sum Int aG
def qY:eO->ab->Bool
 |.inl o,v=>ab.isInt o v
 |.inr f,v=>ab.isStrOf f v
def Mi(l:bh):eO->Int
 |.inl o=>hashInt o
 |.inr f=>hashStr l f
theorem mD:∀{o:eO}{v:ab},qY o v=aa->(∃a i,o=Sum.inl a/\v=ab.int a i)\/(∃f i,o=Sum.inr f/\v=ab.str f i)
 |.inl a,v,e=>by
  let⟨@i,c⟩:=ab.isInt_shape (k:=a) (v:=v) e;exact .inl ⟨a,i,rfl,c⟩
 |.inr f,v,e=>by
  let⟨@i,c⟩:=ab.isStrOf_shape (x:=f) (v:=v) e;exact .inr ⟨f,i,rfl,c⟩
def SX(a:Int)(i:hY):qY (.inl a) (.int a i)=aa:=by simp[qY,ab.isInt]
def Po(f:aG)(i:hY):qY (.inr f) (.str f i)=aa:=by simp[qY,ab.isStrOf]
def SJ(g d:Int):decide ((Sum.inl g:eO)=Sum.inl d)=(g==d):=by
 by_cases c:g=d
 ·subst c;simp
 ·have e:¬ (Sum.inl g:eO)=Sum.inl d:=λp=>c (Sum.inl.inj p);rw[dC e];exact (u5.mpr c).symm
def Mw(g d:aG):decide ((Sum.inr g:eO)=Sum.inr d)=decide (g=d):=by
 by_cases c:g=d
 ·subst c;simp
 ·have e:¬ (Sum.inr g:eO)=Sum.inr d:=λp=>c (Sum.inr.inj p);rw[dC e,dC c]
def OT(g:Int)(d:aG):decide ((Sum.inl g:eO)=Sum.inr d)=au:=dC (λp=>nomatch p)
def WV(g:aG)(d:Int):decide ((Sum.inr g:eO)=Sum.inl d)=au:=dC (λp=>nomatch p)
def nJ(Yw:bO)(l:bh):PySem.KeyKind Yw l eO where
 is:=qY
 hash:=Mi l
 inj:=λv g d k j=>by
  rcases mD k with ⟨a,i,rfl,rfl⟩|⟨f,i,rfl,rfl⟩
  ·rcases mD j with ⟨r,L,rfl,c⟩|⟨H,L,rfl,c⟩
   ·injection c with b _;rw[b]
   ·exact nomatch c
  ·rcases mD j with ⟨r,L,rfl,c⟩|⟨H,L,rfl,c⟩
   ·exact nomatch c
   ·injection c with b _;rw[b]
 byValue:=λo v e=>by
  rcases mD e with ⟨a,i,rfl,rfl⟩|⟨f,i,rfl,rfl⟩<;>rfl
 pyHash:=λh e=>by
  rcases mD h with ⟨a,i,rfl,rfl⟩|⟨f,i,rfl,rfl⟩
  ·exact CM e
  ·exact H2 e
 eqBool:=λm h e=>by
  rcases mD m with ⟨a,i,rfl,rfl⟩|⟨f,i,rfl,rfl⟩
  ·rcases mD h with ⟨r,L,rfl,rfl⟩|⟨H,L,rfl,rfl⟩
   ·rw[SJ]at e;exact wpAny_eqBool_int e
   ·rw[OT]at e;exact D2 a i H L _ _ _ _ e
  ·rcases mD h with ⟨r,L,rfl,rfl⟩|⟨H,L,rfl,rfl⟩
   ·rw[WV]at e;exact DD f i r L _ _ _ _ e
   ·rw[Mw]at e;exact wpAny_eqBool_str e
 «strs»:=λo f i v e=>by
  rcases mD e with ⟨a,L,rfl,c⟩|⟨H,L,rfl,c⟩
  ·exact nomatch c
  ·injection c with b _;subst b;cases v<;>rfl
def W6(Yw:bO)(l:bh)(a:Int)(i:hY):(nJ Yw l).is (.inl a) (.int a i)=aa:=SX a i
def Ts(Yw:bO)(l:bh)(f:aG)(i:hY):(nJ Yw l).is (.inr f) (.str f i)=aa:=Po f i
inductive av where
 | aV|aB (d:Bool)|int (a:Int)|str (f:aG)|tH (d:Array UInt8)|AX (d:UInt64)|ref (g:ag)|ty (w:String)
 deriving DecidableEq
variable{Yl x:List av}{H v:av}
def cw:av->ab->Prop
 |.aV,L=>L=ab.none
 |.aB d,L=>L=ab.bool d
 |.int a,L=>∃i,L=ab.int a i
 |.str f,L=>∃i,L=ab.str f i
 |.tH d,L=>∃i,L=ab.bytes d i
 |.AX d,L=>∃i,L=ab.float d i
 |.ref g,L=>L=ab.ref g
 |.ty w,L=>L=ab.type w
abbrev bS:List av->List ab->Prop:=es cw
def bS.length(s:bS x YM):x.length=YM.length:=es.length s
theorem bS.get:∀{x:List av}{YM:List ab}{a:Nat}{f:av},bS x YM->x[a]?=Z f->∃L,YM[a]?=Z L/\cw f L
 |_,_,_,_,.nil,c=>by simp at c
 |_,_,0,_,.cons s _,c=>by simp at c;subst c;exact⟨_,rfl,s⟩
 |_,_,a+1,f,.cons _ i,c=>by
  let⟨@L,z,E⟩:=bS.get (a:=a) (f:=f) i ⇑c;exact⟨L,by simpa using z,E⟩
theorem bS.set{f:av}{L:ab}(s:cw f L):∀{x:List av}{YM:List ab} (a:Nat),bS x YM->bS (x.set a f) (YM.set a L)
 |_,_,_,.nil=>.nil
 |_,_,0,.cons _ i=>.cons s i
 |_,_,a+1,.cons p i=>.cons p (bS.set s a i)
theorem bS.append:∀{x YA:List av}{YM P:List ab},bS x YM->bS YA P->bS (x++YA) (YM++P)
 |_,_,_,_,.nil,h=>h
 |_,_,_,_,.cons s i,h=>.cons s (bS.append i h)
theorem bS.take:∀{x:List av}{YM:List ab} (w:Nat),bS x YM->bS (x.take w) (YM.take w)
 |_,_,0,_=>.nil
 |_,_,_+1,.nil=>.nil
 |_,_,w+1,.cons s i=>.cons s (bS.take w i)
theorem bS.drop:∀{x:List av}{YM:List ab} (w:Nat),bS x YM->bS (x.drop w) (YM.drop w)
 |_,_,0,s=>s
 |_,_,_+1,.nil=>.nil
 |_,_,w+1,.cons _ i=>bS.drop w i
def k6:Option av->Option ab->Prop
 |some v,Z L=>cw v L
 |none,Y=>True
 |_,_=>False
def gy{YQ:Type}:List (YQ×av)->List (YQ×ab)->Prop:=(es λ(q:YQ×av) (p:YQ×ab)=>q.1=p.1/\cw q.2 p.2)
def cK:eO->av
 |.inl a=>.int a
 |.inr f=>.str f
inductive gu where
 | lst (x:List av)
 | tup (x:List av)
 | dU (YE:List (eO×av))|bN (YE:List (List V×av))
 | set (YB:Int->Bool) (w:Nat)
 | ins (aP k:ag) (aJ:List (aG×av))
 | own (f:ag)
 | z6 (aJ:List (aG×av))
 | met (F f:ag)
 | pn (G T:Int)
 | dF (m:a3) (L:gu)
 | ps (Yz:Array ab)
 | ext (Yi:aX->Prop)
variable{m:gu}
abbrev ay:=ag->Option gu
variable{P j:ay}
def upd(j:ay)(g:ag)(m:gu):ay:=(λd=>if d=g then Z m else j d)
def e8:upd j g m g=Z m:=by unfold upd;rw[aE rfl]
def dr(e:d≠g):upd j g m d=j d:=by unfold upd;rw[aH e]
def S_{L:gu}(e:j g=Z m)(R:j d=Z L)(u:m≠L):g≠d:=by
 intro c;subst c;rw[e]at R;exact u (Option.some.inj R)
def hW(e:j g=Z m)(R:j d=Y):g≠d:=by
 intro c;subst c;rw[e]at R;cases R
mutual
def cH(j:ay):V->av->Prop
 |.aV,v=>v=.aV
 |.aB d,v=>v=.aB d
 |.int a,v=>v=.int a
 |.str f,v=>v=.str f
 |.fn g,v=>v=.ref g
 |.aR I,v=>∃g x m,v=.ref g/\j g=Z (.dF m<|.lst x)/\bb j I x
 |.fd,v=>∃g m,v=.ref g/\j g=Z (.dF m<|.bN [])
 |.tup I,v=>∃g x,v=.ref g/\j g=Z (.tup x)/\bb j I x
def bb(j:ay):List V->List av->Prop
 |[],Yl=>Yl=[]
 |u::I,Yl=>∃v s,Yl=v::s/\cH j u v/\bb j I s
end
def tZ(j P:ay):Prop:=(∀g x,j g=Z (.tup x)->P g=Z (.tup x))
structure p_(j P:ay):Prop where
 t:tZ j P
 z:∀g m L,j g=Z (.dF m L)->P g=Z (.dF m L)
noncomputable instance {j P:ay}:CoeFun (p_ j P) (λ_=>∀g x,j g=Z (.tup x)->P g=Z (.tup x)):=⟨λi=>i.t⟩
mutual
theorem cH.mono{j P:ay}(o:p_ j P):∀{u:V}{v:av},cH j u v->cH P u v
 |.aV,_,c=>c
 |.aB _,_,c=>c
 |.int _,_,c=>c
 |.str _,_,c=>c
 |.fn _,_,c=>c
 |.tup I,_,c=>by
  let⟨g,@x,rfl,z,E⟩:=c;exact⟨g,x,rfl,o.t g x z,bb.mono o E⟩
 |.aR I,_,c=>by
  let⟨g,x,@m,rfl,z,E⟩:=c;exact⟨g,x,m,rfl,o.z g _ _ z,bb.mono o E⟩
 |.fd,_,c=>by
  let⟨g,@m,rfl,z⟩:=c;exact⟨g,m,rfl,o.z g _ _ z⟩
theorem bb.mono{j P:ay}(o:p_ j P):∀{I:List V}{Yl:List av},bb j I Yl->bb P I Yl
 |[],_,c=>c
 |u::I,_,c=>by
  let⟨v,@s,rfl,z,E⟩:=c;exact⟨v,s,rfl,cH.mono o z,bb.mono o E⟩
end
def iB(j:ay)(o:List V)(d:ag):Prop:=(V.keys 7 o=aa/\cH j (.tup o) (.ref d))
mutual
theorem cH.rL{j P:ay}(o:tZ j P):∀{u:V}{w:Nat}{v:av},V.key w u=aa->cH j u v->cH P u v
 |.aV,_,_,_,c=>c
 |.aB _,_,_,_,c=>c
 |.int _,_,_,_,c=>c
 |.str _,_,_,_,c=>c
 |.fn _,_,_,_,c=>c
 |.tup I,w+1,_,p,c=>by
  let⟨g,@x,rfl,z,E⟩:=c;exact⟨g,x,rfl,o g x z,bb.rL o p E⟩
 |.tup I,0,_,p,c=>nomatch p
 |.aR I,0,_,p,c=>nomatch p
 |.aR I,w+1,_,p,c=>nomatch p
 |.fd,0,_,p,c=>nomatch p
 |.fd,w+1,_,p,c=>nomatch p
theorem bb.rL{j P:ay}(o:tZ j P):∀{I:List V}{w:Nat}{Yl:List av},V.keys w I=aa->bb j I Yl->bb P I Yl
 |[],_,_,_,c=>c
 |u::I,w,_,p,c=>by
  let⟨v,@s,rfl,z,E⟩:=c;rw[V.keys,cU]at p;exact⟨v,s,rfl,cH.rL o p.1 z,bb.rL o p.2 E⟩
end
def iB.mono{o:List V}(e:iB j o d)(i:tZ j P):iB P o d:=by
 let@⟨a,⟨g,@x,c,z,E⟩⟩:=e;exact⟨a,g,x,c,i g x z,E.rL i a⟩
def nX(e:aX)(g:ag)(YJ:Array ab):Prop:=(∃m,e.get? g=Z m/\(m.cls,m.dict)=(.type "tuple",Y)/\∃w,m.data=.seq YJ w)
def nX.tup{YJ:Array ab}(f:nX e g YJ):pj e g YJ:=let ⟨m,c,n,s⟩:=f;⟨m,c,(Prod.mk.inj n).1,s⟩
def nX.new(e:aX)(YJ:Array ab):nX (e.push {cls:=.type "tuple",data:=.seq YJ}) e.objs.size YJ:=⟨_,cO _ rfl,rfl,_,rfl⟩
section
variable(YC:bO)(l:bh)
def fi(j:ay)(e:aX)(g:ag):gu->Prop
 |.lst x=>x.length<=sizeLine/\∃(Yy:List ab) (w:Nat),bS x Yy/\e.get? g=Z {cls:=.type "list",data:=.seq Yy.toArray w}
 |.tup x=>x.length<=sizeLine/\∃Yy:List ab,bS x Yy/\nX e g Yy.toArray
 |.dU YE=>YE.length<=sizeLine/\(g==j5)=au/\∃Yl,gy YE Yl/\e.DictOf (nJ YC l) g Yl
 |.bN YE=>YE.length<=sizeLine/\(g==j5)=au/\∃x:List (List V×ag×ab),
   es (λ(q:List V×av) (p:List V×ag×ab)=>q.1=p.1/\iB j q.1 p.2.1/\cw q.2 p.2.2) YE x/\
   ∃m Q YW,e.get? g=Z m/\m.ExactDict/\m.data=.dict Q YW/\Q.toList=x.map (entryOfKey<|eC YC l)/\(x.map (·.1)).Nodup
 |.set YB w=>e.SetOf (intKind YC l) g YB w
 |.ins aP k aJ=>j k=Z (.own g)/\aJ.length<=1000/\k≠g/\e.get? g=Z (PySem.W.instObj aP k)/\
   ∃y,e.Ns1 k y/\(∀F,k6 (aJ.lookup F)<|y F)/\PySem.Within y (aJ.map (·.1))
 |.own _=>∃m,e.get? g=Z m
 |.z6 aJ=>∃y,e.Ns1 g y/\∀F,k6 (aJ.lookup F) (y F)
 |.pn G T=>∃i L v,e.get? g=Z {cls:=.type "range",data:=.fields #[.int G i,.int T L,.int 1 v]}
 |.dF m L=>e.get? g=Z m/\fi j e g L
 |.ps Yz=>e.get? g=Z {cls:=.none,data:=.fields Yz}
 |.met F f=>e.get? g=Z (Γ (.ref F)<|.ref f)
 |.ext a=>a e/\(∃m,e.get? g=Z m)/\∀z E:aX,a z->(∀m,z.get? g=Z m->E.get? g=Z m)->a E
def eo(j:ay)(e:aX):Prop:=(∀g m,j g=Z m->fi YC l j e g m)
end
section
variable{YC:bO}{l:bh}{j P:ay}{e R:aX}{g:ag}{m:gu}
def fi.lt(f:fi YC l j e g m):g<e.objs.size:=by
 cases m with
 |lst x=>let@⟨_,⟨_,@_,_,c⟩⟩:=f;exact bM c
 |tup x=>let@⟨_,⟨@_,_,q⟩⟩:=f;exact q.tup.lt
 |dU YE=>let@⟨_,_,⟨@_,_,⟨m,_,@_,c,_⟩⟩⟩:=f;exact bM c
 |bN YE=>let@⟨_,_,⟨@_,_,⟨m,_,@_,c,_⟩⟩⟩:=f;exact bM c
 |set YB w=>let⟨m,W,W,@W,c,W⟩:=f;exact bM c
 |ins aP k aJ=>let@⟨_,_,_,c,_⟩:=f;exact bM c
 |own H=>let⟨@W,c⟩:=f;exact bM c
 |z6 aJ=>let⟨@W,⟨W,W,@W,c,W⟩,W⟩:=f;exact bM c
 |pn G T=>let⟨W,W,@W,c⟩:=f;exact bM c
 |dF a L=>let@⟨c,_⟩:=f;exact bM c
 |ps Yz=>exact bM (show e.get? g=Z _ from f)
 |met F H=>exact bM (show e.get? g=Z _ from f)
 |ext b=>let@⟨_,⟨@_,c⟩,_⟩:=f;exact bM c
theorem es.uR{YH Zh:Type}{N S:YH->Zh->Prop}:∀{a:List YH}{b:List Zh},es N a b->(∀g d,N g d->S g d)->es S a b
 |_,_,.nil,_=>.nil
 |_,_,.cons s i,F=>.cons (F _ _ s) (es.uR i F)
def fi.g9(f:fi YC l j e g m)(o:∀d L,(d=g\/j d=Z (.own g))->e.get? d=Z L->R.get? d=Z L)(b:∀d,j d=Z (.own g)->P d=Z (.own g))(bG:∀d x,j d=Z (.tup x)->P d=Z (.tup x)):fi YC l P R g m:=by
 induction m with
 |lst x=>let@⟨D,⟨Yy,@w,s,c⟩⟩:=f;exact⟨D,Yy,w,s,o _ _ (.inl rfl) c⟩
 |tup x=>let@⟨D,⟨@Yy,s,⟨@a,c,n⟩⟩⟩:=f;exact⟨D,Yy,s,a,o _ _ (.inl rfl) c,n⟩
 |dU YE=>let@⟨D,H,⟨@Yl,s,⟨a,Q,@YW,c,n⟩⟩⟩:=f;exact⟨D,H,Yl,s,a,Q,YW,o _ _ (.inl rfl) c,n⟩
 |bN YE=>
  let@⟨D,H,⟨@x,s,⟨a,Q,@YW,c,n⟩⟩⟩:=f;exact⟨D,H,x,es.uR s λq p D=>⟨D.1,D.2.1.mono bG,D.2.2⟩,a,Q,YW,o _ _ (.inl rfl) c,n⟩
 |set YB w=>let⟨a,Q,YW,@i,c,n⟩:=f;exact⟨a,Q,YW,i,o _ _ (.inl rfl) c,n⟩
 |ins aP k aJ=>
  let@⟨u,D,ne,c,⟨@y,⟨z,Q,@YW,h,n⟩,s⟩⟩:=f;exact⟨b _ u,D,ne,o _ _ (.inl rfl) c,y,⟨z,Q,YW,o _ _ (.inr u) h,n⟩,s⟩
 |own H=>let⟨@a,c⟩:=f;exact⟨a,o _ _ (.inl rfl) c⟩
 |z6 aJ=>let⟨@y,⟨z,Q,@YW,c,n⟩,s⟩:=f;exact⟨y,⟨z,Q,YW,o _ _ (.inl rfl) c,n⟩,s⟩
 |pn G T=>let⟨i,L,@v,c⟩:=f;exact⟨i,L,v,o _ _ (.inl rfl) c⟩
 |dF a L r=>let@⟨c,p⟩:=f;exact⟨o _ _ (.inl rfl) c,r p⟩
 |ps Yz=>
  have c:e.get? g=Z {cls:=.none,data:=.fields Yz}:=f;show R.get? g=Z {cls:=.none,data:=.fields Yz};exact o g _ (.inl rfl) c
 |met F H=>
  have c:e.get? g=Z (Γ (.ref F)<|.ref H):=f;show R.get? g=Z (Γ (.ref F)<|.ref H);exact o g _ (.inl rfl) c
 |ext t=>let@⟨q,⟨@m,c⟩,X⟩:=f;exact⟨X _ _ q λm p=>o _ _ (.inl rfl) p,⟨m,o _ _ (.inl rfl) c⟩,X⟩
theorem eo.lt(f:eo YC l j e)(c:j g=Z m):g<e.objs.size:=(f g m c).lt
def eo.fresh(f:eo YC l j e)(c:e.objs.size<=g):j g=Y:=by
 cases p:j g with
 |none=>rfl
 |some L=>exact absurd (fP (f.lt p) c) (j9 _)
def eo.kept(f:eo YC l j e)(o:∀d L,e.get? d=Z L->R.get? d=Z L):eo YC l j R:=λg m c=>
 (f g m c).g9 (λd L W p=>o d L p) (λ_ p=>p) λ_ W p=>p
def eo.laid(f:eo YC l j e)(o:∀d L,e.get? d=Z L->R.get? d=Z L)(h:e.objs.size<=g)(new:fi YC l (upd j g m) R g m):eo YC l (upd j g m) R:=λd L c=>by
 have a:=f.fresh h;by_cases b:d=g
 ·subst b;rw[e8]at c;cases c;exact new
 ·rw[dr b]at c;exact (f d L c).g9 (λn v W p=>o n v p) (λn p=>by rw[dr (hW p a)];exact p) λn x p=>by rw[dr (hW p a)];exact p
end
def lI(j:ay)(g:ag)(L:gu):Prop:=(j g=Z L\/∃m,j g=Z (.dF m L))
def lI.ok{L:gu}(s:lI j g L)(f:eo YC l j e):fi YC l j e g L:=by
 rcases s with s|⟨m,s⟩
 ·exact f g L s
 ·let@⟨_,p⟩:=f g _ s;exact p
def tM:Option gu->Prop
 |some (.lst _)=>True
 |some (.dU _)=>True
 |some (.bN _)=>True
 |some (.set _ _)=>True
 |some (.ins _ _ _)=>True
 |some (.ext _)=>True
 |_=>False
section
variable{YC:bO}{l:bh}{j:ay}{e R:aX}{f c:ag}{Y7:gu}
def eo.write(ok:eo YC l j e)(a:tM (j f))(i:c=f\/j c=Z (.own f))(o:∀d L,d≠c->e.get? d=Z L->R.get? d=Z L)(q:∃L,R.get? c=Z L)(new:fi YC l (upd j f Y7) R f Y7):eo YC l (upd j f Y7) R:=λd L p=>by
 have k:∀n H,j n=Z (.own H)->n≠f:=λn H s D=>by subst D;rw[s]at a;exact a
 have r:∀n x,j n=Z (.tup x)->n≠f:=λn x s D=>by subst D;rw[s]at a;exact a
 by_cases b:d=f
 ·subst b;rw[e8]at p;cases p;exact new
 ·rw[dr b]at p;by_cases g:d=c
  ·have m:j d=Z (.own f):=by
    rcases i with D|D
    ·exact absurd (g.trans D) b
    ·rw[g];exact D
   rw[p]at m;cases m;let⟨@v,t⟩:=q;exact⟨v,by rw[g];exact t⟩
  ·refine (ok d L p).g9 (λn v h s=>o n v ?_ s) (λn s=>by rw[dr (k n d s)];exact s) λn x s=>by rw[dr (r n x s)];exact s
   rcases h with rfl|h
   ·exact g
   ·rintro rfl;rcases i with D|D
    ·exact k n d h D
    ·rw[h]at D;cases D;exact b rfl
end
structure fZ(aJ I:List ag)(j P:ay)(e R:aX):Prop where
 keep:∀d m,e.get? d=Z m->j d=Y->d∉aJ->d∉I->R.get? d=Z m
 slot:∀d m,e.get? d=Z m->j d=Y->d∈aJ->d∉I->∃aZ,R.get? d=Z {m with slots:=aZ}
 free:∀d m,e.get? d=Z m->j d=Y->d∉I->P d=Y
 there:∀d m,e.get? d=Z m->d∉I->∃Y7,R.get? d=Z Y7
 lb:∀d x,j d=Z (.tup x)->P d=Z (.tup x)
 kn:∀d m L,j d=Z (.dF m L)->P d=Z (.dF m L)
 mQ:∀d Yz,j d=Z (.ps Yz)->∃more,P d=Z (.ps<|Yz++more)
section
variable{aJ i I b:List ag}{j Yx YO:ay}{e z E R:aX}{g f c:ag}{m:gu}
def fZ.any(L:fZ aJ I j Yx e z){d:ag}{a:a3}(p:e.get? d=Z a)(w:j d=Y)(b:d∉I):∃aZ,z.get? d=Z {a with slots:=aZ}:=by
 by_cases c:d∈aJ
 ·exact L.slot d a p w c b
 ·exact⟨a.slots,L.keep d a p w c b⟩
def fZ.kept(o:∀d L,e.get? d=Z L->R.get? d=Z L):fZ aJ I j j e R:=
 ⟨λd a p W W W=>o d a p,λd a p W W W=>⟨a.slots,o d a p⟩,λ_ W W w W=>w,λd a p W=>⟨a,o d a p⟩,λ_ W p=>p,λ_ W W p=>p,λ_ Yz p=>⟨#[],by rw[p];simp⟩⟩
def fZ.refl:fZ aJ I j j e e:=fZ.kept λ_ W p=>p
theorem fZ.laid(o:∀d L,e.get? d=Z L->R.get? d=Z L)(b:e.objs.size<=g)(a:j g=Y):fZ aJ I j (upd j g m) e R where
 keep:=λd L p W W W=>o d L p
 slot:=λd L p W W W=>⟨L.slots,o d L p⟩
 free:=λd L p w W=>by rw[dr (cZ<|fP (bM p) b)];exact w
 there:=λd L p W=>⟨L,o d L p⟩
 lb:=λd x p=>by rw[dr (hW p a)];exact p
 kn:=λd L x p=>by rw[dr (hW p a)];exact p
 mQ:=λd Yz p=>⟨#[],by rw[dr (hW p a),p];simp⟩
def fZ.write(a:tM (j f))(k:c=f\/j c=Z (.own f))(o:∀d L,d≠c->e.get? d=Z L->R.get? d=Z L)(l:∃L,R.get? c=Z L):fZ aJ I j (upd j f m) e R:=by
 have g:∀d,j d=Y->d≠f:=λd w D=>by subst D;rw[w]at a;exact a
 have h:∀d,j d=Y->d≠c:=λd w D=>by
  subst D;rcases k with s|s
  ·exact g d w s
  ·rw[w]at s;cases s
 have b:∀d L,j d=Z L->¬ tM (Z L)->d≠f:=λd L p t D=>by subst D;rw[p]at a;exact t a
 refine⟨λd L p w W W=>o d L (h d w) p,λd L p w W W=>⟨L.slots,o d L (h d w) p⟩,λd L p w W=>by rw[dr (g d w)];exact w,λd L p W=>?_,
  λd x p=>by rw[dr (b d _ p λD=>D)];exact p,λd L x p=>by rw[dr (b d _ p λD=>D)];exact p,λd Yz p=>⟨#[],by rw[dr (b d _ p λD=>D),p];simp⟩⟩;by_cases i:d=c
 ·subst i;exact l
 ·exact⟨L,o d L i p⟩
end
def wQ(e:aX)(j:ay):List ag:=((range e.objs.size).filter λg=>(j g).isSome)
def ml(e:aX)(j:ay):aX:=(PySem.W.hideAll e (wQ e j))
def QZ(e:aX)(j:ay):(ml e j).objs.size=e.objs.size:=PySem.W.hideAll_size _ _
def LG{m:a3}(c:e.get? d=Z m)(w:j d=Y):(ml e j).get? d=Z m:=
 PySem.W.hideAll_get _ c λa=>by
  have p:(j d).isSome=aa:=(uH.mp a).2;rw[w]at p;simp at p
def M0{m:a3}(c:(ml e j).get? d=Z m):e.get? d=Z m/\j d=Y:=by
 have a:e.get? d=Z m:=PySem.W.of_hideAll (wQ e j) c;refine⟨a,?_⟩;cases p:j d with
 |none=>rfl
 |some f=>
  have b:d∈wQ e j:=uH.mpr ⟨eT.mpr<|bM a,by simp[p]⟩;have D:(ml e j).get? d=Y:=PySem.W.hideAll_none (wQ e j) b;rw[D]at c;cases c
def VR(J e:aX)(N:ag):List (ag×a3):=((range e.objs.size).filterMap λg=>if g=N\/(J.get? g).isSome=aa then Y else (e.get? g).map λm=>(g,m))
def c_(J e:aX)(N u:ag):List (ag×a3):=((VR J e N).filter λq=>decide (q.1≠u))
structure Mod(Yo:Φ)(aI:aG->Option ab)(YF:aX):Prop where
 By:Yo.In YF
 glob:YF.Ns dV aI
 blt:∃Fm,YF.Ns zk Fm/\∀f:aG,f ≠ "__name__" -> Fm f=e4 f
 nolimit:YF.NoLimit
structure aO where
 prog:bO
 w:bh
 K:Φ
 aI:aG->Option ab
 base:aX
 A:bA
 N:List aG
 fH:ai
 qA:ay
 env:fA
 outer:List fA
 stack:List fA
 ex:List ag
 fn:aG->Bool
 calm:Bool
 la:List (ag×a3)
 c1:ab->ai->Prop
variable{b:aO}
def iU(t:List fA):List ag:=(t.filterMap (·.frame))
abbrev aO.aJ(b:aO):List ag:=iU b.outer
def vg(i:hO)(f:aG):Prop:=(i.names.lookup f=Z .local\/i.names.lookup f=Z .cell\/i.names.lookup f=Z .free)
def ks(i:hO)(f:aG):Prop:=(i.names.lookup f=Z .local\/i.names.lookup f=Z .cell)
def Tt(Yt:fA)(e:aX)(k:aG->Option ab)(f:aG)(L:ab):Prop:=(
 (Yt.kindOf f=Z .local/\k f=Z L)\/((Yt.kindOf f=Z .cell\/Yt.kindOf f=Z .free)/\∃n,Yt.cells.lookup f=Z n/\e.IsCell n (Z L)))
structure aO.Ok(b:aO):Prop where
 mod:Mod b.K b.aI b.base
 kind:b.env.scope.kind=.function
 glob:b.env.globals=dV
 blt:b.env.builtins=zk
 above:b.fH.heap.objs.size<=b.env.locals
 inj:∀f H n,b.env.cells.lookup f=Z n->b.env.cells.lookup H=Z n->f=H
 has:∀f,(b.env.kindOf f=Z .cell\/b.env.kindOf f=Z .free)->∃n,b.env.cells.lookup f=Z n
 qt:∀f n,b.fn f=aa->b.env.cells.lookup f=Z n->b.fH.heap.objs.size<=n
 hd:b.calm=aa->b.A.handled=Y
 frames:b.A.frames=Z b.stack
 rV:b.stack=b.outer\/(b.stack=b.env::b.outer/\b.env.frame=Z b.env.locals)
 xB:∀d∈b.ex,d≠b.env.locals/\∀f n,b.env.cells.lookup f=Z n->n≠d
 bs:∀d m,b.base.get? d=Z m->b.fH.heap.get? d=Z m/\b.qA d=Y
 mi:b.base.objs.size<=b.fH.heap.objs.size
 qh:∀d m,b.base.get? d=Z m->d∉b.ex
 p5:∀d∈b.ex,d∉b.aJ
 jt:b.fH.heap.FunFrames b.base b.outer
 pw:∀d∈b.aJ,b.qA d=Y
structure aF(b:aO)(M:List (ag×a3))(C:List (Option av))(j:ay)(h:ai):Prop where
 ok:b.Ok
 os:h.os=b.fH.os
 bare:mE h.gens
 base:fZ b.aJ b.ex b.qA j b.fH.heap h.heap
 loc:∃k,h.heap.Ns b.env.locals k/\∀(a:Nat) (f:aG) (v:av),b.N[a]?=Z f->C[a]?=Z (Z v)->vg b.env.scope f->∃L,cw v L/\Tt b.env h.heap k f L
 cell:∀f n,b.env.cells.lookup f=Z n->∃v,h.heap.IsCell n v
 free:j b.env.locals=Y
 i9:∀f n,b.env.cells.lookup f=Z n->j n=Y
 pin:∀q∈b.la++M,h.heap.get? q.1=Z q.2/\j q.1=Y/\q.1≠b.env.locals/\q.1∉b.aJ/\∀v,q.2.data≠.cell v
 a4:eo b.prog b.w j h.heap
 len:C.length=b.N.length
section
variable{b:aO}{M:List (ag×a3)}{C:List (Option av)}{j P:ay}{h:ai}{R:aX}
def aO.Ok.Pu(ok:b.Ok){d:ag}{m:a3}(c:b.base.get? d=Z m):d∉b.aJ:=λa=>by
 have:=(ok.jt.mem a).1;rw[c]at this;cases this
def aF.bs(A:aF b M C j h):∀d m,b.base.get? d=Z m->h.heap.get? d=Z m/\j d=Y:=λd m c=>
 ⟨A.base.keep d m (A.ok.bs d m c).1 (A.ok.bs d m c).2 (A.ok.Pu c) (A.ok.qh d m c),A.base.free d m (A.ok.bs d m c).1 (A.ok.bs d m c).2 (A.ok.qh d m c)⟩
def aF.gv(A:aF b M C j h):∀d m,b.base.get? d=Z m->h.heap.get? d=Z m:=λd m c=>(A.bs d m c).1
def aF.mod(A:aF b M C j h):Mod b.K b.aI b.base:=A.ok.mod
def aF.o1(A:aF b M C j h):b.K.In h.heap:=A.ok.mod.By.keeps A.gv
def aF.lt(A:aF b M C j h):b.env.locals<h.heap.objs.size:=let ⟨_,a,_⟩:=A.loc;a.lt
def aF.jK(A:aF b M C j h):b.fH.heap.objs.size<=h.heap.objs.size:=fa A.ok.above (m5 A.lt)
def aF.TG(A:aF b M C j h){g:ag}(e:h.heap.objs.size<=g):g∉b.aJ:=λa=>by
 let@⟨_,⟨@m,c,_⟩⟩:=A.ok.jt.mem a;exact absurd (fP (bM c)<|fa A.jK e) (j9 _)
def aF.oS(A:aF b M C j h):∀f n,b.env.cells.lookup f=Z n->n≠b.env.locals:=λf n c D=>by
 let⟨v,@m,a,hd⟩:=A.cell f n c;let⟨@k,⟨Y7,Q,@YW,d,e,W⟩,W⟩:=A.loc;rw[D,d]at a;cases a;rw[e]at hd;cases hd
def aF.jt(A:aF b M C j h):h.heap.FunFrames b.base b.outer:=by
 have all:∀(t:List fA),(∀d∈iU t,d∈b.aJ)->b.fH.heap.FunFrames b.base t->h.heap.FunFrames b.base t:=by
  intro t;induction t with
  |nil=>intro W W;trivial
  |cons Yt s g=>
   intro Ys i;let@⟨k,⟨N,@m,a,l,n,hd⟩,o⟩:=i;have e:N∈b.aJ:=Ys N (by unfold iU;rw[sI,a];exact md);let⟨@aZ,c⟩:=A.base.slot N m n (A.ok.pw N e) e λD=>A.ok.p5 N D e;exact⟨k,⟨N,_,a,l,c,hd⟩,g (λd f=>Ys d (by unfold iU;rw[sI,a];exact lV _ f)) o⟩
 exact all b.outer (λ_ f=>f) A.ok.jt
def aF.stack(A:aF b M C j h):h.heap.FunFrames b.base b.stack:=by
 rcases A.ok.rV with c|⟨c,a⟩
 ·rw[c];exact A.jt
 ·rw[c];let⟨@k,d,W⟩:=A.loc;refine .cons (by rw[A.ok.kind];decide) a d ?_ A.jt;exact AJ (fa A.ok.mi A.ok.above)
def aF.A_(A:aF b M C j h):∀d∈iU b.stack,d∈b.env.locals::b.aJ:=λd a=>by
 rcases A.ok.rV with c|⟨c,e⟩
 ·rw[c]at a;exact lV _ a
 ·rw[c]at a;unfold iU at a;rw[sI,e]at a;exact a
def aF.IS(A:aF b M C j h):∀d∈iU b.stack,j d=Y:=λd a=>by
 rcases bW.mp (A.A_ d a) with c|a
 ·rw[c];exact A.free
 ·let@⟨_,⟨@m,e,_⟩⟩:=A.ok.jt.mem a;exact A.base.free d m e (A.ok.pw d a) λD=>A.ok.p5 d D a
def aF.step{G:Array vu}{YU:Nat}{S:Drawn}{Zw:List ag}(A:aF b M C j h)(y:∀d∈Zw,(d∈b.ex\/b.fH.heap.objs.size<=d)/\d≠b.env.locals/\(∀f n,b.env.cells.lookup f=Z n->n≠d)/\∀q∈b.la++M,q.1≠d)(keep:∀d m,d≠b.env.locals->d∉b.aJ->d∉Zw->h.heap.get? d=Z m->j d=Y->R.get? d=Z m)(Zx:∀d m,d≠b.env.locals->d∈b.aJ->d∉Zw->h.heap.get? d=Z m->j d=Y->∃aZ,R.get? d=Z {m with slots:=aZ})(E:∀d m,d∉Zw->h.heap.get? d=Z m->j d=Y->P d=Y)(T:∀d m,d∉Zw->h.heap.get? d=Z m->∃Y7,R.get? d=Z Y7)(lb:∀d x,j d=Z (.tup x)->P d=Z (.tup x))(kn:∀d m L,j d=Z (.dF m L)->P d=Z (.dF m L))(mQ:∀d Yz,j d=Z (.ps Yz)->∃U,P d=Z (.ps<|Yz++U))(YP:∀k,h.heap.Ns b.env.locals k->R.Ns b.env.locals k)(a4:eo b.prog b.w P R)(al:mE G):
  aF b M C P {h with heap:=R,gens:=G,drawn:=S,toks:=YU}:=by
 have H:∀d m,b.fH.heap.get? d=Z m->d≠b.env.locals:=λd m c=>cZ (fP (bM c) A.ok.above);have F:∀d m,b.fH.heap.get? d=Z m->d∉b.ex->d∉Zw:=λd m c e i=>by
  rcases (y d i).1 with D|D
  ·exact e D
  ·exact absurd (fP (bM c) D) (j9 _)
 have J:∀f n,b.env.cells.lookup f=Z n->∀v,h.heap.IsCell n v->R.IsCell n v:=λf n c v ⟨m,r,hd⟩=>by
  have z:n∉Zw:=λD=>(y n D).2.2.1 f n c rfl;by_cases N:n∈b.aJ
  ·let⟨@aZ,p⟩:=Zx n m (A.oS f n c) N z r (A.i9 f n c);exact⟨_,p,hd⟩
  ·exact⟨m,keep n m (A.oS f n c) N z r<|A.i9 f n c,hd⟩
 refine⟨A.ok,A.os,al,⟨λd m c w i e=>?_,λd m c w i e=>?_,λd m c w e=>?_,λd m c e=>?_,λd x c=>lb d x<|A.base.lb d x c,λd m x c=>kn d m x<|A.base.kn d m x c,λd Yz c=>?_⟩,?_,λf n c=>?_,?_,λf n c=>?_,λq O=>?_,a4,A.len⟩
 ·exact keep d m (H d m c) i (F d m c e) (A.base.keep d m c w i e) (A.base.free d m c w e)
 ·let⟨@aZ,g⟩:=A.base.slot d m c w i e;let⟨@am,B⟩:=Zx d _ (H d m c) i (F d m c e) g (A.base.free d m c w e);exact⟨am,B⟩
 ·let⟨@Y7,g⟩:=A.base.there d m c e;exact E d Y7 (F d m c e) g (A.base.free d m c w e)
 ·let⟨@Y7,g⟩:=A.base.there d m c e;exact T d Y7 (F d m c e) g
 ·let⟨@cm,g⟩:=A.base.mQ d Yz c;let⟨@an,B⟩:=mQ d _ g;exact⟨cm++an,by rw[B,Array.append_assoc]⟩
 ·let⟨@k,ap,as⟩:=A.loc;refine⟨k,YP k ap,λa f v g B a1=>?_⟩;let⟨@L,s,t⟩:=as a f v g B a1;refine⟨L,s,?_⟩;rcases t with t|⟨o,n,c,D⟩
  ·exact .inl t
  ·exact .inr ⟨o,n,c,J f n c _ D⟩
 ·let⟨@v,D⟩:=A.cell f n c;exact⟨v,J f n c v D⟩
 ·let⟨@k,⟨m,W,@W,r,W⟩,W⟩:=A.loc;exact E _ m (λD=>(y _ D).2.1 rfl) r A.free
 ·let⟨v,@m,r,hd⟩:=A.cell f n c;exact E n m (λD=>(y n D).2.2.1 f n c rfl) r (A.i9 f n c)
 ·let@⟨c,w,ne,Q,u⟩:=A.pin q O;have z:q.1∉Zw:=λD=>(y q.1 D).2.2.2 q O rfl;exact⟨keep q.1 q.2 ne Q z c w,E q.1 q.2 z c w,ne,Q,u⟩
def aF.un(A:aF b M C j h)(L:fZ b.aJ [] j P h.heap R)(a4:eo b.prog b.w P R):aF b M C P {h with heap:=R,toks:=YU}:=by
 let⟨@k,⟨m,Q,@YW,e,s⟩,W⟩:=id A.loc;let⟨@aZ,g⟩:=L.any e A.free ↥0;exact A.step (G:=h.gens) (S:=h.drawn) (Zw:=[]) (λ_ D=>nomatch D) (λd m W a W c w=>L.keep d m c w a ↥0) (λd m W a W c w=>L.slot d m c w a ↥0) (λd m W c w=>L.free d m c w ↥0) (λd m W c=>L.there d m c ↥0) L.lb L.kn L.mQ (λr i=>by
  let⟨Y7,n,@o,f,Zd⟩:=i;rw[e]at f;cases f;exact⟨_,n,o,g,Zd⟩) a4 A.bare
def aF.call{g:Array vu}{r:Drawn}(A:aF b M C j h)(L:fZ (iU b.stack) Zw j P h.heap R)(a4:eo b.prog b.w P R)(t:mE g)(i:∀d∈Zw,(d∈b.ex\/b.fH.heap.objs.size<=d)/\d≠b.env.locals/\(∀f n,b.env.cells.lookup f=Z n->n≠d)/\∀q∈b.la++M,q.1≠d):
  aF b M C P {h with heap:=R,gens:=g,drawn:=r,toks:=YU}:=by
 let⟨@k,⟨m,Q,@YW,o,s⟩,W⟩:=id A.loc;let⟨@aZ,e⟩:=L.any o A.free λD=>(i _ D).2.1 rfl;exact A.step (Zw:=Zw) i (λd m e u a c w=>L.keep d m c w (λD=>(bW.mp<|A.A_ d D).elim e u) a) (λd m W W a c w=>L.any c w a) (λd m a c w=>L.free d m c w a) (λd m a c=>L.there d m c a) L.lb L.kn L.mQ (λz v=>by
  let⟨Y7,x,@y,p,Zd⟩:=v;rw[o]at p;cases p;exact⟨_,x,y,e,Zd⟩) a4 t
def aF.turned(A:aF b M C j h)(o:∀d m,d≠Yu->h.heap.get? d=Z m->R.get? d=Z m)(i:j Yu=Y)(e:Yu≠b.env.locals)(z:Yu∈b.ex\/b.fH.heap.objs.size<=Yu)(E:∀f n,b.env.cells.lookup f=Z n->n≠Yu)(l:∀q∈b.la++M,q.1≠Yu):aF b M C j {h with heap:=R,toks:=YU}:=by
 have g:∀d L,j d=Z L->d≠Yu:=λd L c D=>by rw[D,i]at c;cases c
 refine A.step (G:=h.gens) (S:=h.drawn) (Zw:=[Yu]) (λd r=>?_) (λd m W W a c W=>o d m (λD=>a (by simp[D])) c) (λd m W W a c W=>⟨m.slots,o d m (λD=>a (by simp[D])) c⟩) (λ_ W W W w=>w)
  (λd m a c=>⟨m,o d m (λD=>a (by simp[D])) c⟩) (λ_ W c=>c) (λ_ W W c=>c) (λd Yz c=>⟨#[],by rw[c];simp⟩) (λk t=>?_) (λd L c=>?_) A.bare
 ·have c:d=Yu:=by simpa using r
  subst c;exact⟨z,e,E,l⟩
 ·let⟨m,Q,@YW,u,s⟩:=t;exact⟨m,Q,YW,o _ m (eQ e) u,s⟩
 ·refine (A.a4 d L c).g9 (λn v a p=>o n v ?_ p) (λ_ p=>p) λ_ W p=>p;rcases a with D|D
  ·rw[D];exact g d L c
  ·exact g n _ D
def aF.tok(A:aF b M C j h)(i:Nat):aF b M C j {h with toks:=i}:=A.un (R:=h.heap) (YU:=i) fZ.refl A.a4
def aF.kept(A:aF b M C j h)(o:∀d L,h.heap.get? d=Z L->R.get? d=Z L):aF b M C j {h with heap:=R,toks:=YU}:=A.un (fZ.kept o) (A.a4.kept o)
def aF.laid(A:aF b M C j h)(o:∀d L,h.heap.get? d=Z L->R.get? d=Z L)(a:h.heap.objs.size<=g)(new:fi b.prog b.w (upd j g m) R g m):
  aF b M C (upd j g m) {h with heap:=R,toks:=YU}:=A.un (fZ.laid o a<|A.a4.fresh a) (A.a4.laid o a new)
def aF.write{f c:ag}(A:aF b M C j h)(a:tM (j f))(e:c=f\/j c=Z (.own f))(o:∀d L,d≠c->h.heap.get? d=Z L->R.get? d=Z L)(g:∃L,R.get? c=Z L)(new:fi b.prog b.w (upd j f m) R f m):aF b M C (upd j f m) {h with heap:=R,toks:=YU}:=A.un (fZ.write a e o g) (A.a4.write a e o g new)
def aF.weak{c:List (Option av)}(A:aF b M C j h)(d:c.length=C.length)(l:∀(a:Nat) v,c[a]?=Z (Z v)->C[a]?=Z (Z v)):aF b M c j h:=
 ⟨A.ok,A.os,A.bare,A.base,let ⟨k,e,g⟩:=A.loc;⟨k,e,λa f v i m n=>g a f v i (l a v m) n⟩,A.cell,A.free,A.i9,A.pin,A.a4,d.trans A.len⟩
def aF.qp{a:List (ag×a3)}(A:aF b M C j h)(e:∀q∈a,h.heap.get? q.1=Z q.2/\j q.1=Y/\q.1≠b.env.locals/\q.1∉b.aJ/\∀v,q.2.data≠.cell v):aF b a C j h:=
 ⟨A.ok,A.os,A.bare,A.base,A.loc,A.cell,A.free,A.i9,λq c=>(eh.mp c).elim (λD=>A.pin q<|gd _ D)<|e q,A.a4,A.len⟩
def JE(b:Y0.Nodup){a r:Nat}{f:aG}(g:Y0[a]?=Z f)(d:Y0[r]?=Z f):a=r:=by
 let⟨@z,c⟩:=eA.mp g;let⟨@E,e⟩:=eA.mp d;exact (Hz b).mp (c.trans e.symm)
variable{B:Unit->ai->Prop}
def FI{az:gW}(A:aF b M C j h)(ap:b.N.Nodup)(T:b.N[a]?=Z f)(x:ks b.env.scope f)(s:cw v L)(e:∀Yn,aF b M (C.set a<|Z v) j Yn->(∃g,aX.SameBut g h.heap Yn.heap/\(g=b.env.locals\/b.env.cells.lookup f=Z g))->B () Yn)(bn:b.fn f=aa\/b.env.scope.names.lookup f=Z .local:=by first|exact .inl rfl|exact .inr rfl|assumption):wpAny az O (storeName b.env f L) B Yq h:=by
 let⟨@k,P,as⟩:=id A.loc;have bs:(b.env.scope.kind==.class || (b.env.scope.kind==.module&&b.env.locals != b.env.globals))=au:=by rw[A.ok.kind];rfl
 have a1:a<C.length:=by rw[A.len];exact (eA.mp T).1
 have oS:=A.oS;have a2:∀{g:ag}{R:aX},(∃m,h.heap.get? g=Z m/\j g=Y)->aX.SameBut g h.heap R->eo b.prog b.w j R:=λ{g R} bv Ys d ca c=>by
  let⟨@W,W,bd⟩:=bv;refine (A.a4 d ca c).g9 (λn I t p=>(Ys.2 n ?_).trans p) (λ_ p=>p) λ_ W p=>p;rintro rfl;rcases t with rfl|t
  ·rw[bd]at c;cases c
  ·rw[bd]at t;cases t
 rcases x with z|z
 ·refine wpAny_storeName_local z P (λR cd Ys=>?_) bs;let⟨ce,W,@W,ch,W⟩:=id P;refine e _ ⟨A.ok,A.os,A.bare,⟨λd m c w F x=>?_,λd m c w F x=>?_,A.base.free,λd m c x=>?_,A.base.lb,A.base.kn,A.base.mQ⟩,⟨_,cd,λr H Q i y S=>?_⟩,λH n c=>?_,A.free,A.i9,λq U=>?_,a2 ⟨ce,ch,A.free⟩ Ys,by simpa using A.len⟩ ⟨_,Ys,.inl rfl⟩
  ·exact (Ys.2 d<|cZ<|fP (bM c) A.ok.above).trans (A.base.keep d m c w F x)
  ·let⟨@aZ,i⟩:=A.base.slot d m c w F x;exact⟨aZ,(Ys.2 d<|cZ<|fP (bM c) A.ok.above).trans i⟩
  ·let⟨@Y7,i⟩:=A.base.there d m c x;exact⟨Y7,(Ys.2 d<|cZ<|fP (bM c) A.ok.above).trans i⟩
  ·by_cases G:r=a
   ·subst G;rw[T]at i;cases i;rw[w5 a1]at y;cases y;exact⟨L,s,.inl ⟨z,by simp⟩⟩
   ·rw[n_ (eQ G)]at y;let⟨@al,Zd,p⟩:=as r H Q i y S;refine⟨al,Zd,?_⟩;rcases p with ⟨o,c⟩|⟨o,n,c,D⟩
    ·refine .inl ⟨o,?_⟩;have:H≠f:=λc=>G (JE ap i<|c ▸ T);simp[this,c]
    ·exact .inr ⟨o,n,c,D.sameBut Ys<|oS H n c⟩
  ·let⟨@I,D⟩:=A.cell H n c;exact⟨I,D.sameBut Ys<|oS H n c⟩
  ·let@⟨c,w,ne,am,u⟩:=A.pin q U;exact⟨(Ys.2 q.1 ne).trans c,w,ne,am,u⟩
 ·have an:b.fn f=aa:=by
   rcases bn with D|D
   ·exact D
   ·rw[D]at z;cases z
  let⟨@n,t⟩:=A.ok.has f (.inl z);let⟨@I,D⟩:=A.cell f n t;refine wpAny_storeName_cell A.ok.kind z t D (λR be Ys=>?_);let⟨@E,bi,ci⟩:=id D;refine e {h with heap:=R} ⟨A.ok,A.os,A.bare,⟨λd m c w F x=>?_,λd m c w F x=>?_,A.base.free,λd m c x=>?_,A.base.lb,A.base.kn,A.base.mQ⟩,⟨k,P.sameBut Ys<|eQ<|oS f n t,λr H Q i y S=>?_⟩,λH J c=>?_,A.free,A.i9,λq U=>?_,a2 ⟨E,bi,A.i9 f n t⟩ Ys,by simpa using A.len⟩ ⟨n,Ys,.inr t⟩
  ·exact (Ys.2 d<|cZ<|fP (bM c)<|A.ok.qt f n an t).trans (A.base.keep d m c w F x)
  ·let⟨@aZ,i⟩:=A.base.slot d m c w F x;exact⟨aZ,(Ys.2 d<|cZ<|fP (bM c)<|A.ok.qt f n an t).trans i⟩
  ·let⟨@Y7,i⟩:=A.base.there d m c x;exact⟨Y7,(Ys.2 d<|cZ<|fP (bM c)<|A.ok.qt f n an t).trans i⟩
  ·by_cases G:r=a
   ·subst G;rw[T]at i;cases i;rw[w5 a1]at y;cases y;exact⟨L,s,.inr ⟨.inl z,n,t,be⟩⟩
   ·rw[n_ (eQ G)]at y;let⟨@al,Zd,p⟩:=as r H Q i y S;refine⟨al,Zd,?_⟩;rcases p with p|⟨o,J,c,cl⟩
    ·exact .inl p
    ·refine .inr ⟨o,J,c,cl.sameBut Ys ?_⟩;rintro rfl;exact G (JE ap i<|A.ok.inj _ _ _ c t ▸ T)
  ·by_cases bm:J=n
   ·subst bm;exact⟨_,be⟩
   ·let⟨@dg,co⟩:=A.cell H J c;exact⟨dg,co.sameBut Ys bm⟩
  ·let@⟨c,w,ne,am,u⟩:=A.pin q U;refine⟨(Ys.2 q.1 ?_).trans c,w,ne,am,u⟩;intro p;rw[p,bi]at c;have cr:E=q.2:=Option.some.inj c;exact u I (by rw[<-cr];exact ci)
def u4{az:gW}(A:aF b M C j h)(c:b.N.Nodup)(T:b.N[a]?=Z f)(d:ks b.env.scope f)(s:cw v L)(e:∀Yn,aF b M (C.set a<|Z v) j Yn->B () Yn)(g:b.fn f=aa\/b.env.scope.names.lookup f=Z .local:=by first|exact .inl rfl|exact .inr rfl|assumption):wpAny az O (storeName b.env f L) B Yq h:=
 FI A c T d s (λYn i W=>e Yn i) g
def aF.M8(A:aF b M C j h)(g:Yn.os=h.os)(L:fZ (iU b.stack) Zw j P h.heap Yn.heap)(a4:eo b.prog b.w P Yn.heap)(i:mE Yn.gens)(k:∀d∈Zw,(d∈b.ex\/b.fH.heap.objs.size<=d)/\d≠b.env.locals/\(∀f n,b.env.cells.lookup f=Z n->n≠d)/\∀q∈b.la++M,q.1≠d):aF b M C P Yn:=by
 let⟨R,a,e,YU,Y7⟩:=Yn;have c:Y7=h.os:=g;subst c;exact A.call (g:=a) (YU:=YU) (r:=e) L a4 i k
end
abbrev hs:=ab->Option ag->ay->Prop
abbrev a5:=List (Option av)
variable{C:a5}
abbrev cS:=av->ay->Prop
abbrev cC:=a5->ay->cS->Prop
variable{Zs:cC}
abbrev eH:=a5->ay->(Bool->ay->Prop)->Prop
variable{S:eH}
abbrev ei:=a5->ay->(List av->ay->Prop)->Prop
variable{Za:ei}
structure px where
 aU:a5->ay->Prop
 dD:cS
 gv:a5->ay->Prop:=λ_ _=>False
 cx:a5->ay->Prop:=λ_ _=>False
abbrev f6:=px->a5->ay->Prop
variable{Zu:f6}
def ez(b:aO)(M:List (ag×a3))(C:a5)(B:cS)(L:ab)(Yn:ai):Prop:=(∃v P,aF b M C P Yn/\cw v L/\B v P)
def uE(b:aO)(M:List (ag×a3))(C:a5)(B:Bool->ay->Prop)(d:Bool)(Yn:ai):Prop:=(∃P,aF b M C P Yn/\B d P)
def VT(b:aO)(M:List (ag×a3))(C:a5)(B:List av->ay->Prop)(YM:List ab)(Yn:ai):Prop:=(∃Yl P,aF b M C P Yn/\bS Yl YM/\B Yl P)
def ew(b:aO)(M:List (ag×a3))(y:px)(F:Flow)(Yn:ai):Prop:=(
 match F with
 |.next=>∃a P,aF b M a P Yn/\y.aU a P
 |.brk=>∃a P,aF b M a P Yn/\y.gv a P
 |.cont=>∃a P,aF b M a P Yn/\y.cx a P
 |.ret L=>∃v a P,aF b M a P Yn/\cw v L/\y.dD v P)
def zc(b:aO)(c:bz)(i:cC)(M:List (ag×a3)):Prop:=(
 ∀(h:ai) (C:a5) (j:ay) (B:cS),aF b M C j h->i C j B->wpAny (aN b.prog b.w) b.A (b0 c b.env) (ez b M C B) b.c1 h)
def cj(b:aO)(c:bz)(i:cC):Prop:=(∀M,zc b c i M)
def Ir(b:aO)(c:bz)(i:eH)(M:List (ag×a3)):Prop:=(
 ∀(h:ai) (C:a5) (j:ay) (B:Bool->ay->Prop),aF b M C j h->i C j B->wpAny (aN b.prog b.w) b.A (ro c b.env<|b0 c b.env) (uE b M C B) b.c1 h)
def ix(b:aO)(c:bz)(i:eH):Prop:=(∀M,Ir b c i M)
def Fv(b:aO)(c:bz)(i:eH)(a:dA ab):Prop:=(
 ∀(M:List (ag×a3)) (h:ai) (C:a5) (j:ay) (B:Bool->ay->Prop),aF b M C j h->i C j B->wpAny (aN b.prog b.w) b.A (ro c b.env a) (uE b M C B) b.c1 h)
def kC(b:aO)(c:bz)(i:eH):Prop:=(∀a,Fv b c i a)
def kC.pt{i:eH}(e:kC b c i):ix b c i:=e _
def Ju(b:aO)(Q:List bz)(i:ei)(YD:Pos):Prop:=(
 ∀(M:List (ag×a3)) (h:ai) (C:a5) (j:ay) (B:List av->ay->Prop),aF b M C j h->i C j B->wpAny (aN b.prog b.w) b.A (spliced<|gp YD<|bH Q b.env) (VT b M C B) b.c1 h)
def gR(b:aO)(Q:List bz)(i:ei):Prop:=(∀YD,Ju b Q i YD)
def Iz(b:aO)(X:cf)(i:f6)(M:List (ag×a3)):Prop:=(
 ∀(h:ai) (C:a5) (j:ay) (y:px),aF b M C j h->i y C j->wpAny (aN b.prog b.w) b.A (exec X b.env) (ew b M y) b.c1 h)
def iT(b:aO)(X:cf)(i:f6):Prop:=(∀M,Iz b X i M)
def CH(b:aO)(X:List cf)(i:f6)(M:List (ag×a3)):Prop:=(
 ∀(h:ai) (C:a5) (j:ay) (y:px),aF b M C j h->i y C j->wpAny (aN b.prog b.w) b.A (execs X b.env) (ew b M y) b.c1 h)
def iA(b:aO)(X:List cf)(i:f6):Prop:=(∀M,CH b X i M)
def cn{YH:Type}{i:dA YH}{B a:YH->ai->Prop}{az:gW}(e:wpAny az O i B Yq h)(b:∀g h,B g h->a g h):wpAny az O i a Yq h:=g7 e b λ_ W f=>f
section
variable{b:aO}
def pS(a:Nat):cC:=(λC j B=>∃v,C[a]?=Z (Z v)/\B v j)
def qV(v:av):cC:=(λ_ j B=>B v j)
def GP(m:b.N[a]?=Z f)(o:vg b.env.scope f)(hd:(f==("__debug__" : aG))=au:=by decide)(p:(f==("__classdict__" : aG))=au:=by decide):cj b (.Name f YD) (pS a):=by
 intro M h C j B A e;let⟨@v,c,e⟩:=e;let⟨@k,q,r⟩:=A.loc;let⟨@L,s,t⟩:=r a f v m c o;have g:ez b M C B L h:=⟨v,j,A,s,e⟩;rcases t with ⟨d,u⟩|⟨d,n,i,l⟩
 ·exact x8 (wpAny_loadName_local A.ok.kind d q u g) hd
 ·rcases d with d|d
  ·exact x8 (wpAny_loadName_cell A.ok.kind d i l g) hd
  ·exact x8 (wpAny_loadName_free A.ok.kind d i l g p) hd
def XJ{a r YD}:cj b (.Constant (.int a) r YD) (qV<|.int a):=λ_ W W j W A e=>wpAny_Constant_int ⟨.int a,j,A.tok _,⟨_,rfl⟩,e⟩
def SV{d r YD}:cj b (.Constant (.bool d) r YD) (qV<|.aB d):=λ_ W W j W A e=>Constant_bool ⟨.aB d,j,A,rfl,e⟩
def LJ{r YD}:cj b (.Constant .none r YD) (qV .aV):=λ_ W W j W A e=>Constant_none ⟨.aV,j,A,rfl,e⟩
def dE(b:aO)(f:aG):Prop:=(b.env.kindOf f=Z .globalImplicit)
def J8(A:aF b M C j h)(a:dE b f)(c:b.aI f=Z L)(e:B L h)(hd:(f==("__debug__" : aG))=au:=by decide):wpAny (aN b.prog b.w) b.A (b0 (.Name f YD) b.env) B Yq h:=
 JO A.ok.kind a (Calls.loadGlobal_global (by rw[A.ok.glob];exact A.mod.glob.keeps A.gv) c e) hd
def iV(A:aF b M C j h)(a:dE b f)(c:b.aI f=Y)(d:e4 f=Z L)(e:B L h)(g:f ≠ "__name__" := by decide)(hd:(f==("__debug__" : aG))=au:=by decide):wpAny (aN b.prog b.w) b.A (b0 (.Name f YD) b.env) B Yq h:=by
 let⟨@i,z,E⟩:=A.mod.blt;exact JO A.ok.kind a (Calls.loadGlobal_builtin (by rw[A.ok.glob];exact A.mod.glob.keeps A.gv) c (by rw[A.ok.blt];exact z.keeps A.gv) ((E f g).trans d) e) hd
def C9(a:dE b f)(c:b.aI f=Z L)(s:cw v L)(hd:(f==("__debug__" : aG))=au:=by decide):cj b (.Name f YD) (qV v):=
 λ_ W W j W A e=>J8 A a c ⟨v,j,A,s,e⟩ hd
def T5(a:dE b f)(c:b.aI f=Y)(d:e4 f=Z L)(s:cw v L)(g:f ≠ "__name__" := by decide)(hd:(f==("__debug__" : aG))=au:=by decide):cj b (.Name f YD) (qV v):=
 λ_ W W j W A e=>iV A a c d ⟨v,j,A,s,e⟩ g hd
variable{g d:bz}{Za Zu:cC}{YD:Pos}
variable{hH k:eH}{c_:List bz}
def KQ(i L:eH):eH:=(λC j B=>i C j λn Yx=>if n=aa then L C Yx B else B au Yx)
def Jz(i L:eH):eH:=(λC j B=>i C j λn Yx=>if n=aa then B aa Yx else L C Yx B)
def We(i:eH):eH:=(λC j B=>i C j λn Yx=>B (!n) Yx)
def XP(a:ix b g hH):kC b (.BoolOp .And [g] YD) hH:=by
 intro d M h C j B A e;refine isTrue_and (cn (a M h C j B A e) λn f c=>?_);cases n with
 |true=>exact isTrue_and_nil c
 |false=>exact c
def Xo(a:ix b g hH):kC b (.BoolOp .Or [g] YD) hH:=by
 intro d M h C j B A e;refine isTrue_or (cn (a M h C j B A e) λn f c=>?_);cases n with
 |false=>exact isTrue_or_nil c
 |true=>exact c
def Tq(f:ix b g hH)(i:kC b (.BoolOp .And (d::c_) YD) k):kC b (.BoolOp .And (g::d::c_) YD) (KQ hH k):=by
 intro l M h C j B A e;refine isTrue_and (cn (f M h C j _ A e) λn m o=>?_);let⟨@Yx,a,c⟩:=o;cases n with
 |true=>exact i l M m C Yx B a c
 |false=>exact⟨Yx,a,c⟩
def Qk(f:ix b g hH)(i:kC b (.BoolOp .Or (d::c_) YD) k):kC b (.BoolOp .Or (g::d::c_) YD) (Jz hH k):=by
 intro l M h C j B A e;refine isTrue_or (cn (f M h C j _ A e) λn m o=>?_);let⟨@Yx,a,c⟩:=o;cases n with
 |true=>exact⟨Yx,a,c⟩
 |false=>exact i l M m C Yx B a c
def M9(a:ix b g hH):ix b (.UnaryOp .Not g YD) (We hH):=by
 intro M h C j B A e;exact isTrue_not (a M h C j (λn Yx=>B (!n) Yx) A e)
def T9(Za Zu:cC):cC:=(λC j B=>Za C j λf Yx=>∃n,f=.aB n/\if n=aa then Zu C Yx B else B (.aB au) Yx)
def UY{Zc}{i:cC}(e:cj b g i):cj b (.BoolOp Zc [g] YD) i:=λM h C j B A a=>BoolOp_one (e M h C j B A a)
def Ra(i:cj b g Za)(k:cj b (.BoolOp .And (d::c_) YD) Zu):cj b (.BoolOp .And (g::d::c_) YD) (T9 Za Zu):=by
 intro M h C j B A e;refine BoolOp_and (cn (i M h C j _ A e) λv l m=>?_);let⟨f,@Yx,c,o,a⟩:=m;let⟨@n,rfl,a⟩:=a;cases o;refine tX ?_;cases n with
 |true=>exact k M l C Yx B c a
 |false=>exact⟨.aB au,Yx,c,rfl,a⟩
def OU(i:eH)(Za Zu:cC):cC:=(λC j B=>i C j λn Yx=>if n=aa then Za C Yx B else Zu C Yx B)
def Xj(i:ix b n hH)(k:cj b g Za)(l:cj b d Zu):cj b (.IfExp n g d YD) (OU hH Za Zu):=by
 intro M h C j B A e;refine wpAny_IfExp (cn (i M h C j _ A e) λu a m=>?_);let⟨@Yx,c,f⟩:=m;cases u with
 |true=>exact k M a C Yx B c f
 |false=>exact l M a C Yx B c f
end
def de(Yo:Φ)(j:ay)(g:ag)(x:List av):Prop:=(
 lI j g (.lst x)\/
  ∃(m:a3) (Yy:Array ab) (w:Nat),Yo.lookup g=Z m/\m.cls=.type "list" /\ m.dict=Y/\m.data=.seq Yy w/\Yy.size<=sizeLine/\bS x Yy.toList)
def cL(Yo:Φ)(j:ay)(g:ag)(x:List av):Prop:=(
 lI j g (.tup x)\/
  ∃(m:a3) (Yy:Array ab) (w:Nat),Yo.lookup g=Z m/\m.cls=.type "tuple" /\ m.data=.seq Yy w/\Yy.size<=sizeLine/\bS x Yy.toList)
def OE:ab->Option av
 |.none=>Z .aV
 |.bool d=>Z (.aB d)
 |.int a _=>Z (.int a)
 |.str f _=>Z (.str f)
 |.bytes d _=>Z (.tH d)
 |.float d _=>Z (.AX d)
 |.ref g=>Z (.ref g)
 |.type w=>Z (.ty w)
 |_=>Y
def cw.abs{f:av}(s:cw f L):OE L=Z f:=by
 cases f with
 |aV=>cases s;rfl
 |aB _=>cases s;rfl
 |int _=>let⟨@i,rfl⟩:=s;rfl
 |str _=>let⟨@i,rfl⟩:=s;rfl
 |tH _=>let⟨@i,rfl⟩:=s;rfl
 |AX _=>let⟨@i,rfl⟩:=s;rfl
 |ref _=>cases s;rfl
 |ty _=>cases s;rfl
def cw.inj{f:av}(s:cw f L)(p:cw H L):f=H:=Option.some.inj (s.abs.symm.trans p.abs)
theorem bS.inj:∀{x YA:List av}{YM:List ab},bS x YM->bS YA YM->x=YA
 |_,_,_,.nil,.nil=>rfl
 |_,_,_,.cons s i,.cons Zd YU=>by rw[s.inj Zd,bS.inj i YU]
section
variable{b:aO}{M:List (ag×a3)}{C:a5}{j:ay}{h:ai}{g:ag}{x YA:List av}
def de.of(e:j g=Z (.lst x)):de Yo j g x:=.inl (.inl e)
def cL.of(e:j g=Z (.tup x)):cL Yo j g x:=.inl (.inl e)
def aF.list(A:aF b M C j h)(e:de b.K j g x):∃Yy:List ab,bS x Yy/\PlainL h.heap g Yy.toArray/\x.length<=sizeLine:=by
 rcases e with e|⟨m,Yy,w,a,d,hd,Ys,f,s⟩
 ·let@⟨D,⟨Yy,@w,s,c⟩⟩:=e.ok A.a4;exact⟨Yy,s,⟨_,w,c,rfl,rfl,rfl⟩,D⟩
 ·refine⟨Yy.toList,s,⟨m,w,A.o1 g m a,d,hd,by simpa using Ys⟩,?_⟩;have c:=s.length;simp only[dq]at c;lia
def aF.tuple(A:aF b M C j h)(e:cL b.K j g x):∃Yy:List ab,bS x Yy/\pj h.heap g Yy.toArray/\x.length<=sizeLine:=by
 rcases e with e|⟨m,Yy,w,a,d,Ys,f,s⟩
 ·let@⟨D,⟨@Yy,s,q⟩⟩:=e.ok A.a4;exact⟨Yy,s,q.tup,D⟩
 ·refine⟨Yy.toList,s,⟨m,A.o1 g m a,d,w,by simpa using Ys⟩,?_⟩;have c:=s.length;simp only[dq]at c;lia
def aF.Jf(A:aF b M C j h)(e:de b.K j g x)(R:de b.K j g YA):x=YA:=by
 let⟨@Yy,s,⟨m,@w,c,W,W,u⟩,W⟩:=A.list e;let⟨@y,Zd,⟨Y7,@f,a,W,W,d⟩,W⟩:=A.list R;rw[c]at a;cases a;rw[u]at d;injection d with Y2 _;have:Yy=y:=by simpa using congrArg Array.toList Y2
 subst this;exact s.inj Zd
def aF.ER(A:aF b M C j h)(e:cL b.K j g x)(R:cL b.K j g YA):x=YA:=by
 let⟨@Yy,s,⟨@m,c,W,⟨@w,u⟩⟩,W⟩:=A.tuple e;let⟨@y,Zd,⟨@Y7,a,W,⟨@f,d⟩⟩,W⟩:=A.tuple R;rw[c]at a;cases a;rw[u]at d;injection d with Y2 _;have:Yy=y:=by simpa using congrArg Array.toList Y2
 subst this;exact s.inj Zd
end
abbrev aO.lR(b:aO)(Yq:ab->ai->Prop):aO:={b with c1:=Yq}
abbrev aO.pL(b:aO):aO:=b.lR λ_ _=>False
def aO.Ok.lR(ok:b.Ok)(Yq:ab->ai->Prop):(b.lR Yq).Ok:=
 ⟨ok.mod,ok.kind,ok.glob,ok.blt,ok.above,ok.inj,ok.has,ok.qt,ok.hd,ok.frames,ok.rV,ok.xB,ok.bs,ok.mi,ok.qh,ok.p5,ok.jt,ok.pw⟩
def aO.Ok.m8(ok:(b.lR Yq).Ok):b.Ok:=
 ⟨ok.mod,ok.kind,ok.glob,ok.blt,ok.above,ok.inj,ok.has,ok.qt,ok.hd,ok.frames,ok.rV,ok.xB,ok.bs,ok.mi,ok.qh,ok.p5,ok.jt,ok.pw⟩
section
variable{b:aO}{M:List (ag×a3)}{C:a5}{j:ay}{h:ai}{Yq:ab->ai->Prop}
def aF.lR(A:aF b M C j h)(Yq:ab->ai->Prop):aF (b.lR Yq) M C j h:=⟨A.ok.lR Yq,A.os,A.bare,A.base,A.loc,A.cell,A.free,A.i9,A.pin,A.a4,A.len⟩
def aF.m8(A:aF (b.lR Yq) M C j h):aF b M C j h:=⟨A.ok.m8,A.os,A.bare,A.base,A.loc,A.cell,A.free,A.i9,A.pin,A.a4,A.len⟩
def ew.m8{y:px}{F:Flow}(e:ew (b.lR Yq) M y F Yn):ew b M y F Yn:=by
 cases F with
 |next=>let⟨a,@P,A,p⟩:=e;exact⟨a,P,A.m8,p⟩
 |brk=>let⟨a,@P,A,p⟩:=e;exact⟨a,P,A.m8,p⟩
 |cont=>let⟨a,@P,A,p⟩:=e;exact⟨a,P,A.m8,p⟩
 |ret L=>let⟨v,a,@P,A,s,p⟩:=e;exact⟨v,a,P,A.m8,s,p⟩
def iA.pL{X:List cf}{i:f6}(e:iA b.pL X i):iA b X i:=λM h C j y A a=>
 g7 (e M h C j y (A.lR _) a) (λ_ W p=>p.m8) λ_ W D=>False.elim D
end
section
variable{b:aO}{X:cf}{c_:List cf}{i L:f6}{c:bz}{Zs:cC}{YD:Pos}
def Mq:f6:=(λy C j=>y.aU C j)
def FC(i L:f6):f6:=(λy C j=>i {y with aU:=L y} C j)
def Wg:iA b [] Mq:=λ_ W C j W A e=>uN ⟨C,j,A,e⟩
def Td(z:iT b X i)(E:iA b c_ L):iA b (X::c_) (FC i L):=by
 intro M h C j y A e;refine Dy (cn (z M h C j {y with aU:=L y} A e) λF a p=>?_);cases F with
 |next=>
  let⟨c,@P,d,p⟩:=p;exact E M a c P y d p
 |ret v=>exact p
 |brk=>exact p
 |cont=>exact p
def NU(z:iT b X i):iA b [X] i:=by
 intro M h C j y A e;refine Dy (cn (z M h C j y A e) λF a p=>?_);cases F with
 |next=>exact uN p
 |ret v=>exact p
 |brk=>exact p
 |cont=>exact p
def aF.quiet(A:aF b M C j h):interactive b.env=au:=by simp[interactive,A.ok.kind]
def P9(Zs:cC):f6:=(λy C j=>Zs C j λ_ Yx=>y.aU C Yx)
def Vm(a:cj b c Zs)(Ys:oQ c Y YD.line b.env=pure au:=by rfl):iT b (.Expr c YD) (P9 Zs):=by
 intro M h C j y A e;exact wpAny_Expr_any (cn (a M h C j _ A e) λv i ⟨f,Yx,d,k,g⟩=>⟨C,Yx,d,g⟩) A.quiet Ys
def OH(Zs:cC):f6:=(λy C j=>Zs C j y.dD)
def R6(a:cj b c Zs):iT b (.Return (Z c) YD) (OH Zs):=by
 intro M h C j y A e;exact wpAny_Return_some (cn (a M h C j _ A e) λv k ⟨f,Yx,d,g,i⟩=>⟨f,C,Yx,d,g,i⟩)
def Wr(n:eH)(i L:f6):f6:=(λy C j=>n C j λd Yx=>if d=aa then i y C Yx else L y C Yx)
def OJ{g d:List cf}(k:ix b n S)(l:iA b g i)(m:iA b d L):iT b (.If n g d YD) (Wr S i L):=by
 intro M h C j y A e;refine wpAny_If (cn (k M h C j _ A e) λu a o=>?_);let⟨@Yx,c,f⟩:=o;cases u with
 |true=>exact l M a C Yx y c f
 |false=>exact m M a C Yx y c f
end
abbrev hy:=av->a5->ay->(a5->ay->Prop)->Prop
abbrev k3:=List av->a5->ay->(a5->ay->Prop)->Prop
def FX(b:aO)(c:bz)(i:hy)(M:List (ag×a3)):Prop:=(
 ∀(h:ai) (C:a5) (j:ay) (v:av) (L:ab) (B:a5->ay->Prop),aF b M C j h->cw v L->i v C j B->
  wpAny (aN b.prog b.w) b.A (ju c b.env L) (λ_ Yn=>∃a P,aF b M a P Yn/\B a P) b.c1 h)
def ky(b:aO)(a:bz)(i:hy):Prop:=(∀M,FX b a i M)
def EW(b:aO)(I:List bz)(i:k3)(M:List (ag×a3)):Prop:=(
 ∀(h:ai) (C:a5) (j:ay) (Yl:List av) (YM:List ab) (B:a5->ay->Prop),aF b M C j h->bS Yl YM->i Yl C j B->
  wpAny (aN b.prog b.w) b.A (A6 ((hM I b.env).map (·.2)) YM) (λ_ Yn=>∃a P,aF b M a P Yn/\B a P) b.c1 h)
def q2(b:aO)(I:List bz)(i:k3):Prop:=(∀M,EW b I i M)
abbrev x4:=av->av->av->ay->(ay->Prop)->Prop
def ye(b:aO)(i:x4):Prop:=(
 ∀(M:List (ag×a3)) (h:ai) (C:a5) (j:ay) (m a v:av) (c d L:ab) (B:ay->Prop),aF b M C j h->cw m c->cw a d->cw v L->i m a v j B->
  wpAny (aN b.prog b.w) b.A (wB c d L) (λ_ Yn=>∃P,aF b M C P Yn/\B P) b.c1 h)
section
variable{b:aO}{YD:Pos}
def xK(a:Nat):hy:=(λv C j B=>B (C.set a<|Z v) j)
def WY(c:b.N.Nodup)(T:b.N[a]?=Z f)(d:ks b.env.scope f)(g:b.fn f=aa\/b.env.scope.names.lookup f=Z .local:=by first|exact .inl rfl|exact .inr rfl|assumption):ky b (.Name f YD) (xK a):=by
 intro M h C j v L B A s e;exact Hi (u4 A c T d s (λYn i=>⟨_,j,i,e⟩) g)
def P1:k3:=(λYl C j B=>Yl=[]/\B C j)
def OG(i:hy)(L:k3):k3:=(λYl C j B=>∃v s,Yl=v::s/\i v C j λa P=>L s a P B)
def VN:q2 b [] P1:=by
 intro M h C j Yl YM B A s e;let@⟨c,e⟩:=e;subst c;cases s;exact Ji ⟨C,j,A,e⟩
def RA{i:hy}{L:k3}(z:ky b c i)(E:q2 b Q L)(Ys:(hM (c::Q) b.env).map (·.2)=ju c b.env::(hM Q b.env).map (·.2):=by rfl):q2 b (c::Q) (OG i L):=by
 intro M h C j Yl YM B A s e;let⟨v,@m,a,e⟩:=e;subst a;cases s with
 |cons s d=>
  rw[Ys];refine zG (cn (z M h C j _ _ _ A s e) λ_ f g=>?_);let⟨ZH,@Yx,k,l⟩:=g;exact E M f ZH Yx _ _ B k d l
def Wc(Yo:Φ)(w:Nat)(i:k3):hy:=(λv C j B=>∃g x,v=.ref g/\cL Yo j g x/\x.length=w/\i x C j B)
def Sv{i:k3}(k:b.calm=aa)(e:q2 b Q i)(l:(hM Q b.env).length=w:=by rfl)(n:(hM Q b.env).findIdx? (·.1)=Y:=by rfl):ky b (.Tuple Q o YD) (Wc b.K w i):=by
 intro M h C j v L B A s a;let⟨g,@x,p,q,r,a⟩:=a;subst p;cases s;let⟨@Yy,f,bG,y⟩:=A.tuple q;refine assign_Tuple_tuple (A.ok.hd k) bG (by simp[l,<-r,f.length]) n λR t=>?_;have u:aF b M C j {h with heap:=R}:=A.kept (YU:=h.toks) λd m c=>t d m (cZ<|bM c) c;exact e M _ C j x _ B u ⇑f a
def L4(k b:cC)(i:x4):hy:=(λv C j B=>k C j λm Yx=>b C Yx λa YO=>i m a v YO λc=>B C c)
def V7{m a:bz}{k l:cC}{i:x4}(n:cj b m k)(T:cj b a l)(Ys:ye b i)(o:∀v,ju (.Subscript m a YD) b.env v=(do
   let c <-holding [v] (b0 m b.env)
   let d <-holding [v,c] (b0 a b.env)
   standAt YD
   holding [v,c,d] (wB c d v)
   release [v,c,d] []):=by intro W;rfl):ky b (.Subscript m a YD) (L4 k l i):=by
 intro M h C j v L B A s e;rw[o];refine ao (fM<|cn (n M h C j _ A e) λc p g=>?_);let⟨f,@Yx,q,r,t⟩:=g;refine ao (fM<|cn (T M p C Yx _ q t) λd u g=>?_);let⟨H,@YO,w,x,y⟩:=g;refine ao (wO<|ao<|fM<|cn (Ys M u C YO f H v c d L _ w r x s y) λ_ F g=>?_);let⟨@z,D,E⟩:=g;exact wpAny_release ⟨C,z,D,E⟩
def y_(Zs:cC)(J:hy):f6:=(λy C j=>Zs C j λf Yx=>J f C Yx y.aU)
def Ve{J:hy}(a:cj b c Zs)(d:ky b YT J)(Ys:uT [YT] c YD.line b.env=pure au:=by rfl)(g:wa [YT] c b.env=pure Y:=by rfl)(z:(hM [YT] b.env).map (·.2)=[ju YT b.env]:=by rfl):iT b (.Assign [YT] c YD) (y_ Zs J):=by
 intro M h C j y A e;refine wpAny_Assign_stores (cn (a M h C j _ A e) λv i ⟨f,Yx,k,l,m⟩=>?_) Ys g;rw[z];exact cn (d M i C Yx f v _ k l m) λ_ n p=>p
def Mc{i:Pos}(d:b.N.Nodup)(T:b.N[a]?=Z f)(g:ks b.env.scope f)(k:cj b c Zs)(Ys:oQ c (Z<|.Name f i) YD.line b.env=pure au:=by rfl)(l:b.fn f=aa\/b.env.scope.names.lookup f=Z .local:=by first|exact .inl rfl|exact .inr rfl|assumption):
  iT b (.Assign [.Name f i] c YD) (y_ Zs<|xK a):=by
 intro M h C j y A e;refine wpAny_Assign_Name (cn (k M h C j _ A e) λv q ⟨H,Yx,m,n,o⟩=>?_) Ys;exact u4 m d T g n (λr p=>⟨_,Yx,p,o⟩) l
def UP(a r:Nat)(Za:ei):f6:=(λy C j=>Za C j λYl Yx=>∃v l,Yl=[v,l]/\y.aU ((C.set a<|Z v).set r<|Z l) Yx)
def R9{H:aG}{g d:bz}{kr o pt:Pos}{Ze YR s}(D:b.calm=aa)(u:b.N.Nodup)(T:b.N[a]?=Z f)(E:b.N[r]?=Z H)(F:a≠r)(x:b.env.scope.names.lookup f=Z .local)(z:b.env.scope.names.lookup H=Z .local)(G:gR b [g,d] Za)(I:wa [.Tuple [.Name f kr,.Name H o] Ze pt] (.Tuple [g,d] YR s) b.env=pure (Z [f,H]))(Ys:uT [.Tuple [.Name f kr,.Name H o] Ze pt] (.Tuple [g,d] YR s) YD.line b.env=pure au:=by rfl):
  iT b (.Assign [.Tuple [.Name f kr,.Name H o] Ze pt] (.Tuple [g,d] YR s) YD) (UP a r Za):=by
 intro M h C j y A e;rw[exec_Assign_arm];refine ao (wO ?_);rw[Ys];refine ao (aM ?_);rw[aH ∅];refine ao (Tuple_<|cn (G _ M h C j _ A e) λYM i J=>?_);let⟨Yl,@Yx,L,P,t⟩:=J;let⟨v,@l,Q,t⟩:=t;subst Q;obtain⟨k,n,rfl,S,U⟩:∃k n,YM=[k,n]/\cw v k/\cw l n:=by
  cases P with
  |cons q p=>
   cases p with
   |cons al am=>
    cases am;exact⟨_,_,rfl,q,al⟩
 refine gz ?_ (by show 2<=sizeLine;decide);have an:aF b M C Yx {i with heap:=i.heap.push {cls:=.type "tuple",data:=.seq [k,n].toArray} }:=L.kept (YU:=i.toks) λd m c=>bJ _ c;rw[I];refine ao (aM ?_);show wpAny (aN b.prog b.w) b.A (do rule "assign.swapped-stores";let YJ <-unpackItems (.ref i.heap.objs.size) 2 Y;A6 [λv=>vK b.env H v,λv=>vK b.env f v] YJ.reverse;pure Flow.next) _ _ _;refine ao (iJ<|ao<|unpackItems_tuple (items:=#[k,n]) (A.ok.hd D) (pj.new i.heap _) λR ap=>?_);have as:=an.kept (R:=R) (YU:=i.toks) λd m c=>ap d m (cZ<|bM c) c;show wpAny _ _ (A6 [λv=>vK b.env H v,λv=>vK b.env f v] [n,k] >>= λ_=>pure Flow.next) _ _ _;refine ao (zG<|Dq<|u4 as u E (.inl z) U (λa2 a1=>?_)<|.inr z);refine zG (Dq<|u4 a1 u T (.inl x) S (λbd B=>Ji<|aM ?_)<|.inr x);rw[A0 _ _ (eQ F)]at B;exact⟨_,Yx,B,t⟩
def Mk(n:eH)(Zu:f6):f6:=(λy C j=>∃W:Nat->a5->ay->Prop,(∃k,W k C j)/\∀k C j,W k C j->
 n C j λd Yx=>if d=aa then ∃Y0:a5->ay->Prop,(∀a P,Y0 a P->∃b,b<k/\W b a P)/\Zu {y with aU:=Y0,cx:=Y0,gv:=y.aU} C Yx else y.aU C Yx)
def Wq(p:ri (aN b.prog b.w) b.A b.env b.c1)(t:ix b n S)(u:iA b ZD Zu):iT b (.While n ZD [] YD) (Mk S Zu):=by
 intro M h C j y A e;let⟨@W,⟨@x,jV⟩,turn⟩:=e;refine wpAny_While (codeAny_whileLoop (λw Yn=>∃q P,aF b M q P Yn/\W w q P) ?_ x ⟨C,j,A,jV⟩);rintro w z ⟨ZH,Yx,B,dB⟩;refine oK p (cn (t M z ZH Yx _ B<|turn w ZH Yx dB) λd D E=>?_);let⟨@YO,r,f⟩:=E;cases d with
 |true=>
  let⟨@Y0,s,f⟩:=f;rw[aE rfl];refine oK p (cn (u M D ZH YO _ r f) λF G g=>?_);cases F with
  |next=>
   let⟨a,@c,i,k⟩:=g;let⟨@m,o,d_⟩:=s a c k;exact⟨m,o,a,c,i,d_⟩
  |cont=>
   let⟨a,@c,i,k⟩:=g;let⟨@m,o,d_⟩:=s a c k;exact⟨m,o,a,c,i,d_⟩
  |brk=>exact g
  |ret v=>exact g
 |false=>
  rw[aH dj];exact uN ⟨ZH,YO,r,f⟩
end
structure fY where
 go:Nat->ay->Prop
 rU:Nat->ay->av->ay->Prop
 stop:Nat->ay->Prop
def ha(b:aO)(M:List (ag×a3))(j:ay)(d:ag):Prop:=(
 j d=Y/\d≠b.env.locals/\d∉b.aJ/\(d∈b.ex\/b.fH.heap.objs.size<=d)/\(∀f n,b.env.cells.lookup f=Z n->n≠d)/\∀q∈b.la++M,q.1≠d)
def aF.rg(A:aF b M C j h)(a:h.heap.objs.size<=d)(e:P d=Y):ha b M P d:=by
 refine⟨e,iQ<|fP A.lt a,A.TG a,.inr<|fa A.jK a,λf n c D=>?_,λq g D=>?_⟩
 ·let⟨@v,p⟩:=A.cell f n c;exact absurd (fP p.lt (by rw[D];exact a)) (j9 _)
 ·exact absurd (fP (bM (A.pin q g).1) (by rw[D];exact a)) (j9 _)
structure sF(YC:bO)(l:bh)(Yo:Φ)(YT:bz)(Zo:fY)(cg:List ag)(Yu:ag)(i:Nat->aX->Prop):Prop where
 mem:Yu∈cg
 obj:∀a e,i a e->∀d∈cg,∃m,e.get? d=Z m/\∀v,m.data≠.cell v
 keep:∀a e R,i a e->(∀d∈cg,∀m,e.get? d=Z m->R.get? d=Z m)->i a R
 item:∀(b:aO),b.prog=YC->b.w=l->b.K=Yo->b.calm=aa->∀(a:Nat) (M:List (ag×a3)) (h:ai) (C:a5) (j:ay) (Yq:ab->ai->Prop),aF b M C j h->(∀d∈cg,ha b M j d)->i a h.heap->Zo.go a j->
  wpAny (aN YC l) b.A (fv<|.ref Yu) (λs s1=>∃L,s=Z L/\
   wpAny (aN YC l) b.A (ts YT (.ref Yu) L) (λ_ s2=>∃f P,aF b M C P s2/\cw f L/\Zo.rU a j f P/\i (a+1) s2.heap/\∀d∈cg,P d=Y) Yq s1) Yq h
 done:∀(b:aO),b.prog=YC->b.w=l->b.K=Yo->b.calm=aa->∀(a:Nat) (M:List (ag×a3)) (h:ai) (C:a5) (j:ay) (Yq:ab->ai->Prop),aF b M C j h->(∀d∈cg,ha b M j d)->i a h.heap->Zo.stop a j->
  wpAny (aN YC l) b.A (fv<|.ref Yu) (λs s1=>s=Y/\aF b M C j s1) Yq h
 self:∀(O:bA) (a:Nat) (h:ai) (B:ab->ai->Prop) (Yq:ab->ai->Prop),i a h.heap->B (.ref Yu) h->wpAny (aN YC l) O (o_<|.ref Yu) B Yq h
abbrev bI:=a5->ay->(fY->ay->Prop)->Prop
def H5(b:aO)(M:List (ag×a3))(C:a5)(YT:bz)(Ym:fY->ay->Prop)(c:ab)(a:ai):Prop:=(
 ∃(Yu:ag) (cg:List ag) (i:Nat->aX->Prop) (Zo:fY) (P:ay),c=.ref Yu/\aF b M C P a/\sF b.prog b.w b.K YT Zo cg Yu i/\i 0 a.heap/\(∀d∈cg,ha b M P d)/\Ym Zo P)
def JT(b:aO)(YT Zl:bz)(ZG:bI)(M:List (ag×a3)):Prop:=(
 ∀(h:ai) (C:a5) (j:ay) (Ym:fY->ay->Prop),aF b M C j h->ZG C j Ym->
  wpAny (aN b.prog b.w) b.A (b0 Zl b.env) (λv a=>wpAny (aN b.prog b.w) b.A (o_ v) (H5 b M C YT Ym) b.c1 a) b.c1 h)
def kp(b:aO)(YT Zl:bz)(ZG:bI):Prop:=(∀M,JT b YT Zl ZG M)
def Ce{az:gW}{Yq:ab -> ai -> Prop}{m:a3}{w:String}{Yl:Array ab}{B:Unit -> ai -> Prop}(b:h.heap.get? Yu=Z m)(c:m.cls=.type w)(hd:m.data=.fields Yl)(d:["enumerate", "zip", "dict_itemiterator", "dict_reverseitemiterator", "odict_iterator", "itertools.zip_longest", "itertools.pairwise"].contains w=au)(a:B () h): wpAny az O (ts YT (.ref Yu) L) B Yq h:=by
  unfold ts;cases YT <;> first
    | exact aM a
    | (cases L <;> first
        | exact aM a
        | (refine ao (u1 b ?_)
           rw [c,hd];show wpAny az O (if (["enumerate", "zip", "dict_itemiterator", "dict_reverseitemiterator", "odict_iterator", "itertools.zip_longest", "itertools.pairwise"].contains w&&Yl[0]? == Z (eD _))=aa then _ else _) B Yq h;rw [aH (by intro e; rw [d,Bool.false_and]at e; cases e)];exact aM a))
def tc(Yo:Φ)(g:ag):fY:=(
 ⟨λa j=>∃x f,de Yo j g x/\x[a]?=Z f,λa j f P=>P=j/\∀x,de Yo j g x->x[a]?=Z f,λa j=>∃x,de Yo j g x/\x.length<=a⟩)
def vJ(Yo:Φ)(g:ag):fY:=(
 ⟨λa j=>∃x f,cL Yo j g x/\x[a]?=Z f,λa j f P=>P=j/\∀x,cL Yo j g x->x[a]?=Z f,λa j=>∃x,cL Yo j g x/\x.length<=a⟩)
def r0(G:Int)(w:Nat):fY:=(⟨λa W=>a<w,λa j f P=>P=j/\f=.int (G+a),λa W=>w<=a⟩)
theorem R2(g Yu:ag):sF YC l Yo YT (tc Yo g) [Yu] Yu (λa e=>e.IsListIter Yu g a) where
 mem:=by simp
 obj:=λa e X d i=>by
  have c:d=Yu:=by simpa using i
  subst c;let⟨@m,c,n,u⟩:=X;exact⟨m,c,λv D=>by rw[u]at D;cases D⟩
 keep:=λa e R X o=>X.at λm c=>o Yu ↥0 m c
 item:=by
  intro b r s t H a M h C j Yq A k X w;subst r s t;let⟨x,@f,p,y⟩:=w;let⟨@Yy,z,q,J⟩:=A.list p;let⟨@L,N,O⟩:=z.get y;let@⟨Zt,B,P,E,F,G⟩:=k Yu ↥0;refine wpAny_pyNext_list_item X q.isList (x:=L) ⇑N λR I cY=>?_;have Q:aF b M C j {h with heap:=R}:=A.turned (YU:=h.toks) (λd m i c=>(cY.2 d i).trans c) Zt B E F G;let⟨@m,c,n,u⟩:=id I;exact⟨L,rfl,Ce (h:={h with heap:=R}) c n u ∅ ⟨f,j,Q,O,⟨rfl,λYA S=>by rw[A.Jf S p];exact y⟩,I,λd i=>(k d i).1⟩⟩
 done:=by
  intro b r s t H a M h C j Yq A k X w;subst r s t;let⟨@x,p,y⟩:=w;let⟨@Yy,z,q,J⟩:=A.list p;let@⟨Zt,B,P,E,F,G⟩:=k Yu ↥0;have U:=z.length;exact wpAny_pyNext_list_end (A.ok.hd H) X q.isList (by simp;lia) λR T=>⟨rfl,A.turned (YU:=h.toks) (λd m i c=>T d m i c) Zt B E F G⟩
 self:=λ_ W W W W X e=>wpAny_pyIter_listiter X e
theorem Pt(g Yu:ag):sF YC l Yo YT (vJ Yo g) [Yu] Yu (λa e=>e.IsTupleIter Yu g a) where
 mem:=by simp
 obj:=λa e X d i=>by
  have c:d=Yu:=by simpa using i
  subst c;let⟨@m,c,n,u⟩:=X;exact⟨m,c,λv D=>by rw[u]at D;cases D⟩
 keep:=λa e R X o=>X.at λm c=>o Yu ↥0 m c
 item:=by
  intro b r s t H a M h C j Yq A k X w;subst r s t;let⟨x,@f,p,y⟩:=w;let⟨@Yy,z,q,J⟩:=A.tuple p;let⟨@L,N,O⟩:=z.get y;let@⟨Zt,B,P,E,F,G⟩:=k Yu ↥0;refine wpAny_pyNext_tuple_item X (show h.heap.IsTuple g Yy.toArray from q) (x:=L) ⇑N λR I cY=>?_;have Q:aF b M C j {h with heap:=R}:=A.turned (YU:=h.toks) (λd m i c=>(cY.2 d i).trans c) Zt B E F G;let⟨@m,c,n,u⟩:=id I;exact⟨L,rfl,Ce (h:={h with heap:=R}) c n u ∅ ⟨f,j,Q,O,⟨rfl,λYA S=>by rw[A.ER S p];exact y⟩,I,λd i=>(k d i).1⟩⟩
 done:=by
  intro b r s t H a M h C j Yq A k X w;subst r s t;let⟨@x,p,y⟩:=w;let⟨@Yy,z,q,J⟩:=A.tuple p;let@⟨Zt,B,P,E,F,G⟩:=k Yu ↥0;have U:=z.length;exact wpAny_pyNext_tuple_end (A.ok.hd H) X (show h.heap.IsTuple g Yy.toArray from q) (by simp;lia) λR T=>⟨rfl,A.turned (YU:=h.toks) (λd m i c=>T d m i c) Zt B E F G⟩
 self:=λ_ W W W W X e=>wpAny_pyIter_tupleiter X e
theorem WB(Yu:ag)(G:Int)(w:Nat):sF YC l Yo YT (r0 G w) [Yu] Yu (λa e=>IsRangeIter e Yu (G+(a:Nat)*1) ((w:Int)-(a:Nat)) 1) where
 mem:=by simp
 obj:=λa e X d f=>by
  have c:d=Yu:=by simpa using f
  subst c;exact⟨_,X,λv D=>by
   have z:Data.fields _=Data.cell v:=D;cases z⟩
 keep:=λa e R X o=>o Yu ↥0 _ X
 item:=by
  intro b k n p q a M h C j Yq A g X r;subst k n p;let@⟨Zt,s,B,t,u,x⟩:=g Yu ↥0;have W:=iD.range (prog:=b.prog) (w:=b.w) (A.ok.hd q) Yu G 1 w;refine W.item a h _ _ r X λv R YX E y cE=>?_;let⟨@i,rfl⟩:=E;have F:aF b M C j {h with heap:=R,toks:=YX}:=A.turned (λd m f c=>cE d m ⇑f c) Zt s t u x;refine⟨_,rfl,Ce (h:={h with heap:=R,toks:=YX}) (w := "range_iterator") y rfl rfl ∅ ⟨.int<|G+a,j,F,⟨i,?_⟩,⟨rfl,rfl⟩,y,λd f=>(g d f).1⟩⟩;rw[Lp]
 done:=by
  intro b k n p q a M h C j Yq A g X r;subst k n p;let@⟨Zt,s,B,t,u,x⟩:=g Yu ↥0;exact wpAny_pyNext_range_end (A.ok.hd q) X (by have:w<=a:=r;lia) λR H=>⟨rfl,A.turned (YU:=h.toks) (λd m f c=>H d m f c) Zt s t u x⟩
 self:=λ_ U U U U X e=>wpAny_pyIter_rangeiter X e
section
variable{b:aO}{YT:bz}
def CT{Ym:fY->ay->Prop}{G T:Int}{i L v:hY}{YX:Nat}(A:aF b M C j h)(z : -(2^62)<=G)(E:G<2^62)(e : -(2^62)<=T)(f:T<2^62)(p:Ym (r0 G (T-G).toNat) j):wpAny (aN b.prog b.w) b.A (o_<|.ref h.heap.objs.size) (H5 b M C YT Ym) Yq {h with heap:=h.heap.push {cls:=.type "range",data:=.fields #[.int G i,.int T L,.int 1 v]},toks:=YX}:=by
 refine wpAny_pyIter_range (IsRange.new ..) (small_one z E e f) ?_;have a:aF b M C j {h with heap:=h.heap.push {cls:=.type "range",data:=.fields #[.int G i,.int T L,.int 1 v]},toks:=YX}:=A.kept λd m c=>bJ _ c;refine⟨(h.heap.push {cls:=.type "range",data:=.fields #[.int G i,.int T L,.int 1 v]}).objs.size,[(h.heap.push {cls:=.type "range",data:=.fields #[.int G i,.int T L,.int 1 v]}).objs.size],_,_,j,rfl,
  a.kept (YU:=YX) λd m c=>bJ _ c,WB _ G (T-G).toNat,?_,λd g=>?_,p⟩
 ·have k:G+((0:Nat):Int)*1=G:=by simp
  have n:(((T-G).toNat:Nat):Int)-((0:Nat):Int)=aY.Range.rangeSize G T 1:=by rw[rangeSize_one];split<;>lia
  show IsRangeIter _ _ (G+((0:Nat):Int)*1) ((((T-G).toNat:Nat):Int)-((0:Nat):Int)) 1;rw[k,n];exact cO _ rfl
 ·have c:d=(h.heap.push {cls:=.type "range",data:=.fields #[.int G i,.int T L,.int 1 v]}).objs.size:=by simpa using g
  subst c;exact a.rg (bp _) (a.a4.fresh<|bp _)
def UH(Za:ei):bI:=(λC j Ym=>Za C j λYl Yx=>∃r:Int,Yl=[.int r] /\ -(2^62)<=r/\r<2^62/\Ym (r0 0 r.toNat) Yx)
def MF(Za:ei):bI:=(λC j Ym=>Za C j λYl Yx=>∃a r:Int,Yl=[.int a,.int r]/\(-(2^62)<=a/\a<2^62 /\ -(2^62)<=r/\r<2^62)/\Ym (r0 a (r-a).toNat) Yx)
variable{g:bz}
def XF(d:dE b "range")(f:b.aI "range" = Y)(k:gR b [g] Za)(Ys:bH [g] b.env=[(au,b0 g b.env)]:=by rfl):kp b YT (.Call (.Name "range" q) [g] [] YD) (UH Za):=by
 intro M h C j Ym A e;refine o5 (iV A d f boot_range<|lX (cn (k YD M h C j _ A e) λYM t ⟨Yl,Yx,l,m,a⟩=>?_) Ys rfl);let⟨@r,c,a,n,p⟩:=a;subst c;cases m with
 |cons s o=>
  cases o;let⟨@i,rfl⟩:=s;exact call_range_1 (CT l ⋯ ⋯ a n ⇑p)
def RS{d:bz}(m:dE b "range")(n:b.aI "range" = Y)(o:gR b [g,d] Za)(Ys:bH [g,d] b.env=[(au,b0 g b.env),(au,b0 d b.env)]:=by rfl)(l:bH [d] b.env=[(au,b0 d b.env)]:=by rfl):
  kp b YT (.Call (.Name "range" q) [g,d] [] YD) (MF Za):=by
 intro M h C j Ym A e;refine o5 (iV A m n boot_range (lX (cn (o YD M h C j _ A e) λYM y ⟨Yl,Yx,t,u,f⟩=>?_) (by rw[Ys,l]) (by rw[l];rfl)));let⟨a,@r,c,@⟨f,v,w,x⟩,p⟩:=f;subst c;cases u with
 |cons s k=>
  cases k with
  |cons Zd k=>
   cases k;let⟨@i,rfl⟩:=s;let⟨@YU,rfl⟩:=Zd;exact call_range_2 (CT t f v w x p)
def CV(ZG:bI)(J:hy)(Zu:f6):f6:=(λy C j=>ZG C j λZo Yx=>∃W:Nat->Nat->a5->ay->Prop,(∃k,W 0 k C Yx)/\∀a k C j,W a k C j->
 (Zo.stop a j/\y.aU C j)\/(Zo.go a j/\∃Y0:a5->ay->Prop,(∀b P,Y0 b P->∃c,c<k/\W (a+1) c b P)/\∀f P,Zo.rU a j f P->J f C P λd YO=>Zu {y with aU:=Y0,cx:=Y0,gv:=y.aU} d YO))
def nu(cg:List ag)(e:aX):List (ag×a3):=(cg.filterMap λd=>(e.get? d).map λm=>(d,m))
def v9{m:a3}(a:d∈cg)(c:e.get? d=Z m):(d,m)∈nu cg e:=wH.mpr ⟨d,a,by rw[c];rfl⟩
def EL{q:ag×a3}(a:q∈nu cg e):q.1∈cg/\e.get? q.1=Z q.2:=by
 let⟨@d,b,c⟩:=wH.mp a;cases p:e.get? d with
 |none=>rw[p]at c;cases c
 |some m=>
  rw[p]at c;have f:(d,m)=q:=Option.some.inj c;subst f;exact⟨b,p⟩
def aF.pinned(A:aF b M C j h)(f:∀d∈cg,ha b M j d)(g:∀d∈cg,∃m,h.heap.get? d=Z m/\∀v,m.data≠.cell v):aF b (M++nu cg h.heap) C j h:=
 A.qp λq i=>(eh.mp i).elim (λD=>A.pin q<|fE _ D) λD=>by
  let@⟨a,c⟩:=EL D;let@⟨Zt,k,l,_⟩:=f q.1 a;let⟨@m,e,u⟩:=g q.1 a;rw[c]at e;cases e;exact⟨c,Zt,k,l,u⟩
def aF.BW{bo:List (ag×a3)}(A:aF b (M++bo) C j h):aF b M C j h:=A.qp λq a=>A.pin q (fE _<|gd _ a)
def KX{Zl:bz}{ZG:bI}{J:hy}(t:ri (aN b.prog b.w) b.A b.env b.c1)(R:b.calm=aa)(T:kp b YT Zl ZG)(a2:ky b YT J)(g:iA b ZD Zu)(Ys:∀f,me Zl b.env f=pure f:=by intro O;rfl):iT b (.For YT Zl ZD [] YD) (CV ZG J Zu):=by
 intro M h C j y A e;refine wpAny_For (cn (T M h C j _ A e) λv fr z=>cn z λf0 f1 E=>?_) Ys;let⟨Yu,cg,i,Zo,@YO,c,bd,U,be,S,⟨@W,⟨@bi,jV⟩,turn⟩⟩:=E;subst c;have H:∀{P:ay},(∀d∈cg,P d=Y)->∀d∈cg,ha b M P d:=λbm d g=>⟨bm d g,(S d g).2⟩;refine codeAny_forLoop_any (λw Yn=>∃a x P,aF b M x P Yn/\i a Yn.heap/\(∀d∈cg,P d=Y)/\W a w x P) ?_ bi ⟨0,C,YO,bd,be,λd g=>(S d g).1,jV⟩;rintro w al ⟨a,B,G,am,an,ap,d_⟩;rcases turn a w B G d_ with ⟨stop,bn⟩|⟨go,Y0,bs,step⟩
 ·refine oK t (cn (U.done b rfl rfl rfl R a M al B G b.c1 am (H ap) an stop) λs bv r=>?_);let@⟨I,ca⟩:=r;subst I;exact uN ⟨B,G,ca,bn⟩
 ·refine oK t (cn (U.item b rfl rfl rfl R a M al B G b.c1 am (H ap) an go) λs bv r=>?_);let⟨@L,I,cd⟩:=r;subst I;refine oK t (cn cd λ_ as r=>?_);let⟨f,@a1,ce,ch,ci,N,cl⟩:=r;have co:=ce.pinned (H cl) (U.obj _ _ N);refine oK t (cn (a2 _ as B a1 f L _ co ch<|step f a1 ci) λ_ cr r=>?_);let⟨cs,@db,ds,dL⟩:=r;refine oK t (cn (g _ cr cs db _ ds dL) λF Q q=>?_);have again:∀{n:a5}{o:ay},aF b (M++nu cg as.heap) n o Q->Y0 n o->∃k,k<w/\∃a x P,aF b M x P Q/\i a Q.heap/\(∀d∈cg,P d=Y)/\W a k x P:=λ{n o} p D=>by
   let⟨@eq,ev,ex⟩:=bs n o D;refine⟨eq,ev,a+1,n,o,p.BW,U.keep _ _ _ N λd g m c=>(p.pin (d,m)<|fE _<|fE _<|v9 g c).1,λd g=>?_,ex⟩;let⟨@m,c,u⟩:=U.obj _ _ N d g;exact (p.pin (d,m)<|fE _<|fE _<|v9 g c).2.1
  cases F with
  |next=>let⟨n,@o,p,D⟩:=q;exact again p D
  |cont=>let⟨n,@o,p,D⟩:=q;exact again p D
  |brk=>let⟨n,@o,p,q⟩:=q;exact⟨n,o,p.BW,q⟩
  |ret v=>let⟨fd,n,@o,p,fn,q⟩:=q;exact⟨fd,n,o,p.BW,fn,q⟩
end
abbrev b9:=av->av->ay->cS->Prop
variable{s:b9}
def d2(b:aO)(F:ab->ab->dA ab)(s:b9):Prop:=(
 ∀(M:List (ag×a3)) (h:ai) (C:a5) (j:ay) (f H:av) (v L:ab) (B:cS),aF b M C j h->cw f v->cw H L->s f H j B->
  wpAny (aN b.prog b.w) b.A (F v L) (ez b M C B) b.c1 h)
def AM(b:aO)(F:ab->dA ab)(s:av->ay->cS->Prop):Prop:=(
 ∀(M:List (ag×a3)) (h:ai) (C:a5) (j:ay) (f:av) (v:ab) (B:cS),aF b M C j h->cw f v->s f j B->
  wpAny (aN b.prog b.w) b.A (F v) (ez b M C B) b.c1 h)
def eZ(b:aO)(F:ab)(s:List av->ay->cS->Prop):Prop:=(
 ∀(M:List (ag×a3)) (h:ai) (C:a5) (j:ay) (x:List av) (YM:List ab) (B:cS),aF b M C j h->bS x YM->s x j B->
  wpAny (aN b.prog b.w) b.A (call F YM) (ez b M C B) b.c1 h)
def M4(b:aO)(s:av->ay->(Bool->ay->Prop)->Prop):Prop:=(
 ∀(M:List (ag×a3)) (h:ai) (C:a5) (j:ay) (f:av) (v:ab) (B:Bool->ay->Prop),aF b M C j h->cw f v->s f j B->
  wpAny (aN b.prog b.w) b.A (truthy v) (uE b M C B) b.c1 h)
def u7(s:b9)(Za Zu:cC):cC:=(λC j B=>Za C j λf Yx=>Zu C Yx λH YO=>s f H YO B)
def Sl(s:av->ay->cS->Prop)(Za:cC):cC:=(λC j B=>Za C j λf Yx=>s f Yx B)
def qe(aP:Int->Int->Prop)(J:Int->Int->av):b9:=(λf H j B=>∃a r,f=.int a/\H=.int r/\aP a r/\B (J a r) j)
def mn(J:Int->Int->av):b9:=(λf H j B=>∃a r,f=.int a/\H=.int r/\B (J a r) j)
def GK(J:Int->av):av->ay->cS->Prop:=(λf j B=>∃a,f=.int a/\B (J a) j)
section
variable{b:aO}{g d n:bz}{Za Zu S:cC}{YD:Pos}
def yp(i:cj b g Za)(k:cj b d Zu){M:List (ag×a3)}{h:ai}{C:a5}{j:ay}{Ym:av->av->ay->Prop}(A:aF b M C j h)(e:Za C j λf Yx=>Zu C Yx λH YO=>Ym f H YO){B:ab->ai->Prop}{F:ab->ab->dA ab}(m:∀v L a f H YO,aF b M C YO a->cw f v->cw H L->Ym f H YO->wpAny (aN b.prog b.w) b.A (F v L) B b.c1 a):
  wpAny (aN b.prog b.w) b.A (b0 g b.env) (λv n=>wpAny (aN b.prog b.w) b.A (b0 d b.env) (λL o=>wpAny (aN b.prog b.w) b.A (F v L) B b.c1 o) b.c1 n) b.c1 h:=by
 refine cn (i M h C j _ A e) λv p c=>?_;let⟨f,@Yx,q,r,s⟩:=c;refine cn (k M p C Yx _ q s) λL a c=>?_;let⟨H,@YO,t,u,x⟩:=c;exact m v L a f H YO t r u x
def Xn{Zc:AZ}(a:d2 b (gr Zc) s)(c:cj b g Za)(i:cj b d Zu):cj b (.BinOp g Zc d YD) (u7 s Za Zu):=by
 intro M h C j B A e;exact wpAny_BinOp (yp c i A e λv L k f H YO l m n p=>a M k C YO f H v L B l m n p)
def UO{Zc:UnaryOp}{s:av->ay->cS->Prop}(a:AM b (unaryOp Zc) s)(c:cj b g Za):cj b (.UnaryOp Zc g YD) (Sl s Za):=by
 intro M h C j B A e;exact UnaryOp_ (cn (c M h C j _ A e) λv d ⟨f,Yx,i,k,l⟩=>a M d C Yx f v B i k l)
def uC{aP:Int->Int->Prop}(c:∀(a r:Int) (i L:hY) (h:ai) (B:ab->ai->Prop) (Yq:ab->ai->Prop),aP a r->B (.int (J a r) h.toks) {h with toks:=h.toks+1}->wpAny (aN b.prog b.w) b.A (F (.int a i)<|.int r L) B Yq h):
  d2 b F (qe aP λa r=>.int<|J a r):=by
 intro M h C j f H v L B A d g e;let⟨a,@r,rfl,rfl,k,p⟩:=e;let⟨@i,rfl⟩:=d;let⟨@YU,rfl⟩:=g;exact c a r i YU h _ _ k ⟨.int<|J a r,j,A.tok _,⟨_,rfl⟩,p⟩
def Jo(c:∀(a r:Int) (i L:hY) (h:ai) (B:ab->ai->Prop) (Yq:ab->ai->Prop),B (.int (J a r) h.toks) {h with toks:=h.toks+1}->wpAny (aN b.prog b.w) b.A (F (.int a i)<|.int r L) B Yq h):
  d2 b F (mn λa r=>.int<|J a r):=by
 intro M h C j f H v L B A d g e;let⟨a,@r,rfl,rfl,p⟩:=e;let⟨@i,rfl⟩:=d;let⟨@YU,rfl⟩:=g;exact c a r i YU h _ _ ⟨.int<|J a r,j,A.tok _,⟨_,rfl⟩,p⟩
def uf{J:Int->Int->Bool}(c:∀(a r:Int) (i L:hY) (h:ai) (B:ab->ai->Prop) (Yq:ab->ai->Prop),B (.bool<|J a r) h->wpAny (aN b.prog b.w) b.A (F (.int a i)<|.int r L) B Yq h):
  d2 b F (mn λa r=>.aB<|J a r):=by
 intro M h C j f H v L B A d g e;let⟨a,@r,rfl,rfl,p⟩:=e;let⟨@i,rfl⟩:=d;let⟨@YU,rfl⟩:=g;exact c a r i YU h _ _ ⟨.aB<|J a r,j,A,rfl,p⟩
def Sp(a r:Int):Prop:=(0<r/\r<1073741824)
def Vn(a r:Int):Prop:=(0<=r/\r<=1000000/\a.natAbs<2^64)
def O_:d2 b (gr .Add) (mn λa r=>.int<|a+r):=Jo λ_ W W W W W W p=>add_int p
def T4:d2 b (gr .Sub) (mn λa r=>.int<|a-r):=Jo λ_ W W W W W W p=>sub_int p
def MO:d2 b (gr .FloorDiv) (qe Sp λa r=>.int<|a/r):=uC λa r W W W W W c p=>by
 have z:(0:Int)<r:=c.1;have E:r<1073741824:=c.2;exact floordiv_int ⋯ (by rw[Int.fdiv_eq_ediv_of_nonneg a ⋯];exact p) (.inl (PyProof.noPylong_small ⋯))
def W8:d2 b (gr .Mod) (qe (λ_ r=>0<r) λa r=>.int<|a%r):=uC λa r W W W W W c p=>by
 have z:(0:Int)<r:=c;exact mod_int' ⋯ (by rw[Int.fmod_eq_emod_of_nonneg a ⋯];exact p)
def Xf:d2 b (gr .Pow) (qe Vn λa r=>.int<|a^r.toNat):=uC λ_ W W W W W W c p=>pow_int_small c.1 c.2.1 c.2.2 p
def TS{F:ab->dA ab}{J:Int->Int}(c:∀(a:Int) (i:hY) (h:ai) (B:ab->ai->Prop) (Yq:ab->ai->Prop),B (.int (J a) h.toks) {h with toks:=h.toks+1}->wpAny (aN b.prog b.w) b.A (F<|.int a i) B Yq h):
  AM b F (GK λa=>.int<|J a):=by
 intro M h C j f v B A d e;let⟨@a,rfl,p⟩:=e;let⟨@i,rfl⟩:=d;exact c a i h _ _ ⟨.int<|J a,j,A.tok _,⟨_,rfl⟩,p⟩
def S0:AM b (unaryOp .USub) (GK λa=>.int<|-a):=TS λ_ W W W W p=>neg_int p
def IV{B:cS}{o a:Bool}(A:aF b M C j h)(p:B (.aB o) j)(c:o=a):ez b M C B (.bool a) h:=by
 subst c;exact⟨.aB o,j,A,rfl,p⟩
def Nl:d2 b (eS .Lt) (mn λa r=>.aB<|decide (a<r)):=uf λ_ W W W W W W p=>lt_int p
def Rt:d2 b (eS .LtE) (mn λa r=>.aB<|decide (a<=r)):=uf λ_ W W W W W W p=>le_int p
def Qz:d2 b (eS .Gt) (mn λa r=>.aB<|decide (r<a)):=uf λ_ W W W W W W p=>gt_int p
def SP:d2 b (eS .GtE) (mn λa r=>.aB<|decide (r<=a)):=uf λ_ W W W W W W p=>ge_int p
def Xy:d2 b (eS .Is) (λf H j B=>H=.aV/\B (.aB<|decide (f=.aV)) j):=by
 intro M h C j f H v L B A a c e;let@⟨rfl,p⟩:=e;cases c;refine is_none_gen (IV A p ?_);cases f<;>first
  | (cases a;rfl)
  | (let⟨@i,rfl⟩:=a;rfl)
def NV:d2 b (eS .IsNot) (λf H j B=>H=.aV/\B (.aB<|!decide (f=.aV)) j):=by
 intro M h C j f H v L B A a c e;let@⟨rfl,p⟩:=e;cases c;refine isnot_none_gen (IV A p ?_);cases f<;>first
  | (cases a;rfl)
  | (let⟨@i,rfl⟩:=a;rfl)
def d2.or{Zd:b9}(e:d2 b F s)(R:d2 b F Zd):d2 b F (λf H j B=>s f H j B\/Zd f H j B):=by
 intro M h C j f H v L B A a c p;rcases p with p|p
 ·exact e M h C j f H v L B A a c p
 ·exact R M h C j f H v L B A a c p
def e2(d:bz){Zc:n3}(e:Zc≠.In:=by decide)(E:Zc≠.NotIn:=by decide):qk Zc d=au:=by
 have a:(Zc==n3.In)=au:=by cases Zc<;>first|rfl|exact absurd rfl e
 have b:(Zc==n3.NotIn)=au:=by cases Zc<;>first|rfl|exact absurd rfl E
 cases d<;>simp[qk,a,b]
def Pz(a:d2 b (eS Zc) s)(c:cj b g Za)(i:cj b d Zu)(k:qk Zc d=au):cj b (.Compare g [Zc] [d] YD) (u7 s Za Zu):=by
 intro M h C j B A e;exact wpAny_Compare1 (yp c i A e λv L l f H YO m n o p=>a M l C YO f H v L B m n o p) k
def Wb(i:cC):eH:=(λC j B=>i C j λf P=>∃o,f=.aB o/\B o P)
def WZ(a:d2 b (eS Zc) s)(i:cj b g Za)(k:cj b d Zu)(l:qk Zc d=au):ix b (.Compare g [Zc] [d] YD) (Wb<|u7 s Za Zu):=by
 intro M h C j B A e;refine wpAny_isTrue_Compare1 (cn (i M h C j _ A e) λv m ⟨f,Yx,p,q,r⟩=>cn (k M m C Yx _ p r) λL t ⟨H,YO,u,w,x⟩=>
  cn (a M t C YO f H v L _ u q w x) λn G ⟨D,y,z,E,o,c,F⟩=>?_) l;subst c;cases E;exact tX ⟨y,z,F⟩
def z9(Yo:Φ)(f:av)(j:ay)(o:Bool):Prop:=(
 match f with
 |.aV=>o=au
 |.aB d=>o=d
 |.int a=>o=(a != 0)
 |.str H=>H.length<=sizeLine/\o=((H.length:Int) != 0)
 |.tH H=>H.size<=sizeLine/\o=((H.size:Int) != 0)
 |.ref q=>(∃x,de Yo j q x/\o=!x.isEmpty)\/(∃x,cL Yo j q x/\o=!x.isEmpty)\/∃YE,j q=Z (.dU YE)/\o=!YE.isEmpty
 |_=>False)
def SD{YQ:Type}{YE:List (YQ×av)}{Yl:List (YQ×ab)}(s:gy YE Yl):(!Yl.isEmpty)=!YE.isEmpty:=by
 cases s<;>rfl
def DW{Yy:List ab}(s:bS x Yy):(!Yy.toArray.isEmpty)=!x.isEmpty:=by
 cases s<;>simp
def oH:(sizeLine:Nat)<2^63:=by rw[zv];decide
def Ou:M4 b (λf j B=>∃o,z9 b.K f j o/\B o j):=by
 intro M h C j f v B A m e;let⟨@o,c,p⟩:=e;have z:=oH;have Ys:sizeLine=16777216:=zv;cases f with
 |aV=>
  cases m;have g:o=au:=c;subst g;exact truthy_none ⟨j,A,p⟩
 |aB d=>
  cases m;have g:o=d:=c;subst g;exact tX ⟨j,A,p⟩
 |int a=>
  let⟨@i,rfl⟩:=m;have g:o=(a != 0):=c;subst g;exact PySem.P.truthy_int ⟨j,A,p⟩
 |str H=>
  let⟨@i,rfl⟩:=m;obtain⟨u,g⟩:H.length<=sizeLine/\o=((H.length:Int) != 0):=c;subst g;exact PySem.P.truthy_str ⋯ ⟨j,A.tok _,p⟩
 |tH H=>
  let⟨@i,rfl⟩:=m;obtain⟨u,g⟩:H.size<=sizeLine/\o=((H.size:Int) != 0):=c;subst g;exact PySem.W.truthy_bytes ⋯ ⟨j,A.tok _,p⟩
 |ref q=>
  cases m;have g:(∃x,de b.K j q x/\o=!x.isEmpty)\/(∃x,cL b.K j q x/\o=!x.isEmpty)\/∃YE,j q=Z (.dU YE)/\o=!YE.isEmpty:=c;rcases g with ⟨x,n,g⟩|⟨x,n,g⟩|⟨YE,n,g⟩
  ·subst g;let⟨@Yy,s,bo,r⟩:=A.list n;have t:=s.length;exact wpAny_truthy_list bo.isList (by simp only[cv];lia) ⟨j,A.tok _,by rw[DW s];exact p⟩
  ·subst g;let⟨@Yy,s,bo,r⟩:=A.tuple n;have t:=s.length;exact truthy_tuple bo (by simp only[cv];lia) ⟨j,A.tok _,by rw[DW s];exact p⟩
  ·subst g;obtain⟨r,y,Yl,s,k⟩:YE.length<=sizeLine/\(q==j5)=au/\∃Yl,gy YE Yl/\h.heap.DictOf (nJ b.prog b.w) q Yl:=A.a4 q _ n;have t:YE.length=Yl.length:=es.length s;exact wpAny_truthy_dict y k ⋯ ⟨j,A.tok _,by rw[SD s];exact p⟩
 |_=>exact (show False from c).elim
def W9(c:cj b g Za)(d:∀a,ro g b.env a=(do let v <-a;standAt g.pos;holding [v] (truthy v))):
  ix b g (λC j B=>Za C j λf P=>∃o,z9 b.K f P o/\B o P):=by
 intro M h C j B A e;exact isTrue_plain (cn (c M h C j _ A e) λv i ⟨f,Yx,k,l,m⟩=>Ou M i C Yx f v B k l m) (d _)
def Oc:d2 b (gr .Add) (λf H j B=>∃a r,f=.str a/\H=.str r/\a.length+r.length<=sizeLine/\B (.str<|a++r) j):=by
 intro M h C j f H v L B A c d e;let⟨a,@r,rfl,rfl,g,p⟩:=e;let⟨@i,rfl⟩:=c;let⟨@YU,rfl⟩:=d;exact add_str (λYU YX=>⟨.str<|a++r,j,A.tok _,⟨_,rfl⟩,p⟩) g
def hF{f:av}(s:bS [f] YM):∃L,YM=[L]/\cw f L:=by
 cases s with
 |cons a b=>cases b;exact⟨_,rfl,a⟩
def rj{f:av}(s:bS [f,H] YM):∃L a,YM=[L,a]/\cw f L/\cw H a:=by
 cases s with
 |cons b c=>
  cases c with
  |cons d e=>cases e;exact⟨_,_,rfl,b,d⟩
def VU(d:b.calm=aa):eZ b (.builtin "max") (λx j B=>∃a r,x=[.int a,.int r]/\B (.int<|if r>a then r else a) j):=by
 intro M h C j x YM B A s e;let⟨a,@r,rfl,p⟩:=e;let⟨L,@f,rfl,⟨@i,rfl⟩,⟨@YU,rfl⟩⟩:=rj s;refine max_two_ints (A.ok.hd d) λR YX o=>⟨_,j,A.kept o,?_,p⟩;by_cases c:r>a
 ·rw[aE c,aE c];exact⟨_,rfl⟩
 ·rw[aH c,aH c];exact⟨_,rfl⟩
def N0(d:b.calm=aa):eZ b (.builtin "min") (λx j B=>∃a r,x=[.int a,.int r]/\B (.int<|if r<a then r else a) j):=by
 intro M h C j x YM B A s e;let⟨a,@r,rfl,p⟩:=e;let⟨L,@f,rfl,⟨@i,rfl⟩,⟨@YU,rfl⟩⟩:=rj s;refine min_two_ints (A.ok.hd d) λR YX o=>⟨_,j,A.kept o,?_,p⟩;by_cases c:r<a
 ·rw[aE c,aE c];exact⟨_,rfl⟩
 ·rw[aH c,aH c];exact⟨_,rfl⟩
def Xh:eZ b (.type "int") (λx j B=>(∃a,x=[.int a]/\B (.int a) j)\/∃o,x=[.aB o]/\B (.int<|if o then 1 else 0) j):=by
 intro M h C j x YM B A s e;rcases e with ⟨a,rfl,p⟩|⟨o,rfl,p⟩
 ·let⟨@L,rfl,⟨@i,rfl⟩⟩:=hF s;exact call_int_int ⟨.int a,j,A,⟨_,rfl⟩,p⟩
 ·let⟨@L,rfl,c⟩:=hF s;cases c;exact call_int_bool ⟨.int<|if o then 1 else 0,j,A.tok _,⟨_,rfl⟩,p⟩
end
def k6.some_of{m:Option ab}(s:k6 (Z v) m):∃L,m=Z L/\cw v L:=by
 cases m with
 |none=>exact (show False from s).elim
 |some L=>exact⟨L,rfl,s⟩
structure fO(o:Nat)(O:bA):Prop where
 hd:O.handled=Y
 x_:O.depth+3*o+5<HH
 un:O.units+16*o+200<bQ
 JK:O.guards=Z []
def fO.mono(s:fO o O)(e:r<=o):fO r O:=⟨s.hd,by have:=s.x_;lia,by have:=s.un;lia,s.JK⟩
def fO.deeper(s:fO (o+1) O)(Yt:fA):fO o (O.deeper Yt):=
 ⟨s.hd,by have:=s.x_;show O.depth+1+3*o+5<_;lia,by have:=s.un;show O.units+3+16*o+200<_;lia,s.JK⟩
def fO.depth(s:fO o O):O.depth<HH:=by have:=s.x_;lia
def To:ei:=(λ_ j B=>B [] j)
def P4(Za:cC)(a:ei):ei:=(λC j B=>Za C j λf Yx=>a C Yx λx YO=>B (f::x) YO)
section
variable{b:aO}{c:bz}{Q:List bz}{Zs:cC}{i:ei}{YD:Pos}
def Jx:gR b [] To:=λ_ W W W j B A e=>sC ⟨[],j,A,.nil,e⟩
def A8(d:cj b c Zs)(g:gR b Q i)(Ys:bH (c::Q) b.env=(au,b0 c b.env)::bH Q b.env:=by rfl):gR b (c::Q) (P4 Zs i):=by
 intro YD M h C j B A e;rw[Ys];show wpAny _ _ (spliced ((au,b0 c b.env)::gp YD (bH Q b.env))) _ _ h;refine sJ (cn (d M h C j _ A e) λL k a=>?_);let⟨f,@Yx,l,m,n⟩:=a;refine cn (g YD M k C Yx _ l n) λYM r a=>?_;let⟨x,@YO,o,p,q⟩:=a;exact⟨f::x,YO,o,.cons m p,q⟩
def UA(i:ei):cC:=(λC j B=>i C j λx Yx=>x.length<=sizeLine/\∀q,Yx q=Y->B (.ref q) (upd Yx q<|.tup x))
def NA(i:ei):cC:=(λC j B=>i C j λx Yx=>x.length<=sizeLine/\∀q,Yx q=Y->B (.ref q) (upd Yx q<|.lst x))
def Su{g}(e:gR b Q i):cj b (.Tuple Q g YD) (UA i):=by
 intro M h C j B A k;refine wpAny_Tuple_spliced (cn (e YD M h C j _ A k) λYM a ⟨x,Yx,f,s,D,p⟩=>⟨by rw[<-s.length];exact D,?_⟩);have l:Yx a.heap.objs.size=Y:=f.a4.fresh (bp _);refine⟨.ref a.heap.objs.size,upd Yx a.heap.objs.size<|.tup x,f.laid (YU:=a.toks) (λd L c=>bJ _ c) (bp _) ?_,rfl,p _ l⟩;exact⟨D,YM,s,⟨_,cO _ rfl,rfl,_,rfl⟩⟩
def R8(e:gR b Q i):cj b (.List Q YD) (NA i):=by
 intro M h C j B A g;refine wpAny_List_spliced (cn (e YD M h C j _ A g) λYM a ⟨x,Yx,f,s,D,p⟩=>⟨by rw[<-s.length];exact D,?_⟩);have k:Yx a.heap.objs.size=Y:=f.a4.fresh (bp _);refine⟨.ref a.heap.objs.size,upd Yx a.heap.objs.size<|.lst x,f.laid (YU:=a.toks) (λd L c=>bJ _ c) (bp _) ?_,rfl,p _ k⟩;exact⟨D,YM,0,s,cO _ rfl⟩
end
abbrev m2:=List av->ay->cS->hs->Prop
abbrev kT:=List fA->ay->ai->hs->ab->ai->Prop
variable{Zy:kT}
structure uq(YC:bO)(l:bh)(Yo:Φ)(aI:aG->Option ab)(YF:aX)(O:bA)(G:List fA)(h:ai)(j:ay):Prop where
 frames:O.frames=Z G
 mod:Mod Yo aI YF
 bs:∀d m,YF.get? d=Z m->h.heap.get? d=Z m/\j d=Y
 mi:YF.objs.size<=h.heap.objs.size
 jt:h.heap.FunFrames YF G
 pw:∀d∈iU G,j d=Y
 a4:eo YC l j h.heap
 bare:mE h.gens
def Bi(G:List fA)(YC:bO)(l:bh)(j:ay)(h:ai)(B:cS)(L:ab)(Yn:ai):Prop:=(
 ∃v P,Yn.os=h.os/\mE Yn.gens/\fZ (iU G) [] j P h.heap Yn.heap/\eo YC l P Yn.heap/\cw v L/\B v P)
def XG(Zy:kT)(G:List fA)(YC:bO)(l:bh)(j:ay)(h:ai)(B:cS)(Yq:hs)(s:pG)(Yn:ai):Prop:=(
 match s with
 |.ok (.ret L)=>Bi G YC l j h B L Yn
 |.ok _=>False
 |.error c=>Zy G j h Yq c Yn)
structure js(YC:bO)(l:bh)(Yo:Φ)(aI:aG->Option ab)(YF:aX)(Zy:kT)(o:Nat)(F:ag)(fd:hL)(Yz:List aG)(YL:m2):Prop where
 len:∀Yl j B Yq,YL Yl j B Yq->Yl.length=Yz.length
 run:∀(O:bA) (G:List fA) (h:ai) (j:ay) (args:Args) (YM:List ab) (Yl:List av) (B:cS) (Yq:hs),fO o O->uq YC l Yo aI YF O G h j->nC h fd args (Yz.zip YM)->bS Yl YM->YL Yl j B Yq->
  codeAny (aN YC l) O (.call (.ref F) args) (XG Zy G YC l j h B Yq) h
section
variable{b:aO}{M:List (ag×a3)}{C:a5}{j:ay}{h Yn:ai}
def aF.Mo(A:aF b M C j h):uq b.prog b.w b.K b.aI b.base b.A b.stack h j:=
 ⟨A.ok.frames,A.ok.mod,A.bs,fa A.ok.mi A.jK,A.stack,A.IS,A.a4,A.bare⟩
def aF.after{B:cS}(A:aF b M C j h)(e:Bi b.stack b.prog b.w j h B L Yn):ez b M C B L Yn:=by
 let⟨v,@P,YG,a,un,a4,s,p⟩:=e;let⟨c,J,u,i,f⟩:=Yn;obtain rfl:f=h.os:=YG;exact⟨v,P,A.call (R:=c) (g:=J) (r:=u) (YU:=i) (Zw:=[]) un a4 a (λd D=>absurd D ↥0),s,p⟩
end
def Dx(YL:m2)(t:List av)(Yq:hs)(i:ei):cC:=(λC j B=>i C j λYl Yx=>YL (Yl++t) Yx B Yq)
def j8(Yo:Φ)(fd:hL)(Yz:List aG)(I:List ab):Prop:=(
 ∀(h:ai) (YM:List ab),Yo.In h.heap->(YM++I).length=Yz.length->nC h fd ⟨YM,[]⟩ (Yz.zip<|YM++I))
def j8.all{fd:hL}(e:∀YM:List ab,YM.length=Yz.length->lQ fd ⟨YM,[]⟩=pure (Yz.zip YM)):j8 Yo fd Yz []:=λh YM W a=>by
 rw[cA]at a ⊢;exact .of_eq (e YM a)
def Au(Zy:kT)(b:aO)(Yq:hs):Prop:=(∀(M:List (ag×a3)) (C:a5) (j:ay) (h:ai) (c:ab) (Yn:ai),aF b M C j h->Zy b.stack j h Yq c Yn->b.c1 c Yn)
section
variable{b:aO}{Zy:kT}{o:Nat}{F aP:ag}{fd:hL}{Yz:List aG}{YL:m2}{t:List av}{I:List ab}{Yq:hs}{f k:aG}{q YD G:Pos}{c m:bz}{Q:List bz}{Za:cC}{i:ei}
def Xg{B:cS}(N:js b.prog b.w b.K b.aI b.base Zy o F fd Yz YL)(f:fO o b.A)(g:j8 b.K fd Yz I)(hd:bS t I)(i:Au Zy b Yq)(A:aF b M C j h)(s:bS Yl YM)(e:YL (Yl++t) j B Yq):wpAny (aN b.prog b.w) b.A (call (.ref F) YM) (ez b M C B) b.c1 h:=by
 have d:bS (Yl++t) (YM++I):=s.append hd;have k:(YM++I).length=Yz.length:=by rw[<-d.length];exact N.len _ _ _ _ e
 refine wpAny_call (tu (N.run b.A b.stack h j ⟨YM,[]⟩ (YM++I) (Yl++t) B Yq f A.Mo (g h YM A.o1 k) d e) λs Yn a=>?_);cases s with
 |error c=>exact i M C j h c Yn A a
 |ok aR=>
  cases aR with
  |ret L=>exact A.after a
  |next=>exact False.elim a
  |brk=>exact False.elim a
  |cont=>exact False.elim a
def NN(N:js b.prog b.w b.K b.aI b.base Zy o F fd Yz YL)(d:fO o b.A)(g:dE b f)(k:b.aI f=Z (.ref F))(m:Θ b.K (.ref F)=aa)(n:j8 b.K fd Yz I)(hd:bS t I)(r:Au Zy b Yq)(u:gR b (c::Q) i)(v:(f==("__debug__" : aG))=au:=by decide)(x:bH (c::Q) b.env=(au,b0 c b.env)::bH Q b.env:=by rfl)(y:(gp YD<|bH Q b.env).any (·.1)=au:=by rfl):
  cj b (.Call (.Name f q) (c::Q) [] YD) (Dx YL t Yq i):=by
 intro M h C j B A e;refine oT (J8 A g k ?_ v);refine PySem.W.callWith_K (h₀:=b.base) A.ok.mod.By m (cn (u YD M h C j _ A e) λYM D ⟨Yl,Yx,a,s,p⟩=>⟨a.o1,?_⟩) x y;exact Xg N d n hd r a s p
end
structure oO(Y0 YC:List aG)(i:hO):Prop where
 kind:i.kind=.function
 co:i.isCoroutine=au
 gen:i.isGenerator=au
 ah:Y0.Nodup
 pre:Y0.take YC.length=YC
 par:∀f∈YC,i.names.lookup f=Z .local\/i.names.lookup f=Z .cell
 VK:∀H∈i.names,H.2≠.free
theorem Ko{a:aG->Option dQ}{f:aG}:∀{binds:List (aG×ab)}{k:aG->Option ab},(∀v,(f,v)∉binds)->bindL a binds k f=k f
 |[],_,_=>rfl
 | (w,v)::s,k,e=>by
  unfold bindL;rw[Ko λl b=>e l<|lV _ b];split
  ·have:f≠w:=by rintro rfl;exact e v md
   simp[this]
  ·rfl
theorem GD{a:aG->Option dQ}{f:aG}:∀{binds:List (aG×ab)}{k:aG->Option ab},(∀v,(f,v)∉binds)->bindC a binds k f=k f
 |[],_,_=>rfl
 | (w,v)::s,k,e=>by
  unfold bindC;rw[GD λl b=>e l<|lV _ b];split
  ·rfl
  ·have:f≠w:=by rintro rfl;exact e v md
   simp[this]
theorem FY{b:aG->Option dQ}{f:aG}{v:ab}:∀{YC:List aG}{Yl:List ab}{a:Nat}{k:aG->Option ab},YC.Nodup->YC[a]?=Z f->Yl[a]?=Z v->b f=Z .local->
  bindL b (YC.zip Yl) k f=Z v
 |[],_,_,_,_,e,_,_=>by simp at e
 |_::_,[],_,_,_,_,e,_=>by simp at e
 |q::YC,l::Yl,0,k,ah,z,E,c=>by
  simp at z E;subst z;subst E;show bindL b ((q,l)::YC.zip Yl) k q=_;unfold bindL;rw[Ko λv d=>(g5.mp ah).1 (pY d).1,aE c];simp
 |q::YC,l::Yl,a+1,k,ah,z,E,c=>by
  show bindL b ((q,l)::YC.zip Yl) k f=_;unfold bindL;exact FY (a:=a) (g5.mp ah).2 ⇑z ⇑E c
theorem Ls{b:aG->Option dQ}{f:aG}{v:ab}:∀{YC:List aG}{Yl:List ab}{a:Nat}{k:aG->Option ab},YC.Nodup->YC[a]?=Z f->Yl[a]?=Z v->b f≠Z .local->
  bindC b (YC.zip Yl) k f=Z v
 |[],_,_,_,_,e,_,_=>by simp at e
 |_::_,[],_,_,_,_,e,_=>by simp at e
 |q::YC,l::Yl,0,k,ah,z,E,c=>by
  simp at z E;subst z;subst E;show bindC b ((q,l)::YC.zip Yl) k q=_;unfold bindC;rw[GD λv d=>(g5.mp ah).1 (pY d).1,aH c];simp
 |q::YC,l::Yl,a+1,k,ah,z,E,c=>by
  show bindC b ((q,l)::YC.zip Yl) k f=_;unfold bindC;exact Ls (a:=a) (g5.mp ah).2 ⇑z ⇑E c
def ly(Y0:List aG)(Yl:List av):a5:=(Yl.map Z++List.replicate (Y0.length-Yl.length) Y)
def mc(Zy:kT)(YC:bO)(l:bh)(Yo:Φ)(aI:aG->Option ab)(YF:aX)(Y0:List aG)(Zr:aG)(YS:hO)(F:ag)(a:ab)(O:bA)(G:List fA)(h:ai)(j:ay)(Yq:hs):aO where
 prog:=YC
 w:=l
 K:=Yo
 aI:=aI
 base:=YF
 A:=O.deeper (jR Zr YS h.heap.objs.size F a)
 N:=Y0
 fH:=h
 qA:=j
 env:=jR Zr YS h.heap.objs.size F a
 outer:=G
 stack:=jR Zr YS h.heap.objs.size F a::G
 ex:=[]
 calm:=aa
 fn:=λ_=>aa
 la:=[]
 c1:=λc Yn=>wpAny (aN YC l) (O.deeper<|jR Zr YS h.heap.objs.size F a) (leaving (jR Zr YS h.heap.objs.size F a) c) (λ_ b=>Zy G j h Yq c b) (λd b=>Zy G j h Yq d b) Yn
def Ke{i:hO}(e:i.names.lookup f=Z .cell):∃n,(yn w i.names []).lookup f=Z n:=by
 have p:=Hj i.names w [] (.inl e);exact DF.mp p
def SG{F:ag}{m:ab}{G:List fA}{t:ai}{Yq:hs}(YB:oO Y0 Yz YS)(hd:O.handled=Y)(b:uq YC l Yo aI YF O G h j)(C:Yl.length=Yz.length)(s:bS Yl YM)(f:InCallC h h.heap.objs.size (bindL (jR Zr YS h.heap.objs.size F m).kindOf (Yz.zip YM) λ_=>Y) (yn (h.heap.objs.size+1) YS.names []) (bindC (jR Zr YS h.heap.objs.size F m).kindOf (Yz.zip YM) λ_=>Y) t):
  aF (mc Zy YC l Yo aI YF Y0 Zr YS F m O G h j Yq) [] (ly Y0 Yl) j t:=by
 have J:Yz.length<=Y0.length:=by have:=congrArg List.length YB.pre;rw[gx]at this;lia
 let⟨z,@YX,rfl,u⟩:=f.done;have r:∀d:ag,d∉(mc Zy YC l Yo aI YF Y0 Zr YS F m O G h j Yq).ex:=λd D=>absurd (show d∈([]:List ag) from D) ↥0;refine⟨⟨b.mod,YB.kind,rfl,rfl,bp _,λH D n z E=>?_,λH i=>?_,λH n W e=>?_,λ_=>hd,bA.frames_deeper b.frames,.inr ⟨rfl,rfl⟩,λd D=>absurd D<|r d,b.bs,b.mi,λd W W=>r d,λd D=>absurd D<|r d,b.jt,b.pw⟩,
  rfl,b.bare,fZ.kept u,⟨_,f.toInCall.ns,λa H v z E M=>?_⟩,λH n e=>⟨_,f.cell H n e⟩,b.a4.fresh<|bp _,λH n e=>?_,λq k=>absurd (show q∈([]:List (ag×a3)) from k) ↥0,b.a4.kept u,?_⟩
 ·exact name_of_addr f.apart (PySem.mem_of_lookup z) (PySem.mem_of_lookup E)
 ·have i:YS.names.lookup H=Z .cell\/YS.names.lookup H=Z .free:=i;rcases i with i|i
  ·exact Ke i
  ·exact absurd rfl (YB.VK _<|PySem.mem_of_lookup i)
 ·exact m5 (f.above H n<|PySem.mem_of_lookup e)
 ·have T:a<Yl.length:=by
   unfold ly at E;by_cases T:a<Yl.length
   ·exact T
   ·rw[j6 ⇑T]at E;rw[List.getElem?_replicate]at E;split at E<;>cases E
  have A:Yl[a]?=Z v:=by
   unfold ly at E;rw[kL ⇑T,ea]at E;cases c:Yl[a]? with
   |none=>rw[c]at E;cases E
   |some g=>rw[c]at E;cases E;rfl
  let⟨@L,x,B⟩:=s.get A;have k:Yz[a]?=Z H:=by
   rw[<-YB.pre,List.getElem?_take_of_lt ⋯];exact z
  have y:Yz.Nodup:=by rw[<-YB.pre];exact YB.ah.sublist (sY _ _)
  refine⟨L,B,?_⟩;rcases YB.par H (fL k) with o|o
  ·exact .inl ⟨o,FY y k x o⟩
  ·let⟨@n,c⟩:=Ke (w:=h.heap.objs.size+1) o;refine .inr ⟨.inl o,n,c,?_⟩;have p:=f.cell H n c;rw[Ls y k x (by show YS.names.lookup H≠_;rw[o];decide)]at p;exact p
 ·exact b.a4.fresh (m5<|f.above H n<|PySem.mem_of_lookup e)
 ·unfold ly;show _=Y0.length;rw[c6,ba,mK];lia
def N3{F:ag}{name:aG}{k:Arguments}{n cK y YZ D cx E:ab}{R z:Option ag}{T:Array (Option ab)}{YL:m2}(lk:Yo.lookup F=Z ⟨E,z,.func<|Ξ name Zr k ZD YS n cK y YZ R D cx,T⟩)(x:Δ Yo D Zr=aa)(YB:oO Y0 Yz YS)(len:∀Yl j B Yq,YL Yl j B Yq->Yl.length=Yz.length)(C:∀(O:bA) (G:List fA) (h:ai) (j:ay) (Yl:List av) (B:cS) (Yq:hs),fO o (O.deeper<|jR Zr YS h.heap.objs.size F D)->YL Yl j B Yq->
   ∃i,iA (mc Zy YC l Yo aI YF Y0 Zr YS F D O G h j Yq) ZD i/\i {aU:=λ_ P=>B .aV P,dD:=B} (ly Y0 Yl) j):
  js YC l Yo aI YF Zy (o+1) F (Ξ name Zr k ZD YS n cK y YZ R D cx) Yz YL:=by
 refine⟨len,λO G h j args YM Yl B Yq e a I s q=>?_⟩;have J:=len _ _ _ _ q;have r:Yo.In h.heap:=a.mod.By.keeps λd m c=>(a.bs d m c).1;have M:h.heap.NoLimit:=a.mod.nolimit.keeps λd m c=>(a.bs d m c).1;have N:∀H∈Yz.zip YM,YS.names.lookup H.1=Z .local\/(YS.names.lookup H.1=Z .cell/\((yn (h.heap.objs.size+1) YS.names []).lookup H.1).isSome=aa):=λ⟨w,v⟩ Q=>by
  rcases YB.par w (pY Q).1 with p|p
  ·exact .inl p
  ·exact .inr ⟨p,Hj _ _ _<|.inl p⟩
 refine codeAny_call_function e.depth (r _ _ lk) rfl YB.co YB.gen rfl (PySem.W.codeRec_of r x) (I _ _ _ _ ?_);refine wpAny_newFunctionEnv_cells YB.kind N λYt S t f=>?_;subst S;refine⟨M.keeps f.toInCall.keep,codeAny_func ?_⟩;let⟨@i,bG,U⟩:=C O G h j Yl B Yq (e.deeper _) q;have A:aF (mc Zy YC l Yo aI YF Y0 Zr YS F D O G h j Yq) [] (ly Y0 Yl) j t:=SG YB e.hd a J s f;refine g7 (bG [] t (ly Y0 Yl) j _ A U) (λaR Yn Ys=>?_) λc Yn Ys=>Ys;have u:∀{b:a5}{P:ay}{v:av}{L:ab},aF (mc Zy YC l Yo aI YF Y0 Zr YS F D O G h j Yq) [] b P Yn->cw v L->B v P->Bi G YC l j h B L Yn:=
  λ{b P v L} Zo g p=>⟨v,P,Zo.os,Zo.bare,Zo.base,Zo.a4,g,p⟩;cases aR with
 |ret L=>
  let⟨v,b,@P,Zo,g,p⟩:=Ys;exact u Zo g p
 |next=>
  let⟨b,@P,Zo,p⟩:=Ys;exact u (v:=av.aV) (L:=ab.none) Zo rfl p
 |brk=>
  let⟨K,@K,K,p⟩:=Ys;exact False.elim p
 |cont=>
  let⟨K,@K,K,p⟩:=Ys;exact False.elim p
section
variable{b:aO}{f:aG}{q YD:Pos}{c:bz}{Q:List bz}{i:ei}{id U:String}{s:List av->ay->cS->Prop}
def Df(s:List av->ay->cS->Prop)(i:ei):cC:=(λC j B=>i C j λYl Yx=>s Yl Yx B)
def En(a:eZ b (.builtin id) s)(d:dE b f)(g:b.aI f=Y)(k:e4 f=Z (.builtin id))(l:gR b (c::Q) i)(m:f ≠ "__name__" := by decide)(n:(f==("__debug__" : aG))=au:=by decide)(o:bH (c::Q) b.env=(au,b0 c b.env)::bH Q b.env:=by rfl)(p:(gp YD<|bH Q b.env).any (·.1)=au:=by rfl):cj b (.Call (.Name f q) (c::Q) [] YD) (Df s i):=by
 intro M h C j B A e;refine oT (iV A d g k ?_ m n);exact zB (cn (l YD M h C j _ A e) λYM r ⟨Yl,Yx,t,u,v⟩=>a M r C Yx Yl YM B t u v) o p
def Q0(a:eZ b (.type U) s)(d:dE b f)(g:b.aI f=Y)(k:e4 f=Z (.type U))(l:gR b (c::Q) i)(m:f ≠ "__name__" := by decide)(n:(f==("__debug__" : aG))=au:=by decide)(o:bH (c::Q) b.env=(au,b0 c b.env)::bH Q b.env:=by rfl)(p:(gp YD<|bH Q b.env).any (·.1)=au:=by rfl):cj b (.Call (.Name f q) (c::Q) [] YD) (Df s i):=by
 intro M h C j B A e;refine oT (iV A d g k ?_ m n);exact lX (cn (l YD M h C j _ A e) λYM r ⟨Yl,Yx,t,u,v⟩=>a M r C Yx Yl YM B t u v) o p
end
end L2
namespace dk
open PyProof.Rows
variable{T G:Option Int}{D cp:ab}{aZ i:ag}{B:ab->ai->Prop}
theorem S4(O:bA)(h:ai)(g:Int)(i:hY)(n:Int)(L:hY)(Yw:bO)(l:bh)(Yq:ab->ai->Prop)(B:ab->ai->Prop)(e:B (.bool<|decide (g<n)) h):
  wpAny (aN Yw l) O (oW .Lt (.int g i)<|.int n L) B Yq h:=
 (Pd e:wpAny (aN Yw l) O (eS .Lt (.int g i)<|.int n L) B Yq h)
section
open SeqAt
open AutoSeq1 (wpAny_loadPart')
open MeetsSeq MeetsSeq2 MeetsSeq3
end
section
variable{Yw:bO}{l:bh}{O:bA}{Yq:ab->ai->Prop}{h:ai}
def QE{d:ag}{Yl P:List ab}(bG:pj h.heap i Yl.toArray)(p:pj h.heap d P.toArray)(f:Yl≠[])(z:P=[]->B (.ref i) h)(E:P≠[]->B (.ref h.heap.objs.size) {h with heap:=h.heap.push {cls:=.type "tuple",data:=.seq (Yl++P).toArray} })(q:Yl.length+P.length<=sizeLine):wpAny (aN Yw l) O (gr .Add (.ref i)<|.ref d) B Yq h:=by
 let⟨@⟨cls,g,data,aZ⟩,a,j,⟨@w,hd⟩⟩:=id bG;let⟨@⟨r,k,data2,m⟩,b,n,⟨@Zq,o⟩⟩:=id p;simp only at j hd n o;subst j hd n o;have c:Yl.toArray++P.toArray=(Yl++P).toArray:=by simp
 by_cases e:P=[]
 ·exact x3 ⟨_,a,rfl⟩ ⟨_,b,rfl⟩ z8 zJ zV y3 (BG _ _)
   (tuple_addW1 i d Yl.toArray P.toArray w Zq g k aZ m ⇑f (by simp[e])) ⟨a,b,z e⟩
 ·refine x3 ⟨_,a,rfl⟩ ⟨_,b,rfl⟩ z8 zJ zV y3 (BG _ _)
   (tuple_addW2 i d Yl.toArray P.toArray w Zq g k aZ m ⇑f ⇑e (by rw[cv,cv];exact q)) ⟨a,b,?_⟩;rw[c];exact E e
def cz(w u:Nat):Option Int->Nat
 |none=>u
 |some v=>if v<0 then (v+(w:Int)).toNat else min v.toNat w
def Ld(w u:Nat):cz w u Y=u:=rfl
def J3(w u o:Nat):cz w u (Z (o:Int))=min o w:=by
 show (if (o:Int)<0 then ((o:Int)+(w:Int)).toNat else min (o:Int).toNat w)=min o w;rw[aH ⋯,kY]
def Nc(w u:Nat)(hd:u<=w)(m:Option Int):cz w u m<=w:=by
 cases m with
 |none=>exact hd
 |some v=>
  show (if v<0 then (v+(w:Int)).toNat else min v.toNat w)<=w;by_cases a:v<0
  ·rw[aE a];lia
  ·rw[aH a];exact Nat.min_le_right _ _
def Ho(v:Int)(w u:Nat):(if v<0 then max (v+(w:Int)) 0 else min v (w:Int))=((cz w u (Z v):Nat):Int):=by
 show (if v<0 then max (v+(w:Int)) 0 else min v (w:Int))=(((if v<0 then (v+(w:Int)).toNat else min v.toNat w):Nat):Int);by_cases a:v<0
 ·simp only[aE a];lia
 ·simp only[aH a];lia
def Sr(G T:Option Int)(w:Nat):aY.Slice.sliceAdjust G T 1 (w:Int)=(((cz w 0 G:Nat):Int),((cz w w T:Nat):Int)):=by
 have z:¬ ((1:Int)<0):=⋯
 unfold aY.Slice.sliceAdjust;simp only[z,f5];refine fj ?_ ?_
 ·cases G with
  |none=>rfl
  |some v=>exact Ho v w 0
 ·cases T with
  |none=>rfl
  |some v=>exact Ho v w w
def Og(a r:Nat):aY.Slice.slicePlaces (a:Int) (r:Int) 1=r-a:=by
 unfold aY.Slice.slicePlaces;have z:(1:Int)>0:=⋯
 simp only[z,h7,Int.ediv_one];split<;>lia
def Dv{v:ab}{m:Option Int}{B:Option Int->ai->Prop}(q:lG v m)(e:B m h):wpAny (aN Yw l) O (aY.Slice.slicePartIndex v) B Yq h:=by
 cases q with
 |none=>exact Ep e
 |int a i=>exact slicePart_int e
def CY{w:Nat}{B:Int×Int×Nat->ai->Prop}(Ys:h.heap.IsSliceOf aZ cp D .none)(bo:lG cp G)(c:lG D T)(e:B (((cz w 0 G:Nat):Int),1,cz w w T-cz w 0 G) h):wpAny (aN Yw l) O (aY.Slice.sliceApplied (.ref aZ)<|pure (w:Int)) B Yq h:=by
 let⟨@YG,a,d,b⟩:=id Ys;unfold aY.Slice.sliceApplied aY.Slice.sliceFields;refine ao (ao<|gJ a b (x:=cp) rfl<|ao<|gJ a b (x:=D) rfl<|ao<|gJ a b (x:=.none) rfl<|aM ?_);refine ao (Ep ?_);show wpAny _ _ (if ((1:Int)==0)=aa then _ else _) _ _ h;rw[aH ∅];refine ao (Dv bo<|ao<|Dv c<|ao<|aM ?_);show wpAny _ _ (match aY.Slice.sliceAdjust G T 1 (w:Int) with|(G,T)=>pure (G,(1:Int),aY.Slice.slicePlaces G T 1)) _ _ h;rw[Sr G T w];show wpAny _ _ (pure (((cz w 0 G:Nat):Int),(1:Int),aY.Slice.slicePlaces ((cz w 0 G:Nat):Int) ((cz w w T:Nat):Int) 1)) _ _ h;rw[Og];exact aM e
def QT(x:Array ab)(a o:Nat):((range o).filterMap λ(k:Nat)=>x[((a:Int)+(k:Int)*1).toNat]?).toArray=((x.toList.drop a).take o).toArray:=by
 have c:(λ(k:Nat)=>x[((a:Int)+(k:Int)*1).toNat]?)=λk=>x[a+k]?:=by
  funext k;have:((a:Int)+(k:Int)*1).toNat=a+k:=⋯
  rw[this]
 rw[c];have:=pick_run x a o;rw[List.filterMap_map]at this;have b:((λf=>x[f]?) ∘ λf=>a+f)=λk=>x[a+k]?:=rfl;rw[b]at this;rw[this]
def Mn{YJ:Array ab}(bG:pj h.heap i YJ)(Ys:h.heap.IsSliceOf aZ cp D .none)(bo:lG cp G)(b:lG D T)(c:¬ (cz YJ.size 0 G=0/\cz YJ.size YJ.size T=YJ.size))(e:B (.ref h.heap.objs.size) {h with heap:=h.heap.push {cls:=.type "tuple",data:=.seq ((YJ.toList.drop<|cz YJ.size 0 G).take<|cz YJ.size YJ.size T-cz YJ.size 0 G).toArray} })(m:YJ.size<=sizeLine):wpAny (aN Yw l) O (nN (.ref i)<|.ref aZ) B Yq h:=by
 have a:sizeOk (.seq ((YJ.toList.drop<|cz YJ.size 0 G).take<|cz YJ.size YJ.size T-cz YJ.size 0 G).toArray):=by
  show ((YJ.toList.drop<|cz YJ.size 0 G).take<|cz YJ.size YJ.size T-cz YJ.size 0 G).toArray.size<=sizeLine;rw[cv,gx,fg,dq];lia
 have n:cz YJ.size YJ.size T<=YJ.size:=Nc _ _ (bp _) T;let⟨@YG,d,f,o⟩:=id Ys;have g:h.TypeIs (.ref aZ) "slice" := ⟨YG,d,f⟩;unfold nN;try with_reducible refine fM ?_
 first|refine ao (aM ?_)|skip
 refine ao (Kx bG.typeIs ∅ ?_);refine ao (lA (name:=aG.ofString "__getitem__") bG.typeIs rh
  (hP rh bG.typeIs JV ?_<|Hh _ _));show wpAny _ _ (aY.Tuple.tupleItemsOf (.ref i) >>= _) _ _ h;refine ao (Kj bG ?_);refine ao (wpAny_typeOf g ?_);rw[aE ∅];refine ao (CY Ys bo b ?_);have j:¬ ((((cz YJ.size 0 G:Nat):Int)==0&&(1:Int)==1&&(cz YJ.size YJ.size T-cz YJ.size 0 G)==YJ.size)=aa):=by
  intro p;rw[cU,cU]at p;have q:((cz YJ.size 0 G:Nat):Int)=0:=eq_of_beq p.1.1;have r:cz YJ.size YJ.size T-cz YJ.size 0 G=YJ.size:=eq_of_beq p.2;exact c ⟨⋯,⋯⟩
 show wpAny _ _ (if (((cz YJ.size 0 G:Nat):Int)==0&&(1:Int)==1&&(cz YJ.size YJ.size T-cz YJ.size 0 G)==YJ.size)=aa then _ else _) _ _ h;rw[aH j,QT];first
  | exact ao (m:=aY.Tuple.tupleExact _) (gz (aM ⟨_,rfl,aM e⟩) a)
  | exact ao (m:=aY.Tuple.tupleExact _) (gz (ao<|aM<|aM ⟨_,rfl,aM e⟩) a)
  | exact ao (ao (m:=aY.Tuple.tupleExact _)<|gz (aM<|aM ⟨_,rfl,aM e⟩) a)
  | exact ao (ao (m:=aY.Tuple.tupleExact _)<|gz (aM ⟨_,rfl,aM e⟩) a)
end
end dk
namespace L2
open Spec PyProof.Rows
variable{R:aX}{B:ab->ai->Prop}{P j:ay}{YE:List (List V×av)}{l:bh}{YC:bO}{m:Option av}{YU w:Nat}{y Yy:List ab}{q:ag}{h:ai}{C:a5}{M:List (ag×a3)}{s:b9}{YH:Type}{a:Int}{x:List (List V×ag×ab)}
abbrev bF:=a5->ay->(Option Int->ay->Prop)->Prop
def Fh(b:aO)(c:Option bz)(i:bF)(M:List (ag×a3)):Prop:=(
 ∀(h:ai) (C:a5) (j:ay) (B:Option Int->ay->Prop),aF b M C j h->i C j B->
  wpAny (aN b.prog b.w) b.A (evalPart c b.env) (λL Yn=>∃m P,aF b M C P Yn/\lG L m/\B m P) b.c1 h)
def qB(b:aO)(c:Option bz)(i:bF):Prop:=(∀M,Fh b c i M)
def TJ:bF:=(λ_ j B=>B Y j)
def Tu(i:cC):bF:=(λC j B=>i C j λf Yx=>∃a,f=.int a/\B (Z a) Yx)
section
variable{b:aO}{c:bz}{Zs:cC}{G T:Option bz}{ZC k:bF}{YD Y6:Pos}
def T7:qB b Y TJ:=by
 intro M h C j B A e;rw[GB];exact aM ⟨Y,j,A,.none,e⟩
def S9(e:cj b c Zs):qB b (Z c) (Tu Zs):=by
 intro M h C j B A d;rw[evalPart_some];refine cn (e M h C j _ A d) λL n g=>?_;let⟨f,@Yx,k,l,m⟩:=g;let⟨@a,rfl,p⟩:=m;let⟨@i,rfl⟩:=l;exact⟨Z a,Yx,k,.int a i,p⟩
def tR(b:aO)(s:av->Option Int->Option Int->ay->cS->Prop):Prop:=(
 ∀(M:List (ag×a3)) (h:ai) (C:a5) (j:ay) (f:av) (v cp D:ab) (G T:Option Int) (aZ:ag) (B:cS),aF b M C j h->cw f v->h.heap.IsSliceOf aZ cp D .none->lG cp G->lG D T->s f G T j B->
  ∃U id,oM (.type U) "__getitem__" = pure (Z<|.builtin id)/\h.TypeIs v U/\wpAny (aN b.prog b.w) b.A (nN v<|.ref aZ) (ez b M C B) b.c1 h)
def UR(s:av->Option Int->Option Int->ay->cS->Prop)(Zs:cC)(ZC k:bF):cC:=(λC j B=>Zs C j λf Yx=>ZC C Yx λt YO=>k C YO λL a=>s f t L a B)
def Qy{s:av->Option Int->Option Int->ay->cS->Prop}(m:tR b s)(n:cj b c Zs)(o:qB b G ZC)(q:qB b T k):cj b (.Subscript c (.Slice G T Y Y6) YD) (UR s Zs ZC k):=by
 intro M h C j B A e;refine Subscript_ (cn (n M h C j _ A e) λv r g=>?_);let⟨f,@Yx,u,x,y⟩:=g;refine wpAny_Slice (cn (o M r C Yx _ u y) λcp z ⟨t,YO,E,bo,F⟩=>cn (q M z C YO _ E F) λD a g=>?_);let⟨L,@i,H,I,J⟩:=g;rw[GB];refine aM ?_;have N:aF b M C i {a with heap:=a.heap.push {cls:=.type "slice",data:=.fields #[cp,D,.none]} }:=H.kept (YU:=a.toks) λd R p=>bJ _ p;let⟨U,@id,P,bG,Q⟩:=m M {a with heap:=a.heap.push {cls:=.type "slice",data:=.fields #[cp,D,.none]} } C i f v cp D t L a.heap.objs.size B N x (aX.IsSliceOf.new ..) bo I J;show wpAny (aN b.prog b.w) b.A (GJ c (.Slice G T Y Y6) v<|.ref a.heap.objs.size) (ez b M C B) b.c1 {a with heap:=a.heap.push {cls:=.type "slice",data:=.fields #[cp,D,.none]} };exact BN (ops:=[.ref a.heap.objs.size,v]) bG P Q (by with_unfolding_all rfl)
def nG(x:List av)(G T:Option Int):List av:=((x.drop<|dk.cz x.length 0 G).take (dk.cz x.length x.length T-dk.cz x.length 0 G))
def Cp(x:List av)(G T:Option Int):(nG x G T).length<=x.length:=by
 unfold nG;rw[gx,fg];lia
def Qt(Yo:Φ):av->Option Int->Option Int->ay->cS->Prop:=(λf G T j B=>∃g x,f=.ref g/\cL Yo j g x/\
 ¬ (dk.cz x.length 0 G=0/\dk.cz x.length x.length T=x.length)/\∀q,j q=Y->B (.ref q) (upd j q<|.tup<|nG x G T))
def Rv:tR b (Qt b.K):=by
 intro M h C j f v cp D G T aZ B A i Ys bo k e;let⟨g,@x,rfl,l,n,p⟩:=e;cases i;let⟨@Yy,s,bG,c⟩:=A.tuple l;have a:Yy.toArray.size=x.length:=by rw[cv];exact s.length.symm
 refine⟨"tuple",_,rh.lookup,bG.typeIs,?_⟩;refine dk.Mn bG Ys bo k (by rw[a];exact n) ?_ (by rw[a];exact c);rw[a];refine⟨.ref h.heap.objs.size,_,A.laid (YU:=h.toks) (m:=.tup (nG x G T)) (λd o p=>bJ _ p) (bp _) ?_,rfl,p _<|A.a4.fresh<|bp _⟩;exact⟨fa (Cp x G T) c,_,(s.drop<|dk.cz x.length 0 G).take<|dk.cz x.length x.length T-dk.cz x.length 0 G,nX.new _ _⟩
def Pn(Yo:Φ):b9:=(λf H j B=>∃g d x YA,f=.ref g/\H=.ref d/\cL Yo j g x/\cL Yo j d YA/\x≠[]/\x.length+YA.length<=sizeLine/\
 (YA=[]->B (.ref g) j)/\(YA≠[]->∀q,j q=Y->B (.ref q) (upd j q<|.tup<|x++YA)))
def bS.uJ{x:List av}{YM:List ab}(s:bS x YM):YM=[]↔x=[]:=by
 cases s with
 |nil=>simp
 |cons _ _=>simp
def T2:d2 b (gr .Add) (Pn b.K):=by
 intro M h C j f H v L B A k n e;let⟨g,d,x,@YA,rfl,rfl,o,q,r,i,s,t⟩:=e;cases k;cases n;let⟨@Yy,c,u,W⟩:=A.tuple o;let⟨@w,a,Y6,W⟩:=A.tuple q;refine dk.QE u Y6 (λD=>r<|c.uJ.mp D) (λD=>⟨.ref g,j,A,rfl,s<|a.uJ.mp D⟩) (λD=>?_) (by rw[<-c.length,<-a.length];exact i);refine⟨.ref h.heap.objs.size,_,A.laid (YU:=h.toks) (m:=.tup (x++YA)) (λd y p=>bJ _ p) (bp _) ?_,rfl,t (λl=>D<|a.uJ.mpr l) _<|A.a4.fresh<|bp _⟩;exact⟨by rw[c6];exact i,_,c.append a,nX.new _ _⟩
end
def mG(w:Nat)(a:Int):Option Nat:=(if 0<=a then (if a<w then Z a.toNat else Y) else if -(w:Int)<=a then Z (a+w).toNat else Y)
def dN{YH:Type}(x:List YH)(a:Int):Option YH:=((mG x.length a).bind λr=>x[r]?)
def Ey{r:Nat}(e:mG w a=Z r):xG a w=Z r/\r<w /\ -(w:Int)<=a/\a<w:=by
 unfold mG at e;by_cases b:0<=a
 ·rw[aE b]at e;by_cases z:a<w
  ·rw[aE z]at e;have c:a.toNat=r:=Option.some.inj e;exact⟨by rw[uP b z,c],⋯,⋯,z⟩
  ·rw[aH z]at e;cases e
 ·rw[aH b]at e;by_cases z : -(w:Int)<=a
  ·rw[aE z]at e;have c:(a+w).toNat=r:=Option.some.inj e;exact⟨by rw[xM ⋯ z,c],⋯,z,⋯⟩
  ·rw[aH z]at e;cases e
def I5{x:List YH}{v:YH}(e:dN x a=Z v):∃r,xG a x.length=Z r/\x[r]?=Z v/\r<x.length /\ -(x.length:Int)<=a/\a<x.length:=by
 unfold dN at e;cases c:mG x.length a with
 |none=>rw[c]at e;cases e
 |some r=>
  rw[c]at e;let@⟨z,E,b,d⟩:=Ey c;exact⟨r,z,e,E,b,d⟩
def wt(d:bz):Prop:=(∀m a,subscripted d au m a=operate [m,a] (nN m a))
def ib(b:aO)(s:b9):Prop:=(
 ∀(k a:bz) (M:List (ag×a3)) (h:ai) (C:a5) (j:ay) (f H:av) (v L:ab) (B:cS),aF b M C j h->cw f v->cw H L->s f H j B->
  subscripted a au v L=operate [v,L] (nN v L)->wpAny (aN b.prog b.w) b.A (GJ k a v L) (ez b M C B) b.c1 h)
def uz(b:aO)(id:String)(s:av->List av->ay->cS->Prop):Prop:=(
 ∀(M:List (ag×a3)) (h:ai) (C:a5) (j:ay) (f:av) (x:List av) (v:ab) (YM:List ab) (B:cS),aF b M C j h->cw f v->bS x YM->s f x j B->
  wpAny (aN b.prog b.w) b.A (call (.builtin id) (v::YM)) (ez b M C B) b.c1 h)
section
variable{b:aO}{g d:bz}{Za Zu:cC}{YD:Pos}
def ib.or{Zd:b9}(e:ib b s)(R:ib b Zd):ib b (λf H j B=>s f H j B\/Zd f H j B):=by
 intro k a M h C j f H v L B A c d p Ys;rcases p with p|p
 ·exact e k a M h C j f H v L B A c d p Ys
 ·exact R k a M h C j f H v L B A c d p Ys
def Xd(a:ib b s)(c:cj b g Za)(i:cj b d Zu)(Ys:wt d):cj b (.Subscript g d YD) (u7 s Za Zu):=by
 intro M h C j B A e;exact Subscript_ (yp c i A e λv L k f H YO l m n p=>a g d M k C YO f H v L B l m n p<|Ys _ _)
def RE(Yo:Φ):b9:=(λf H j B=>∃q x a v,f=.ref q/\H=.int a/\de Yo j q x/\dN x a=Z v/\B v j)
def PH(Yo:Φ):b9:=(λf H j B=>∃q x a v,f=.ref q/\H=.int a/\cL Yo j q x/\dN x a=Z v/\B v j)
def SQ:ib b (RE b.K):=by
 intro k I M h C j f H v L B A n o e Ys;let⟨q,x,a,@D,rfl,rfl,t,u,p⟩:=e;cases n;let⟨@i,rfl⟩:=o;let⟨@Yy,s,bo,J⟩:=A.list t;let⟨@r,z,E,N,w,y⟩:=I5 u;let⟨@l,d,F⟩:=s.get E;have G:=s.length;have O:=oH;have g:ez b M C B l h:=⟨D,j,A,F,p⟩;by_cases m:0<=a
 ·have c:a.toNat=r:=by
   rw[uP m y]at z;exact Option.some.inj z
  exact item_listR bo.isList m ⋯ (by rw[c];simpa using d) g Ys
 ·have c:(a+(Yy.toArray.size:Int)).toNat=r:=by
   rw[xM ⋯ w]at z;rw[cv,<-G];exact Option.some.inj z
  exact Lc (x:=l) bo.isList.typeIs Ga.lookup
   (wpAny_getItem_list_neg (Q:=λs Yn=>s=l/\ez b M C B s Yn) bo.isList ⋯ (by rw[cv]<;>lia) ⋯ (by rw[c];simpa using d) ⟨rfl,g⟩) Ys
def HE:ib b (PH b.K):=by
 intro k w M h C j f H v L B A c d e Ys;let⟨q,x,a,@D,rfl,rfl,g,m,p⟩:=e;cases c;let⟨@i,rfl⟩:=d;let⟨@Yy,s,bo,y⟩:=A.tuple g;let⟨@r,z,E,F,G,I⟩:=I5 m;let⟨@l,n,o⟩:=s.get E;have t:=s.length;have J:=oH;have u:ez b M C B l h:=⟨D,j,A,o,p⟩;exact Lc (x:=l) bo.typeIs slot_tuple_getitem.lookup
  (getItem_tuple (j:=r) (Q:=λs Yn=>s=l/\ez b M C B s Yn) bo ⋯ ⋯ (by rw[cv,<-t];exact z) ⇑n ⟨rfl,u⟩) Ys
def TV(Yy:List ab)(w r:Nat)(L:ab):a3.mapSeq (·.setIfInBounds r L) {cls:=.type "list",data:=.seq Yy.toArray w}={cls:=.type "list",data:=.seq (Yy.set r L).toArray w}:=by
 simp[a3.mapSeq]
variable{x:List av}
def aF.lst(A:aF b M C j h)(e:j q=Z (.lst x)):
  ∃(Yy:List ab) (w:Nat),bS x Yy/\h.heap.get? q=Z {cls:=.type "list",data:=.seq Yy.toArray w}/\x.length<=sizeLine:=by
 let@⟨D,⟨Yy,@w,s,c⟩⟩:=A.a4 q _ e;exact⟨Yy,w,s,c,D⟩
def aF.Tg{YA:List av}{a:Nat}{F:a3->a3}(A:aF b M C j h)(e:j q=Z (.lst x))(k:h.heap.get? q=Z {cls:=.type "list",data:=.seq Yy.toArray w})(g:F {cls:=.type "list",data:=.seq Yy.toArray w}={cls:=.type "list",data:=.seq y.toArray a})(s:bS YA y)(l:YA.length<=sizeLine)(i:Nat):
  aF b M C (upd j q<|.lst YA) {h with heap:=h.heap.update q F,toks:=i}:=by
 have c:(h.heap.update q F).get? q=Z {cls:=.type "list",data:=.seq y.toArray a}:=by
  rw[jh F k (by rw[g]<;>rfl),g]
 refine A.write (f:=q) (c:=q) (by rw[e];trivial) (.inl rfl) (λd L m p=>(g4 _ _<|eQ m).trans p) ⟨_,c⟩ ?_;exact⟨l,y,a,s,c⟩
def L0:av->av->av->ay->(ay->Prop)->Prop:=(λm a v j B=>∃q x o r,m=.ref q/\a=.int o/\j q=Z (.lst x)/\mG x.length o=Z r/\B (upd j q<|.lst<|x.set r v))
def N_:ye b L0:=by
 intro M h C j m a v H I L B A k y D e;let⟨q,x,o,@r,rfl,rfl,g,F,p⟩:=e;cases k;let⟨@i,rfl⟩:=y;let⟨Yy,@w,s,c,G⟩:=A.lst g;let@⟨z,E,l,n⟩:=Ey F;have d:=s.length;have J:=oH;have t:aF b M C (upd j q<|.lst<|x.set r v) {h with heap:=h.heap.update q (a3.mapSeq (·.setIfInBounds r L))}:=
  A.Tg g c (TV Yy w r L) (s.set D r) (by rw[xq];exact G) h.toks;by_cases u:0<=o
 ·have f:o.toNat=r:=by
   rw[uP u n]at z;exact Option.some.inj z
  exact PySem.W.ki_setAt c u ⋯ (by rw[cv,<-d];exact n) (by rw[f];exact⟨_,t,p⟩)
 ·have f:(o+(Yy.toArray.size:Int)).toNat=r:=by
   rw[xM ⋯ l]at z;rw[cv,<-d];exact Option.some.inj z
  exact PySem.W.ki_setBack c ⋯ (by rw[cv,<-d];exact l) ⋯ (by rw[f];exact⟨_,t,p⟩)
def Mg(G T:Option Int)(w:Nat):(oY G T Y w).1=((dk.cz w 0 G:Nat):Int)/\(oY G T Y w).2.1=((dk.cz w w T:Nat):Int)/\(oY G T Y w).2.2=1:=by
 refine⟨?_,?_,rfl⟩
 ·cases G with
  |none=>simp[oY,dk.cz]
  |some a=>
   simp only[oY,dk.cz,Hk,show (1:Int)>0 by decide,h7];by_cases e:a<0
   ·simp only[e,h7]<;>lia
   ·simp only[e,f5]<;>lia
 ·cases T with
  |none=>simp[oY,dk.cz]
  |some a=>
   simp only[oY,dk.cz,Hk,show (1:Int)>0 by decide,h7];by_cases e:a<0
   ·simp only[e,h7]<;>lia
   ·simp only[e,f5]<;>lia
def Vw(Yy:List ab)(G T:Option Int):slicePick Yy.toArray G T Y=((Yy.drop<|dk.cz Yy.length 0 G).take<|dk.cz Yy.length Yy.length T-dk.cz Yy.length 0 G).toArray:=by
 let@⟨z,E,a⟩:=Mg G T Yy.toArray.size;unfold slicePick;rw[z,E,a];simp only[sliceRange_one,pick_run,cv]<;>rfl
def UZ(Yo:Φ):av->Option Int->Option Int->ay->cS->Prop:=(λf G T j B=>∃g x,f=.ref g/\de Yo j g x/\∀q,j q=Y->B (.ref q) (upd j q<|.lst<|nG x G T))
def Hx:tR b (UZ b.K):=by
 intro M h C j f v cp D G T aZ B A a Ys bo c e;let⟨g,@x,rfl,i,p⟩:=e;cases a;let⟨@Yy,s,bG,k⟩:=A.list i;have l:=s.length;refine⟨"list",_,Ga.lookup,bG.isList.typeIs,?_⟩;refine wpAny_getItem_list_slice bG.isList Ys bo c .none ↥0 ?_ (by rw[cv]<;>lia);rw[Vw,<-l];refine⟨.ref h.heap.objs.size,_,A.laid (YU:=h.toks) (m:=.lst (nG x G T)) (λd n p=>bJ _ p) (bp _) ?_,rfl,p _<|A.a4.fresh<|bp _⟩;exact⟨fa (Cp x G T) k,_,0,(s.drop<|dk.cz x.length 0 G).take<|dk.cz x.length x.length T-dk.cz x.length 0 G,cO _ rfl⟩
def VQ:eZ b (.builtin "len") (λx j B=>∃q YA,x=[.ref q]/\(de b.K j q YA\/cL b.K j q YA)/\B (.int YA.length) j):=by
 intro M h C j x YM B A s e;let⟨q,@YA,rfl,a,p⟩:=e;let⟨@L,rfl,d⟩:=hF s;cases d;have g:=oH;rcases a with a|a
 ·let⟨@Yy,Zd,bo,f⟩:=A.list a;have c:=Zd.length;exact Calls.call_len_list bo.isList (by simp only[cv]<;>lia) ⟨.int YA.length,j,A.tok _,⟨h.toks+1,by rw[cv,c]⟩,p⟩
 ·let⟨@Yy,Zd,bo,f⟩:=A.tuple a;have c:=Zd.length;exact len_tuple bo (by simp only[cv]<;>lia) ⟨.int YA.length,j,A.tok _,⟨h.toks+1,by rw[cv,c]⟩,p⟩
def V_:eZ b (.builtin "len") (λx j B=>∃D,x=[.str D]/\D.length<=sizeLine/\B (.int D.length) j):=by
 intro M h C j x YM B A s e;let⟨@D,rfl,a,p⟩:=e;let⟨@L,rfl,⟨@i,rfl⟩⟩:=hF s;have c:=oH;exact len_str ⋯ ⟨.int D.length,j,A.tok _,⟨_,rfl⟩,p⟩
def eZ.or{F:ab}{s Zd:List av->ay->cS->Prop}(e:eZ b F s)(R:eZ b F Zd):eZ b F (λx j B=>s x j B\/Zd x j B):=by
 intro M h C j x YM B A N p;rcases p with p|p
 ·exact e M h C j x YM B A N p
 ·exact R M h C j x YM B A N p
def Qw:eZ b (.type "list") (λx j B=>∃q YA,x=[.ref q]/\(de b.K j q YA\/cL b.K j q YA)/\∀t,j t=Y->B (.ref t) (upd j t<|.lst YA)):=by
 intro M h C j x YM B A s e;let⟨q,@YA,rfl,f,p⟩:=e;let⟨@L,rfl,o⟩:=hF s;cases o;have n:∀(Yy:List ab),bS YA Yy->YA.length<=sizeLine->∀(R:aX) (a:Nat),(∀d Y7,h.heap.get? d=Z Y7->R.get? d=Z Y7)->
   R.get? h.heap.objs.size=Z {cls:=.type "list",dict:=Y,data:=.seq Yy.toArray a,slots:=#[]}->ez b M C B (.ref h.heap.objs.size) {h with heap:=R}:=λYy Zd g R a da c=>
  ⟨.ref h.heap.objs.size,_,A.laid (YU:=h.toks) da (bp _)<|show fi b.prog b.w _ R _ (.lst YA) from ⟨g,Yy,a,Zd,c⟩,rfl,p _<|A.a4.fresh<|bp _⟩;rcases f with f|f
 ·let⟨@Yy,Zd,bo,g⟩:=A.list f;have r:=Zd.length;let⟨@m,i,k,⟨@w,hd⟩⟩:=bo.isList;exact Gz q (.inl rfl) i k hd (λR a da c=>n Yy Zd g R a da c) (by simp only[cv]<;>lia)
 ·let⟨@Yy,Zd,bo,g⟩:=A.tuple f;have r:=Zd.length;let⟨@m,i,k,⟨@w,hd⟩⟩:=bo;exact Gz q (.inr rfl) i k hd (λR a da c=>n Yy Zd g R a da c) (by simp only[cv]<;>lia)
def Wi:eZ b (.type "tuple") (λx j B=>∃q YA,x=[.ref q]/\((de b.K j q YA/\∀t,j t=Y->B (.ref t) (upd j t<|.tup YA))\/(cL b.K j q YA/\B (.ref q) j))):=by
 intro M h C j x YM B A s e;let⟨q,@YA,rfl,e⟩:=e;let⟨@L,rfl,i⟩:=hF s;cases i;rcases e with ⟨a,p⟩|⟨a,p⟩
 ·let⟨@Yy,Zd,bo,f⟩:=A.list a;have n:=Zd.length;refine call_tuple_list bo.isList (λR da=>?_) (by simp only[cv]<;>lia);have g:aF b M C j {h with heap:=R}:=A.kept (YU:=h.toks) da;have k:aF b M C (upd j R.objs.size<|.tup YA) {h with heap:=R.push {cls:=.type "tuple",data:=.seq Yy.toArray} }:=
   g.laid (YU:=h.toks) (λd m c=>bJ _ c) (bp _) (show fi b.prog b.w _ _ _ (.tup YA) from ⟨f,Yy,Zd,nX.new _ _⟩);exact⟨.ref R.objs.size,_,k,rfl,p _<|g.a4.fresh<|bp _⟩
 ·let⟨@Yy,Zd,bo,f⟩:=A.tuple a;exact call_tuple_same bo ⟨.ref q,j,A,rfl,p⟩
def p8(Yo:Φ)(U:String)(f:av)(j:ay):Prop:=(match f with
 |.str _=>U = "str"
 |.int _=>U = "int"
 |.ref q=>(U = "list" /\ ∃x,de Yo j q x)\/(U = "tuple" /\ ∃m,Yo.lookup q=Z m/\m.cls=.type "tuple" /\ m.dict=Y)\/
   (U = "dict" /\ ((∃YE,j q=Z (.dU YE))\/∃YE,j q=Z (.bN YE)))\/(U = "set" /\ ∃YB w,j q=Z (.set YB w))
 |_=>False)
def Xe{U:String}{f:av}{v:ab}(A:aF b M C j h)(s:cw f v)(ty:p8 b.K U f j):
  h.TypeIs v U/\∀g,v=.ref g->∃k,h.heap.get? g=Z k/\k.dict=Y:=by
 cases f with
 |str D=>
  let⟨@i,rfl⟩:=s;cases (show U = "str" from ty);exact⟨typeIs_str h D i,λ_ c=>nomatch c⟩
 |int a=>
  let⟨@i,rfl⟩:=s;cases (show U = "int" from ty);exact⟨x9 h a i,λ_ c=>nomatch c⟩
 |ref q=>
  cases s;rcases ty with ⟨rfl,x,l⟩|⟨rfl,m,d,o,hd⟩|⟨rfl,d⟩|⟨rfl,YB,w,d⟩
  ·let⟨@Yy,W,bo,W⟩:=A.list l;refine⟨bo.isList.typeIs,λg c=>?_⟩;cases c;let⟨m,@w,c,n,hd,W⟩:=bo;exact⟨m,c,hd⟩
  ·refine⟨⟨m,A.o1 q m d,o⟩,λg c=>?_⟩;cases c;exact⟨m,A.o1 _ m d,hd⟩
  ·have D:∃m,h.heap.get? q=Z m/\m.ExactDict:=by
    rcases d with ⟨YE,d⟩|⟨YE,d⟩
    ·let@⟨_,_,⟨@_,_,⟨m,_,@_,c,I,_⟩⟩⟩:=A.a4 q _ d;exact⟨m,c,I⟩
    ·let@⟨_,_,⟨@_,_,⟨m,_,@_,c,I,_⟩⟩⟩:=A.a4 q _ d;exact⟨m,c,I⟩
   let⟨@m,c,I⟩:=D;refine⟨⟨m,c,I.1⟩,λg e=>?_⟩;cases e;exact⟨m,c,I.2.1⟩
  ·let⟨m,W,W,@W,c,I,W⟩:=A.a4 q _ d;refine⟨⟨m,c,I.1⟩,λg e=>?_⟩;cases e;exact⟨m,c,I.2.1⟩
 |_=>exact False.elim ty
def Vl(Yo:Φ)(U:String)(s:av->List av->ay->cS->Prop)(k:cC)(i:ei):cC:=(λC j B=>k C j λf Yx=>p8 Yo U f Yx/\i C Yx λx YO=>s f x YO B)
variable{m c:bz}{Q:List bz}{k:cC}{i:ei}{name:aG}{G o:Pos}{U id:String}{s:av->List av->ay->cS->Prop}
def TM(bL:PlainAttrs U)(Zx:Slot U name id)(n:ug (.builtin id)=pure (.type "method_descriptor"))(p:uz b id s)(q:cj b m k)(r:gR b (c::Q) i)(t:ue m name b.env (b0 m b.env)=b0 m b.env:=by rfl)(u:((gp o<|bH (c::Q) b.env).all (λf=>!f.1)&&(wu o<|vB [] b.env).all (λf=>f.1.isSome)
   && decide ((c::Q).length+([]:List mB).length+(if ([]:List mB).isEmpty then 0 else 1)<30))=aa:=by rfl)(w:(G.endLine==o.line)=aa:=by rfl)(Ys:bH (c::Q) b.env=(au,b0 c b.env)::bH Q b.env:=by rfl)(x:(gp o<|bH Q b.env).any (·.1)=au:=by rfl):
  cj b (.Call (.Attribute m name G) (c::Q) [] o) (Vl b.K U s k i):=by
 intro M h C j B A e;refine JJ t u w rfl (cn (q M h C j _ A e) λv y a=>?_);let⟨f,@Yx,d,g,ty,D⟩:=a;let@⟨z,E⟩:=Xe d g ty;refine⟨U,id,bL,Zx,n,z,E,?_⟩;have l:=r o M y C Yx _ d D;rw[Ys]at l ⊢;refine H7 (by show (au || (gp o<|bH Q b.env).any (·.1))=au;rw[x]<;>rfl) (FF ?_);refine cn l λYM F a=>?_;let⟨Yl,@YO,H,I,J⟩:=a;exact p M F C YO f Yl v YM B H g I J
end
def Cg(b:aO)(id:String)(s:av->List av->ay->cS->Prop):Prop:=(
 ∀(M:List (ag×a3)) (h:ai) (C:a5) (j:ay) (f:av) (x:List av) (v:ab) (YM:List ab) (B:cS),aF b M C j h->cw f v->bS x YM->s f x j B->
  wpAny (aN b.prog b.w) b.A (call (.builtin id) (v::YM)) (ez b M C B) b.c1 h)
theorem bS.one:∀{f:av}{YM:List ab},bS [f] YM->∃L,YM=[L]/\cw f L
 |_,_,.cons s .nil=>⟨_,rfl,s⟩
theorem bS.eraseIdx:∀{x:List av}{YM:List ab} (a:Nat),bS x YM->bS (x.eraseIdx a) (YM.eraseIdx a)
 |_,_,_,.nil=>.nil
 |_,_,0,.cons _ i=>i
 |_,_,a+1,.cons s i=>.cons s (bS.eraseIdx a i)
theorem bS.rep{x:List av}{YM:List ab}(e:bS x YM):∀o:Nat,bS (List.replicate o x).flatten (List.replicate o YM).flatten
 |0=>.nil
 |o+1=>by
  rw[qE,qE,wg,wg];exact bS.append e (bS.rep e o)
theorem Kr{YH:Type}:∀(t:List YH) (a:Nat),(t.eraseIdx a).length<=t.length
 |[],_=>bp _
 |_::_,0=>zp _
 |_::s,a+1=>Nat.succ_le_succ (Kr s a)
theorem K7(Yy:List ab):∀(o:Nat) (a:List ab),
  List.foldl (λb d=>b++d) a.toArray (List.replicate o Yy.toArray)=(a++(List.replicate o Yy).flatten).toArray
 |0,a=>by simp
 |o+1,a=>by
  have c:a.toArray++Yy.toArray=(a++Yy).toArray:=by simp
  have e:(a++Yy)++(List.replicate o Yy).flatten=a++(List.replicate (o+1) Yy).flatten:=by
   rw[qE,wg,bq]
  rw[<-e,<-K7 Yy o (a++Yy),<-c,qE,mj]
section
variable{b:aO}{M:List (ag×a3)}{C:a5}{j:ay}{h:ai}{t d:ag}{x YA S:List av}
def aF.vj{F:Array ab->Array ab}(A:aF b M C j h)(a:j t=Z (.lst x))(c:h.heap.get? t=Z {cls:=.type "list",data:=.seq Yy.toArray w})(d:F Yy.toArray=y.toArray)(e:bS YA y)(g:YA.length<=sizeLine):
  aF b M C (upd j t<|.lst YA) {h with heap:=h.heap.update t (a3.mapSeq F),toks:=YU}:=by
 have p:=H8 c F;rw[d]at p;refine A.write (f:=t) (c:=t) (by rw[a];exact trivial) (.inl rfl) (λl L i k=>(g4 h.heap (a3.mapSeq F)<|eQ i).trans k) ⟨_,p⟩ ?_;exact⟨g,y,_,e,p⟩
def aF.Ie(A:aF b M C j h)(a:bS YA Yy)(c:YA.length<=sizeLine):
  aF b M C (upd j h.heap.objs.size<|.lst YA) {h with heap:=h.heap.push {cls:=.type "list",data:=.seq Yy.toArray},toks:=YU}:=
 A.laid (λ_ W p=>bJ _ p) (bp _) ⟨c,Yy,0,a,cO _ rfl⟩
def aF.fresh(A:aF b M C j h):j h.heap.objs.size=Y:=A.a4.fresh (bp _)
def aF.hC(A:aF b M C j h)(a:j t=Z (.lst x)):x.length<=sizeLine/\∃(Yy:List ab) (w:Nat),bS x Yy/\x.length=Yy.length/\h.heap.get? t=Z {cls:=.type "list",data:=.seq Yy.toArray w}:=by
 let@⟨D,⟨Yy,@w,s,c⟩⟩:=A.a4 t _ a;exact⟨D,Yy,w,s,s.length,c⟩
def ym(e:w<=sizeLine):aY.List.listTooLong w=au:=by
 unfold aY.List.listTooLong;exact dC ⋯
end
section
variable{b:aO}
def Ug:av->List av->ay->cS->Prop:=(λf Yl j B=>∃t x H,f=.ref t/\Yl=[H]/\j t=Z (.lst x)/\x.length<sizeLine/\B .aV (upd j t<|.lst<|x++[H]))
def Mf:Cg b "list.append" Ug:=by
 intro M h C j f Yl v YM B A d g e;let⟨t,x,@H,rfl,rfl,a,k,p⟩:=e;cases d;let⟨@L,rfl,i⟩:=g.one;let@⟨D,⟨Yy,@w,s,l,c⟩⟩:=A.hC a;refine my D8 ⟨_,c,rfl⟩ Ks (Ef _ _) (E7 t Yy.toArray w L (by rw[cv];lia)) ⟨c,?_⟩;refine⟨.aV,_,A.vj (y:=Yy++[L]) a c ↥0 (s.append<|.cons i .nil) ?_,rfl,p⟩;rw[c6,mw];lia
def LD:av->List av->ay->cS->Prop:=(λf Yl j B=>∃t d x S,f=.ref t/\Yl=[.ref d]/\j t=Z (.lst x)/\j d=Z (.lst S)/\x.length+S.length<=sizeLine/\B .aV (upd j t<|.lst<|x++S))
def QX:Cg b "list.extend" LD:=by
 intro M h C j f Yl v YM B A i k e;let⟨t,d,x,@S,rfl,rfl,g,l,u,p⟩:=e;cases i;let⟨@L,rfl,m⟩:=k.one;cases m;let@⟨D,⟨Yy,@w,s,z,c⟩⟩:=A.hC g;let@⟨E,⟨a,@Zq,n,F,o⟩⟩:=A.hC l;have q:Yy.toArray.size+a.toArray.size<=sizeLine:=by rw[cv,cv];lia
 have r:¬ (!Yy.toArray.isEmpty&&aY.List.listTooLong (Yy.toArray.size+a.toArray.size))=aa:=by
  rw[ym q,BE];exact dj
 refine my EP ⟨_,c,rfl⟩ H3 (Lb _ _)
  (Lr t Yy.toArray w d a.toArray Zq r (by rw[cv];lia) ⋯) ⟨c,o,?_⟩;refine⟨.aV,_,A.vj (y:=Yy++a) g c ↥0 (s.append n) ?_,rfl,p⟩;rw[c6];lia
def TU:av->List av->ay->cS->Prop:=(λf Yl j B=>∃t x a o H,f=.ref t/\Yl=[.int a]/\j t=Z (.lst x) /\ -(2^63)<=a/\a<2^63/\xG a x.length=Z o/\x[o]?=Z H/\B H (upd j t<|.lst<|x.eraseIdx o))
def MQ:Cg b "list.pop" TU:=by
 intro M h C j f Yl v YM B A g k e;let⟨t,x,a,o,@H,rfl,rfl,d,z,E,m,n,p⟩:=e;cases g;let⟨@L,rfl,q⟩:=k.one;let⟨@i,rfl⟩:=q;let@⟨D,⟨Yy,@w,s,r,c⟩⟩:=A.hC d;let⟨@l,u,G⟩:=s.get n;refine my F.slot_list_pop ⟨_,c,rfl⟩ F.entry_list_pop (F.args_list_pop_2 _ _)
  (MeetsSeq.list_pop_at t Yy.toArray w a i o l (D0 z E) (by rw[cv,<-r];exact m) (by rw[<-e0];exact u) (by rw[cv];lia)) ⟨c,?_⟩;refine⟨H,_,A.vj (y:=Yy.eraseIdx o) d c ?_ (s.eraseIdx o) ?_,G,p⟩
 ·show Yy.toArray.eraseIdxIfInBounds o=(Yy.eraseIdx o).toArray;rw[D5]
 ·have:=Kr x o;lia
def Pc:b9:=(λf H j B=>∃t d x S,f=.ref t/\H=.ref d/\j t=Z (.lst x)/\j d=Z (.lst S)/\x.length+S.length<=sizeLine/\∀q,j q=Y->B (.ref q) (upd j q<|.lst<|x++S))
def P_:d2 b (gr .Add) Pc:=by
 intro M h C j f H v L B A g i e;let⟨t,d,x,@S,rfl,rfl,k,l,q,p⟩:=e;cases g;cases i;let@⟨D,⟨Yy,@w,s,r,c⟩⟩:=A.hC k;let@⟨u,⟨a,@Zq,m,y,n⟩⟩:=A.hC l;refine PySem.P.add_list c n ?_ (by rw[cv,cv];lia);have o:Yy.toArray++a.toArray=(Yy++a).toArray:=by simp
 rw[o];exact⟨.ref _,_,A.Ie (YU:=h.toks) (s.append m) (by rw[c6];lia),rfl,p _ A.fresh⟩
def Th:b9:=(λf H j B=>∃t o x,f=.ref t/\H=.int o/\j t=Z (.lst x) /\ -(2^63)<=o/\o<2^63/\x.length*o.toNat<=sizeLine/\
 ∀q,j q=Y->B (.ref q) (upd j q<|.lst (List.replicate o.toNat x).flatten))
def Vk(x:List YH)(o:Nat):(List.replicate o x).flatten.length=o*x.length:=by
 induction o with
 |zero=>simp
 |succ o a=>rw[qE,wg,c6,a,Nat.succ_mul,rn]
def U_:d2 b (gr .Mult) Th:=by
 intro M h C j f H v L B A m n e;let⟨t,o,@x,rfl,rfl,q,z,E,l,p⟩:=e;cases m;let⟨@i,rfl⟩:=n;let@⟨D,⟨Yy,@w,s,r,c⟩⟩:=A.hC q;have u:Yy.toArray.size*o.toNat<=sizeLine:=by rw[cv,<-r];exact l
 have y:¬ Yy.toArray.size*o.toNat>(2^63-1)/8:=by
  have:(sizeLine:Nat)<=(2^63-1)/8:=by decide
  lia
 have G:¬ (!aY.List.listFitsIndex o)=aa:=by
  rw[D0 z E];exact dj
 have I:¬ aY.List.listTooLong (Yy.toArray.size*o.toNat)=aa:=by
  rw[ym u];exact dj
 have J:List.foldl (λa d=>a++d) #[] (List.replicate (if Yy.toArray.isEmpty=aa then 0 else o.toNat) Yy.toArray)=(List.replicate o.toNat Yy).flatten.toArray:=by
  have Zt:∀k:Nat,List.foldl (λa d=>a++d) #[] (List.replicate k Yy.toArray)=(List.replicate k Yy).flatten.toArray:=λk=>by
   have:=K7 Yy k [];rw[ih]at this;exact this
  rw[Zt];cases Yy with
  |nil=>simp
  |cons g Zd=>rw[aH ↥0]
 refine wpAny_binaryOp_repeat_ref (T := "list") (U := "int") ∅ ⟨_,c,rfl⟩ (λYn=>x9 Yn o i) noFill_list_mul F.fills_int_mul CQ repeat_list F.slot_int_index.lookup
  (my CQ (x9 h o i) F.entry_int_rmul (F.args_int_rmul_2 _ _) (int___rmul___int_list o i t Yy.toArray w)
   ⟨c,rfl,⟨_,c,rfl⟩,my F.slot_list_mul ⟨_,c,rfl⟩ F.entry_list_mul (F.args_list_mul_2 _ _) (N8 t Yy.toArray w o i G y I) ⟨c,?_⟩⟩);rw[J];exact⟨.ref _,_,A.Ie (YU:=h.toks) (s.rep o.toNat) (by rw[Vk,Nat.mul_comm];exact l),rfl,p _ A.fresh⟩
end
section
variable{YQ:Type}[DecidableEq YQ]
def h9(YE:List (YQ×av))(o:YQ):Option av:=((YE.find? λa=>decide (a.1=o)).map (·.2))
def hR(YE:List (YQ×av))(o:YQ)(v:av):List (YQ×av):=(
 if (YE.any λa=>decide (a.1=o))=aa then YE.map (λa=>if a.1=o then (a.1,v) else a) else YE++[(o,v)])
def xo{q:YQ×av}{s:List (YQ×av)}{o:YQ}(c:q.1=o):h9 (q::s) o=Z q.2:=by simp[h9,jd,c]
def wC{q:YQ×av}{s:List (YQ×av)}{o:YQ}(c:¬ q.1=o):h9 (q::s) o=h9 s o:=by simp[h9,jd,c]
theorem DI(o:YQ):∀YE:List (YQ×av),(YE.any λa=>decide (a.1=o))=(h9 YE o).isSome
 |[]=>rfl
 |q::s=>by
  rw[nI];by_cases c:q.1=o
  ·simp only[xo c,dx c,JA,Option.isSome_some]
  ·rw[wC c,dC c,Ds];exact DI o s
def EN(YE:List (YQ×av))(o:YQ)(v:av):(hR YE o v).length<=YE.length+1:=by
 unfold hR;split
 ·rw[ba];lia
 ·rw[c6,c8,ik];lia
def k6.tN{L:Option ab}(s:k6 m L):m.isSome=L.isSome:=by
 cases m with
 |none=>cases L with
  |none=>rfl
  |some _=>exact (show False from s).elim
 |some _=>cases L with
  |none=>exact (show False from s).elim
  |some _=>rfl
def gy.val{YE:List (YQ×av)}{Yl:List (YQ×ab)}(s:gy YE Yl)(o:YQ):k6 (h9 YE o) (pb Yl o):=by
 unfold gy at s;induction s with
 |nil=>exact True.intro
 |@cons q p Yz a e i f=>
  let@⟨z,E⟩:=e;by_cases c:q.1=o
  ·have b:p.1=o:=z.symm.trans c;have d:pb (p::a) o=Z p.2:=by simp[pb,jd,b]
   rw[xo c,d];exact E
  ·have b:¬ p.1=o:=λD=>c (z.trans D);have d:pb (p::a) o=pb a o:=by simp[pb,jd,b]
   rw[wC c,d];exact f
def gy.any{YE:List (YQ×av)}{Yl:List (YQ×ab)}(s:gy YE Yl)(o:YQ):(YE.any λa=>decide (a.1=o))=Yl.any λa=>decide (a.1=o):=by
 unfold gy at s;induction s with
 |nil=>rfl
 |cons e i b=>rw[nI,nI,b,e.1]
def gy.xA{YE:List (YQ×av)}{Yl:List (YQ×ab)}(s:gy YE Yl)(o:YQ){H:av}{L:ab}(b:cw H L):
  gy (YE.map λa=>if a.1=o then (a.1,H) else a) (Yl.map λa=>if a.1=o then (a.1,L) else a):=by
 unfold gy at s ⊢;induction s with
 |nil=>exact .nil
 |@cons q p Yz f e i d=>
  rw[cy,cy];refine .cons ?_ d;let@⟨z,E⟩:=e;by_cases c:q.1=o
  ·rw[aE c,aE<|z.symm.trans c];exact⟨z,b⟩
  ·rw[aH c,aH<|λD=>c<|z.trans D];exact⟨z,E⟩
def gy.put{YE:List (YQ×av)}{Yl:List (YQ×ab)}(s:gy YE Yl)(o:YQ){H:av}{L:ab}(a:cw H L):gy (hR YE o H) (stored Yl o L):=by
 unfold hR stored;rw[s.any o];by_cases c:(Yl.any λb=>decide (b.1=o))=aa
 ·rw[aE c,aE c];exact s.xA o a
 ·rw[aH c,aH c];exact es.snoc s ⟨rfl,a⟩
def gy.length{YE:List (YQ×av)}{Yl:List (YQ×ab)}(s:gy YE Yl):YE.length=Yl.length:=es.length s
end
def vy{o:eO}{L:ab}(s:cw (cK o) L):(nJ YC l).is o L=aa:=by
 cases o with
 |inl a=>let⟨@i,c⟩:=(show ∃i,L=ab.int a i from s);subst c;exact W6 YC l a i
 |inr f=>let⟨@i,c⟩:=(show ∃i,L=ab.str f i from s);subst c;exact Ts YC l f i
abbrev di(j:ay):List (List V×av)->List (List V×ag×ab)->Prop:=es λq p=>q.1=p.1/\iB j q.1 p.2.1/\cw q.2 p.2.2
def di.val(s:di j YE x)(o:List V):k6 (h9 YE o) ((kK x o).map (·.2)):=by
 induction s with
 |nil=>exact True.intro
 |@cons q p Yz a e i f=>
  let@⟨z,_,E⟩:=e;by_cases c:q.1=o
  ·have b:p.1=o:=z.symm.trans c;have d:kK (p::a) o=Z p.2:=by simp[kK,jd,b]
   rw[xo c,d];exact E
  ·have b:¬ p.1=o:=λD=>c (z.trans D);have d:kK (p::a) o=kK a o:=by simp[kK,jd,b]
   rw[wC c,d];exact f
def di.xA(s:di j YE x)(o:List V){H:av}{L:ab}(b:cw H L):
  di j (YE.map λa=>if a.1=o then (a.1,H) else a) (x.map<|putAt o L):=by
 induction s with
 |nil=>exact .nil
 |@cons q p Yz g e i d=>
  rw[cy,cy];refine .cons ?_ d;let@⟨z,E,f⟩:=e;unfold putAt;by_cases c:q.1=o
  ·rw[aE c,aE<|z.symm.trans c];exact⟨z,E,b⟩
  ·rw[aH c,aH<|λD=>c<|z.trans D];exact⟨z,E,f⟩
def di.put(s:di j YE x)(o:List V){d:ag}{H:av}{L:ab}(b:iB j o d)(a:cw H L):
  di j (hR YE o H) (storedH x o d L):=by
 have c:(YE.any λe=>decide (e.1=o))=(kK x o).isSome:=by
  rw[DI,(s.val o).tN,Bm]
 unfold hR storedH;rw[c];by_cases p:(kK x o).isSome=aa
 ·rw[aE p,aE p];exact s.xA o a
 ·rw[aH p,aH p];exact es.snoc s ⟨rfl,b,a⟩
def di.keeps(s:di j YE x)(bG:∀d YA,j d=Z (.tup YA)->P d=Z (.tup YA)):di P YE x:=
 es.uR s λ_ W D=>⟨D.1,D.2.1.mono bG,D.2.2⟩
section
variable{YC:bO}{l:bh}{j:ay}{e:aX}{g:ag}
def Cu{L:gu}(ok:eo YC l j e)(c:lI j g L):fi YC l j e g L:=c.ok ok
def qw{YE:List (eO×av)}(ok:eo YC l j e)(c:lI j g (.dU YE)):YE.length<=sizeLine/\(g==j5)=au/\∃Yl,gy YE Yl/\e.DictOf (nJ YC l) g Yl:=
 show fi YC l j e g (.dU YE) from Cu ok c
def Xs{YE:List (eO×av)}(ok:eo YC l j e)(c:j g=Z (.dU YE)):YE.length<=sizeLine/\(g==j5)=au/\∃Yl,gy YE Yl/\e.DictOf (nJ YC l) g Yl:=qw ok (.inl c)
mutual
theorem cH.fb(ok:eo YC l j e):∀{u:V}{v:av}{L:ab},cH j u v->cw v L->dS e u L
 |.aV,_,_,c,s=>by cases (show _=av.aV from c);exact s
 |.aB d,_,_,c,s=>by cases (show _=av.aB d from c);exact s
 |.int a,_,_,c,s=>by cases (show _=av.int a from c);exact s
 |.str f,_,_,c,s=>by cases (show _=av.str f from c);exact s
 |.fn g,_,_,c,s=>by cases (show _=av.ref g from c);exact s
 |.tup I,_,_,c,s=>by
  let⟨g,@x,rfl,z,E⟩:=c;cases s;let@⟨_,⟨@Yy,b,⟨@m,h,i,⟨@w,k⟩⟩⟩⟩:=(show fi YC l j e g (.tup x) from ok g _ z);exact⟨g,m,Yy.toArray,w,rfl,h,(Prod.mk.inj i).1,k,by simpa using bb.fb ok E b⟩
 |.aR I,_,_,c,s=>by
  let⟨g,x,@m,rfl,z,E⟩:=c;cases s;exact⟨g,rfl⟩
 |.fd,_,_,c,s=>by
  let⟨g,@m,rfl,z⟩:=c;cases s;exact⟨g,rfl⟩
theorem bb.fb(ok:eo YC l j e):∀{I:List V}{Yl:List av}{YM:List ab},bb j I Yl->bS Yl YM->dM e I YM
 |[],_,_,c,s=>by cases (show _=[] from c);cases s;rfl
 |u::I,_,_,c,s=>by
  let⟨v,@i,rfl,z,E⟩:=c;cases s with
  |cons a b=>exact⟨_,_,rfl,cH.fb ok z a,bb.fb ok E b⟩
end
def nH{Yp:List V}(ok:eo YC l j e)(c:iB j Yp g):(eC YC l).is e Yp g:=⟨c.1,c.2.fb ok rfl⟩
def pN{YC:bO}{l:bh}{O:bA}(e:O.units+20<bQ):(eC YC l).room O.in1:=show O.units+1+10<bQ by lia
def sa(ok:eo YC l j e)(c:lI j g (.bN YE)):YE.length<=sizeLine/\(g==j5)=au/\
  ∃x,di j YE x/\e.DictOfH (eC YC l) g x:=by
 let@⟨D,H,⟨@x,s,⟨m,Q,@YW,z,E,d,h,n⟩⟩⟩:=(show fi YC l j e g (.bN YE) from Cu ok c);refine⟨D,H,x,s,m,Q,YW,z,E,d,h,λf a=>?_,n⟩;have all:∀{t:List (List V×av)}{k:List (List V×ag×ab)},di j t k->∀f∈k,(eC YC l).is e f.1 f.2.1:=by
  intro t k p;induction p with
  |nil=>intro f a;exact nomatch a
  |@cons q p Yz r b i o=>
   intro f a;rcases bW.mp a with c|a
   ·subst c;exact nH ok (by rw[<-b.1];exact b.2.1)
   ·exact o f a
 exact all s f a
def WL(ok:eo YC l j e)(c:j g=Z (.bN YE)):YE.length<=sizeLine/\(g==j5)=au/\
  ∃x,di j YE x/\e.DictOfH (eC YC l) g x:=sa ok (.inl c)
end
def hp(j:ay)(g:ag)(H:av)(s:Option av):Prop:=(
 (∃YE o,lI j g (.dU YE)/\H=cK o/\s=h9 YE o)\/∃YE o d,lI j g (.bN YE)/\H=.ref d/\iB j o d/\s=h9 YE o)
def oC(j:ay)(g:ag)(H v:av)(P:ay):Prop:=(
 (∃YE o,j g=Z (.dU YE)/\H=cK o/\YE.length<sizeLine/\P=upd j g (.dU<|hR YE o v))\/
 ∃YE o d,j g=Z (.bN YE)/\H=.ref d/\iB j o d/\YE.length<sizeLine/\P=upd j g (.bN<|hR YE o v))
def hp.k{j:ay}{g:ag}{YE:List (eO×av)}{o:eO}(c:j g=Z (.dU YE)):hp j g (cK o) (h9 YE o):=.inl ⟨YE,o,.inl c,rfl,rfl⟩
def hp.t{j:ay}{g d:ag}{YE:List (List V×av)}{o:List V}(c:j g=Z (.bN YE))(a:iB j o d):hp j g (.ref d) (h9 YE o):=.inr ⟨YE,o,d,.inl c,rfl,a,rfl⟩
def oC.k{j:ay}{g:ag}{YE:List (eO×av)}{o:eO}{v:av}(c:j g=Z (.dU YE))(a:YE.length<sizeLine):oC j g (cK o) v (upd j g<|.dU<|hR YE o v):=.inl ⟨YE,o,c,rfl,a,rfl⟩
def oC.t{j:ay}{g d:ag}{YE:List (List V×av)}{o:List V}{v:av}(c:j g=Z (.bN YE))(a:iB j o d)(b:YE.length<sizeLine):
  oC j g (.ref d) v (upd j g<|.bN<|hR YE o v):=.inr ⟨YE,o,d,c,rfl,a,b,rfl⟩
section
variable{b:aO}{M:List (ag×a3)}{C:a5}{j:ay}{h:ai}{g:ag}{H v:av}{L s:ab}{m:Option av}{O:bA}{Yq:ab->ai->Prop}
def aF.big(A:aF b M C j h):j5<h.heap.objs.size:=by
 have e:dV<h.heap.objs.size:=(A.mod.glob.keeps A.gv).lt;exact rk ∅ e
def Se(s:O.units+20<bQ)(A:aF b M C j h)(J:hp j g H (Z v))(r:cw H L)(e:∀a Yn,aF b M C j Yn->cw v a->B a Yn):
  wpAny (aN b.prog b.w) O (nN (.ref g) L) B Yq h:=by
 rcases J with ⟨YE,o,c,f,t⟩|⟨YE,o,d,c,f,u,t⟩
 ·subst f;let@⟨D,hd,⟨@Yl,i,k⟩⟩:=qw A.a4 c;let⟨@a,n,p⟩:=k6.some_of (v:=v) (m:=pb Yl o) (by rw[t];exact i.val o);exact wpAny_getItem_of (vy r) k.mapOf n (e a _ (A.tok _) p)
 ·subst f;cases (show L=ab.ref d from r);let@⟨D,hd,⟨@x,i,k⟩⟩:=sa A.a4 c;let⟨@a,n,p⟩:=k6.some_of (v:=v) (m:=(kK x o).map (·.2)) (by rw[t];exact i.val o);let⟨@q,y,z⟩:=cB.mp n;refine Fs (pN s) (nH A.a4 u) k y ?_;rw[z];exact e a _ (A.tok _) p
def yA(n:O.units+20<bQ)(A:aF b M C j h)(J:hp j g H m)(k:cw H L)(e:∀Yn,aF b M C j Yn->B (.bool m.isSome) Yn):
  wpAny (aN b.prog b.w) O (eS .In L<|.ref g) B Yq h:=by
 rcases J with ⟨YE,o,c,a,t⟩|⟨YE,o,d,c,a,q,t⟩
 ·subst a;let@⟨D,hd,⟨@Yl,f,i⟩⟩:=qw A.a4 c;refine wpAny_in_of (vy k) hd i.mapOf ?_;rw[<-(f.val o).tN,<-t];exact e _ (A.tok _)
 ·subst a;cases (show L=ab.ref d from k);let@⟨D,hd,⟨@x,f,i⟩⟩:=sa A.a4 c;refine wpAny_in_heap (pN n) (nH A.a4 q) hd i ?_;have p:=(f.val o).tN;rw[Bm]at p;rw[<-p,<-t];exact e _ (A.tok _)
def yJ(n:O.units+20<bQ)(A:aF b M C j h)(J:hp j g H m)(k:cw H L)(e:∀Yn,aF b M C j Yn->B (.bool<|!m.isSome) Yn):
  wpAny (aN b.prog b.w) O (eS .NotIn L<|.ref g) B Yq h:=by
 rcases J with ⟨YE,o,c,a,t⟩|⟨YE,o,d,c,a,q,t⟩
 ·subst a;let@⟨D,hd,⟨@Yl,f,i⟩⟩:=qw A.a4 c;refine wpAny_notIn_of (vy k) hd i.mapOf ?_;rw[<-(f.val o).tN,<-t];exact e _ (A.tok _)
 ·subst a;cases (show L=ab.ref d from k);let@⟨D,hd,⟨@x,f,i⟩⟩:=sa A.a4 c;refine wpAny_notIn_heap (pN n) (nH A.a4 q) hd i ?_;have p:=(f.val o).tN;rw[Bm]at p;rw[<-p,<-t];exact e _ (A.tok _)
def Ku{a:gu}(A:aF b M C j h)(e:tM (j g))(Ys:aX.SameBut g h.heap R)(i:∃p,R.get? g=Z p)(new:fi b.prog b.w (upd j g a) R g a):
  aF b M C (upd j g a) {h with heap:=R,toks:=YU}:=
 A.write (f:=g) (c:=g) e (.inl rfl) (λd p k D=>(Ys.2 d k).trans D) i new
def Nw{YE:List (eO×av)}{Yl:List (eO×ab)}(D:YE.length<=sizeLine)(hd:(g==j5)=au)(a:gy YE Yl)(b:R.DictOf (nJ YC l) g Yl):
  fi YC l P R g (.dU YE):=⟨D,hd,Yl,a,b⟩
def E2{B:Unit->ai->Prop}(I:O.units+20<bQ)(A:aF b M C j h)(J:oC j g H v P)(y:cw H L)(z:cw v s)(e:∀Yn,aF b M C P Yn->B () Yn):
  wpAny (aN b.prog b.w) O (wB (.ref g) L s) B Yq h:=by
 rcases J with ⟨YE,o,c,k,t,m⟩|⟨YE,o,d,c,k,F,t,m⟩
 ·subst k m;let@⟨D,hd,⟨@Yl,a,q⟩⟩:=Xs A.a4 c;have r:Yl.length<=sizeLine:=by rw[<-a.length];exact D
  have u:(hR YE o v).length<=sizeLine:=by have:=EN YE o v;lia
  refine wpAny_setItem_pairs (hsz:=r) (vy y) q λR f Ys=>e _ ?_;have S:∃p,R.get? g=Z p:=let ⟨p,_,_,i,_⟩:=f;⟨p,i⟩
  exact Ku A (by rw[c];exact True.intro) Ys S (Nw u hd (a.put o z) f)
 ·subst k m;cases (show L=ab.ref d from y);let@⟨D,hd,⟨@x,a,q⟩⟩:=WL A.a4 c;have r:x.length<=sizeLine:=by rw[<-es.length a];exact D
  have u:(hR YE o v).length<=sizeLine:=by have:=EN YE o v;lia
  refine wpAny_setItem_heap (hsz:=r) (pN I) (nH A.a4 F) q λR f Ys=>e _ ?_;let⟨p,Q,@YW,i,E,T,U,W,al⟩:=f;refine Ku A (by rw[c];exact True.intro) Ys ⟨p,i⟩ ⟨u,hd,_,(a.put o F z).keeps λn YA G=>?_,p,Q,YW,i,E,T,U,al⟩;rw[dr (S_ G c<|λD=>nomatch D)];exact G
end
section
variable{b:aO}{M:List (ag×a3)}{C:a5}{j:ay}{h:ai}{g:ag}{YE:List (eO×av)}{o:eO}{L:ab}{O:bA}{Yq:ab->ai->Prop}
def OM(A:aF b M C j h)(c:lI j g (.dU YE))(e:∀i Yn,aF b M C j Yn->B (.int YE.length i) Yn):wpAny (aN b.prog b.w) O (call (.builtin "len") [.ref g]) B Yq h:=by
 let@⟨D,hd,⟨@Yl,a,d⟩⟩:=qw A.a4 c;refine call_len_dict hd d (by rw[<-a.length];rw[zv]at D;lia) ?_;rw[<-a.length];exact e _ _ (A.tok _)
end
def UQ{b:aO}{g:ag}{H:av}(A:aF b M C j h)(J:hp j g H m):h.TypeIs (.ref g) "dict" := by
 rcases J with ⟨YE,o,c,_,_⟩|⟨YE,o,d,c,_,_,_⟩
 ·let@⟨_,_,⟨@Yl,_,a⟩⟩:=qw A.a4 c;exact a.typeIs
 ·let@⟨_,_,⟨@x,_,a⟩⟩:=sa A.a4 c;exact a.typeIs
def PJ(e:aX)(a:j5<e.objs.size):fi YC l j (e.push {cls:=.type "dict",data:=.dict #[]}) e.objs.size (.bN []):=
 ⟨g0 _,u5.mpr<|eQ<|cZ a,[],.nil,_,#[],0,cO _ rfl,⟨rfl,rfl,rfl⟩,rfl,rfl,kR⟩
def V4:cC:=(λ_ j B=>∀q,j q=Y->B (.ref q) (upd j q<|.bN []))
section
variable{b:aO}{YD:Pos}
def V8:cj b (.Dict [] [] YD) V4:=λM h C j B A e=>
 wpAny_Dict_empty ⟨.ref h.heap.objs.size,_,A.laid (g:=h.heap.objs.size) (m:=.bN []) (YU:=h.toks) (λ_ W p=>bJ _ p) (bp _)<|PJ h.heap A.big,rfl,e _<|A.a4.fresh<|bp _⟩
end
end L2
namespace DC
open PySem.W PySem.Calls PyProof.Rows
variable{w:Nat}{t:OpenLaw}
def PE{YC:uv}{e:aX}:∀(YP:List Int) (Yl:List ab),WellAll YC e Yl (YP.map r6.int)->rY Yl YP:=by
 intro YP;induction YP with
 |nil=>
  intro Yl l;rw[r_]at l;cases l;exact .nil
 |cons w YP a=>
  intro Yl l;rw[cy]at l;cases l with
  |cons g d=>
   cases g;exact .cons _ _ (a _ d)
def QQ(h:t.most=Z w){YC:uv}{e:aX}{args:List r6}{c:List ab}(d:t.row.toRowW.claim.pre args=aa)(i:WellAll YC e c args):
  ∃g Yl YP,c=[ab.ref g]/\args=[r6.list (YP.map r6.int)]/\e.get? g=Z {cls:=.type "list",data:=.seq Yl.toArray}/\rY Yl YP/\YP.length<=w:=by
 have j:sV.hasAll [] args [.list .int]=aa:=(pre_splitW d).1;have f:t.pre.holds [] {args:=args}=aa:=(pre_splitW d).2;let⟨u,@s,rfl,z,E⟩:=hasAllW_cons j;obtain rfl:=hasAllW_nil E;let⟨@x,rfl,k⟩:=hasW_list z;let⟨@YP,rfl⟩:=items_int k;have l:YP.length<=w:=by
  unfold OpenLaw.pre at f;have a:(WTm.not<|.lt (.lit<|.int (w:Int))<|.len<|.arg 0).holds [] {args:=[.list (YP.map .int)]}=aa:=by
   have a:=(holds_andW f).1;rw[h]at a;exact a
  have b:=condW_of a (w_not<|w_lt w_lit<|w_len_list<|w_arg rfl);rw[ba]at b;refine Nat.le_of_not_lt λp=>?_;have m:(w:Int)<((YP.length:Nat):Int):=⋯
  first
   | (rw[dx m]at b;exact absurd b ∅)
   | (simp at b;lia)
 cases i with
 |cons dB dg=>
  cases dg;cases dB with
  |list n o=>exact⟨_,_,YP,rfl,rfl,n,PE YP _ o,l⟩
def M6(t:OpenLaw)(args:List r6):t.row.toRowW.claim.post args (.bool aa) args=aa:=
 postW_of (r:=t.row.toRowW) (X:=(aa==aa))
  (show sV.has [] (.bool aa) .bool=aa by first|rfl|decide|simp[sV.has,sV.arms,sV.armsAll])
  (show (WTm.eq .res<|.lit<|.bool aa).value [] {args:=args,res:=Z (.bool aa),after:=args}=Z (.bool<|aa==aa) from w_eq_bool (w_res rfl) w_lit) rfl
def SF{p:bO}{e:List aG}{f:(aG->Option ab)->aX->Prop}{h:bh->aX->Prop}{u:DefRec}(j:t.most=Z w)(k:u.params.defaults=[])(call:∀(l:bh) (fH a:ai) (aI d:aG->Option ab) (b:ag) (m:a3) (YZ c y:ab) (g:ag) (Yl:List ab) (YP:List Int),
   Ground p e [] f l fH aI d a.heap->h l a.heap->
   a.heap.get? b=Z m->m.data=.func (docDef u.name u.params u.body u.scope YZ c y)->a.heap.CodeRec c u.name->aI u.name=Z (.ref b)->
   a.heap.get? g=Z {cls:=.type "list",data:=.seq Yl.toArray}->rY Yl YP->YP.length<=w->a.gens=#[]->
   codeAny (aN t.prog l) ot (.call (.ref b) ⟨[.ref g],[]⟩) (λs Yn=>s=.ok (.ret<|.bool aa)/\OldK a.heap Yn.heap/\Yn.os=a.os/\mE Yn.gens) a):
  WalkO p e f h t.row.toRowW u [] (λF Yl=>PySem.call F Yl):=by
 intro l fH a aI d S n b m YZ c y o cK q hd r i v x args M N z O P A Q;obtain rfl:o=.none:=Dflts.none i k;obtain rfl:cK=.none:=Dflts.noKw i;let⟨g,Yl,@YP,rfl,rfl,C,D,G⟩:=QQ j z A;refine enter_call (tu (call l fH a aI d b m YZ c y g Yl YP S n q (fd_plain hd) r v C D G x) λs Yn H=>?_);let@⟨rfl,E,I,J⟩:=H;exact⟨.inl ⟨.bool aa,.bool aa,[],rfl,λ_=>rfl,.bool aa,M6 t _,λ_=>⟨List.Pairwise.nil,λ_ L=>(nomatch L)⟩⟩,E,I,J⟩
end DC
namespace L2
open Spec PyProof.Rows
variable{Yz:List aG}{F:ag}{Zr f:aG}{YL:m2}{fd:hL}{o:Nat}
theorem Hb:∀{Yl:List ab}{YP:List Int},rY Yl YP->bS (YP.map av.int) Yl
 |_,_,.nil=>.nil
 |_,_,.cons w i e=>.cons ⟨i,rfl⟩ (Hb e)
def ux(j:ay):Prop:=(∀d,j d=Y\/∃m x,j d=Z (.dF m<|.lst x))
def SN{YC:bO}{l:bh}{Yo:Φ}{aI r:aG->Option ab}{Zy:kT}{t g:ag}{a:ai}{Yl:List ab}{YP:List Int}(B:Yo.In a.heap)(C:a.heap.Ns dV aI)(b:a.heap.Ns zk r)(S:∀f:aG,f ≠ "__name__" -> r f=e4 f)(U:a.heap.NoLimit)(al:a.gens=#[])(n:a.heap.get? g=Z {cls:=.type "list",data:=.seq Yl.toArray})(T:rY Yl YP)(F:YP.length<=sizeLine)(am:fO o ot)(N:∀YF:aX,Yo.In YF->YF.Ns dV aI->js YC l Yo aI YF Zy o t fd [f] YL)(an:∀(h:ai) (L:ab),nC h fd ⟨[L],[]⟩ [(f,L)])(ap:∀j:ay,ux j->de Yo j g (YP.map av.int)->YL [.ref g] j (λv K=>v=.aB aa) λ_ K K=>False)(as:∀j c Yn,Zy [] j a (λ_ K K=>False) c Yn->False):
  codeAny (aN YC l) ot (.call (.ref t) ⟨[.ref g],[]⟩) (λs Yn=>s=.ok (.ret<|.bool aa)/\OldK a.heap Yn.heap/\Yn.os=a.os/\mE Yn.gens) a:=by
 have G:=Hb T;have a1:=T.length;have H:∀j:ay,ux j->de Yo j g (YP.map av.int)->eo YC l j a.heap->(∀d,j d≠Y->d=g)->(j g≠Y->Yo.lookup g=Y)->
   codeAny (aN YC l) ot (.call (.ref t) ⟨[.ref g],[]⟩) (λs Yn=>s=.ok (.ret<|.bool aa)/\OldK a.heap Yn.heap/\Yn.os=a.os/\mE Yn.gens) a:=by
  intro j I a2 a4 J bd;have M:∀{d:ag}{m:a3},a.heap.get? d=Z m->j d=Y->(ml a.heap j).get? d=Z m:=λc w=>LG c w;have be:∀{d:ag}{m:a3}{Q:Array DictEntry}{YW:Nat},a.heap.get? d=Z m->m.data=.dict Q YW->j d=Y:=λ{d m Q YW} c u=>by
   cases p:j d with
   |none=>rfl
   |some L=>
    have y:d=g:=J d (by rw[p];simp);subst y;rw[n]at c;cases c;have bi:Data.seq Yl.toArray _=Data.dict Q YW:=u;cases bi
  have q:∀{d:ag}{k:aG->Option ab},a.heap.Ns d k->(ml a.heap j).Ns d k:=λ{d k} ⟨m,Q,YW,c,u,s⟩=>⟨m,Q,YW,M c<|be c u,u,s⟩;have O:Yo.In (ml a.heap j):=λd m c=>M (B d m c) (by
   cases p:j d with
   |none=>rfl
   |some L=>
    have y:d=g:=J d (by rw[p];simp);subst y;rw[bd (by rw[p];simp)]at c;cases c)
  have bm:Mod Yo aI (ml a.heap j):=⟨O,q C,⟨r,q b,S⟩,let ⟨bn,z,E⟩:=U;⟨bn,q z,E⟩⟩;have bs:uq YC l Yo aI (ml a.heap j) ot [] a j:=⟨rfl,bm,λd m c=>M0 c,Nat.le_of_eq<|QZ _ _,trivial,λd b=>absurd (show d∈([]:List ag) from b) ↥0,a4,.of_eq al⟩;refine tu ((N _ O<|q C).run ot [] a j ⟨[.ref g],[]⟩ [.ref g] [.ref g] _ _ am bs (an a<|.ref g) (.cons rfl .nil)<|ap j I a2) λs Yn e=>?_;cases s with
  |error c=>exact (as j c Yn e).elim
  |ok aR=>
   cases aR with
   |next=>exact False.elim e
   |brk=>exact False.elim e
   |cont=>exact False.elim e
   |ret L=>
    let⟨v,@P,YG,bv,un,ca,Zd,p⟩:=e;have cd:v=.aB aa:=p;subst cd;obtain rfl:L=ab.bool aa:=Zd;refine⟨rfl,OldK.of_keep λd m c=>?_,YG,bv⟩;cases p:j d with
    |none=>exact un.keep d m c p (by intro D;exact absurd (show d∈([]:List ag) from D) ↥0) ↥0
    |some L=>
     rcases I d with D|⟨ce,x,D⟩
     ·rw[p]at D;cases D
     ·have ch:=un.kn d ce _ D;let@⟨R,_⟩:=a4 d _ D;let@⟨ci,_⟩:=ca d _ ch;rw[c]at R;cases R;exact ci
 cases A:Yo.lookup g with
 |some m=>
  have c:=B g m A;rw[n]at c;cases c;refine H (λ_=>Y) (λ_=>.inl rfl) (.inr ⟨_,Yl.toArray,_,A,rfl,rfl,rfl,by rw[cv,a1];exact F,by simpa using G⟩) (λd L D=>by have i:(Y:Option gu)=Z L:=D;cases i) (λd D=>absurd rfl D) λD=>absurd rfl D
 |none=>
  refine H (λd=>if d=g then Z (.dF {cls:=.type "list",data:=.seq Yl.toArray} (.lst<|YP.map av.int)) else Y) (λd=>?_) (.inl<|.inr ⟨{cls:=.type "list",data:=.seq Yl.toArray},aE rfl⟩) (λd L D=>?_) (λd D=>?_) λ_=>A
  ·by_cases b:d=g
   ·exact .inr ⟨_,_,aE b⟩
   ·exact .inl (aH b)
  ·by_cases b:d=g
   ·have i:=(aE b).symm.trans D;cases i;subst b;exact⟨n,by rw[ba];exact F,Yl,_,G,n⟩
   ·have i:=(aH b).symm.trans D;cases i
  ·by_cases b:d=g
   ·exact b
   ·exact absurd (aH b) D
def Qf{t:PySem.W.OpenLaw}{w:Nat}{p:bO}{q:List aG}{r:(aG->Option ab)->aX->Prop}{i:bh->aX->Prop}{u:DefRec}{Yo:uv->Φ}{Zy:bh->kT}{YL:bh->m2}(s:t.most=Z w)(x:w<=sizeLine)(z:u.params.defaults=[])(A:fO o ot)(C:∀(l:bh) (e:aX),i l e->(Yo l.params).In e)(N:∀(l:bh) (aI:aG->Option ab) (a:ag) (e:aX),(Yo l.params).In e->e.Ns dV aI->aI u.name=Z (.ref a)->
   ∃fd:hL,(∀(h:ai) (L:ab),nC h fd ⟨[L],[]⟩ [(f,L)])/\
    ∀YF:aX,(Yo l.params).In YF->YF.Ns dV aI->js t.prog l (Yo l.params) aI YF (Zy l) o a fd [f] (YL l))(D:∀(l:bh) (j:ay) (g:ag) (YP:List Int),YP.length<=w->ux j->de (Yo l.params) j g (YP.map av.int)->YL l [.ref g] j (λv U=>v=.aB aa) λ_ U U=>False)(E:∀(l:bh) (j:ay) (h:ai) (c:ab) (Yn:ai),Zy l [] j h (λ_ U U=>False) c Yn->False):
  PySem.W.WalkO p q r i t.row.toRowW u [] (λF Yl=>PySem.call F Yl):=by
 refine DC.SF s z λl fH G aI an a m YZ ap y g Yl YP S H as hd a1 I M O k P=>?_;have n:=C l _ H;let⟨@fd,Q,R⟩:=N l aI a _ n S.T.g I;exact SN n S.T.g S.T.b S.T.builtins S.T.nolimit P M O (fa k x) A R Q (λj al am=>D l j g YP k al am) λj c Yn=>E l j G c Yn
def iW(h:cf):Arguments:=(match h with
 |.FunctionDef _ g _ _ _ _ _ _ _ _=>g
 |_=>{posonlyargs:=[],args:=[],vararg:=Y,kwonlyargs:=[],kw_defaults:=[],kwarg:=Y,defaults:=[]})
def ho(h:cf):List cf:=(match h with
 |.FunctionDef _ _ d _ _ _ _ _ _ _=>d
 |_=>[])
def eV(h:cf):hO:=(match h with
 |.FunctionDef _ _ _ _ _ _ i _ _ _=>i
 |_=>{kind:=.function,names:=[],isGenerator:=au,isCoroutine:=au})
abbrev iO:kT:=λ_ _ _ _ _ _=>False
abbrev LR:hs:=λ_ _ _=>False
def LU{b:aO}:Au iO b LR:=λ_ W W W W W W e=>e.elim
structure hk(Yo:Φ)(f Zr:aG)(X:cf)(F:ag)(fd:hL):Prop where
 ex:∃(E:ab) (z:Option ag) (cK y YZ:ab) (R:Option ag) (D cx:ab) (T:Array (Option ab)),
  fd=Ξ f Zr (iW X) (ho X) (eV X) .none cK y YZ R D cx/\Yo.lookup F=Z ⟨E,z,.func fd,T⟩/\Δ Yo D Zr=aa
 da:Θ Yo (.ref F)=aa
section
variable{YC:bO}{l:bh}{Yo:Φ}{aI:aG->Option ab}{YF:aX}
def hk.ok{X:cf}{Y0:List aG}(N:hk Yo f Zr X F fd)(YB:oO Y0 Yz (eV X))(len:∀Yl j B Yq,YL Yl j B Yq->Yl.length=Yz.length)(a:∀(D:ab) (O:bA) (G:List fA) (h:ai) (j:ay) (Yl:List av) (B:cS) (Yq:hs),fO o (O.deeper<|jR Zr (eV X) h.heap.objs.size F D)->YL Yl j B Yq->
   ∃i,iA (mc iO YC l Yo aI YF Y0 Zr (eV X) F D O G h j Yq).pL (ho X) i/\i {aU:=λ_ P=>B .aV P,dD:=B} (ly Y0 Yl) j):js YC l Yo aI YF iO (o+1) F fd Yz YL:=by
 let⟨E,z,cK,y,YZ,R,D,cx,@T,rfl,lk,b⟩:=N.ex;refine N3 lk b YB len λO G h j Yl B Yq c d=>?_;let⟨@i,e,p⟩:=a D O G h j Yl B Yq c d;exact⟨i,e.pL,p⟩
def hk.binds{X:cf}(N:hk Yo f Zr X F fd)(e:∀(cK y YZ:ab) (R:Option ag) (D cx:ab) (YM:List ab),YM.length=Yz.length->lQ (Ξ f Zr (iW X) (ho X) (eV X) .none cK y YZ R D cx) ⟨YM,[]⟩=pure (Yz.zip YM)):j8 Yo fd Yz []:=by
 let⟨E,z,cK,y,YZ,R,D,cx,@T,rfl,lk,a⟩:=N.ex;exact .all (e cK y YZ R D cx)
def NC{X:cf}{E:ab}{z R:Option ag}{T:Array (Option ab)}{cK y YZ D cx:ab}(t:Yo.lookup F=Z ⟨E,z,.func<|Ξ f Zr (iW X) (ho X) (eV X) .none cK y YZ R D cx,T⟩)(n:Δ Yo D Zr=aa)(o:Θ Yo (.ref F)=aa):hk Yo f Zr X F (Ξ f Zr (iW X) (ho X) (eV X) .none cK y YZ R D cx):=⟨⟨E,z,cK,y,YZ,R,D,cx,T,rfl,t,n⟩,o⟩
end
section
variable{b:aO}
def eK(a:Nat){f:aG}{YD:Pos}(c:b.N[a]?=Z f:=by rfl)(d:vg b.env.scope f:=by first|exact Or.inl rfl|exact Or.inr (Or.inl rfl)|exact Or.inr (Or.inr rfl))(hd:(f==("__debug__" : aG))=au:=by decide)(e:(f==("__classdict__" : aG))=au:=by decide):cj b (.Name f YD) (pS a):=GP c d hd e
end
def bZ(j P:ay):Prop:=(∀d m,j d=Z m->P d=Z m)
def bZ.refl(j:ay):bZ j j:=λ_ W e=>e
def bZ.trans{j Yx YO:ay}(g:bZ j Yx)(d:bZ Yx YO):bZ j YO:=λn m e=>d n m (g n m e)
end L2
namespace L2
section
variable{b:aO}
def W0:eZ b (.builtin "len") (λx j B=>∃g YE,x=[av.ref g]/\j g=Z (.dU YE)/\B (.int YE.length) j):=by
 intro M h C j x YM B A s e;let⟨g,@YE,rfl,a,p⟩:=e;let⟨@L,rfl,c⟩:=hF s;cases c;exact OM A (.inl a) λi Yn d=>⟨.int YE.length,j,d,⟨i,rfl⟩,p⟩
end
end L2
namespace L2
open Spec PyProof.Rows
variable{B:Option ab->ai->Prop}{a YW:Nat}{Yu u aP:ag}{e:aX}{Yp:List ab}{ZG:bI}{YT Zl ZA:bz}{cg:List ag}{j:ay}{C:a5}{M:List (ag×a3)}{Y1:List Nat}{own:List aG}{Yt:fA}{YD:Pos}{YS:hO}{Zz:List bz}{h:ai}
def Sk{Yw:bO}{l:bh}{O:bA}{Ym:pG->ai->Prop}{b:bz}{Yu d:ab}(A:Nat->ai->Prop)(p:∀w h,A w h->wpAny (aN Yw l) O (fv Yu) (λs a=>match s with
   |none=>Ym (.ok .next) a
   |some v=>wpAny (aN Yw l) O (ts b Yu v) (λ_ a=>wpAny (aN Yw l) O (ju b Yt v) (λ_ i=>
     wpAny (aN Yw l) O (forIn Zz aa λn s=>if s=aa then do let ok <-ro n Yt (b0 n Yt);pure (ForInStep.yield ok) else pure (ForInStep.yield s)) (λok g=>
      if ok=aa then wpAny (aN Yw l) O (b0 ZA Yt) (λf j=>
       wpAny (aN Yw l) O (call (.builtin "list.append") [d,f]) (λ_ m=>∃k,k<w/\A k m) (λ_ W=>False) j) (λ_ W=>False) g
      else ∃k,k<w/\A k g) (λ_ W=>False) i) (λ_ W=>False) a) (λ_ W=>False) a) (λ_ W=>False) h)(w:Nat)(e:A w h):
  codeAny (aN Yw l) O (.compLoop (.ListComp ZA [⟨b,Zl,Zz,0⟩] YS YD) 0 Yu d Yt) Ym h:=by
 refine codeAny_loop rfl A (λw h q=>?_) w e;show wpAny _ O ((compTurn (.ListComp ZA [⟨b,Zl,Zz,0⟩] YS YD) 0 Yu d Yt).onRaise (λf=>do noteFrame f Yt;theTreesLotGoes f)) _ _ h;refine wpAny_noted ?_;rw[compTurn_list];refine ao (wO<|ao<|g7 (p w h q) (λs a c=>?_) λ_ W R=>R.elim);cases s with
 |none=>exact aM c
 |some v=>
  refine ao (g7 c (λ_ a c=>?_) λ_ W R=>R.elim);refine ao (g7 c (λ_ i r=>ao<|g7 r (λok g o=>?_) λ_ W R=>R.elim) λ_ W R=>R.elim);cases ok with
  |false=>exact aM ⟨rfl,o⟩
  |true=>
   exact ao (ao<|g7 o (λf j t=>ao<|g7 t (λ_ m u=>aM<|aM ⟨rfl,u⟩) λ_ W R=>R.elim) λ_ W R=>R.elim)
def oR(Yt:fA)(a:List (aG×dQ)):List (aG×ag):=(a.foldl (λr H=>if H.2==.free then (H.1,(Yt.cells.lookup H.1).getD 0)::r else r) [])
theorem Ai{Yt:fA}:∀(a:List (aG×dQ)) (r:List (aG×ag)),(∀H∈a,H.2=.free->∃n,Yt.cells.lookup H.1=Z n)->
  (forIn a r λ(H:aG×dQ) r=>if H.2==.free then (do let n <-wJ Yt H.1;pure (ForInStep.yield ((H.1,n)::r))) else pure (ForInStep.yield r):dA _)=
   pure (a.foldl (λr H=>if H.2==.free then (H.1,(Yt.cells.lookup H.1).getD 0)::r else r) r)
 |[],r,_=>rfl
 |H::s,r,e=>by
  rw[sg,mj];by_cases b:H.2=.free
  ·let⟨@n,f⟩:=e H md b;have c:(H.2==dQ.free)=aa:=by simp[b]
   rw[aE c,aE c];have g:wJ Yt H.1=pure n:=by unfold wJ;rw[f]
   rw[g,f];show (forIn s ((H.1,n)::r) _:dA _)=_;exact Ai s _ λD d=>e D (lV _ d)
  ·have c:¬ (H.2==dQ.free)=aa:=by simp[b]
   rw[aH c,aH c];show (forIn s r _:dA _)=_;exact Ai s _ λD d=>e D (lV _ d)
def Tr(e:∀H∈YS.names,H.2=.free->∃n,Yt.cells.lookup H.1=Z n):closureFor YS Yt=pure (oR Yt YS.names):=by
 have:=Ai (Yt:=Yt) YS.names [] e;unfold closureFor;dsimp only;have c:(forIn YS.names ([]:List (aG×ag))<|λ(f:aG×dQ) (s:List (aG×ag))=>(if f.2==.free then (do let n <-wJ Yt f.1;pure (ForInStep.yield ((f.1,n)::s))) else pure (ForInStep.yield s):dA (ForInStep<|List<|aG×ag)))=pure (oR Yt YS.names):=this;rw[c];rfl
theorem Lh{Yt:fA}:∀(b:List (aG×dQ)) (r:List (aG×ag)) (f:aG) (n:ag),
  (b.foldl (λr H=>if H.2==.free then (H.1,(Yt.cells.lookup H.1).getD 0)::r else r) r).lookup f=Z n->
  (n=(Yt.cells.lookup f).getD 0/\(f,dQ.free)∈b)\/r.lookup f=Z n
 |[],r,f,n,e=>.inr e
 |H::s,r,f,n,e=>by
  rw[mj]at e;rcases Lh s _ f n e with ⟨c,k⟩|e
  ·exact .inl ⟨c,lV _ k⟩
  ·by_cases a:H.2=.free
   ·rw[aE (by simp[a])]at e;rw[jy]at e;by_cases d:f=H.1
    ·subst d;rw[l5]at e;refine .inl ⟨(Option.some.inj e).symm,?_⟩;rw[<-a];exact md
    ·have:(f==H.1)=au:=by simpa using d
     rw[this]at e;exact .inr e
   ·rw[aH (by simp[a])]at e;exact .inr e
theorem yz{Yt:fA}:∀(a:List (aG×dQ)) (r:List (aG×ag)) (f:aG),(f,dQ.free)∈a\/(∃n,r.lookup f=Z n)->
  ∃n,(a.foldl (λr H=>if H.2==.free then (H.1,(Yt.cells.lookup H.1).getD 0)::r else r) r).lookup f=Z n
 |[],r,f,e=>by
  rcases e with e|e
  ·cases e
  ·exact e
 |H::s,r,f,e=>by
  rw[mj];apply yz s _ f;rcases e with e|⟨n,e⟩
  ·rcases bW.mp e with c|e
   ·right;subst c;rw[aE (by rfl),jy,l5];exact⟨_,rfl⟩
   ·exact .inl e
  ·right;by_cases b:(H.2==dQ.free)=aa
   ·rw[aE b,jy];cases f==H.1
    ·exact⟨n,e⟩
    ·exact⟨_,rfl⟩
   ·rw[aH b];exact⟨n,e⟩
structure ku where
 aP:ag
 s:ai
 H:ay
 cg:List ag
variable{Zs:ku->cC}{ZI:ku->eH}{J:ku->hy}
def aO.df(b:aO)(c:List aG)(YS:hO)(a:ku): aO :=(
  {prog:=b.prog,w:=b.w,K:=b.K,aI:=b.aI,base:=b.base,A:=b.A,N:=c,fH:=a.s,qA:=a.H,env:=uo YS (oR b.env YS.names) a.aP b.env,outer:=b.stack,stack:=b.stack,
    ex:=a.cg,fn:=λ_ => au,calm:=b.calm,la:=[],c1:=λ_ W => False})
theorem A3{Yt:fA}:∀{g:List (aG×dQ)}{f:aG}{o:dQ},
  (g.map λ(w,o)=>if (o==dQ.free&&Yt.scope.kind==.function&&Yt.kindOf w==Z .cell) then (w,dQ.cell) else (w,o)).lookup f=Z o->
  (o=.cell\/o=.free)->(∀H∈g,H.2≠.cell)->(f,dQ.free)∈g
 |[],f,o,e,_,_=>by simp at e
 | (w,d)::s,f,o,e,a,h=>by
  rw[cy]at e;dsimp only at e;by_cases i:f=w
  ·subst i;by_cases b:(d==dQ.free&&Yt.scope.kind==.function&&Yt.kindOf f==Z .cell)=aa
   ·have:d=dQ.free:=by
     simp only[cU]at b;exact by simpa using b.1.1
    subst this;exact md
   ·simp only[b]at e;have c:d=o:=by simpa [jy] using e
    subst c;rcases a with a|a
    ·exact absurd a (h (f,d) md)
    ·rw[a];exact md
  ·have j:(f==w)=au:=by simpa using i
   have R:(s.map λ(w,o)=>if (o==dQ.free&&Yt.scope.kind==.function&&Yt.kindOf w==Z .cell) then (w,dQ.cell) else (w,o)).lookup f=Z o:=by
    by_cases b:(d==dQ.free&&Yt.scope.kind==.function&&Yt.kindOf w==Z .cell)=aa
    ·rw[aE b,jy,j]at e;exact e
    ·rw[aH b,jy,j]at e;exact e
   exact lV _ (A3 R a λH k=>h H<|lV _ k)
section
variable{b:aO}
structure j4(b:aO)(YS:hO)(own:List aG)(Y1:List Nat):Prop where
 kind:YS.kind=.function
 cell:∀H∈YS.names,H.2≠.cell
 free:∀H∈YS.names,H.2=.free->b.env.scope.names.lookup H.1=Z .cell
 loc:∀H∈YS.names,H.2=.local->YS.names.lookup H.1=Z .local
 ND:∀a∈Y1,∃f,b.N[a]?=Z f/\(f,dQ.free)∈YS.names/\YS.names.lookup f=Z .free
def gB(b:aO)(own:List aG)(Y1:List Nat):List aG:=(own++Y1.map λa=>b.N.getD a "")
def kx(own:List aG)(Y1:List Nat)(C:a5):a5:=(own.map (λ_=>Y)++Y1.map λa=>C.getD a Y)
def j4.cells(YB:j4 b YS own Y1)(ok:b.Ok):∀H∈YS.names,H.2=.free->∃n,b.env.cells.lookup H.1=Z n:=
 λH a c=>ok.has H.1 (.inl<|YB.free H a c)
def j4.sub(YB:j4 b YS own Y1)(ok:b.Ok){f:aG}{n:ag}(e:(oR b.env YS.names).lookup f=Z n):b.env.cells.lookup f=Z n/\(f,dQ.free)∈YS.names:=by
 rcases Lh YS.names [] f n e with ⟨c,k⟩|e
 ·let⟨@d,a⟩:=YB.cells ok (f,.free) k rfl;rw[show (List.lookup f b.env.cells)=Z d from a]at c;refine⟨?_,k⟩;rw[c];exact a
 ·simp at e
theorem Dr(YB:j4 b YS own Y1)(A:aF b M C j h)(l:h.heap.objs.size<=aP)(i:∀d∈cg,ha b M j d)(o:∀d∈cg,d<h.heap.objs.size):(b.df (gB b own Y1) YS ⟨aP,h,j,cg⟩).Ok where
 mod:=A.ok.mod
 kind:=YB.kind
 glob:=A.ok.glob
 blt:=A.ok.blt
 above:=l
 inj:=λf H n z E=>A.ok.inj f H n (YB.sub A.ok z).1 (YB.sub A.ok E).1
 has:=λf g=>by
  have k:(f,dQ.free)∈YS.names:=by
   rcases g with g|g
   ·exact A3 g (.inl rfl) YB.cell
   ·exact A3 g (.inr rfl) YB.cell
  exact yz YS.names [] f (.inl k)
 qt:=λf n e W=>nomatch e
 hd:=A.ok.hd
 frames:=A.ok.frames
 rV:=.inl rfl
 xB:=λd a=>⟨cZ<|fP (o d a) l,λf n e=>(i d a).2.2.2.2.1 f n (YB.sub A.ok e).1⟩
 bs:=A.bs
 mi:=fa A.ok.mi A.jK
 qh:=λd m c a=>by
  rcases (i d a).2.2.2.1 with D|D
  ·exact A.ok.qh d m c D
  ·exact absurd (fP (bM c)<|fa A.ok.mi D) (j9 _)
 p5:=λd a D=>by
  rcases bW.mp (A.A_ d D) with c|c
  ·exact (i d a).2.1 c
  ·exact (i d a).2.2.1 c
 jt:=A.stack
 pw:=A.IS
theorem WS{z:aX}{YX:Nat}{k:aG->Option ab}(YB:j4 b YS own Y1)(A:aF b M C j h)(E:h.heap.objs.size<=aP)(T:∀d∈cg,ha b M j d)(U:∀d∈cg,d<h.heap.objs.size)(u:∀d m,h.heap.get? d=Z m->z.get? d=Z m)(al:z.Ns aP k):
  aF (b.df (gB b own Y1) YS ⟨aP,h,j,cg⟩) [] (kx own Y1 C) j {h with heap:=z,toks:=YX} where
 ok:=Dr YB A E T U
 os:=rfl
 bare:=A.bare
 base:=fZ.kept u
 loc:=by
  let⟨@be,bi,am⟩:=A.loc;refine⟨k,al,λr f v g c l=>?_⟩;have g:(own++Y1.map λa=>b.N.getD a "")[r]?=Z f:=g;have c:(own.map (λ_=>(Y:Option av))++Y1.map λa=>C.getD a Y)[r]?=Z (Z v):=c;by_cases an:r<own.length
  ·rw[kL (by rw[ba];exact an),ea]at c;cases p:own[r]? with
   |none=>rw[p]at c;cases c
   |some D=>rw[p]at c;cases c
  ·rw[j6 ⋯,ea]at g;rw[j6 (by rw[ba];lia),ea,ba]at c;cases p:Y1[r-own.length]? with
   |none=>rw[p]at g;cases g
   |some a=>
    rw[p]at g c;have g:b.N.getD a "" = f:=Option.some.inj g;have c:C.getD a Y=Z v:=Option.some.inj c;let⟨@i,F,J,ap⟩:=YB.ND a (fL p);have I:i=f:=by
     rw[<-g,cG,F];rfl
    subst I;have Ys:C[a]?=Z (Z v):=by
     rw[cG]at c;cases O:C[a]? with
     |none=>rw[O]at c;cases c
     |some D=>rw[O]at c;rw[show D=Z v from c]
    have P:=YB.free (i,.free) J rfl;let⟨@L,s,lk⟩:=am a i v F Ys (.inr<|.inl P);refine⟨L,s,.inr ⟨?_,?_⟩⟩
    ·rcases l with l|l|l
     ·
      exfalso;have:∀{x:List (aG×dQ)},x.lookup i=Z .free->(x.map λ(w,o)=>if (o==dQ.free&&b.env.scope.kind==.function&&b.env.kindOf w==Z .cell) then (w,dQ.cell) else (w,o)).lookup i≠Z .local:=by
       intro x;induction x with
       |nil=>intro e;simp at e
       |cons H s Q=>
        let⟨w,o⟩:=H;intro e;rw[cy];dsimp only;by_cases R:i=w
        ·subst R;have G:o=.free:=by simpa [jy] using e
         subst G;by_cases t:(dQ.free==dQ.free&&b.env.scope.kind==ScopeKind.function&&b.env.kindOf i==Z dQ.cell)=aa
         ·rw[aE t];simp[jy]
         ·rw[aH t];simp[jy]
        ·have y:(i==w)=au:=by simpa using R
         rw[jy,y]at e;by_cases t:(o==dQ.free&&b.env.scope.kind==ScopeKind.function&&b.env.kindOf w==Z dQ.cell)=aa
         ·rw[aE t,jy,y];exact Q e
         ·rw[aH t,jy,y];exact Q e
      exact this ap l
     ·exact .inl l
     ·exact .inr l
    ·rcases lk with ⟨as,_⟩|⟨_,n,a1,a2⟩
     ·exact absurd (as.symm.trans P) ↥0
     ·let⟨@bm,S⟩:=yz (Yt:=b.env) YS.names [] i (.inl J);have:=(YB.sub A.ok S).1;rw[a1]at this;cases this;let⟨@m,B,hd⟩:=a2;exact⟨n,S,m,u _ _ B,hd⟩
 cell:=λf n e=>by
  let⟨v,@m,B,hd⟩:=A.cell f n (YB.sub A.ok e).1;exact⟨v,m,u _ _ B,hd⟩
 free:=A.a4.fresh E
 i9:=λf n e=>A.i9 f n (YB.sub A.ok e).1
 pin:=λq bd=>nomatch bd
 a4:=A.a4.kept u
 len:=by simp[kx,gB,aO.df]
def HT(b:aO)(Zz:List bz)(i:eH)(M:List (ag×a3)):Prop:=(
 ∀(h:ai) (C:a5) (j:ay) (B:Bool->ay->Prop),aF b M C j h->i C j B->
  wpAny (aN b.prog b.w) b.A (forIn Zz aa λn s=>if s=aa then do let ok <-ro n b.env (b0 n b.env);pure (ForInStep.yield ok) else pure (ForInStep.yield s)) (uE b M C B) b.c1 h)
def sh(b:aO)(Zz:List bz)(i:eH):Prop:=(∀M,HT b Zz i M)
def Qo:eH:=(λ_ j B=>B aa j)
def WH:sh b [] Qo:=λM h C j B A e=>wpAny_tests_nil ⟨j,A,e⟩
def Mp{n:bz}{i:eH}(e:ix b n i):sh b [n] i:=λM h C j B A a=>wpAny_tests_one (e M h C j B A a)
def Xa(own:List aG)(Y1:List Nat)(J:hy)(ZI:eH)(Zs:cC)(C:a5)(Y0:List av->ay->Prop)(YA:List av)(f:av)(P:ay):Prop:=(
 J f (kx own Y1 C) P λa YO=>(∀(r:Nat) (v:av),(kx own Y1 C)[r]?=Z (Z v)->a[r]?=Z (Z v))/\ZI a YO λd b=>if d=aa then Zs a b λv c=>YA.length<sizeLine/\Y0 (YA++[v]) c else Y0 YA b)
def Nv(Zo:fY)(own:List aG)(Y1:List Nat)(J:hy)(ZI:eH)(Zs:cC)(C:a5)(Yx:ay)(B:cS):Prop:=(
 ∃W:Nat->Nat->List av->ay->Prop,(∃k,W 0 k [] Yx)/\∀a k YA j,W a k YA j->(Zo.stop a j/\∀y,j y=Y->B (.ref y) (upd j y<|.lst YA))\/
  (Zo.go a j/\∃Y0:List av->ay->Prop,(∀b P,Y0 b P->∃c,c<k/\W (a+1) c b P)/\∀f P,Zo.rU a j f P->Xa own Y1 J ZI Zs C Y0 YA f P))
def w4(own:List aG)(Y1:List Nat)(ZG:bI)(J:ku->hy)(ZI:ku->eH)(Zs:ku->cC):cC:=(λC j B=>ZG C j λZo Yx=>∀a:ku,Nv Zo own Y1 (J a) (ZI a) (Zs a) C Yx B)
def za(i:hO)(Y0:List aG)(YS:hO)(Y1:List Nat):Bool:=(
 YS.kind==.function&&YS.names.all (λH=>H.2 != .cell)&&YS.names.all (λH=>H.2 != .free || i.names.lookup H.1==Z .cell)&&YS.names.all (λH=>H.2 != .local || YS.names.lookup H.1==Z .local) &&
  Y1.all (λa=>match Y0[a]? with|some f=>YS.names.lookup f==Z .free|none=>au))
theorem mem_of_lookup:∀{t:List (aG×dQ)}{f:aG}{o:dQ},t.lookup f=Z o->(f,o)∈t
 |[],_,_,e=>by simp at e
 | (w,b)::s,f,o,e=>by
  rw[jy]at e;by_cases a:f=w
  ·subst a;rw[l5]at e;cases e;exact md
  ·rw[show (f==w)=au by simpa using a]at e;exact lV _ (mem_of_lookup e)
def w1{b:aO}(i:hO)(Y0:List aG)(e:za i Y0 YS Y1=aa)(c:b.env.scope=i:=by rfl)(j:b.N=Y0:=by rfl):j4 b YS own Y1:=by
 unfold za at e;simp only[cU,k9,bne_iff_ne,ne_eq,vz,pH]at e;let@⟨@⟨@⟨@⟨z,E⟩,k⟩,l⟩,m⟩:=e;refine⟨z,E,λH d g=>?_,λH d g=>?_,λa T=>?_⟩
 ·rw[c];exact (k H d).resolve_left λD=>D g
 ·exact (l H d).resolve_left λD=>D g
 ·have:=m a T;rw[j];cases p:Y0[a]? with
  |none=>rw[p]at this;cases this
  |some f=>
   rw[p]at this;have h:YS.names.lookup f=Z .free:=by simpa using this
   exact⟨f,rfl,mem_of_lookup h,h⟩
def Kt{Y6:Pos}{use:Option (ab->dA Unit)}{fr:ab->ai->Prop}{jp:cS}(of:b.calm=aa)(YB:j4 b YS own Y1)(T:kp b YT Zl ZG)(ol:∀am,ky (b.df (gB b own Y1) YS am) YT<|J am)(bG:∀am,sh (b.df (gB b own Y1) YS am) Zz<|ZI am)(on:∀am,cj (b.df (gB b own Y1) YS am) ZA<|Zs am)(Ys:∀f,me Zl b.env f=pure f)(A:aF b M C j h)(e:w4 own Y1 ZG J ZI Zs C j jp)(op:∀(y aP:ag) (f0:ay) (F:ai) (k:aG->Option ab),aF b M C f0 F->F.heap.Ns aP k->f0 aP=Y->b.env.locals≠aP->(∀f n,b.env.cells.lookup f=Z n->n≠aP)->b.fH.heap.objs.size<=aP->(∀q∈b.la++M,q.1≠aP)->jp (.ref y) f0->compPost (aN b.prog b.w) b.A b.c1 use fr (.ref y) aP (.ok .next) F):
  wpAny (aN b.prog b.w) b.A (Ah (.ListComp ZA [⟨YT,Zl,Zz,0⟩] YS YD) YS b.env Y6 (pB []) au (b0 Zl b.env) use) fr b.c1 h:=by
 refine wpAny_comprehension_free (use:=use) rfl Ys (Tr<|YB.cells A.ok) YB.kind YB.loc (cn (T M h C j _ A e) λv ut z=>cn z λu8 u E=>?_);let⟨Yu,cg,i,Zo,@YO,c,S,U,f1,an,o0⟩:=E;subst c;have co:∀d∈cg,d<u.heap.objs.size:=λd r=>by
  let⟨@m,c,O⟩:=U.obj _ _ f1 d r;exact bM c
 refine gz (wpAny_newFunctionEnv YB.cell (by intro H pc;simp at pc) (λf2 cr bv=>?_) YB.kind);dsimp only at cr bv ⊢;generalize f4:u.heap.push {cls:=.type "list",dict:=Y,data:=.seq ([]:List ab).toArray}=cs at cr bv ⊢;have ca:cs.objs.size=u.heap.objs.size+1:=by rw[<-f4,hb]
 have a2:u.heap.objs.size≠cs.objs.size:=by rw[ca];exact cZ (ko _)
 have f8:u.heap.objs.size<=cs.objs.size:=by rw[ca];exact zp _
 have ga:∀d m,u.heap.get? d=Z m->f2.get? d=Z m:=λd m c=>
  bv.extBut d m (by rw[ca];exact cZ (vH<|bM c)) (bJ _<|f4 ▸ bJ _ c);have kt:f2.get? u.heap.objs.size=Z {cls:=.type "list",data:=.seq ([]:List ab).toArray 0}:=bv.extBut _ _ a2 (bJ _<|f4 ▸ cO _ rfl);generalize v0:cs.objs.size=aP at cr bv ca a2 f8 ⊢;generalize bd:u.heap.objs.size=y at kt ca a2 f8 ⊢;have cd:u.heap.objs.size<=aP:=by rw[bd];exact f8
 let⟨@W,⟨@pi,jV⟩,turn⟩:=o0 ⟨aP,u,YO,cg⟩;have kw:=λ(YX:Nat)=>WS (YX:=YX) YB S cd an co ga cr;have lc:=ol ⟨aP,u,YO,cg⟩;have lf:=bG ⟨aP,u,YO,cg⟩;have li:=on ⟨aP,u,YO,cg⟩;have ge:=Dr YB S cd an co;generalize G:b.df (gB b own Y1) YS ⟨aP,u,YO,cg⟩=t at kw lc lf li ge;have bi:t.prog=b.prog:=by rw[<-G];rfl
 have bm:t.w=b.w:=by rw[<-G];rfl
 have lm:t.K=b.K:=by rw[<-G];rfl
 have ce:t.A=b.A:=by rw[<-G];rfl
 have ln:t.calm=aa:=by rw[<-G];exact of
 have dY:t.env.locals=aP:=by rw[<-G];rfl
 have gl:t.ex=cg:=by rw[<-G];rfl
 have db:t.fH=u:=by rw[<-G];rfl
 have pm:t.qA=YO:=by rw[<-G];rfl
 have po:t.aJ=iU b.stack:=by rw[<-G];rfl
 have ds:t.la=[]:=by rw[<-G];rfl
 have gt:t.c1=λ_ O=>False:=by rw[<-G];rfl
 have ls:t.env=uo YS (oR b.env YS.names) aP b.env:=by rw[<-G];rfl
 have lv:∀f n,t.env.cells.lookup f=Z n->b.env.cells.lookup f=Z n:=λf n e=>(YB.sub S.ok (by rw[ls]at e;exact e)).1;have pp:∀f n,t.env.cells.lookup f=Z n->n≠y:=λf n e D=>by
  let⟨v,@m,ap,O⟩:=S.cell f n (lv f n e);have:=bM ap;rw[D,<-bd]at this;exact j9 _ this
 have g1:∀d∈cg,d≠y:=λd r D=>by
  have:=co d r;rw[D,<-bd]at this;exact j9 _ this
 have pr:y∉t.aJ:=λD=>by
  let@⟨_,⟨@m,ap,_⟩⟩:=ge.jt.mem D;rw[db]at ap;have:=bM ap;rw[bd]at this;exact j9 _ this
 have g2:∀(P:ay) (m:a3),(∀d∈cg,P d=Y)->∀d∈cg,ha t [(y,m)] P d:=λP m g3 d r=>by
  refine⟨g3 d r,?_,?_,.inl (by rw[gl];exact r),λf n e=>(an d r).2.2.2.2.1 f n (lv f n e),λq B=>?_⟩
  ·rw[dY];exact cZ (fP (co d r) cd)
  ·exact ge.p5 d (by rw[gl];exact r)
  ·rw[ds]at B;have:q=(y,m):=by simpa using B
   rw[this];exact eQ (g1 d r)
 have lw:∀hd:ai,hd={u with heap:=f2,toks:=u.toks+([]:List (aG×ab)).length}->
   codeAny (aN b.prog b.w) b.A (.compLoop (.ListComp ZA [⟨YT,Zl,Zz,0⟩] YS YD) 0 (.ref Yu) (.ref y) t.env)
    (compPost (aN b.prog b.w) b.A b.c1 use fr (.ref y) aP) hd:=by
  rintro hd rfl;refine Sk (λw Yn=>∃(a:Nat) (YA:List av) (P:ay) (Yy:List ab) (o:Nat),aF t [(y,{cls:=.type "list",data:=.seq Yy.toArray o})] (kx own Y1 C) P Yn/\bS YA Yy/\YA.length<=sizeLine/\i a Yn.heap/\
   (∀d∈cg,P d=Y)/\W a w YA P) ?_ pi ?_
  ·rintro w mb ⟨a,YA,N,Yy,o,he,dL,mo,mp,ms,d_⟩;rcases turn a w YA N d_ with ⟨stop,pt⟩|⟨go,Y0,m0,step⟩
   ·have:=U.done t bi bm lm ln a _ mb _ N (λ_ O=>False) he (g2 N _ ms) mp stop;rw[ce]at this;refine cn this λs F Q=>?_;let@⟨hf,as⟩:=Q;subst hf;let⟨@k,g3,O⟩:=as.loc;have pu:F.heap.Ns aP k:=by rw[<-dY];exact g3
    have B:=as.pin (y,{cls:=.type "list",data:=.seq Yy.toArray o}) (by rw[ds];simp);have bn:N y=Y:=B.2.1;have da:∀d,d≠aP->F.heap.get? d=F.heap.get? d:=λd r=>rfl;have bs:∀d m,u.heap.get? d=Z m->d≠aP:=λd m c=>cZ (fP (bM c) cd);have py:∀d m,u.heap.get? d=Z m->d≠y:=λd m c=>by rw[<-bd];exact cZ (bM c)
    have al:fZ (iU b.stack) cg YO N u.heap F.heap:=by
     have:=as.base;rw[po,gl,pm,db]at this;exact this
    have L:fZ (iU b.stack) cg YO (upd N y<|.lst YA) u.heap F.heap:=
     ⟨λd m c w r be=>(da d<|bs d m c).trans<|al.keep d m c w r be,
      λd m c w r be=>by
      let⟨@aZ,p⟩:=al.slot d m c w r be;exact⟨aZ,(da d<|bs d m c).trans p⟩,
      λd m c w be=>by rw[dr (py d m c)];exact al.free d m c w be,
      λd m c be=>by
      let⟨@Y7,p⟩:=al.there d m c be;exact⟨Y7,(da d<|bs d m c).trans p⟩,
      λd x c=>by rw[dr (hW (al.lb d x c) bn)];exact al.lb d x c,
      λd m x c=>by rw[dr (hW (al.kn d m x c) bn)];exact al.kn d m x c,
      λd Yz c=>by
      let⟨@rc,p⟩:=al.mQ d Yz c;exact⟨rc,by rw[dr (hW p bn)];exact p⟩⟩
    have na:∀d m,N d=Z m->d≠aP:=λd m c D=>by
     have:=as.free;rw[dY,<-D,c]at this;cases this
    have re:eo b.prog b.w (upd N y<|.lst YA) F.heap:=λg m c=>by
     by_cases nb:g=y
     ·subst nb;rw[e8]at c;cases c;exact⟨mo,Yy,o,dL,(da _ a2).trans B.1⟩
     ·rw[dr nb]at c;have:=as.a4 g m c;rw[bi,bm]at this;refine this.g9 (λd L r p=>(da d ?_).trans p) (λd p=>by rw[dr (hW p bn)];exact p) λd x p=>by rw[dr (hW p bn)];exact p
      rcases r with D|D
      ·rw[D];exact na g m c
      ·exact na d _ D
    have rs:aF b M C (upd N y<|.lst YA) F:=S.M8 (Yn:=F) (Zw:=cg) (by have:=as.os;rw[db]at this;exact this) L re as.bare λd r=>⟨(an d r).2.2.2.1,(an d r).2.1,(an d r).2.2.2.2.1,(an d r).2.2.2.2.2⟩;have sc:b.env.locals≠aP:=by
     let⟨@v1,sn,O⟩:=S.loc;let⟨m,O,@O,ap,O⟩:=sn;exact bs _ _ ap
    have sp:∀f n,b.env.cells.lookup f=Z n->n≠aP:=λf n e=>by
     let⟨v,@m,ap,O⟩:=S.cell f n e;exact bs _ _ ap
    refine op y aP _ F k rs pu ?_ sc sp ?_ (λq B=>bs _ _ (S.pin q B).1) (pt y bn)
    ·rw[dr (eQ a2)];have:=as.free
     rwa [dY]at this
    ·exact fa S.jK cd
   ·have:=U.item t bi bm lm ln a _ mb _ N (λ_ O=>False) he (g2 N _ ms) mp go;rw[ce]at this;refine cn this λs F Q=>?_;let⟨@L,hf,ss⟩:=Q;subst hf;refine cn ss λ_ ch Q=>?_;let⟨f,@hm,sw,sB,sK,hw,s0⟩:=Q;have s1:=sw.pinned (g2 hm _ s0) (U.obj _ _ hw);have ne:=lc _ ch _ hm f L _ s1 sB (step f hm sK);rw[bi,bm,ce,gt]at ne;refine cn ne λ_ s2 Q=>?_;let⟨ci,@s3,s4,s5,to⟩:=Q;have nl:=lf _ s2 ci s3 _ s4 to;rw[bi,bm,ce,gt]at nl;refine cn nl λd tt Q=>?_;let⟨@nm,eq,ev⟩:=Q;have nn:∀{no:a5}{P:ay}{Yn:ai},aF t ([(y,{cls:=.type "list",data:=.seq Yy.toArray o})]++nu cg ch.heap) no P Yn->(∀d∈cg,P d=Y)/\i (a+1) Yn.heap:=λ{no P Yn} cl=>by
     refine⟨λd r=>?_,U.keep _ _ _ hw λd r m c=>(cl.pin (d,m)<|fE _<|fE _<|v9 r c).1⟩;let⟨@m,c,O⟩:=U.obj _ _ hw d r;exact (cl.pin (d,m)<|fE _<|fE _<|v9 r c).2.1
    have d4:∀{h0:List (ag×a3)}{P:ay}{Yn:ai},aF t h0 ci P Yn->aF t h0 (kx own Y1 C) P Yn:=λ{h0 P Yn} cl=>
     cl.weak (by rw[cl.len,he.len]) s5;cases d with
    |false=>
     rw[aH dj]at ev;let⟨@ii,im,ty⟩:=m0 _ _ ev;rw[aH dj];let@⟨YK,YR⟩:=nn eq;exact⟨ii,im,a+1,YA,nm,Yy,o,d4 (eq.qp λq B=>eq.pin q (by
      rw[ds];simp at B ⊢;exact .inl B)),dL,mo,YR,YK,ty⟩
    |true=>
     rw[aE rfl]at ev ⊢;have np:=li _ tt ci nm _ eq ev;rw[bi,bm,ce,gt]at np;refine cn np λR a1 Q=>?_;let⟨tz,@io,fd,t0,v2,t1⟩:=Q;let⟨@ii,im,t3⟩:=m0 _ _ t1;have B:=fd.pin (y,{cls:=.type "list",data:=.seq Yy.toArray o}) (fE _ (gd _ ↥0));have it:=B.1;refine my D8 ⟨_,it,rfl⟩ Ks (Ef _ _) (E7 y Yy.toArray o R (by rw[cv,<-dL.length];lia)) ⟨it,?_⟩;have p:=H8 it (λg=>g.push R);let@⟨YK,YR⟩:=nn fd;have ul:aF t (nu cg ch.heap) ci io a1:=fd.qp λq B=>fd.pin q (fE _<|fE _ B);have ns:∀d m,d≠y->a1.heap.get? d=Z m->(a1.heap.update y<|a3.mapSeq λg=>g.push R).get? d=Z m:=λd m r c=>(g4 a1.heap _<|eQ r).trans c;have un:aF t (nu cg ch.heap) ci io {a1 with heap:=a1.heap.update y (a3.mapSeq λg=>g.push R),toks:=a1.toks}:=
      ul.turned (Yu:=y) ns B.2.1 (by rw[dY];exact a2) (.inr (by rw[db,bd];exact bp _)) pp λq fn=>by
       rw[ds]at fn;let@⟨r,_⟩:=EL (show q∈nu cg ch.heap by simpa using fn);exact g1 _ r
     refine⟨ii,im,a+1,YA++[tz],io,Yy++[R],o+1,d4<|un.qp λq fn=>?_,dL.append<|.cons t0 .nil,?_,?_,YK,t3⟩
     ·have c:q=(y,{cls:=.type "list",data:=.seq (Yy++[R]).toArray (o+1)}):=by simpa using fn
      subst c;refine⟨?_,B.2.1,B.2.2.1,B.2.2.2.1,λv D=>by cases D⟩;have up:Yy.toArray.push R=(Yy++[R]).toArray:=by simp
      rw[<-up];have nw:IsL (a1.heap.update y<|a3.mapSeq λg=>g.push R) y (Yy.toArray.push R) (if (Yy.toArray.push R).size==Yy.toArray.size then o else o+1):=p;rw[aH ↥0]at nw;exact nw
     ·rw[c6,mw];lia
     ·refine U.keep _ _ _ YR λd r m c=>ns d m (g1 d r) c
  ·refine⟨0,[],YO,[],0,?_,.nil,g0 _,U.keep _ _ _ f1 λd O m c=>ga d m c,λd r=>(an d r).1,jV⟩;refine (kw _).qp λq B=>?_;have c:q=(y,{cls:=.type "list",data:=.seq ([]:List ab).toArray 0}):=by simpa using B
   subst c;exact⟨kt,S.a4.fresh (by rw[bd];exact bp _),by rw[dY];exact a2,pr,λv D=>by cases D⟩
 have us:uo YS (oR b.env YS.names) aP b.env=t.env:=ls.symm;show codeAny (aN b.prog b.w) b.A (.compStart _ 0 (.ref Yu) (.ref y)<|uo YS (oR b.env YS.names) aP b.env) _ _;rw[us];exact codeAny_compStart_list (lw _ rfl) (U.self b.A 0 _ _ _ (U.keep _ _ _ f1 λd O m c=>ga d m c)<|lw _ rfl)
def Q9(i:b.calm=aa)(YB:j4 b YS own Y1)(T:kp b YT Zl ZG)(l:∀a,ky (b.df (gB b own Y1) YS a) YT<|J a)(bG:∀a,sh (b.df (gB b own Y1) YS a) Zz<|ZI a)(o:∀a,cj (b.df (gB b own Y1) YS a) ZA<|Zs a)(Ys:∀f,me Zl b.env f=pure f:=by intro W;rfl):cj b (.ListComp ZA [⟨YT,Zl,Zz,0⟩] YS YD) (w4 own Y1 ZG J ZI Zs):=by
 intro M h C j B A e;show wpAny _ b.A (Ah (.ListComp ZA [⟨YT,Zl,Zz,0⟩] YS YD) YS b.env _ (pB []) au (b0 Zl b.env) Y) _ _ h;refine Kt (use:=Y) (fr:=ez b M C B) i YB T l bG o Ys A e λy aP r g k s u F t n D q p=>?_;show ∃k,g.heap.Ns aP k/\∀R,aX.SameBut aP g.heap R->ez b M C B (.ref y) {g with heap:=R};refine⟨k,u,λR cY=>⟨.ref y,r,?_,rfl,p⟩⟩;exact s.turned (Yu:=aP) (YU:=g.toks) (λd m v c=>(cY.2 d v).trans c) F (eQ t) (.inr D) n q
end
def jl(e:aX)(u:ag)(Yp:List ab)(YW:Nat):Prop:=(∃m Q,e.get? u=Z m/\m.ExactDict/\m.data=.dict Q YW/\Q.toList.map (·.key)=Yp)
def jl.ty(f:jl h.heap u Yp YW):h.TypeIs (.ref u) "dict" := let ⟨m,_,c,n,_⟩:=f;⟨m,c,n.1⟩
def jl.lt(f:jl e u Yp YW):u<e.objs.size:=let ⟨_,_,c,_⟩:=f;bM c
def jl.go{R:aX}(f:jl e u Yp YW)(o:∀m,e.get? u=Z m->R.get? u=Z m):jl R u Yp YW:=let ⟨m,Q,c,s⟩:=f;⟨m,Q,o m c,s⟩
section
variable{Yw:bO}{l:bh}{O:bA}{Yq:ab->ai->Prop}{h:ai}
def PU{B:ab->ai->Prop}(G:(u==j5)=au)(f:jl h.heap u Yp YW)(p:B (.ref h.heap.objs.size) {h with heap:=h.heap.push {cls:=.type "dict_keyiterator",data:=.fields #[.ref u,.int 0 0,.int Yp.length 0,.int YW 0]} }):wpAny (aN Yw l) O (o_<|.ref u) B Yq h:=by
 have ty:=f.ty;let⟨m,@Q,a,d,b,c⟩:=f;have w:Q.size=Yp.length:=by rw[<-c,ba,dq]
 refine xD ty CC (hP CC ty F.entry_dict_iter ?D<|F.args_dict_iter_1 _)
 case D=>
  unfold aY.«dict.__iter__» aY.Dict.dictSlotNone;refine ao (ao<|II ty ?_);show wpAny _ _ (pure<|ab.ref u) _ _ h;apply aM;show wpAny _ _ (aY.Dict.showsAll u >>= _) _ _ h;unfold aY.Dict.showsAll;rw[aH (by rw[G];simp)];refine ao (aM<|ao<|zj a b<|ao<|B7 a b<|ao<|gz<|aM ⟨_,rfl,"dict_keyiterator",_,⟨_,cO _ rfl,rfl⟩,ti.lookup,?_⟩);simpa [eD,w] using p
def Rb{v:ab}(b:h.heap.IsKeyIter Yu u a Yp.length YW)(f:jl h.heap u Yp YW)(d:Yp[a]?=Z v)(p:∀R,R.IsKeyIter Yu u (a+1) Yp.length YW->aX.SameBut Yu h.heap R->B (Z v) {h with heap:=R}):wpAny (aN Yw l) O (fv<|.ref Yu) B Yq h:=by
 let⟨@o,e,n,c⟩:=id b;let⟨m,@Q,g,q,i,j⟩:=f;have w:Q.size=Yp.length:=by rw[<-j,ba,dq]
 have T:a<Q.size:=by
  have:a<Yp.length:=(eA.mp d).1;lia
 have G:Q[a].key=v:=by
  rw[<-j,ea,e0,jN T]at d;exact Option.some.inj d
 unfold fv;refine ao (ov<|lA (name:=aG.ofString "__next__") b.typeIs ti<|hP ti b.typeIs FN ?D<|HP _)
 case D=>
  refine ao (aM<|ao<|ao ?_);refine ao (vU b.typeIs<|aM<|ao<|ru e c ?_);simp only[show aY.Dict_items.ownsTuple "dict_keyiterator" = au by decide,g_,f5];show wpAny _ _ (if (ab.ref u==ab.none)=aa then _ else _) _ _ h;rw[aH (show ¬ (ab.ref u==ab.none)=aa by intro D;cases D)];refine ao (aM<|ao<|zj g i ?_);rw[aH (by simp[w])];refine ao (aM<|ao<|B7 g i ?_);rw[aH ↥0];apply aM;simp only[show ¬ ((a:Int)<0) by lia,f5,kY,jN T];refine ao (ao<|vU b.typeIs<|aM<|ao<|Dz b.typeIs ?_);show wpAny _ _ (vo (.ref Yu) 1 (eD<|(a:Int)+1) >>= _) _ _ h;have k:(h.heap.update Yu (a3.mapFields (·.setIfInBounds 1 (eD<|(a:Int)+1)))).IsKeyIter Yu u (a+1) Yp.length YW:=
   ⟨_,jh _ e<|Ac<|qm c _,(yP ..).trans n,by rw[qm c];simp[eD]⟩;refine ao (oG e c ↥0 (ao (fM (ao (Dz (s:={h with heap:=h.heap.update Yu (a3.mapFields (·.setIfInBounds 1 (eD<|(a:Int)+1)))}) k.typeIs ?_)))));show wpAny _ _ (pure Q[a].key) _ _ _;rw[G];exact aM (aM ⟨_,rfl,aM<|p _ k<|mJ ..⟩)
def Pw(n:O.handled=Y)(b:h.heap.IsKeyIter Yu u a Yp.length YW)(f:jl h.heap u Yp YW)(q:Yp.length<=a)(p:∀R,aX.ExtBut Yu h.heap R->B Y {h with heap:=R}):wpAny (aN Yw l) O (fv<|.ref Yu) B Yq h:=by
 let⟨@r,c,s,e⟩:=id b;let⟨m,@Q,i,t,j,o⟩:=f;have w:Q.size=Yp.length:=by rw[<-o,ba,dq]
 unfold fv;refine ao (ov<|lA (name:=aG.ofString "__next__") b.typeIs ti<|hP ti b.typeIs FN ?D<|HP _)
 case D=>
  refine ao (aM<|ao<|ao ?_);refine ao (vU b.typeIs<|aM<|ao<|ru c e ?_);simp only[show aY.Dict_items.ownsTuple "dict_keyiterator" = au by decide,g_,f5];show wpAny _ _ (if (ab.ref u==ab.none)=aa then _ else _) _ _ h;rw[aH (show ¬ (ab.ref u==ab.none)=aa by intro D;cases D)];refine ao (aM<|ao<|zj i j ?_);rw[aH (by simp[w])];refine ao (aM<|ao<|B7 i j ?_);rw[aH ↥0];apply aM;simp only[show ¬ ((a:Int)<0) by lia,f5,kY,Be (show Q.size<=a by lia)];refine ao (ao<|vU b.typeIs<|aM ?_);show wpAny _ _ (vo (.ref Yu) 0 .none >>= _) _ _ h;refine ao (oG c e ↥0 ?_);show wpAny _ _ (p9 (.type "StopIteration") [] >>= _) _ _ _;apply ao;simp only[p9,tv];refine ao (gz (ao (m:=qP _ _) (og (a:=ab.none) (by first|rfl|(simp only[qP];rfl)) (gz ?_ (by size_fits)))) (by size_fits));simp only[raiseNew];apply ao;apply Aq;rw[show O.in1.handled=Y from n];refine ao (m:=pure _) (aM<|Bh ?_);apply ao;refine oe (T := "StopIteration") (b:=aa) ⟨_,cO _ rfl,rfl⟩ wZ ?_;exact aM (p _<|((mJ ..).extBut.push _).push _)
theorem Wj(j:O.handled=Y)(Yu u:ag)(ne:u≠Yu)(Yp:List ab)(YW:Nat):iD Yw l O Yu [Yu,u] [Yu] Yp.length (λa v=>Yp[a]?=Z v) (λa e=>e.IsKeyIter Yu u a Yp.length YW/\jl e u Yp YW) where
 sub:=λd k=>by
  have:d=Yu:=by simpa using k
  simp[this]
 frame:=λa e R X o=>⟨let ⟨m,c,s⟩:=X.1;⟨m,o Yu ↥0 m c,s⟩,X.2.go (o u ↥0)⟩
 item:=λa h B Yq T X b=>by
  have i:Yp[a]?=Z Yp[a]:=by simp[T]
  refine Rb X.1 X.2 i λR g d=>b _ R h.toks i ⟨g,X.2.go λm c=>d.extBut u m ne c⟩ λn m f c=>d.extBut n m ⇑f c
 done:=λh B Yq X b=>Pw j X.1 X.2 (bp _) λR d=>b R h.toks λn m f c=>d n m ⇑f c
 self:=λa h B Yq X b=>wpAny_pyIter_keyiter X.1 b
theorem Ue(G:(u==j5)=au):PySem.W.KdlSrc Yw l "dict" u u Yp.length (λa v=>Yp[a]?=Z v) (λe=>jl e u Yp YW) where
 type:=λh f=>f.ty
 there:=λe f=>⟨f.lt,f.lt⟩
 keep:=λe R f o=>f.go (o u<|.inl rfl)
 notList:=by decide
 notTuple:=by decide
 hint:=λO Yq h B f p=>PySem.W.kdl_hint_dict f.ty p
 iter:=λO h b f=>⟨_,_,(λYq B p=>PU G f p),Wj b _ u (cZ f.lt) Yp YW,⟨⟨_,cO _ rfl,rfl,rfl⟩,f.go λm c=>bJ _ c⟩⟩
end
end L2
namespace L2
open Spec PyProof.Rows PySem.W
section
variable{w:Nat}{S:Nat->Int}{b:Nat->Nat->(Bool->ai->Prop)->ai->Prop}
def bc(S:Nat->Int)(q:Array Nat)(a:Nat):Int:=(S (q.getD a 0))
def iS(S:Nat->Int)(q:Array Nat)(k:Nat):Prop:=(∀a r,a<=r->r<k->bc S q a<=bc S q r)
def gH(w:Nat)(S:Nat->Int)(b:Nat->Nat->(Bool->ai->Prop)->ai->Prop)(h:ai):Prop:=(∀a r aP,a<w->r<w->aP (decide (S a<S r)) h->b a r aP h)
def bY(w:Nat)(q:Array Nat):Prop:=(q.toList.Perm (range w))
variable{q:Array Nat}
def bY.size(e:bY w q):q.size=w:=by
 have:=e.length_eq;simpa using this
def bY.lt(e:bY w q){a:Nat}(T:a<w):q.getD a 0<w:=by
 have Ys:=e.size;have c:q.getD a 0=q[a]:=by simp[Array.getD,Ys,T]
 rw[c];have:q[a]∈q.toList:=by simp
 exact eT.mp (e.mem_iff.mp this)
def bY.ne(e:bY w q)(inj:∀a r,a<w->r<w->S a=S r->a=r){a r:Nat}(i:a<r)(b:r<w):bc S q a≠bc S q r:=by
 intro c;have Ys:=e.size;have d:=inj _ _ (e.lt (by omega)) (e.lt b) c;have f:q.getD a 0=q[a]:=by simp[Array.getD,Ys,show a<w by omega]
 have g:q.getD r 0=q[r]:=by simp[Array.getD,Ys,b]
 rw[f,g]at d;have ah:q.toList.Nodup:=e.nodup_iff.mpr sA;have h:q.toList[a]'(by simpa [Ys] using (show a<w by omega))=q.toList[r]'(by simpa [Ys] using b):=by simpa using d
 have:=(Hz ah).mp h;omega
def m6{p:Array Nat}{a r:Nat}(c:q[a]?=p[r]?):bc S q a=bc S p r:=by
 unfold bc;rw[Ki,Ki,c]
theorem bY.rev(e:bY w q)(a r:Nat):bY w (mX q a r):=(G8.mp<|mirror_perm q a r _).trans e
theorem bY.MU(e:bY w q)(a r:Nat):bY w (rO q a r):=(G8.mp<|bubble_perm q a r).trans e
end
section
variable{Yw:bO}{l:bh}{O:bA}{Yq:ab->ai->Prop}{YQ:hq}{Yu:Array bk}{S:Nat->Int}{w:Nat}{h:ai}
def qr:Bool->bk->Array bk->Nat->Nat->Nat->StateT bD dA (Option Nat):=(sortPriv% PySem.Builtin.gallop)
def t2(b:gH w S (fX Yw l O YQ Yu) h){a r:Nat}(T:a<w)(c:r<w){X:bD}(d:kindOf X=YQ){B:Option Bool->bD->ai->Prop}(e:B (Z<|decide (S a<S r)) X h):
  kasC (aN Yw l) O Yq (lt' (bg Yu a)<|bg Yu r) B X h:=by
 rw[lt'_eq];apply bl;apply km;have:=b a r (λn Yn=>Yn=h/\n=decide (S a<S r)) T c ⟨rfl,rfl⟩;unfold fX at this;rw[d];refine bl (om<|ov<|g7 this (λn Yn f=>?_) λ_ W g=>g.elim);let@⟨rfl,rfl⟩:=f;exact bf e
theorem hr{C Zh:Type}{az:gW}{F:Nat->Zh->StateT C dA (ForInStep Zh)}{B:Zh->C->ai->Prop}(A:Nat->Zh->C->ai->Prop)(step:∀f n X Yn,A f n X Yn->kasC az O Yq (F f n) (λs b d=>match s with | .yield a=>A (f+1) a b d | .done a=>B a b d) X Yn):∀(k g:Nat) (n:Zh) (X:C) (Yn:ai),(∀n X Yn,A (g+k) n X Yn->B n X Yn)->A g n X Yn->
   kasC az O Yq (forIn (range' g k) n F) B X Yn
 |0,g,n,X,Yn,h,e=>by
  show kasC az O Yq (forIn ([]:List Nat) n F) B X Yn;exact kasC_nil (h n X Yn e)
 |k+1,g,n,X,Yn,h,e=>by
  show kasC az O Yq (forIn (g::range' (g+1) k) n F) B X Yn;refine kasC_cons (g7 (step g n X Yn e) (λs d R=>?_) λ_ W c=>c);let⟨s,b⟩:=s;cases s with
  |done a=>exact R
  |yield a=>exact hr A step k (g+1) a b d (λn X Yn T=>h n X Yn (by rw[show g+(k+1)=g+1+k by lia];exact T)) R
def c3(S:Nat->Int)(left:Bool)(o:Nat)(bL:Array Nat)(YF a:Nat):Bool:=(if left=aa then decide (S (bL.getD (YF+a) 0)<S o) else !decide (S o<S (bL.getD (YF+a) 0)))
def E_(N:gH w S (fX Yw l O YQ Yu) h){left:Bool}{o:Nat}(P:o<w){bL:Array Nat}(al:∀a,a<bL.size->bL.getD a 0<w){YF k b:Nat}(ap:YF+k<=bL.size)(am:b<k)(mono:∀a r,a<=r->r<k->c3 S left o bL YF r=aa->c3 S left o bL YF a=aa){X:bD}(Q:kindOf X=YQ){B:Option Nat->bD->ai->Prop}(e:∀s,s<=k->(∀a,a<s->c3 S left o bL YF a=aa)->(∀a,s<=a->a<k->c3 S left o bL YF a=au)->B (Z s) X h):
  kasC (aN Yw l) O Yq (qr left (bg Yu o) (bL.map<|bg Yu) YF k b) B X h:=by
 have fz:∀a,a<k->(bL.map<|bg Yu)[YF+a]?=Z (bg Yu<|bL.getD (YF+a) 0):=λa T=>by
  have:YF+a<bL.size:=⋯
  simp[Array.getD,this]
 have ask:∀a,a<k->∀M:Option Bool->bD->ai->Prop,M (Z<|c3 S left o bL YF a) X h->
   kasC (aN Yw l) O Yq (do let f <-elem' (bL.map<|bg Yu) (YF+a);if left=aa then lt' f (bg Yu o) else do let s <-lt' (bg Yu o) f;pure (s.map λf=>!f)) M X h:=λa T M I=>by
  rw[wo,fz a T];apply bl;apply bf;have R:=al (YF+a) ⋯;unfold c3 at I;cases left with
  |true=>
   rw[aE rfl]at I ⊢;exact t2 N R P Q I
  |false=>
   rw[aH dj]at I ⊢;exact bl (t2 N P R Q<|bf I)
 unfold qr;with_unfolding_all refine bl ?_;refine ask b am _ ?_;dsimp only;cases U:c3 S left o bL YF b with
 |true=>
  rw[aE rfl];apply bl;apply gA;have F:∀last i,last<i->b+last<k->c3 S left o bL YF (b+last)=aa->(i >= k-b\/c3 S left o bL YF (b+i)=au)->
    b+last+1<=b+min i (k-b)/\b+min i (k-b)<=k/\(∀a,a<b+last+1->c3 S left o bL YF a=aa)/\(∀a,b+min i (k-b)<=a->a<k->c3 S left o bL YF a=au)/\b+min i (k-b)-(b+last+1)<=k-0:=λlast i an Zi L D=>by
   refine⟨⋯,⋯,λa T=>mono a (b+last) ⋯ Zi L,λa z E=>?_,⋯⟩;rcases D with D|D
   ·lia
   ·cases x:c3 S left o bL YF a with
    |false=>rfl
    |true=>rw[mono (b+i) a ⋯ E x]at D;cases D
  refine hr (λf n p Yn=>p=X/\Yn=h/\∃last i,n=(Y,last,i)/\last<i/\f<i/\b+last<k/\c3 S left o bL YF (b+last)=aa) ?_ _ 0 _ _ _ ?_ ⟨rfl,rfl,0,1,rfl,⋯,⋯,⋯,U⟩
  ·rintro f n p Yn ⟨q,t,last,i,rfl,z,E,j,m⟩;rw[q,t];dsimp only;by_cases H:i >= k-b
   ·rw[aE H];apply bf;dsimp only;have y:=F last i z j m (.inl H);apply bl;apply gA;refine hr (λf n p Yn=>p=X/\Yn=h/\∃G T,n=(Y,G,T)/\G<=T/\T<=k/\(∀a,a<G->c3 S left o bL YF a=aa)/\(∀a,T<=a->a<k->c3 S left o bL YF a=au)/\T-G<=k-f) ?_ _ 0 _ _ _ ?_ ⟨rfl,rfl,_,_,rfl,y⟩
    ·rintro f n p Yn ⟨q,t,G,T,rfl,z,E,j,m,A⟩;rw[q,t];dsimp only;by_cases v:G >= T
     ·rw[aE v];apply bf;dsimp only;have c:G=T:=⋯
      subst c;exact bf (e G E j m)
     ·rw[aH v];have cm:G<=G+(T-G)/2:=⋯
      have C:G+(T-G)/2<T:=⋯
      generalize G+(T-G)/2=mid at cm C ⊢;refine bl (ask mid ⋯ _ ?_);dsimp only;cases u:c3 S left o bL YF mid with
      |true=>
       rw[aE rfl];exact bf ⟨rfl,rfl,mid+1,T,rfl,⋯,E,λa J=>mono a mid ⋯ ⋯ u,m,⋯⟩
      |false=>
       rw[aH dj];refine bf ⟨rfl,rfl,G,mid,rfl,⋯,⋯,j,λa g d=>?_,⋯⟩;cases x:c3 S left o bL YF a with
       |false=>rfl
       |true=>rw[mono mid a g d x]at u;cases u
    ·rintro n p Yn ⟨q,t,G,T,rfl,z,E,j,m,A⟩;rw[q,t];dsimp only;have c:G=T:=⋯
     subst c;exact bf (e G E j m)
   ·rw[aH H];refine bl (ask (b+i) ⋯ _ ?_);dsimp only;cases u:c3 S left o bL YF (b+i) with
    |true=>
     simp only[rC,g_,f5];exact bf ⟨rfl,rfl,i,2*i+1,rfl,⋯,⋯,⋯,u⟩
    |false=>
     simp only[Bool.not_false,h7];apply bf;dsimp only;have y:=F last i z j m (.inr u);apply bl;apply gA;refine hr (λf n p Yn=>p=X/\Yn=h/\∃G T,n=(Y,G,T)/\G<=T/\T<=k/\(∀a,a<G->c3 S left o bL YF a=aa)/\(∀a,T<=a->a<k->c3 S left o bL YF a=au)/\T-G<=k-f) ?_ _ 0 _ _ _ ?_ ⟨rfl,rfl,_,_,rfl,y⟩
     ·rintro f n p Yn ⟨q,t,G,T,rfl,z,E,j,m,A⟩;rw[q,t];dsimp only;by_cases v:G >= T
      ·rw[aE v];apply bf;dsimp only;have c:G=T:=⋯
       subst c;exact bf (e G E j m)
      ·rw[aH v];have cm:G<=G+(T-G)/2:=⋯
       have C:G+(T-G)/2<T:=⋯
       generalize G+(T-G)/2=mid at cm C ⊢;refine bl (ask mid ⋯ _ ?_);dsimp only;cases u:c3 S left o bL YF mid with
       |true=>
        rw[aE rfl];exact bf ⟨rfl,rfl,mid+1,T,rfl,⋯,E,λa J=>mono a mid ⋯ ⋯ u,m,⋯⟩
       |false=>
        rw[aH dj];refine bf ⟨rfl,rfl,G,mid,rfl,⋯,⋯,j,λa g d=>?_,⋯⟩;cases x:c3 S left o bL YF a with
        |false=>rfl
        |true=>rw[mono mid a g d x]at u;cases u
     ·rintro n p Yn ⟨q,t,G,T,rfl,z,E,j,m,A⟩;rw[q,t];dsimp only;have c:G=T:=⋯
      subst c;exact bf (e G E j m)
  ·rintro n p Yn ⟨q,t,last,i,rfl,z,E,j,m⟩;rw[q,t];dsimp only;have y:=F last i z j m (.inl ⋯);apply bl;apply gA;refine hr (λf n p Yn=>p=X/\Yn=h/\∃G T,n=(Y,G,T)/\G<=T/\T<=k/\(∀a,a<G->c3 S left o bL YF a=aa)/\(∀a,T<=a->a<k->c3 S left o bL YF a=au)/\T-G<=k-f) ?_ _ 0 _ _ _ ?_ ⟨rfl,rfl,_,_,rfl,y⟩
   ·rintro f n p Yn ⟨q,t,G,T,rfl,z,E,j,m,A⟩;rw[q,t];dsimp only;by_cases v:G >= T
    ·rw[aE v];apply bf;dsimp only;have c:G=T:=⋯
     subst c;exact bf (e G E j m)
    ·rw[aH v];have cm:G<=G+(T-G)/2:=⋯
     have C:G+(T-G)/2<T:=⋯
     generalize G+(T-G)/2=mid at cm C ⊢;refine bl (ask mid ⋯ _ ?_);dsimp only;cases u:c3 S left o bL YF mid with
     |true=>
      rw[aE rfl];exact bf ⟨rfl,rfl,mid+1,T,rfl,⋯,E,λa J=>mono a mid ⋯ ⋯ u,m,⋯⟩
     |false=>
      rw[aH dj];refine bf ⟨rfl,rfl,G,mid,rfl,⋯,⋯,j,λa g d=>?_,⋯⟩;cases x:c3 S left o bL YF a with
      |false=>rfl
      |true=>rw[mono mid a g d x]at u;cases u
   ·rintro n p Yn ⟨q,t,G,T,rfl,z,E,j,m,A⟩;rw[q,t];dsimp only;have c:G=T:=⋯
    subst c;exact bf (e G E j m)
 |false=>
  rw[aH dj];apply bl;apply gA;have F:∀last i,last<i->last<=b->c3 S left o bL YF (b-last)=au->(i >= b+1\/c3 S left o bL YF (b-i)=aa)->
    b+1-min i (b+1)<=b-last/\b-last<=k/\(∀a,a<b+1-min i (b+1)->c3 S left o bL YF a=aa)/\(∀a,b-last<=a->a<k->c3 S left o bL YF a=au)/\b-last-(b+1-min i (b+1))<=k-0:=λlast i an Zi L D=>by
   refine⟨⋯,⋯,λa T=>?_,λa z E=>?_,⋯⟩
   ·rcases D with D|D
    ·lia
    ·exact mono a (b-i) ⋯ ⋯ D
   ·cases x:c3 S left o bL YF a with
    |false=>rfl
    |true=>rw[mono (b-last) a ⋯ E x]at L;cases L
  refine hr (λf n p Yn=>p=X/\Yn=h/\∃last i,n=(Y,last,i)/\last<i/\f<i/\last<=b/\c3 S left o bL YF (b-last)=au) ?_ _ 0 _ _ _ ?_ ⟨rfl,rfl,0,1,rfl,⋯,⋯,⋯,U⟩
  ·rintro f n p Yn ⟨q,t,last,i,rfl,z,E,j,m⟩;rw[q,t];dsimp only;by_cases H:i >= b+1
   ·rw[aE H];apply bf;dsimp only;have y:=F last i z j m (.inl H);apply bl;apply gA;refine hr (λf n p Yn=>p=X/\Yn=h/\∃G T,n=(Y,G,T)/\G<=T/\T<=k/\(∀a,a<G->c3 S left o bL YF a=aa)/\(∀a,T<=a->a<k->c3 S left o bL YF a=au)/\T-G<=k-f) ?_ _ 0 _ _ _ ?_ ⟨rfl,rfl,_,_,rfl,y⟩
    ·rintro f n p Yn ⟨q,t,G,T,rfl,z,E,j,m,A⟩;rw[q,t];dsimp only;by_cases v:G >= T
     ·rw[aE v];apply bf;dsimp only;have c:G=T:=⋯
      subst c;exact bf (e G E j m)
     ·rw[aH v];have cm:G<=G+(T-G)/2:=⋯
      have C:G+(T-G)/2<T:=⋯
      generalize G+(T-G)/2=mid at cm C ⊢;refine bl (ask mid ⋯ _ ?_);dsimp only;cases u:c3 S left o bL YF mid with
      |true=>
       rw[aE rfl];exact bf ⟨rfl,rfl,mid+1,T,rfl,⋯,E,λa J=>mono a mid ⋯ ⋯ u,m,⋯⟩
      |false=>
       rw[aH dj];refine bf ⟨rfl,rfl,G,mid,rfl,⋯,⋯,j,λa g d=>?_,⋯⟩;cases x:c3 S left o bL YF a with
       |false=>rfl
       |true=>rw[mono mid a g d x]at u;cases u
    ·rintro n p Yn ⟨q,t,G,T,rfl,z,E,j,m,A⟩;rw[q,t];dsimp only;have c:G=T:=⋯
     subst c;exact bf (e G E j m)
   ·rw[aH H];refine bl (ask (b-i) ⋯ _ ?_);dsimp only;cases u:c3 S left o bL YF (b-i) with
    |false=>
     rw[aH dj];exact bf ⟨rfl,rfl,i,2*i+1,rfl,⋯,⋯,⋯,u⟩
    |true=>
     rw[aE rfl];apply bf;dsimp only;have y:=F last i z j m (.inr u);apply bl;apply gA;refine hr (λf n p Yn=>p=X/\Yn=h/\∃G T,n=(Y,G,T)/\G<=T/\T<=k/\(∀a,a<G->c3 S left o bL YF a=aa)/\(∀a,T<=a->a<k->c3 S left o bL YF a=au)/\T-G<=k-f) ?_ _ 0 _ _ _ ?_ ⟨rfl,rfl,_,_,rfl,y⟩
     ·rintro f n p Yn ⟨q,t,G,T,rfl,z,E,j,m,A⟩;rw[q,t];dsimp only;by_cases v:G >= T
      ·rw[aE v];apply bf;dsimp only;have c:G=T:=⋯
       subst c;exact bf (e G E j m)
      ·rw[aH v];have cm:G<=G+(T-G)/2:=⋯
       have C:G+(T-G)/2<T:=⋯
       generalize G+(T-G)/2=mid at cm C ⊢;refine bl (ask mid ⋯ _ ?_);dsimp only;cases u:c3 S left o bL YF mid with
       |true=>
        rw[aE rfl];exact bf ⟨rfl,rfl,mid+1,T,rfl,⋯,E,λa J=>mono a mid ⋯ ⋯ u,m,⋯⟩
       |false=>
        rw[aH dj];refine bf ⟨rfl,rfl,G,mid,rfl,⋯,⋯,j,λa g d=>?_,⋯⟩;cases x:c3 S left o bL YF a with
        |false=>rfl
        |true=>rw[mono mid a g d x]at u;cases u
     ·rintro n p Yn ⟨q,t,G,T,rfl,z,E,j,m,A⟩;rw[q,t];dsimp only;have c:G=T:=⋯
      subst c;exact bf (e G E j m)
  ·rintro n p Yn ⟨q,t,last,i,rfl,z,E,j,m⟩;rw[q,t];dsimp only;have y:=F last i z j m (.inl ⋯);apply bl;apply gA;refine hr (λf n p Yn=>p=X/\Yn=h/\∃G T,n=(Y,G,T)/\G<=T/\T<=k/\(∀a,a<G->c3 S left o bL YF a=aa)/\(∀a,T<=a->a<k->c3 S left o bL YF a=au)/\T-G<=k-f) ?_ _ 0 _ _ _ ?_ ⟨rfl,rfl,_,_,rfl,y⟩
   ·rintro f n p Yn ⟨q,t,G,T,rfl,z,E,j,m,A⟩;rw[q,t];dsimp only;by_cases v:G >= T
    ·rw[aE v];apply bf;dsimp only;have c:G=T:=⋯
     subst c;exact bf (e G E j m)
    ·rw[aH v];have cm:G<=G+(T-G)/2:=⋯
     have C:G+(T-G)/2<T:=⋯
     generalize G+(T-G)/2=mid at cm C ⊢;refine bl (ask mid ⋯ _ ?_);dsimp only;cases u:c3 S left o bL YF mid with
     |true=>
      rw[aE rfl];exact bf ⟨rfl,rfl,mid+1,T,rfl,⋯,E,λa J=>mono a mid ⋯ ⋯ u,m,⋯⟩
     |false=>
      rw[aH dj];refine bf ⟨rfl,rfl,G,mid,rfl,⋯,⋯,j,λa g d=>?_,⋯⟩;cases x:c3 S left o bL YF a with
      |false=>rfl
      |true=>rw[mono mid a g d x]at u;cases u
   ·rintro n p Yn ⟨q,t,G,T,rfl,z,E,j,m,A⟩;rw[q,t];dsimp only;have c:G=T:=⋯
    subst c;exact bf (e G E j m)
end
section
variable{S:Nat->Int}
def cJ(S:Nat->Int)(t:List Nat):Prop:=(t.Pairwise λf H=>S f<=S H)
structure T3(S:Nat->Int)(v A:List Nat)(b:List Nat)(y D:Nat):Prop where
 perm:b.Perm (v.take y++A.take D)
 aL:cJ S (b++v.drop y)
 cY:cJ S (b++A.drop D)
 bL:y+1<v.length
 hB:D<A.length
variable{t k:List Nat}
def f_:cJ S (t++k)↔cJ S t/\cJ S k/\∀f∈t,∀H∈k,S f<=S H:=C1
def q3(t:List Nat)(a o:Nat):t.take a++(t.drop a).take o=t.take (a+o):=by rw[List.take_add]
variable{v A b:List Nat}{y D:Nat}
def um(o:Nat)(perm:b.Perm (v.take y++A.take D))(aL:cJ S (b++v.drop y))(cY:cJ S (b++A.drop D))(e:∀f∈(v.drop y).take o,∀H∈A.drop D,S f<=S H):
  (b++(v.drop y).take o).Perm (v.take (y+o)++A.take D)/\cJ S (b++(v.drop y).take o++v.drop (y+o))/\cJ S (b++(v.drop y).take o++A.drop D):=by
 refine⟨?_,?_,?_⟩
 ·rw[<-q3 v y o];refine (perm.append_right _).trans ?_;rw[bq,bq];exact d1 _ dy
 ·rw[bq,<-od,f7];exact aL
 ·rw[bq];have c:=f_.mp aL;have d:=f_.mp cY;refine f_.mpr ⟨c.1,f_.mpr ⟨c.2.1.sublist<|sY _ _,d.2.1,e⟩,λf g H a=>?_⟩;rcases eh.mp a with a|a
  ·exact c.2.2 f g H (oF a)
  ·exact d.2.2 f g H a
def z2(o:Nat)(perm:b.Perm (v.take y++A.take D))(aL:cJ S (b++v.drop y))(cY:cJ S (b++A.drop D))(e:∀f∈(A.drop D).take o,∀H∈v.drop y,S f<=S H):
  (b++(A.drop D).take o).Perm (v.take y++A.take (D+o))/\cJ S (b++(A.drop D).take o++v.drop y)/\cJ S (b++(A.drop D).take o++A.drop (D+o)):=by
 have:=um (v:=A) (A:=v) o (perm.trans dy) cY aL e;exact⟨this.1.trans dy,this.2.2,this.2.1⟩
variable{a:Nat}
def kI(e:a<t.length):(t.drop a).take 1=[t.getD a 0]:=by
 rw[jF e,cG,dz e];rfl
variable{H:Nat}
def kD(e:H∈t.drop a):∃r,a<=r/\r<t.length/\H=t.getD r 0:=by
 let⟨r,b,c⟩:=kF.mp e;have d:=b;rw[fg]at d;exact⟨a+r,⋯,⋯,by rw[<-c,p1];simp[List.getD,show a+r<t.length by lia]⟩
variable{o:Nat}
def qQ(e:H∈(t.drop a).take o):∃r,r<o/\a+r<t.length/\H=t.getD (a+r) 0:=by
 let⟨r,b,c⟩:=kF.mp e;have d:=b;rw[gx,fg]at d;exact⟨r,by omega,by omega,by rw[<-c,ui,p1];simp[List.getD,show a+r<t.length by omega]⟩
def o9(e:cJ S t){a r:Nat}(c:a<=r)(b:r<t.length):S (t.getD a 0)<=S (t.getD r 0):=by
 rcases Nat.lt_or_eq_of_le c with d|rfl
 ·have:=nT.mp e a r ⋯ b d;simpa [List.getD,b,show a<t.length by lia] using this
 ·exact hl _
theorem C7(e:cJ S (t++k)):cJ S k:=(f_.mp e).2.1
def qn{r:Nat}(e:cJ S (b++t.drop a))(c:a<=r)(d:r<=o)(f:o<t.length):S (t.getD r 0)<=S (t.getD o 0):=by
 have:=o9 (C7 e) (a:=r-a) (r:=o-a) ⋯ (by rw[fg];lia);simpa [List.getD,lq,show a+(r-a)=r by lia,show a+(o-a)=o by lia] using this
def hj(S:Nat->Int)(Yu:Array bk)(v A:List Nat)(out:Array bk):Prop:=(∃b:List Nat,out=(b.map<|bg Yu).toArray/\b.Perm (v++A)/\cJ S b)
variable{Yu:Array bk}
def r3(perm:b.Perm (v.take y++A.take D))(aL:cJ S (b++v.drop y))(cY:cJ S (b++A.drop D))(a:D=A.length\/y=v.length):
  hj S Yu v A ((b.map<|bg Yu).toArray++(v.map<|bg Yu).toArray.extract y (v.map<|bg Yu).toArray.size++(A.map<|bg Yu).toArray.extract D (A.map<|bg Yu).toArray.size):=by
 refine⟨b++v.drop y++A.drop D,?_,?_,?_⟩
 ·apply k0;simp[kc,vv]
 ·rw[bq];refine (perm.append_right _).trans ?_;have:(v.take y++A.take D++(v.drop y++A.drop D)).Perm ((v.take y++v.drop y)++(A.take D++A.drop D)):=by
   rw[bq,bq];refine d1 _ ?_;rw[<-bq,<-bq];exact fI _ dy
  rw[f7,f7]at this;exact this
 ·rcases a with c|c
  ·rw[c,zi,cA];exact aL
  ·rw[c,zi,cA];exact cY
def vr(perm:b.Perm (v.take y++A.take D))(aL:cJ S (b++v.drop y))(cY:cJ S (b++A.drop D))(d:y+1=v.length)(dR:∀f∈A,S f<=S (v.getD (v.length-1) 0)):
  hj S Yu v A ((b.map<|bg Yu).toArray++(A.map<|bg Yu).toArray.extract D (A.map<|bg Yu).toArray.size++(v.map<|bg Yu).toArray.extract y (v.map<|bg Yu).toArray.size):=by
 refine⟨b++A.drop D++v.drop y,?_,?_,?_⟩
 ·apply k0;simp[kc,vv]
 ·rw[bq];refine (perm.append_right _).trans ?_;have:(v.take y++A.take D++(A.drop D++v.drop y)).Perm ((v.take y++v.drop y)++(A.take D++A.drop D)):=by
   rw[bq,bq];refine d1 _ ?_;rw[<-bq];exact dy
  rw[f7,f7]at this;exact this
 ·refine f_.mpr ⟨cY,C7 aL,λf a H c=>?_⟩;rcases eh.mp a with a|a
  ·exact (f_.mp aL).2.2 f a H c
  ·let⟨@r,z,E,rfl⟩:=kD c;have:r=v.length-1:=⋯
   rw[this];exact dR f (m9 a)
end
section
variable{Yw:bO}{l:bh}{O:bA}{Yq:ab->ai->Prop}{YQ:hq}{Yu:Array bk}{S:Nat->Int}{w:Nat}{h:ai}
def Iu:Array bk->Array bk->StateT bD dA (Array bk):=(sortPriv% PySem.Builtin.mergeLo)
structure dI(s X:bD):Prop where
 k:kindOf X=kindOf s
 a:arrOf X=arrOf s
 p:iv X=iv s
 f:iC X=iC s
def dI.refl(X:bD):dI X X:=⟨rfl,rfl,rfl,rfl⟩
def iz{C YH:Type}{az:gW}{k:StateT C dA YH}{B a:YH->C->ai->Prop}{X:C}{Yn:ai}(e:kasC az O Yq k a X Yn)(J:∀g X Yn,a g X Yn->B g X Yn):kasC az O Yq k B X Yn:=
 g7 e (λs Yn f=>J s.1 s.2 Yn f) λ_ W c=>c
variable{t:List Nat}
def gL{a:Nat}(T:a<t.length){X:bD}{B:bk->bD->ai->Prop}(e:B (bg Yu<|t.getD a 0) X h):kasC (aN Yw l) O Yq (elem' (t.map<|bg Yu).toArray a) B X h:=by
 rw[wo,show ((t.map<|bg Yu).toArray)[a]?=Z (bg Yu<|t.getD a 0) by simp[List.getD,T]];exact bf e
def jZ(b:∀f∈t,f<w){a:Nat}(T:a<t.length):t.getD a 0<w:=by
 rw[cG,dz T];exact b _ (sN T)
def mP(t:List Nat)(a:Nat):t.toArray.getD a 0=t.getD a 0:=by simp[Array.getD,List.getD];split<;>simp_all
def Ak(c:gH w S (fX Yw l O YQ Yu) h){o:Nat}(i:o<w){t:List Nat}(j:∀f∈t,f<w){YF k b:Nat}(m:YF+k<=t.length)(n:b<k)(mono:∀a r,YF<=a->a<=r->r<YF+k->S (t.getD a 0)<=S (t.getD r 0)){X:bD}(p:kindOf X=YQ){B:Option Nat->bD->ai->Prop}(e:∀s,s<=k->(∀a,YF<=a->a<YF+s->S (t.getD a 0)<=S o)->(∀a,YF+s<=a->a<YF+k->S o<S (t.getD a 0))->B (Z s) X h):
  kasC (aN Yw l) O Yq (qr au (bg Yu o) (t.map<|bg Yu).toArray YF k b) B X h:=by
 rw[<-IW];refine E_ c i (λa T=>by rw[mP];exact jZ j ⇑T) ⇑m n (λa r v x q=>?_) p λs u g d=>e s u (λa z E=>?_) (λa z E=>?_)
 ·simp only[c3,mP,g_,f5,uV,BX,t9]at q ⊢;have:=mono (YF+a) (YF+r) ⋯ ⋯ ⋯;lia
 ·have:=g (a-YF) ⋯;simp only[c3,mP,g_,f5,uV,BX,t9]at this
  rwa [show YF+(a-YF)=a by lia]at this
 ·have:=d (a-YF) ⋯ ⋯;simp only[c3,mP,g_,f5,Bool.not_eq_false',wI]at this
  rwa [show YF+(a-YF)=a by lia]at this
def zX(c:gH w S (fX Yw l O YQ Yu) h){o:Nat}(i:o<w){t:List Nat}(j:∀f∈t,f<w){YF k b:Nat}(m:YF+k<=t.length)(n:b<k)(mono:∀a r,YF<=a->a<=r->r<YF+k->S (t.getD a 0)<=S (t.getD r 0)){X:bD}(p:kindOf X=YQ){B:Option Nat->bD->ai->Prop}(e:∀s,s<=k->(∀a,YF<=a->a<YF+s->S (t.getD a 0)<S o)->(∀a,YF+s<=a->a<YF+k->S o<=S (t.getD a 0))->B (Z s) X h):
  kasC (aN Yw l) O Yq (qr aa (bg Yu o) (t.map<|bg Yu).toArray YF k b) B X h:=by
 rw[<-IW];refine E_ c i (λa T=>by rw[mP];exact jZ j ⇑T) ⇑m n (λa r v x q=>?_) p λs u g d=>e s u (λa z E=>?_) (λa z E=>?_)
 ·simp only[c3,mP,h7,wI]at q ⊢;have:=mono (YF+a) (YF+r) ⋯ ⋯ ⋯;lia
 ·have:=g (a-YF) ⋯;simp only[c3,mP,h7,wI]at this
  rwa [show YF+(a-YF)=a by lia]at this
 ·have:=d (a-YF) ⋯ ⋯;simp only[c3,mP,h7,BX,t9]at this
  rwa [show YF+(a-YF)=a by lia]at this
def qb(b:List Nat)(H:Nat):(b.map<|bg Yu).toArray.push (bg Yu H)=((b++[H]).map<|bg Yu).toArray:=by simp
def Je(b t:List Nat)(a o:Nat):(b.map<|bg Yu).toArray++(t.map<|bg Yu).toArray.extract a (a+o)=((b++(t.drop a).take o).map<|bg Yu).toArray:=by
 apply k0;simp[kc,jO,sv]
end
section
variable{Yw:bO}{l:bh}{O:bA}{Yq:ab->ai->Prop}{YQ:hq}{Yu:Array bk}{S:Nat->Int}{w:Nat}{h:ai}
def iF(S:Nat->Int)(Yu:Array bk)(v A:List Nat)(out:Array bk)(y D:Nat):Prop:=(∃b:List Nat,out=(b.map<|bg Yu).toArray/\T3 S v A b y D)
variable{C YH:Type}
def Du{az:gW}{O:bA}{Yq:ab->ai->Prop}{n:Nat->Prop}{b:∀J,Decidable (n J)}{g YC:Nat->StateT C dA YH}{B:YH->C->ai->Prop}{X:C}{h:ai}(f:Nat->Nat)(a:∀J,g J=YC (f J))(j:∀J,kasC az O Yq (YC J) B X h):∀J,kasC az O Yq (if n J then g J else YC J) B X h:=by
 intro J;rw[a];split
 ·exact j _
 ·exact j _
variable{n:Prop}
def wk{az:gW}{O:bA}{Yq:ab->ai->Prop}{i:Decidable n}{b Zo:Array bk->Nat->StateT C dA YH}{B:YH->C->ai->Prop}{X:C}{h:ai}(c d:Array bk->Nat->Prop)(j:∀m a,d m a->kasC az O Yq (Zo m a) B X h)(f:¬ n->∀m a,c m a->d m a)(g:(∀m a,d m a->kasC az O Yq (Zo m a) B X h)->n->∀m a,c m a->kasC az O Yq (b m a) B X h):∀m a,c m a->kasC az O Yq (if n then b m a else Zo m a) B X h:=λm a q=>
 if e:n then by rw[aE e];exact g j e m a q else by rw[aH e];exact j m a (f e m a q)
def KR{az:gW}{O:bA}{Yq:ab->ai->Prop}{F:bD->bD}{B:PUnit->bD->ai->Prop}{s X:bD}{h:ai}(Ys:dI s (F X))(e:∀a,dI s a->B ⟨⟩ a h):kasC az O Yq (modify F:StateT bD dA PUnit) B X h:=kW (e _ Ys)
def tV(S:Nat->Int)(Yu:Array bk)(v A:List Nat)(X:bD)(h:ai): Option (Array bk)×Array bk×Nat×Nat×Nat->bD->ai->Prop:=(λn b Yn=>h=Yn/\dI X b/\∃a q p s J,n=(Z a,q,p,s,J)/\hj S Yu v A a)
def th(S:Nat->Int)(Yu:Array bk)(v A:List Nat)(X:bD)(h:ai)(f:Nat):Option (Array bk)×Array bk×Nat×Nat×Nat->bD->ai->Prop:=(λn a Yn=>h=Yn/\dI X a/\∃m y D J,n=(Y,m,y,D,J)/\iF S Yu v A m y D/\f+1<=y+D)
def lY(S:Nat->Int)(Yu:Array bk)(v A:List Nat)(X:bD)(h:ai)(f:Nat):Option (Array bk)×Array bk×Nat×Nat×Nat×Nat->bD->ai->Prop:=(λn c Yn=>h=Yn/\dI X c/\((∃b q p s ac a,n=(Z b,q,p,s,ac,a)/\hj S Yu v A b)\/∃m y D ac a,n=(Y,m,y,D,ac,a)/\iF S Yu v A m y D/\f+2<=y+D))
def qN(S:Nat->Int)(Yu:Array bk)(v A:List Nat)(X:bD)(h:ai)(f H:Nat):Option (Array bk)×Array bk×Nat×Nat×Nat×Nat->bD->ai->Prop:=(λn a Yn=>h=Yn/\dI X a/\∃m y D ac b,n=(Y,m,y,D,ac,b)/\iF S Yu v A m y D/\f+1+H<=y+D)
def kg(S:Nat->Int)(Yu:Array bk)(v A:List Nat)(X:bD)(h:ai)(f:Nat):Option (Array bk)×Array bk×Nat×Nat×Nat×Nat×Nat->bD->ai->Prop:=(λn c Yn=>h=Yn/\dI X c/\((∃b q p s J ac a,n=(Z b,q,p,s,J,ac,a)/\hj S Yu v A b)\/∃m y D J ac a,n=(Y,m,y,D,J,ac,a)/\iF S Yu v A m y D/\f+2<=y+D))
def sb(S:Nat->Int)(Yu:Array bk)(v A:List Nat)(X:bD)(h:ai)(f H:Nat):Option (Array bk)×Array bk×Nat×Nat×Nat×Nat×Nat->bD->ai->Prop:=(λn a Yn=>h=Yn/\dI X a/\∃m y D J ac b,n=(Y,m,y,D,J,ac,b)/\iF S Yu v A m y D/\f+2<=y+D)
def tV.a{S:Nat->Int}{Yu:Array bk}{v A:List Nat}{X b:bD}{h:ai}{out:Array bk}{q:Array bk}{p s:Nat}{J:Nat}(e:dI X b)(k:hj S Yu v A out):tV S Yu v A X h (Z out,q,p,s,J) b h:=⟨rfl,e,_,_,_,_,_,rfl,k⟩
def th.k{S:Nat->Int}{Yu:Array bk}{v A:List Nat}{X a:bD}{h:ai}{f:Nat}{m:Array bk}{y D:Nat}{J:Nat}(e:dI X a)(r:iF S Yu v A m y D)(c:f+1<=y+D):th S Yu v A X h f (Y,m,y,D,J) a h:=⟨rfl,e,_,_,_,_,rfl,r,c⟩
def lY.a{S:Nat->Int}{Yu:Array bk}{v A:List Nat}{X b:bD}{h:ai}{f:Nat}{out:Array bk}{q:Array bk}{p s:Nat}{J c:Nat}(e:dI X b)(k:hj S Yu v A out):lY S Yu v A X h f (Z out,q,p,s,J,c) b h:=⟨rfl,e,.inl ⟨_,_,_,_,_,_,rfl,k⟩⟩
def lY.b{S:Nat->Int}{Yu:Array bk}{v A:List Nat}{X a:bD}{h:ai}{f:Nat}{m:Array bk}{y D:Nat}{J g:Nat}(e:dI X a)(r:iF S Yu v A m y D)(c:f+2<=y+D):lY S Yu v A X h f (Y,m,y,D,J,g) a h:=⟨rfl,e,.inr ⟨_,_,_,_,_,rfl,r,c⟩⟩
def qN.k{S:Nat->Int}{Yu:Array bk}{v A:List Nat}{X a:bD}{h:ai}{f H:Nat}{m:Array bk}{y D:Nat}{J b:Nat}(e:dI X a)(r:iF S Yu v A m y D)(c:f+1+H<=y+D):qN S Yu v A X h f H (Y,m,y,D,J,b) a h:=⟨rfl,e,_,_,_,_,_,rfl,r,c⟩
def kg.a{S:Nat->Int}{Yu:Array bk}{v A:List Nat}{X b:bD}{h:ai}{f:Nat}{out:Array bk}{q:Array bk}{p s:Nat}{J c d:Nat}(e:dI X b)(k:hj S Yu v A out):kg S Yu v A X h f (Z out,q,p,s,J,c,d) b h:=⟨rfl,e,.inl ⟨_,_,_,_,_,_,_,rfl,k⟩⟩
def kg.b{S:Nat->Int}{Yu:Array bk}{v A:List Nat}{X a:bD}{h:ai}{f:Nat}{m:Array bk}{y D:Nat}{J g i:Nat}(e:dI X a)(r:iF S Yu v A m y D)(c:f+2<=y+D):kg S Yu v A X h f (Y,m,y,D,J,g,i) a h:=⟨rfl,e,.inr ⟨_,_,_,_,_,_,rfl,r,c⟩⟩
def sb.k{S:Nat->Int}{Yu:Array bk}{v A:List Nat}{X a:bD}{h:ai}{f H:Nat}{m:Array bk}{y D:Nat}{J b d:Nat}(e:dI X a)(r:iF S Yu v A m y D)(c:f+2<=y+D):sb S Yu v A X h f H (Y,m,y,D,J,b,d) a h:=⟨rfl,e,_,_,_,_,_,_,rfl,r,c⟩
def LO{g d:Nat}(e:g=d):(g==d)=aa:=by simp[e]
def Sj{g d:Nat}(e:¬ g=d):¬ (g==d)=aa:=by simp[e]
def mO{az:gW}{O:bA}{Yq:ab->ai->Prop}{g:Nat}{t:List Nat}{f H:StateT C dA YH}{B:YH->C->ai->Prop}{X:C}{h:ai}(bG:g=t.length->kasC az O Yq f B X h)(a:¬ g=t.length->kasC az O Yq H B X h):kasC az O Yq (if (g==(List.map (bg Yu) t).toArray.size)=aa then f else H) B X h:=by
 rw[show (List.map (bg Yu) t).toArray.size=t.length by simp];by_cases e:g=t.length
 ·rw[aE (LO e)];exact bG e
 ·rw[aH (Sj e)];exact a e
def mH{az:gW}{O:bA}{Yq:ab->ai->Prop}{b:Decidable n}{f H:StateT C dA YH}{B:YH->C->ai->Prop}{X:C}{h:ai}(bG:n->kasC az O Yq f B X h)(a:¬ n->kasC az O Yq H B X h):kasC az O Yq (if n then f else H) B X h:=if e:n then by rw[aE e];exact bG e else by rw[aH e];exact a e
def VC(b:gH w S (fX Yw l O YQ Yu) h){o:Nat}(c:o<w){t:List Nat}(i:∀f∈t,f<w){YF:Nat}(m:YF<t.length)(mono:∀a r,YF<=a->a<=r->r<t.length->S (t.getD a 0)<=S (t.getD r 0)){X:bD}(j:kindOf X=YQ){B:Option Nat->bD->ai->Prop}(e:∀s,YF+s<=t.length->(∀a,YF<=a->a<YF+s->S (t.getD a 0)<=S o)->(∀a,YF+s<=a->a<t.length->S o<S (t.getD a 0))->B (Z s) X h):
  kasC (aN Yw l) O Yq (qr au (bg Yu o) (t.map<|bg Yu).toArray YF ((t.map<|bg Yu).toArray.size-YF) 0) B X h:=by
 rw[show (t.map<|bg Yu).toArray.size=t.length by simp];exact Ak b c i ⋯ ⋯ (λa r g d n=>mono a r g d ⋯) j λs z E k=>e s ⋯ E λa g d=>k a g ⋯
def MH(b:gH w S (fX Yw l O YQ Yu) h){o:Nat}(c:o<w){t:List Nat}(i:∀f∈t,f<w){YF:Nat}(m:YF<t.length)(mono:∀a r,YF<=a->a<=r->r<t.length->S (t.getD a 0)<=S (t.getD r 0)){X:bD}(j:kindOf X=YQ){B:Option Nat->bD->ai->Prop}(e:∀s,YF+s<=t.length->(∀a,YF<=a->a<YF+s->S (t.getD a 0)<S o)->(∀a,YF+s<=a->a<t.length->S o<=S (t.getD a 0))->B (Z s) X h):
  kasC (aN Yw l) O Yq (qr aa (bg Yu o) (t.map<|bg Yu).toArray YF ((t.map<|bg Yu).toArray.size-YF) 0) B X h:=by
 rw[show (t.map<|bg Yu).toArray.size=t.length by simp];exact zX b c i ⋯ ⋯ (λa r g d n=>mono a r g d ⋯) j λs z E k=>e s ⋯ E λa g d=>k a g ⋯
def VA(a2:gH w S (fX Yw l O YQ Yu) h){v A:List Nat}(bd:∀f∈v,f<w)(be:∀f∈A,f<w)(eq:cJ S v)(ev:cJ S A)(hd:0<v.length)(z:0<A.length)(first:∀f∈v,S (A.getD 0 0)<=S f)(dR:∀f∈A,S f<=S (v.getD (v.length-1) 0)){X:bD}(ca:kindOf X=YQ){B:Array bk->bD->ai->Prop}(e:∀out E,hj S Yu v A out->dI X E->B out E h):
  kasC (aN Yw l) O Yq (Iu (v.map<|bg Yu).toArray (A.map<|bg Yu).toArray) B X h:=by
 have bi:[A.getD 0 0].Perm (v.take 0++A.take 1):=by
  have:=kI (t:=A) (a:=0) z;simp only[lx]at this;rw[this];exact List.Perm.refl _
 have bm:cJ S ([A.getD 0 0]++A.drop 1):=by
  have:=kI (t:=A) (a:=0) z;simp only[lx]at this;rw[<-this,f7];exact ev
 have bn:cJ S ([A.getD 0 0]++v.drop 0):=f_.mpr ⟨f9 _ _,by rw[lx];exact eq,λf c H u=>by
  rw[cX.mp c];exact first H (by rwa [lx]at u)⟩
 have he:(List.map (bg Yu) v).toArray.size=v.length:=by simp
 have hf:(List.map (bg Yu) A).toArray.size=A.length:=by simp
 unfold Iu;with_unfolding_all refine bl (om<|iJ ?_);refine bl (gL z ?_);refine mO (λcd=>bf<|e _ _ (r3 bi bn bm<|.inl cd)<|dI.refl X) λcd=>?_;refine mO (λce=>bf<|e _ _ (vr bi bn bm ce dR)<|dI.refl X) λce=>?_;refine bl (km ?_);refine bl (iz (a:=tV S Yu v A X h) (gA (hr (th S Yu v A X h) ?step _ 0 _ _ _ ?fin (th.k (dI.refl X) ⟨_,rfl,bi,bn,bm,⋯,⋯⟩ ⋯))) ?after)
 case after=>
  rintro n E Yn ⟨rfl,Ys,ci,m,y,D,J,rfl,al⟩;exact bf (e _ _ al Ys)
 case fin=>
  rintro n E Yn ⟨rfl,Ys,m,y,D,J,rfl,⟨b,rfl,k⟩,c⟩;have:=k.bL;have:=k.hB;lia
 case step=>
  rintro f n E Yn ⟨rfl,Ys,m,y,D,J,rfl,G,c⟩;refine bl (iz (a:=lY S Yu v A X h f)
   (gA (hr (qN S Yu v A X h f) ?ex _ 0 _ _ _ ?fd (qN.k Ys G ⋯))) ?fn)
  case fd=>
   rintro n E Yn ⟨rfl,Ys,m,y,D,ac,Q,rfl,G,c⟩;exact lY.b Ys G ⋯
  case ex=>
   rintro H n E Yn ⟨rfl,Ys,m,y,D,ac,Q,rfl,⟨b,rfl,k⟩,c⟩;have cm:=k.bL;have x:=k.hB;have as:kindOf E=YQ:=Ys.k.trans ca;have C:y<v.length:=⋯
   have aQ:S (A.getD D 0)<S (v.getD y 0)->(b++[A.getD D 0]).Perm (v.take y++A.take (D+1))/\cJ S (b++[A.getD D 0]++v.drop y)/\cJ S (b++[A.getD D 0]++A.drop (D+1)):=λam=>by
    have:=z2 1 k.perm k.aL k.cY (λf c H u=>by
     rw[kI x,cX]at c;let⟨@r,I,R,rfl⟩:=kD u;have:=qn k.aL (bp _) I R;rw[c];lia)
    rwa [kI x]at this
   have aS:¬ S (A.getD D 0)<S (v.getD y 0)->(b++[v.getD y 0]).Perm (v.take (y+1)++A.take D)/\cJ S (b++[v.getD y 0]++v.drop (y+1))/\cJ S (b++[v.getD y 0]++A.drop D):=λam=>by
    have:=um 1 k.perm k.aL k.cY (λf c H u=>by
     rw[kI C,cX]at c;let⟨@r,I,R,rfl⟩:=kD u;have:=qn k.cY (bp _) I R;rw[c];lia)
    rwa [kI C]at this
   refine bl (gL x<|bl<|gL C<|bl<|t2 a2 (jZ be x) (jZ bd C) as ?_);refine mH (λam=>?_) λam=>?_
   ·have d:=aQ ⇑am;refine bl (gL x (mO (λM=>bf (lY.a Ys (by rw[qb];exact r3 d.1 d.2.1 d.2.2 (.inl M)))) λM=>?_));have N:iF S Yu v A ((b.map<|bg Yu).toArray.push<|bg Yu<|A.getD D 0) y (D+1):=⟨_,qb _ _,d.1,d.2.1,d.2.2,cm,⋯⟩;exact mH (λ_=>bf (lY.b Ys N ⋯)) λ_=>bf (qN.k Ys N ⋯)
   ·have d:=aS ⇑am;refine bl (gL C (mO (λM=>bf (lY.a Ys (by rw[qb];exact vr d.1 d.2.1 d.2.2 M dR))) λM=>?_));have N:iF S Yu v A ((b.map<|bg Yu).toArray.push<|bg Yu<|v.getD y 0) (y+1) D:=⟨_,qb _ _,d.1,d.2.1,d.2.2,⋯,x⟩;exact mH (λ_=>bf (lY.b Ys N ⋯)) λ_=>bf (qN.k Ys N ⋯)
  case fn=>
   rintro n E Yn ⟨rfl,Ys,⟨ci,m,y,D,ac,Q,rfl,al⟩|⟨m,y,D,ac,Q,rfl,G,c⟩⟩
   ·exact bf (tV.a Ys al)
   ·refine bl (om<|iJ ?_);refine bl (iz (a:=kg S Yu v A X h f)
     (gA (hr (sb S Yu v A X h f) ?fr _ 0 _ _ _ ?fin2 (sb.k Ys G ⋯))) ?f0)
    case fin2=>
     rintro n E Yn ⟨rfl,Ys,m,y,D,J,ac,Q,rfl,G,c⟩;exact kg.b Ys G ⋯
    case f0=>
     rintro n E Yn ⟨rfl,Ys,⟨ci,m,y,D,J,ac,Q,rfl,al⟩|⟨m,y,D,J,ac,Q,rfl,G,c⟩⟩
     ·exact bf (tV.a Ys al)
     ·refine bl (kW ?_);exact bf (th.k ⟨Ys.k,Ys.a,Ys.p,Ys.f⟩ G ⋯)
    case fr=>
     rintro H n E Yn ⟨rfl,Ys,m,y,D,J,ac,Q,rfl,⟨b,cl,k⟩,c⟩;have cm:=k.bL;have x:=k.hB;dsimp only;revert J;refine Du (λJ=>J-1) ?C ?_
     case C=>exact λJ=>rfl
     intro J;refine bl (KR (s:=X) ⟨Ys.k,Ys.a,Ys.p,Ys.f⟩ λhm P=>?_);have as:=P.k.trans ca;refine bl (gL x ?_);refine bl (VC a2 (jZ be x) bd (show y<v.length by lia) (λa r g d n=>qn k.aL g d n) as ?_);intro o hw f4 co;dsimp only;generalize an:m=Y7;generalize ap:y=a;have YC:Y7=m/\a=y:=⟨an.symm,ap.symm⟩;clear an ap;revert Y7 a;refine wk (λY7 a=>Y7=m/\a=y) (λY7 a=>iF S Yu v A Y7 a D/\y<=a/\∀r,a<=r->r<v.length->S (A.getD D 0)<S (v.getD r 0)) ?Yx ?f1 ?f8
     case f1=>
      rintro ga Y7 a ⟨rfl,rfl⟩;exact⟨⟨b,cl,k⟩,bp _,λr g d=>co r ⋯ d⟩
     case f8=>
      rintro j _ Y7 a ⟨rfl,rfl⟩;try dsimp only
      have L:=um o k.perm k.aL k.cY (λf c H u=>by
       let⟨@r,ge,I,rfl⟩:=qQ c;let⟨@gl,bs,Zi,rfl⟩:=kD u;have:=f4 (a+r) ⋯ ⋯;have:=qn k.cY (bp _) bs Zi;lia)
      rw[cl,Je];refine mO (λM=>bf<|kg.a P<|vr L.1 L.2.1 L.2.2 M dR) λM=>?_;refine mO (λcr=>bf<|kg.a P<|r3 L.1 L.2.1 L.2.2<|.inr cr) λcr=>?_;exact j _ _ ⟨⟨_,rfl,L.1,L.2.1,L.2.2,⋯,x⟩,⋯,λr g d=>co r g d⟩
     case Yx=>
      rintro Y7 a ⟨⟨b,rfl,k⟩,le,go⟩;have cm:=k.bL;try dsimp only
      refine bl (gL x ?_);have Y6:=z2 1 k.perm k.aL k.cY (λf c H u=>by
       rw[kI x,cX]at c;let⟨@r,I,R,rfl⟩:=kD u;have:=go r I R;rw[c];lia)
      rw[kI x]at Y6;rw[qb];refine mO (λcs=>bf<|kg.a P<|r3 Y6.1 Y6.2.1 Y6.2.2<|.inl cs) λcs=>?_;have C:a<v.length:=⋯
      refine bl (gL C ?_);refine bl (MH a2 (jZ bd C) be (show D+1<A.length by lia) (λa r g d n=>qn Y6.2.2 g d n) as ?_);intro YR h0 gt db;dsimp only;generalize b++[A.getD D 0]=bv at *;generalize ii:D+1=a1 at *;generalize an:(List.map (bg Yu) bv).toArray=Y7;generalize ap:a1=r;have YC:Y7=(List.map (bg Yu) bv).toArray/\r=a1:=⟨an.symm,ap.symm⟩;clear an ap;revert Y7 r;refine wk (λY7 r=>Y7=(List.map (bg Yu) bv).toArray/\r=a1) (λY7 r=>iF S Yu v A Y7 a r/\a1<=r/\∀i,r<=i->i<A.length->S (v.getD a 0)<=S (A.getD i 0)) ?YO ?f2 ?g1
      case f2=>
       rintro ga Y7 r ⟨rfl,rfl⟩;exact⟨⟨_,rfl,Y6.1,Y6.2.1,Y6.2.2,cm,⋯⟩,bp _,λi g d=>db i ⋯ d⟩
      case g1=>
       rintro j _ Y7 r ⟨rfl,rfl⟩;try dsimp only
       have U:=z2 YR Y6.1 Y6.2.1 Y6.2.2 (λf c H u=>by
        let⟨@i,ge,I,rfl⟩:=qQ c;let⟨@gl,bs,Zi,rfl⟩:=kD u;have:=gt (r+i) ⋯ ⋯;have:=qn Y6.2.1 (bp _) bs Zi;lia)
       rw[Je];refine mO (λds=>bf<|kg.a P<|r3 U.1 U.2.1 U.2.2<|.inl ds) λds=>?_;exact j _ _ ⟨⟨_,rfl,U.1,U.2.1,U.2.2,cm,⋯⟩,⋯,λi g d=>db i g d⟩
      case YO=>
       rintro Y7 r ⟨⟨b,rfl,k⟩,lO,g2⟩;have g3:=k.hB;try dsimp only
       refine bl (gL C ?_);have T:=um 1 k.perm k.aL k.cY (λf c H u=>by
        rw[kI C,cX]at c;let⟨@i,I,R,rfl⟩:=kD u;rw[c];exact g2 i I R)
       rw[kI C]at T;rw[qb];refine mO (λdL=>bf<|kg.a P<|vr T.1 T.2.1 T.2.2 dL dR) λdL=>?_;have N:iF S Yu v A ((b++[v.getD a 0]).map<|bg Yu).toArray (a+1) r:=⟨_,rfl,T.1,T.2.1,T.2.2,⋯,g3⟩;exact mH (λ_=>bf (kg.b P N ⋯)) λ_=>bf (sb.k P N ⋯)
end
section
variable{Yw:bO}{l:bh}{O:bA}{Yq:ab->ai->Prop}{YQ:hq}{Yu:Array bk}{S:Nat->Int}{w:Nat}{h:ai}
def IJ:Array bk->Array bk->StateT bD dA (Array bk):=(sortPriv% PySem.Builtin.mergeHi)
variable{t:List Nat}{a r:Nat}
def AY(b:a<=r)(d:r<=t.length):t.drop a=(t.take r).drop a++t.drop r:=by
 have c:t.drop a=(t.take r++t.drop r).drop a:=by rw[f7]
 rw[c,List.drop_append_of_le_length (by rw[gx];lia)]
def PD(b:a<=r):t.take a++(t.take r).drop a=t.take r:=by
 have:=f7 a (t.take r)
 rwa [u3,qF b]at this
variable{v A k:List Nat}{C x:Nat}
def v_(o:Nat)(d:o<=C)(h:C<=v.length)(perm:k.Perm (v.drop C++A.drop x))(aL:cJ S (v.take C++k))(cY:cJ S (A.take x++k))(e:∀f∈(v.take C).drop o,∀H∈A.take x,S H<=S f):
  ((v.take C).drop o++k).Perm (v.drop o++A.drop x)/\cJ S (v.take o++((v.take C).drop o++k))/\cJ S (A.take x++((v.take C).drop o++k)):=by
 refine⟨?_,?_,?_⟩
 ·rw[AY d h,bq];exact d1 _ perm
 ·rw[<-bq,PD d];exact aL
 ·have g:=f_.mp aL;have c:=f_.mp cY;refine f_.mpr ⟨c.1,f_.mpr ⟨g.1.sublist<|xy _ _,c.2.1,λf b H a=>g.2.2 f (m9 b) H a⟩,λf b H a=>?_⟩;rcases eh.mp a with a|a
  ·exact e H a f b
  ·exact c.2.2 f b H a
def zz(o:Nat)(a:o<=x)(b:x<=A.length)(perm:k.Perm (v.drop C++A.drop x))(aL:cJ S (v.take C++k))(cY:cJ S (A.take x++k))(e:∀f∈(A.take x).drop o,∀H∈v.take C,S H<=S f):
  ((A.take x).drop o++k).Perm (v.drop C++A.drop o)/\cJ S (v.take C++((A.take x).drop o++k))/\cJ S (A.take o++((A.take x).drop o++k)):=by
 have:=v_ (v:=A) (A:=v) o a b (perm.trans dy) cY aL e;exact⟨this.1.trans dy,this.2.2,this.2.1⟩
def mu(b:0<a)(e:a<=t.length):(t.take a).drop (a-1)=[t.getD (a-1) 0]:=by
 rw[sv,show a-(a-1)=1 by lia];exact kI ⋯
variable{H:Nat}
def ma(e:H∈t.take a):∃r,r<a/\r<t.length/\H=t.getD r 0:=by
 have:=qQ (a:=0) (o:=a) (H:=H) (t:=t) (by rwa [lx]);let⟨@r,g,d,c⟩:=this;exact⟨r,g,⋯,by rw[c];congr 1;lia⟩
variable{o:Nat}
def K9(e:H∈(t.take o).drop a):∃r,a<=r/\r<o/\r<t.length/\H=t.getD r 0:=by
 rw[sv]at e;let⟨@r,g,d,c⟩:=qQ e;exact⟨a+r,⋯,⋯,d,c⟩
def qa(e:cJ S (t.take a++k))(b:r<=o)(c:o<a)(d:o<t.length):S (t.getD r 0)<=S (t.getD o 0):=by
 have:=o9 (f_.mp e).1 (a:=r) (r:=o) b (by rw[gx];lia);simpa [List.getD,mI,show r<a by lia,c] using this
def t4(perm:k.Perm (v.drop C++A.drop x))(aL:cJ S (v.take C++k))(cY:cJ S (A.take x++k))(a:C=0\/x=0):
  hj S Yu v A ((v.map<|bg Yu).toArray.extract 0 C++(A.map<|bg Yu).toArray.extract 0 x++(k.reverse.map<|bg Yu).toArray.reverse):=by
 refine⟨v.take C++A.take x++k,?_,?_,?_⟩
 ·apply k0;simp[jO]
 ·refine (d1 _ perm).trans ?_;have:(v.take C++A.take x++(v.drop C++A.drop x)).Perm ((v.take C++v.drop C)++(A.take x++A.drop x)):=by
   rw[bq,bq];refine d1 _ ?_;rw[<-bq,<-bq];exact fI _ dy
  rw[f7,f7]at this;exact this
 ·rcases a with c|c
  ·rw[c,uY,ih];exact cY
  ·rw[c,uY,cA];exact aL
def wD(perm:k.Perm (v.drop C++A.drop x))(aL:cJ S (v.take C++k))(cY:cJ S (A.take x++k))(c:x=1)(first:∀f∈v,S (A.getD 0 0)<=S f):
  hj S Yu v A ((A.map<|bg Yu).toArray.extract 0 x++(v.map<|bg Yu).toArray.extract 0 C++(k.reverse.map<|bg Yu).toArray.reverse):=by
 refine⟨A.take x++v.take C++k,?_,?_,?_⟩
 ·apply k0;simp[jO]
 ·refine (d1 _ perm).trans ?_;have:(A.take x++v.take C++(v.drop C++A.drop x)).Perm ((v.take C++v.drop C)++(A.take x++A.drop x)):=by
   rw[bq,<-bq (v.take C),<-bq (v.take C++v.drop C)];rw[<-bq (A.take x)];exact fI _ dy
  rw[f7,f7]at this;exact this
 ·rw[bq];refine f_.mpr ⟨(f_.mp cY).1,aL,λf b H a=>?_⟩;rcases eh.mp a with a|a
  ·let⟨@r,z,E,rfl⟩:=ma b;have:r=0:=⋯
   rw[this];exact first H (oF a)
  ·exact (f_.mp cY).2.2 f b H a
def qj(k:List Nat)(H:Nat):(k.reverse.map<|bg Yu).toArray.push (bg Yu H)=(([H]++k).reverse.map<|bg Yu).toArray:=by simp
def IE(k t:List Nat)(a o:Nat):(k.reverse.map<|bg Yu).toArray++((t.map<|bg Yu).toArray.extract a o).reverse=(((t.take o).drop a++k).reverse.map<|bg Yu).toArray:=by
 apply k0;simp[kc,jO,sv]
structure Wz(S:Nat->Int)(v A:List Nat)(k:List Nat)(C x:Nat):Prop where
 perm:k.Perm (v.drop C++A.drop x)
 aL:cJ S (v.take C++k)
 cY:cJ S (A.take x++k)
 bL:0<C
 hB:1<x
 zL:C<=v.length
 A5:x<=A.length
def iK(S:Nat->Int)(Yu:Array bk)(v A:List Nat)(out:Array bk)(C x:Nat):Prop:=(∃k:List Nat,out=(k.reverse.map<|bg Yu).toArray/\Wz S v A k C x)
end
section
variable{Yw:bO}{l:bh}{O:bA}{Yq:ab->ai->Prop}{YQ:hq}{Yu:Array bk}{S:Nat->Int}{w:Nat}{h:ai}
def tL(S:Nat->Int)(Yu:Array bk)(v A:List Nat)(X:bD)(h:ai): Option (Array bk)×Nat×Nat×Array bk×Nat->bD->ai->Prop:=(λn b Yn=>h=Yn/\dI X b/\∃a q p s J,n=(Z a,q,p,s,J)/\hj S Yu v A a)
def tP(S:Nat->Int)(Yu:Array bk)(v A:List Nat)(X:bD)(h:ai)(f:Nat):Option (Array bk)×Nat×Nat×Array bk×Nat->bD->ai->Prop:=(λn a Yn=>h=Yn/\dI X a/\∃C x m J,n=(Y,C,x,m,J)/\iK S Yu v A m C x/\C+x+f+1<=v.length+A.length)
def lN(S:Nat->Int)(Yu:Array bk)(v A:List Nat)(X:bD)(h:ai)(f:Nat):Option (Array bk)×Nat×Nat×Array bk×Nat×Nat->bD->ai->Prop:=(λn c Yn=>h=Yn/\dI X c/\((∃b q p s ac a,n=(Z b,q,p,s,ac,a)/\hj S Yu v A b)\/∃C x m ac a,n=(Y,C,x,m,ac,a)/\iK S Yu v A m C x/\C+x+f+2<=v.length+A.length))
def rv(S:Nat->Int)(Yu:Array bk)(v A:List Nat)(X:bD)(h:ai)(f H:Nat):Option (Array bk)×Nat×Nat×Array bk×Nat×Nat->bD->ai->Prop:=(λn a Yn=>h=Yn/\dI X a/\∃C x m ac b,n=(Y,C,x,m,ac,b)/\iK S Yu v A m C x/\C+x+f+1+H<=v.length+A.length)
def jX(S:Nat->Int)(Yu:Array bk)(v A:List Nat)(X:bD)(h:ai)(f:Nat):Option (Array bk)×Nat×Nat×Array bk×Nat×Nat×Nat->bD->ai->Prop:=(λn c Yn=>h=Yn/\dI X c/\((∃b q p s J ac a,n=(Z b,q,p,s,J,ac,a)/\hj S Yu v A b)\/∃C x m J ac a,n=(Y,C,x,m,J,ac,a)/\iK S Yu v A m C x/\C+x+f+2<=v.length+A.length))
def tD(S:Nat->Int)(Yu:Array bk)(v A:List Nat)(X:bD)(h:ai)(f H:Nat):Option (Array bk)×Nat×Nat×Array bk×Nat×Nat×Nat->bD->ai->Prop:=(λn a Yn=>h=Yn/\dI X a/\∃C x m J ac b,n=(Y,C,x,m,J,ac,b)/\iK S Yu v A m C x/\C+x+f+2<=v.length+A.length)
def tL.a{S:Nat->Int}{Yu:Array bk}{v A:List Nat}{X b:bD}{h:ai}{out:Array bk}{q p:Nat}{s:Array bk}{J:Nat}(e:dI X b)(k:hj S Yu v A out):tL S Yu v A X h (Z out,q,p,s,J) b h:=⟨rfl,e,_,_,_,_,_,rfl,k⟩
def tP.k{S:Nat->Int}{Yu:Array bk}{v A:List Nat}{X a:bD}{h:ai}{f:Nat}{C x:Nat}{m:Array bk}{J:Nat}(e:dI X a)(r:iK S Yu v A m C x)(c:C+x+f+1<=v.length+A.length):tP S Yu v A X h f (Y,C,x,m,J) a h:=⟨rfl,e,_,_,_,_,rfl,r,c⟩
def lN.a{S:Nat->Int}{Yu:Array bk}{v A:List Nat}{X b:bD}{h:ai}{f:Nat}{out:Array bk}{q p:Nat}{s:Array bk}{J c:Nat}(e:dI X b)(k:hj S Yu v A out):lN S Yu v A X h f (Z out,q,p,s,J,c) b h:=⟨rfl,e,.inl ⟨_,_,_,_,_,_,rfl,k⟩⟩
def lN.b{S:Nat->Int}{Yu:Array bk}{v A:List Nat}{X a:bD}{h:ai}{f:Nat}{C x:Nat}{m:Array bk}{J g:Nat}(e:dI X a)(r:iK S Yu v A m C x)(c:C+x+f+2<=v.length+A.length):lN S Yu v A X h f (Y,C,x,m,J,g) a h:=⟨rfl,e,.inr ⟨_,_,_,_,_,rfl,r,c⟩⟩
def rv.k{S:Nat->Int}{Yu:Array bk}{v A:List Nat}{X a:bD}{h:ai}{f H:Nat}{C x:Nat}{m:Array bk}{J b:Nat}(e:dI X a)(r:iK S Yu v A m C x)(c:C+x+f+1+H<=v.length+A.length):rv S Yu v A X h f H (Y,C,x,m,J,b) a h:=⟨rfl,e,_,_,_,_,_,rfl,r,c⟩
def jX.a{S:Nat->Int}{Yu:Array bk}{v A:List Nat}{X b:bD}{h:ai}{f:Nat}{out:Array bk}{q p:Nat}{s:Array bk}{J c d:Nat}(e:dI X b)(k:hj S Yu v A out):jX S Yu v A X h f (Z out,q,p,s,J,c,d) b h:=⟨rfl,e,.inl ⟨_,_,_,_,_,_,_,rfl,k⟩⟩
def jX.b{S:Nat->Int}{Yu:Array bk}{v A:List Nat}{X a:bD}{h:ai}{f:Nat}{C x:Nat}{m:Array bk}{J g i:Nat}(e:dI X a)(r:iK S Yu v A m C x)(c:C+x+f+2<=v.length+A.length):jX S Yu v A X h f (Y,C,x,m,J,g,i) a h:=⟨rfl,e,.inr ⟨_,_,_,_,_,_,rfl,r,c⟩⟩
def tD.k{S:Nat->Int}{Yu:Array bk}{v A:List Nat}{X a:bD}{h:ai}{f H:Nat}{C x:Nat}{m:Array bk}{J b d:Nat}(e:dI X a)(r:iK S Yu v A m C x)(c:C+x+f+2<=v.length+A.length):tD S Yu v A X h f H (Y,C,x,m,J,b,d) a h:=⟨rfl,e,_,_,_,_,_,_,rfl,r,c⟩
def mN{az:gW}{O:bA}{Yq:ab->ai->Prop}{C YH:Type}{g d:Nat}{f H:StateT C dA YH}{B:YH->C->ai->Prop}{X:C}{h:ai}(bG:g=d->kasC az O Yq f B X h)(a:¬ g=d->kasC az O Yq H B X h):kasC az O Yq (if (g==d)=aa then f else H) B X h:=mH (λe=>bG ⇑e) λe=>a ⇑e
def NW(bn:gH w S (fX Yw l O YQ Yu) h){v A:List Nat}(bs:∀f∈v,f<w)(bv:∀f∈A,f<w)(f4:cJ S v)(f8:cJ S A)(ga:0<v.length)(z:0<A.length)(first:∀f∈v,S (A.getD 0 0)<=S f)(dR:∀f∈A,S f<=S (v.getD (v.length-1) 0)){X:bD}(db:kindOf X=YQ){B:Array bk->bD->ai->Prop}(e:∀out u,hj S Yu v A out->dI X u->B out u h):
  kasC (aN Yw l) O Yq (IJ (v.map<|bg Yu).toArray (A.map<|bg Yu).toArray) B X h:=by
 have be:(List.map (bg Yu) v).toArray.size=v.length:=by simp
 have bi:(List.map (bg Yu) A).toArray.size=A.length:=by simp
 have ca:=mu ga (bp _);rw[q5]at ca;have cd:[v.getD (v.length-1) 0].Perm (v.drop (v.length-1)++A.drop A.length):=by
  rw[ca,zi];exact List.Perm.refl _
 have ce:cJ S (v.take (v.length-1)++[v.getD (v.length-1) 0]):=by
  rw[<-ca,f7];exact f4
 have ch:cJ S (A.take A.length++[v.getD (v.length-1) 0]):=f_.mpr ⟨by rw[q5];exact f8,f9 _ _,λf c H t=>by
  rw[cX.mp t];exact dR f (by rwa [q5]at c)⟩
 unfold IJ;with_unfolding_all refine bl (om<|iJ ?_);refine bl (gL (show (List.map (bg Yu) v).toArray.size-1<v.length by lia) ?_);refine mN (λci=>bf (e _ _ (by rw[be]at ci;rw[be,bi];exact t4 cd ce ch (.inl ci))<|dI.refl X)) λci=>?_;refine mN (λcl=>bf (e _ _ (by rw[bi]at cl;rw[be,bi];exact wD cd ce ch cl first)<|dI.refl X)) λcl=>?_;refine bl (km ?_);refine bl (iz (a:=tL S Yu v A X h) (gA (hr (tP S Yu v A X h) ?step _ 0 _ _ _ ?fin (tP.k (dI.refl X) (by rw[be,bi];exact⟨_,rfl,cd,ce,ch,⋯,⋯,⋯,⋯⟩) ⋯))) ?after)
 case after=>
  rintro n u Yn ⟨rfl,Ys,dL,m,y,D,J,rfl,an⟩;exact bf (e _ _ an Ys)
 case fin=>
  rintro n u Yn ⟨rfl,Ys,C,x,m,J,rfl,⟨b,rfl,k⟩,c⟩;have:=k.bL;have:=k.hB;lia
 case step=>
  rintro f n u Yn ⟨rfl,Ys,C,x,m,J,rfl,G,c⟩;refine bl (iz (a:=lN S Yu v A X h f)
   (gA (hr (rv S Yu v A X h f) ?ge _ 0 _ _ _ ?gl (rv.k Ys G ⋯))) ?go)
  case gl=>
   rintro n u Yn ⟨rfl,Ys,C,x,m,ac,R,rfl,G,c⟩;exact lN.b Ys G ⋯
  case ge=>
   rintro H n u Yn ⟨rfl,Ys,C,x,m,ac,R,rfl,⟨b,rfl,k⟩,c⟩;have cm:=k.bL;have co:=k.hB;have E:=k.zL;have I:=k.A5;have bm:kindOf u=YQ:=Ys.k.trans db;have L:C-1<v.length:=⋯
   have T:x-1<A.length:=⋯
   have aQ:S (A.getD (x-1) 0)<S (v.getD (C-1) 0)->_:=λap=>by
    have:=v_ (C-1) ⋯ E k.perm k.aL k.cY (λf c H t=>by
     rw[mu cm E,cX]at c;let⟨@r,U,as,rfl⟩:=ma t;have:=qa k.cY (show r<=x-1 by lia) ⋯ ⋯;rw[c];lia)
    rw[mu cm E]at this;exact this
   have aS:¬ S (A.getD (x-1) 0)<S (v.getD (C-1) 0)->_:=λap=>by
    have:=zz (x-1) ⋯ I k.perm k.aL k.cY (λf c H t=>by
     rw[mu ⋯ I,cX]at c;let⟨@r,U,as,rfl⟩:=ma t;have:=qa k.aL (show r<=C-1 by lia) ⋯ ⋯;rw[c];lia)
    rw[mu ⋯ I]at this;exact this
   refine bl (gL T<|bl<|gL L<|bl<|t2 bn (jZ bv T) (jZ bs L) bm ?_);refine mH (λap=>?_) λap=>?_
   ·have d:=aQ ⇑ap;refine bl (gL L (mN (λN=>bf (lN.a Ys (by rw[qj];exact t4 d.1 d.2.1 d.2.2 (.inl N)))) λN=>?_));have P:iK S Yu v A ((b.reverse.map<|bg Yu).toArray.push<|bg Yu<|v.getD (C-1) 0) (C-1) x:=⟨_,qj _ _,d.1,d.2.1,d.2.2,⋯,co,⋯,I⟩;exact mH (λ_=>bf (lN.b Ys P ⋯)) λ_=>bf (rv.k Ys P ⋯)
   ·have d:=aS ⇑ap;refine bl (gL T (mN (λN=>bf (lN.a Ys (by rw[qj];exact wD d.1 d.2.1 d.2.2 N first))) λN=>?_));have P:iK S Yu v A ((b.reverse.map<|bg Yu).toArray.push<|bg Yu<|A.getD (x-1) 0) C (x-1):=⟨_,qj _ _,d.1,d.2.1,d.2.2,cm,⋯,E,⋯⟩;exact mH (λ_=>bf (lN.b Ys P ⋯)) λ_=>bf (rv.k Ys P ⋯)
  case go=>
   rintro n u Yn ⟨rfl,Ys,⟨dL,m,y,D,ac,R,rfl,an⟩|⟨C,x,m,ac,R,rfl,G,c⟩⟩
   ·exact bf (tL.a Ys an)
   ·refine bl (om<|iJ ?_);refine bl (iz (a:=jX S Yu v A X h f)
     (gA (hr (tD S Yu v A X h f) ?gt _ 0 _ _ _ ?fin2 (tD.k Ys G ⋯))) ?g1)
    case fin2=>
     rintro n u Yn ⟨rfl,Ys,C,x,m,J,ac,R,rfl,G,c⟩;exact jX.b Ys G ⋯
    case g1=>
     rintro n u Yn ⟨rfl,Ys,⟨dL,m,y,D,J,ac,R,rfl,an⟩|⟨C,x,m,J,ac,R,rfl,G,c⟩⟩
     ·exact bf (tL.a Ys an)
     ·refine bl (kW ?_);exact bf (tP.k ⟨Ys.k,Ys.a,Ys.p,Ys.f⟩ G ⋯)
    case gt=>
     rintro H n u Yn ⟨rfl,Ys,C,x,m,J,ac,R,rfl,⟨b,eq,k⟩,c⟩;have cm:=k.bL;have co:=k.hB;have E:=k.zL;have I:=k.A5;have T:x-1<A.length:=⋯
     dsimp only;revert J;refine Du (λJ=>J-1) ?L ?_
     case L=>exact λJ=>rfl
     intro J;refine bl (KR (s:=X) ⟨Ys.k,Ys.a,Ys.p,Ys.f⟩ λio Q=>?_);have bm:=Q.k.trans db;refine bl (gL T ?_);refine bl (Ak bn (jZ bv T) bs (YF:=0) (k:=C) (b:=C-1) ⋯ ⋯ (λa r g d n=>qa k.aL d ⋯ ⋯) bm ?_);intro o it ev g3;dsimp only;generalize jp:C-o=kt;generalize a1:m=Y7;generalize a2:C=a;have YC:Y7=m/\a=C:=⟨a1.symm,a2.symm⟩;clear a1 a2;revert Y7 a;refine wk (λY7 a=>Y7=m/\a=C) (λY7 a=>iK S Yu v A Y7 a x/\a<=C/\∀r,r<a->S (v.getD r 0)<=S (A.getD (x-1) 0)) ?Yx ?f1 ?hd
     case f1=>
      rintro he Y7 a ⟨rfl,rfl⟩;exact⟨⟨b,eq,k⟩,bp _,λr g=>ev r ⋯ ⋯⟩
     case hd=>
      rintro j _ Y7 a ⟨rfl,rfl⟩;try dsimp only
      have am:=v_ o ⋯ E k.perm k.aL k.cY (λf c H t=>by
       let⟨@r,hf,U,as,rfl⟩:=K9 c;let⟨@cr,hm,Zi,rfl⟩:=ma t;have:=g3 r ⋯ ⋯;have:=qa k.cY (show cr<=x-1 by lia) ⋯ ⋯;lia)
      rw[eq,IE];refine mN (λN=>bf<|jX.a Q<|t4 am.1 am.2.1 am.2.2<|.inl N) λN=>?_;exact j _ _ ⟨⟨_,rfl,am.1,am.2.1,am.2.2,⋯,co,⋯,I⟩,⋯,λr g=>ev r ⋯ ⋯⟩
     case Yx=>
      rintro Y7 a ⟨⟨b,rfl,k⟩,le,hw⟩;have cm:=k.bL;have E:=k.zL;have L:a-1<v.length:=⋯
      try dsimp only
      refine bl (gL T ?_);have Y6:=zz (x-1) ⋯ I k.perm k.aL k.cY (λf c H t=>by
       rw[mu ⋯ I,cX]at c;let⟨@r,U,as,rfl⟩:=ma t;rw[c];exact hw r U)
      rw[mu ⋯ I]at Y6;rw[qj];refine mN (λex=>bf<|jX.a Q<|wD Y6.1 Y6.2.1 Y6.2.2 ex first) λex=>?_;refine bl (gL L ?_);refine bl (zX bn (jZ bs L) bv (YF:=0) (k:=x-1) (b:=x-1-1) ⋯ ⋯ (λa r g d n=>qa Y6.2.2 d ⋯ ⋯) bm ?_);intro YR kw fd h0;dsimp only;generalize [A.getD (x-1) 0]++b=cs at *;generalize lc:x-1=bd at *;generalize lf:bd-YR=gv;generalize a1:(List.map (bg Yu) cs.reverse).toArray=Y7;generalize a2:bd=r;have YC:Y7=(List.map (bg Yu) cs.reverse).toArray/\r=bd:=⟨a1.symm,a2.symm⟩;clear a1 a2;revert Y7 r;refine wk (λY7 r=>Y7=(List.map (bg Yu) cs.reverse).toArray/\r=bd) (λY7 r=>iK S Yu v A Y7 a r/\r<=bd/\∀i,i<r->S (A.getD i 0)<S (v.getD (a-1) 0)) ?YO ?f2 ?ii
      case f2=>
       rintro he Y7 r ⟨rfl,rfl⟩;exact⟨⟨_,rfl,Y6.1,Y6.2.1,Y6.2.2,cm,⋯,E,⋯⟩,bp _,λi g=>fd i ⋯ ⋯⟩
      case ii=>
       rintro j _ Y7 r ⟨rfl,rfl⟩;try dsimp only
       have M:=zz YR ⋯ (show r<=A.length by lia) Y6.1 Y6.2.1 Y6.2.2 (λf c H t=>by
        let⟨@i,hf,U,as,rfl⟩:=K9 c;let⟨@cr,hm,Zi,rfl⟩:=ma t;have:=h0 i ⋯ ⋯;have:=qa Y6.2.1 (show cr<=a-1 by lia) ⋯ ⋯;lia)
       rw[IE];refine mN (λfn=>bf<|jX.a Q<|wD M.1 M.2.1 M.2.2 fn first) λfn=>?_;refine mN (λfr=>bf<|jX.a Q<|t4 M.1 M.2.1 M.2.2<|.inr fr) λfr=>?_;exact j _ _ ⟨⟨_,rfl,M.1,M.2.1,M.2.2,cm,⋯,E,⋯⟩,⋯,λi g=>fd i ⋯ ⋯⟩
      case YO=>
       rintro Y7 r ⟨⟨b,rfl,k⟩,lO,im⟩;try dsimp only
       refine bl (gL L ?_);have al:=v_ (a-1) ⋯ E k.perm k.aL k.cY (λf c H t=>by
        rw[mu cm E,cX]at c;let⟨@i,U,as,rfl⟩:=ma t;have:=im i U;rw[c];lia)
       rw[mu cm E]at al;rw[qj];refine mN (λf0=>bf<|jX.a Q<|t4 al.1 al.2.1 al.2.2<|.inl f0) λf0=>?_;have P:iK S Yu v A (([v.getD (a-1) 0]++b).reverse.map<|bg Yu).toArray (a-1) r:=⟨_,rfl,al.1,al.2.1,al.2.2,⋯,k.hB,⋯,k.A5⟩;exact mH (λ_=>bf (jX.b Q P ⋯)) λ_=>bf (tD.k Q P ⋯)
def VJ{C:Type}{az:gW}{B:PUnit->C->ai->Prop}{X a:C}{h:ai}(e:B ⟨⟩ a h):kasC az O Yq (set a:StateT C dA PUnit) B X h:=by
 unfold kasC;rw[StateT.run_set];exact aM e
theorem zI{YH:Type}:∀(t:List YH) (b:List YH) (p d U:Nat),p+t.length<=b.length->p=U+d->((t.zipIdx d).foldl (λ(g:Array YH) (f:YH×Nat)=>g.setIfInBounds (U+f.2) f.1) b.toArray)=(b.take p++t++b.drop (p+t.length)).toArray
 |[],b,p,d,U,e,c=>by simp
 |f::t,b,p,d,U,e,c=>by
  rw[c8]at e;rw[yV,mj];dsimp only;rw[<-c,Jt,zI t (b.set p f) (p+1) (d+1) U (by rw[xq];lia) ⋯];congr 1;have h:(b.set p f).take (p+1)=b.take p++[f]:=by
   apply rl;intro a;rw[mI,List.getElem?_append,gx,mI,J9];by_cases z:a<p
   ·rw[aE ⋯,aH ⋯,aE ⋯,aE z]
   ·by_cases E:a=p
    ·subst E;rw[aE ⋯,aE rfl,aE ⋯,aH ⋯];simp[show a-min a b.length=0 by lia]
    ·rw[aH ⋯,aH ⋯];rw[tf];rw[mw];lia
  have i:(b.set p f).drop (p+1+t.length)=b.drop (p+(t.length+1)):=by
   apply rl;intro a;rw[lq,lq,J9,aH ⋯];congr 1;lia
  rw[h,i,c8,bq,bq,bq];rfl
def Kp{c d b:List Nat}{o k:Nat}(n:cJ S c)(p:cJ S d)(u:0<d.length)(v:0<c.length)(z:∀f∈c.take o,S f<=S (d.getD 0 0))(q:∀f∈d.drop k,S (c.getD (c.length-1) 0)<=S f)(j:b.Perm (c.drop o++d.take k))(YL:cJ S b):cJ S (c.take o++b++d.drop k)/\(c.take o++b++d.drop k).Perm (c++d):=by
 have l:∀H∈d,S (d.getD 0 0)<=S H:=λH g=>by
  let⟨@r,W,m,rfl⟩:=kD (a:=0) (t:=d) (by rwa [lx]);exact o9 p (g0 _) m
 have s:∀f∈c,S f<=S (c.getD (c.length-1) 0):=λf e=>by
  let⟨@r,W,m,rfl⟩:=kD (a:=0) (t:=c) (by rwa [lx]);exact o9 n (by omega) (by omega)
 have h:cJ S (c.take o++c.drop o):=by rwa [f7]
 have i:cJ S (d.take k++d.drop k):=by rwa [f7]
 have h:=f_.mp h;have i:=f_.mp i;refine⟨f_.mpr ⟨f_.mpr ⟨h.1,YL,λf e H g=>?_⟩,i.2.1,λf e H g=>?_⟩,?_⟩
 ·rcases eh.mp (j.mem_iff.mp g) with g|g
  ·exact h.2.2 f e H g
  ·exact m3 (z f e) (l H<|oF g)
 ·rcases eh.mp e with e|e
  ·exact m3 (z f e) (l H<|m9 g)
  ·rcases eh.mp (j.mem_iff.mp e) with e|e
   ·exact m3 (s f<|m9 e) (q H g)
   ·exact i.2.2 f e H g
 ·refine (fI _<|d1 _ j).trans ?_;rw[<-bq,f7,bq,f7]
def MJ(Q:gH w S (fX Yw l O YQ Yu) h){i:List Nat}(G:∀f∈i,f<w){a aL C x bn fr:Nat}{X:bD}(A:PyProof.Rows.kindOf X=YQ)(f0:arrOf X=(i.map<|bg Yu).toArray)(R:iC X=Y)(T:(iv X)[a]?=Z (aL,C,bn))(L:(iv X)[a+1]?=Z (aL+C,x,fr))(f1:0<C)(bs:0<x)(gt:aL+C+x<=i.length)(D:cJ S ((i.drop aL).take C))(E:cJ S ((i.drop<|aL+C).take x)){B:Bool->bD->ai->Prop}(e:∀mid s,PyProof.Rows.kindOf s=YQ->iC s=Y->iv s=((iv X).setIfInBounds a (aL,C+x,bn)).eraseIdxIfInBounds (a+1)->mid.Perm ((i.drop aL).take<|C+x)->cJ S mid->
   arrOf s=((i.take aL++mid++i.drop (aL+(C+x))).map<|bg Yu).toArray->B aa s h):
  kasC (aN Yw l) O Yq (uI a) B X h:=by
 have bv:((i.drop aL).take C).length=C:=by rw[gx,fg];lia
 have f2:((i.drop<|aL+C).take x).length=x:=by rw[gx,fg];lia
 have I:∀r,r<C->((i.drop aL).take C).getD r 0=i.getD (aL+r) 0:=λr L=>by simp[List.getD,mI,lq,L]
 have J:∀r,r<x->((i.drop<|aL+C).take x).getD r 0=i.getD (aL+C+r) 0:=λr L=>by simp[List.getD,mI,lq,L]
 have U:(i.drop aL).take C++(i.drop<|aL+C).take x=(i.drop aL).take (C+x):=by rw[<-od,q3]
 have ca:i.take aL++(i.drop aL).take (C+x)++i.drop (aL+(C+x))=i:=by rw[q3,f7]
 have cd:∀a r,aL<=a->a<=r->r<aL+C->S (i.getD a 0)<=S (i.getD r 0):=λa r g d n=>by
  have:=o9 D (a:=a-aL) (r:=r-aL) ⋯ ⋯
  rwa [I _ ⋯,I _ ⋯,show aL+(a-aL)=a by lia,show aL+(r-aL)=r by lia]at this
 have ce:∀a r,aL+C<=a->a<=r->r<aL+C+x->S (i.getD a 0)<=S (i.getD r 0):=λa r g d n=>by
  have:=o9 E (a:=a-(aL+C)) (r:=r-(aL+C)) ⋯ ⋯
  rwa [J _ ⋯,J _ ⋯,show aL+C+(a-(aL+C))=a by lia,show aL+C+(r-(aL+C))=r by lia]at this
 have y:∀f∈(i.drop aL).take C,∃r,aL<=r/\r<aL+C/\f=i.getD r 0:=λf m=>by
  let⟨@r,M,u,rfl⟩:=qQ m;exact⟨aL+r,⋯,⋯,rfl⟩
 have ch:∀f∈(i.drop<|aL+C).take x,∃r,aL+C<=r/\r<aL+C+x/\f=i.getD r 0:=λf m=>by
  let⟨@r,M,u,rfl⟩:=qQ m;exact⟨aL+C+r,⋯,⋯,rfl⟩
 unfold uI;with_unfolding_all refine bl (km ?_);simp only[T,L,f0];refine bl (VJ ?_);refine bl (gL (show aL+C<i.length by lia) ?_);refine bl (Ak Q (jZ G (show aL+C<i.length by lia)) G (YF:=aL) (k:=C) (b:=0) ⋯ f1 cd (by exact A) ?_);intro o ci cl f8;dsimp only;by_cases co:C-o=0
 ·rw[aE ⇑co];refine bf (e _ _ (by exact A) (by exact R) rfl (List.Perm.refl _) ?_ ?_)
  ·rw[<-U];refine f_.mpr ⟨D,E,λf m H al=>?_⟩;let⟨@r,u,ga,rfl⟩:=y f m;let⟨@am,cr,an,rfl⟩:=ch H al;have:=cl r u ⋯;have:=ce (aL+C) am ⋯ cr an;lia
  ·rw[ca]
 rw[aH ⇑co];rw[show aL+o+(C-o)-1=aL+C-1 by lia];refine bl (gL (show aL+C-1<i.length by lia) ?_);refine bl (zX Q (jZ G (show aL+C-1<i.length by lia)) G (YF:=aL+C) (k:=x) (b:=x-1) ⋯ ⋯ ce (by exact A) ?_);intro j ap ge cs;dsimp only;by_cases db:j=0
 ·rw[aE ⇑db];refine bf (e _ _ (by exact A) (by exact R) rfl (List.Perm.refl _) ?_ ?_)
  ·rw[<-U];refine f_.mpr ⟨D,E,λf m H al=>?_⟩;let⟨@r,u,ga,rfl⟩:=y f m;let⟨@am,cr,an,rfl⟩:=ch H al;have:=cs am ⋯ an;have:=cd r (aL+C-1) u ⋯ ⋯;lia
  ·rw[ca]
 rw[aH ⇑db];have gl:(i.map<|bg Yu).toArray.extract (aL+o) (aL+C)=((((i.drop aL).take C).drop o).map<|bg Yu).toArray:=by
  apply k0;simp only[EM,List.extract_eq_drop_take,kc,jO];rw[sv,od,show aL+C-(aL+o)=C-o by lia]
 have go:(i.map<|bg Yu).toArray.extract (aL+C) (aL+C+j)=((((i.drop<|aL+C).take x).take j).map<|bg Yu).toArray:=by
  apply k0;simp only[EM,List.extract_eq_drop_take,kc,jO];rw[u3,qF ap,show aL+C+j-(aL+C)=j by lia]
 rw[gl,go];have z:∀f∈((i.drop aL).take C).take o,S f<=S (((i.drop<|aL+C).take x).getD 0 0):=λf m=>by
  rw[J 0 bs];let⟨@r,M,u,rfl⟩:=ma m;rw[I r ⋯];exact cl _ ⋯ ⋯
 have ds:∀f∈((i.drop<|aL+C).take x).drop j,S (((i.drop aL).take C).getD (((i.drop aL).take C).length-1) 0)<=S f:=λf m=>by
  rw[bv,I _ ⋯];let⟨@r,M,u,rfl⟩:=kD m;rw[J r ⋯,show aL+(C-1)=aL+C-1 by lia];exact cs _ ⋯ ⋯
 have dL:∀f∈((i.drop aL).take C).drop o,S ((((i.drop<|aL+C).take x).take j).getD 0 0)<=S f:=λf m=>by
  rw[show (((i.drop<|aL+C).take x).take j).getD 0 0=((i.drop<|aL+C).take x).getD 0 0 by simp only[List.getD,mI,aE (show 0<j by lia)],J 0 bs];let⟨@r,M,u,rfl⟩:=kD m;rw[I r ⋯];have:=f8 (aL+r) ⋯ ⋯;rw[CW];lia
 have as:(((i.drop aL).take C).drop o).length=C-o:=by rw[fg,bv]
 have eq:(((i.drop<|aL+C).take x).take j).length=j:=by rw[gx,f2];lia
 have ev:∀f∈((i.drop<|aL+C).take x).take j,S f<=S ((((i.drop aL).take C).drop o).getD ((((i.drop aL).take C).drop o).length-1) 0):=λf m=>by
  rw[as,show (((i.drop aL).take C).drop o).getD (C-o-1) 0=((i.drop aL).take C).getD (C-1) 0 by simp only[List.getD,lq,show o+(C-o-1)=C-1 by lia],I _ ⋯,show aL+(C-1)=aL+C-1 by lia];let⟨@r,M,u,rfl⟩:=ma m;rw[J r ⋯];have:=ge (aL+C+r) ⋯ ⋯;lia
 have ex:∀f∈((i.drop aL).take C).drop o,f<w:=λf m=>G f (m9<|oF<|m9 m);have fd:∀f∈((i.drop<|aL+C).take x).take j,f<w:=λf m=>G f (m9<|oF<|oF m);by_cases fn:C-o<=j
 ·rw[aE fn];refine bl (VA Q ex fd (D.sublist<|xy _ _) (E.sublist<|sY _ _) ⋯ ⋯ dL ev (by exact A) ?_);intro out s a1 v;let⟨@b,rfl,N,a2⟩:=a1;have P:=Kp (S:=S) D E ⋯ ⋯ z ds N a2;refine bl (kW ?_);refine bl (km ?_);refine bf ?_;have c:iC s=Y:=v.f.trans R;show B (iC s).isNone _ h;rw[c];refine e (((i.drop aL).take C).take o++b++((i.drop<|aL+C).take x).drop j) _ (v.k.trans A) (by first|rfl|exact c) (by exact v.p) (by rw[<-U];exact P.2) P.1 ?_;have bd:arrOf s=(i.map<|bg Yu).toArray:=v.a;have bo:b.length=C-o+j:=by rw[N.length_eq,c6,as,eq]
  have be:=zI (b.map<|bg Yu) (i.map<|bg Yu) (aL+o) 0 (aL+o) (by rw[ba,ba,bo];lia) rfl;show List.foldl (λg f=>g.setIfInBounds (aL+o+f.2) f.1) (arrOf s) (b.map<|bg Yu).toArray.toList.zipIdx=_;rw[bd];refine be.trans ?_;rw[ba,bo,<-jO,<-kc,<-eX,<-eX];congr 2;have bi:i.take (aL+o)=i.take aL++((i.drop aL).take C).take o:=by
   rw[u3,qF ci,q3]
  have bm:i.drop (aL+o+(C-o+j))=((i.drop<|aL+C).take x).drop j++i.drop (aL+(C+x)):=by
   have:=AY (t:=i.drop (aL+C)) (a:=j) (r:=x) ap (by rw[fg];lia);rw[od,od]at this;rw[show aL+o+(C-o+j)=aL+C+j by lia,this,show aL+C+x=aL+(C+x) by lia]
  rw[bi,bm];simp only[bq]
 ·rw[aH fn];refine bl (NW Q ex fd (D.sublist<|xy _ _) (E.sublist<|sY _ _) ⋯ ⋯ dL ev (by exact A) ?_);intro out s a1 v;let⟨@b,rfl,N,a2⟩:=a1;have P:=Kp (S:=S) D E ⋯ ⋯ z ds N a2;refine bl (kW ?_);refine bl (km ?_);refine bf ?_;have c:iC s=Y:=v.f.trans R;show B (iC s).isNone _ h;rw[c];refine e (((i.drop aL).take C).take o++b++((i.drop<|aL+C).take x).drop j) _ (v.k.trans A) (by first|rfl|exact c) (by exact v.p) (by rw[<-U];exact P.2) P.1 ?_;have bd:arrOf s=(i.map<|bg Yu).toArray:=v.a;have bo:b.length=C-o+j:=by rw[N.length_eq,c6,as,eq]
  have be:=zI (b.map<|bg Yu) (i.map<|bg Yu) (aL+o) 0 (aL+o) (by rw[ba,ba,bo];lia) rfl;show List.foldl (λg f=>g.setIfInBounds (aL+o+f.2) f.1) (arrOf s) (b.map<|bg Yu).toArray.toList.zipIdx=_;rw[bd];refine be.trans ?_;rw[ba,bo,<-jO,<-kc,<-eX,<-eX];congr 2;have bi:i.take (aL+o)=i.take aL++((i.drop aL).take C).take o:=by
   rw[u3,qF ci,q3]
  have bm:i.drop (aL+o+(C-o+j))=((i.drop<|aL+C).take x).drop j++i.drop (aL+(C+x)):=by
   have:=AY (t:=i.drop (aL+C)) (a:=j) (r:=x) ap (by rw[fg];lia);rw[od,od]at this;rw[show aL+o+(C-o+j)=aL+C+j by lia,this,show aL+C+x=aL+(C+x) by lia]
  rw[bi,bm];simp only[bq]
end
section
variable{Yw:bO}{l:bh}{O:bA}{Yq:ab->ai->Prop}{YQ:hq}{Yu:Array bk}{S:Nat->Int}{w:Nat}{h:ai}{m:Array (Nat×Nat×Nat)}
structure e1(YQ:hq)(Yu:Array bk)(m:Array (Nat×Nat×Nat))(X:bD)(p:Array Nat):Prop where
 k:PyProof.Rows.kindOf X=YQ
 a:arrOf X=p.map (bg Yu)
 p:iv X=m
 f:iC X=Y
def rJ(d:gH w S (fX Yw l O YQ Yu) h){q:Array Nat}(b:bY w q){a r:Nat}(T:a<w)(c:r<w){X:bD}(j:e1 YQ Yu m X q){B:Option Bool->bD->ai->Prop}(e:B (Z<|decide (bc S q a<bc S q r)) X h):
  kasC (aN Yw l) O Yq (pJ a r) B X h:=by
 have fz:∀a,a<w->(q.map<|bg Yu)[a]?=Z (bg Yu<|q.getD a 0):=λa T=>by
  have:a<q.size:=by rw[b.size];exact T
  simp[Array.getD,this]
 rw[ltAt'_eq];refine bl (km ?_);rw[j.a];dsimp only;rw[wo,wo,fz a T,fz r c];refine bl (bf ?_);refine bl (bf ?_);exact t2 d (b.lt T) (b.lt c) j.k e
variable{q:Array Nat}
def vS{X:bD}(j:e1 YQ Yu m X q){a r:Nat}{B:Unit->bD->ai->Prop}(e:∀b,e1 YQ Yu m b (mX q a r)->B () b h):kasC (aN Yw l) O Yq (r8 a r) B X h:=by
 rw[reverseSlice'_eq];refine kW (e _ ⟨j.k,?_,j.p,j.f⟩);show mirror (arrOf X) a r ((r-a)/2)=_;rw[j.a];exact KD (bg Yu) (λo=>a+o) (λo=>r-1-o) _ q
def O7{X:bD}(j:e1 YQ Yu m X q){a r:Nat}{B:Unit->bD->ai->Prop}(e:∀b,e1 YQ Yu m b (rO q a<|a-r)->B () b h):kasC (aN Yw l) O Yq (moveDown' a r) B X h:=by
 rw[moveDown'_eq];refine kW (e _ ⟨j.k,?_,j.p,j.f⟩);show rO (arrOf X) a (a-r)=_;rw[j.a];exact KD (bg Yu) (λo=>a-o) (λo=>a-o-1) _ q
theorem tF{C Zh:Type}{az:gW}{F:Nat->Zh->StateT C dA (ForInStep Zh)}{B:Zh->C->ai->Prop}(A:Nat->Zh->C->ai->Prop)(Zb:Nat)(step:∀f n X Yn,f<Zb->A f n X Yn->kasC az O Yq (F f n) (λs b d=>match s with | .yield a=>A (f+1) a b d | .done a=>B a b d) X Yn):∀(k g:Nat) (n:Zh) (X:C) (Yn:ai),g+k<=Zb->(∀n X Yn,A (g+k) n X Yn->B n X Yn)->A g n X Yn->
   kasC az O Yq (forIn (range' g k) n F) B X Yn
 |0,g,n,X,Yn,i,h,e=>by
  show kasC az O Yq (forIn ([]:List Nat) n F) B X Yn;exact kasC_nil (h n X Yn e)
 |k+1,g,n,X,Yn,i,h,e=>by
  show kasC az O Yq (forIn (g::range' (g+1) k) n F) B X Yn;refine kasC_cons (g7 (step g n X Yn ⋯ e) (λs d R=>?_) λ_ W c=>c);let⟨s,b⟩:=s;cases s with
  |done a=>exact R
  |yield a=>exact tF A Zb step k (g+1) a b d ⋯ (λn X Yn T=>h n X Yn (by rw[show g+(k+1)=g+1+k by lia];exact T)) R
end
section
variable{Yw:bO}{l:bh}{O:bA}{Yq:ab->ai->Prop}{YQ:hq}{Yu:Array bk}{S:Nat->Int}{w:Nat}{h:ai}{m:Array (Nat×Nat×Nat)}
def iq(S:Nat->Int)(q:Array Nat)(G k:Nat):Prop:=(∀a r,G<=a->a<=r->r<G+k->bc S q a<=bc S q r)
def G7{q:Array Nat}{G k:Nat}(e:∀r,G+1<=r->r<G+k->bc S q (r-1)<=bc S q r):iq S q G k:=by
 intro a r T b c;obtain⟨u,rfl⟩:∃u,r=a+u:=⟨r-a,⋯⟩;clear b;induction u with
 |zero=>exact hl _
 |succ u f=>
  have g:=f ⋯;have d:=e (a+(u+1)) ⋯ c;rw[show a+(u+1)-1=a+u by lia]at d;lia
def Tw(al:gH w S (fX Yw l O YQ Yu) h){q:Array Nat}(am:bY w q){G k i:Nat}(be:G+k<=w)(z:1<=i)(bi:i<=k)(u:iq S q G i){X:bD}(j:e1 YQ Yu m X q){B:Bool->bD->ai->Prop}(e:∀A b,bY w A->e1 YQ Yu m b A->(∀a,a<G->A[a]?=q[a]?)->iq S A G k->B aa b h):
  kasC (aN Yw l) O Yq (binarySort' G k i) B X h:=by
 rw[binarySort'_eq];rw[show max i 1=i by lia];with_unfolding_all refine bl (iz (a:=λn b Yn=>h=Yn/\n=(Y,())/\∃p,bY w p/\e1 YQ Yu m b p/\(∀a,a<G->p[a]?=q[a]?)/\iq S p G k)
  (gA (tF (λf n b Yn=>h=Yn/\n=(Y,())/\1<=f/\∃p,bY w p/\e1 YQ Yu m b p/\(∀a,a<G->p[a]?=q[a]?)/\iq S p G f) k ?step _ _ _ _ _ ⋯ ?fin ⟨rfl,rfl,z,q,am,j,λ_ W=>rfl,u⟩)) ?after)
 case after=>
  rintro n b Yn ⟨rfl,rfl,p,D,E,F,C⟩;exact bf (e p _ D E F C)
 case fin=>
  rintro n b Yn ⟨rfl,rfl,bm,p,D,E,F,C⟩;rw[show i+(k-i)=k by lia]at C;exact⟨rfl,rfl,p,D,E,F,C⟩
 case step=>
  rintro o n b Yn bn ⟨rfl,rfl,YK,p,I,P,ap,u⟩;dsimp only;have as:∀a,G<=a->a<G+0->bc S p a<=bc S p (G+o):=λa g d=>⋯
  have a1:∀a,G+o<=a->a<G+o->bc S p (G+o)<=bc S p a:=λa g d=>⋯
  refine bl (iz (a:=λn v Yn=>h=Yn/\b=v/\∃t s,n=(Y,t,s)/\t<=o/\(∀a,G<=a->a<G+t->bc S p a<=bc S p (G+o))/\(∀a,G+t<=a->a<G+o->bc S p (G+o)<=bc S p a))
   (gA (tF (λf n v Yn=>h=Yn/\b=v/\∃t s,n=(Y,t,s)/\t<=s/\s<=o/\s-t<=o-f/\(∀a,G<=a->a<G+t->bc S p a<=bc S p (G+o))/\(∀a,G+s<=a->a<G+o->bc S p (G+o)<=bc S p a)) o ?s2 _ _ _ _ _ ⋯ ?f2 ⟨rfl,rfl,0,o,rfl,⋯,⋯,⋯,as,a1⟩)) ?Zi)
  case f2=>
   rintro n v Yn ⟨rfl,rfl,t,s,rfl,aQ,aS,mS,nD,y⟩;exact⟨rfl,rfl,t,s,rfl,⋯,nD,λa f H=>y a ⋯ H⟩
  case s2=>
   rintro f n v Yn bs ⟨rfl,rfl,t,s,rfl,aQ,aS,mS,nD,y⟩;dsimp only;by_cases c:t >= s
   ·rw[aE c];exact bf ⟨rfl,rfl,t,s,rfl,⋯,nD,λa f H=>y a ⋯ H⟩
   rw[aH c];have cm:t<=(t+s)/2:=⋯
   have a2:(t+s)/2<s:=⋯
   have L:(t+s)/2-t<=o-(f+1):=⋯
   have M:s-((t+s)/2+1)<=o-(f+1):=⋯
   generalize (t+s)/2=mid at cm a2 L M ⊢;refine bl (rJ al I ⋯ ⋯ P ?_);dsimp only;by_cases N:bc S p (G+o)<bc S p (G+mid)
   ·rw[aE ⇑N];refine bf ⟨rfl,rfl,t,mid,rfl,cm,⋯,L,nD,λa f H=>?_⟩;have:=u (G+mid) a ⋯ f H;lia
   ·rw[aH ⇑N];refine bf ⟨rfl,rfl,mid+1,s,rfl,⋯,aS,M,λa f H=>?_,y⟩;have:=u a (G+mid) f ⋯ ⋯;lia
  case Zi=>
   rintro n v Yn ⟨rfl,rfl,t,s,rfl,aQ,nD,y⟩;dsimp only;refine bl (O7 P ?_);intro bv bd;have J:∀a,(rO p (G+o)<|G+o-(G+t))[a]?=if a=G+t then p[G+o]? else if G+t<a/\a<=G+o then p[a-1]? else p[a]?:=λa=>by
    have:=getElem?_bubble (xs:=p) (src:=G+o) (by rw[I.size];lia) (G+o-(G+t)) ⋯ a
    rwa [show G+o-(G+o-(G+t))=G+t by lia]at this
   have a7:∀a,bc S (rO p (G+o)<|G+o-(G+t)) a=if a=G+t then bc S p (G+o) else if G+t<a/\a<=G+o then bc S p (a-1) else bc S p a:=λa=>by
    have J:=J a;by_cases c:a=G+t
    ·rw[aE c]at J ⊢;exact m6 J
    ·rw[aH c]at J ⊢;by_cases Q:G+t<a/\a<=G+o
     ·rw[aE Q]at J ⊢;exact m6 J
     ·rw[aH Q]at J ⊢;exact m6 J
   refine bf ⟨rfl,rfl,⋯,_,I.MU _ _,bd,λa T=>by rw[J,aH ⋯,aH ⋯];exact ap a T,G7 λr f H=>?_⟩;rw[a7,a7];by_cases R:r-1=G+t
   ·rw[aE R,aH ⋯,aE ⋯];exact y (r-1) ⋯ ⋯
   ·rw[aH R];by_cases U:r=G+t
    ·rw[aE U,aH ⋯];exact nD (r-1) ⋯ ⋯
    ·rw[aH U];by_cases cd:G+t<r-1
     ·rw[aE ⋯,aE ⋯];exact u _ _ ⋯ ⋯ ⋯
     ·rw[aH ⋯,aH ⋯];exact u _ _ ⋯ ⋯ ⋯
def eB(S:Nat->Int)(q:Array Nat):Nat->List (Nat×Nat×Nat)->Nat->Prop
 |g,[],d=>g=d
 |g,(f,t,_)::i,d=>f=g/\0<t/\iq S q f t/\eB S q (g+t) i d
variable{q:Array Nat}
theorem eB.le:∀{i:List (Nat×Nat×Nat)}{g d:Nat},eB S q g i d->g+i.length<=d
 |[],g,d,e=>by rw[show d=g from e.symm];exact bp _
 | (f,t,_)::i,g,d,e=>by
  have:=e.2.2.2.le;have:=e.2.1;rw[c8];lia
theorem eB.congr{p:Array Nat}:∀{i:List (Nat×Nat×Nat)}{g d:Nat},eB S q g i d->(∀a,g<=a->a<d->bc S p a=bc S q a)->eB S p g i d
 |[],g,d,e,_=>e
 | (f,t,_)::i,g,d,e,J=>by
  have:=e.2.2.2.le;let@⟨rfl,E,b,c⟩:=e;refine⟨rfl,E,λa r T h j=>?_,c.congr λa g d=>J a ⋯ d⟩;rw[J a T ⋯,J r ⋯ ⋯];exact b a r T h j
theorem eB.app{q:Array Nat}:∀{i L:List (Nat×Nat×Nat)}{g d:Nat},eB S q g (i++L) d↔∃n,eB S q g i n/\eB S q n L d
 |[],L,g,d=>⟨λe=>⟨g,rfl,e⟩,λ⟨n,c,e⟩=>by rw[show g=n from c];exact e⟩
 | (f,t,D)::i,L,g,d=>by
  show (f=g/\0<t/\iq S q f t/\eB S q (g+t) (i++L) d)↔_;rw[eB.app];constructor
  ·rintro⟨z,E,a,n,b,h⟩;exact⟨n,⟨z,E,a,b⟩,h⟩
  ·rintro⟨n,⟨z,E,a,b⟩,h⟩;exact⟨z,E,a,n,b,h⟩
def MX{YH:Type}{t:List YH}{a:Nat}(e:a+1<t.length):∃b f H c,t=b++f::H::c/\b.length=a:=by
 refine⟨t.take a,t[a]'⋯,t[a+1],t.drop<|a+2,?_,by rw[gx];lia⟩;have d:=jF (l:=t) (i:=a) ⋯;have g:=jF (l:=t) (i:=a+1) e;rw[<-g,<-d,f7]
def vY(t:List Nat)(a:Nat):bc S t.toArray a=S (t.getD a 0):=by unfold bc;rw[mP]
def Ll(N:gH w S (fX Yw l O YQ Yu) h){q:Array Nat}(H:bY w q){X:bD}(j:e1 YQ Yu m X q){G a:Nat}(T:a+1<m.size)(Ym:eB S q 0 m.toList G)(ci:G<=w){B:Bool->bD->ai->Prop}(e:∀I u v,bY w u->e1 YQ Yu I v u->I.size+1=m.size->eB S u 0 I.toList G->(∀a,G<=a->bc S u a=bc S q a)->B aa v h):kasC (aN Yw l) O Yq (uI a) B X h:=by
 let⟨b,⟨aL,C,i⟩,⟨cY,x,y⟩,@s,c,rfl⟩:=MX (t:=m.toList) (a:=a) ⇑T;rw[c]at Ym;let⟨@n,P,rfl,Q,R,rfl,U,al,b9⟩:=eB.app.mp Ym;have aS:=b9.le;have A:m=(b++(aL,C,i)::(aL+C,x,y)::s).toArray:=by rw[<-c]
 have am:q.size=w:=H.size;have an:∀f∈q.toList,f<w:=λf ap=>eT.mp (H.mem_iff.mp ap);have D:∀a,bc S q a=S (q.toList.getD a 0):=λa=>vY q.toList a;have bo:q.toList.length=w:=by rw[dq,am]
 have J:∀g k,g+k<=w->iq S q g k->cJ S ((q.toList.drop g).take k):=λg k cl e=>by
  refine nT.mpr λa r T as co=>?_;have a1:=T;have a2:=as;rw[gx,fg,bo]at a1 a2;have:=e (g+a) (g+r) ⋯ ⋯ ⋯;rw[D,D]at this;rw[ui,p1,ui,p1];rw[cG,cG,dz ⋯,dz ⋯]at this;exact this
 refine MJ N (i:=q.toList) an (a:=b.length) (aL:=aL) (C:=C) (x:=x) (bn:=i) (fr:=y) j.k (by rw[j.a];apply k0;simp) j.f (by rw[j.p,A];simp) (by rw[j.p,A];simp) Q U ⋯ (J _ _ ⋯ R) (J _ _ ⋯ al) ?_;intro mid v YK bd be cm bi bm;have bn:mid.length=C+x:=by rw[cm.length_eq,gx,fg,bo];lia
 have bs:q.toList.take aL++(q.toList.drop aL).take (C+x)++q.toList.drop (aL+(C+x))=q.toList:=by rw[q3,f7]
 have bv:bY w (q.toList.take aL++mid++q.toList.drop (aL+(C+x))).toArray:=by
  show (q.toList.take aL++mid++q.toList.drop (aL+(C+x))).Perm (range w);refine List.Perm.trans (fI _<|d1 _ cm) ?_;rw[bs];exact H
 have ZC:(q.toList.take aL).length=aL:=by rw[gx,bo];lia
 have ca:∀a,a<aL->bc S (q.toList.take aL++mid++q.toList.drop (aL+(C+x))).toArray a=bc S q a:=λa T=>by
  rw[vY,D];congr 1;rw[cG,cG,bq,kL ⋯,mI,aE T]
 have L:∀a,aL+(C+x)<=a->bc S (q.toList.take aL++mid++q.toList.drop (aL+(C+x))).toArray a=bc S q a:=λa T=>by
  rw[vY,D];congr 1;rw[cG,cG,j6 (by rw[c6];lia),lq,c6,ZC,bn];congr 2;lia
 have M:∀a,aL<=a->a<aL+(C+x)->bc S (q.toList.take aL++mid++q.toList.drop (aL+(C+x))).toArray a=S (mid.getD (a-aL) 0):=λa z E=>by
  rw[vY];congr 1;rw[cG,cG,bq,j6 ⋯,ZC,kL ⋯]
 have cd:((b++(aL,C,i)::(aL+C,x,y)::s).toArray.setIfInBounds b.length (aL,C+x,i)).eraseIdxIfInBounds (b.length+1)=(b++(aL,C+x,i)::s).toArray:=by
  rw[Jt,List.set_append_right _ _<|bp _,Bo,List.set_cons_zero];rw[D5,List.eraseIdx_append_of_length_le ⋯,show b.length+1-b.length=1 by lia];rfl
 refine e ((b++(aL,C+x,i)::s).toArray) _ v bv ⟨YK,by rw[bm];apply k0;simp,by rw[be,j.p,A,cd],bd⟩ (by rw[A];simp;lia) ?_ (λa T=>L a ⋯);have ce:eB S q (aL+(C+x)) s G:=by rw[<-rG];exact b9
 refine eB.app.mpr ⟨aL,P.congr λa W d=>ca a d,rfl,⋯,λa r z E ch=>?_,ce.congr λa g d=>L a g⟩
 ·rw[M a z ⋯,M r ⋯ ch];exact o9 bi ⋯ ⋯
end
section
variable{Yw:bO}{l:bh}{O:bA}{Yq:ab->ai->Prop}{YQ:hq}{Yu:Array bk}{S:Nat->Int}{w:Nat}{h:ai}{m:Array (Nat×Nat×Nat)}
variable{p:Array Nat}
def wm(b:bY w p){a r:Nat}(c:r<=w)(o:Nat):(mX p a r)[o]?=if a<=o/\o<r then p[a+r-1-o]? else p[o]?:=by
 unfold mX;rw[getElem?_mirror_all (by rw[b.size];lia)]
def UU(b:bY w p){a r:Nat}(d:r<=w)(c:∀o,a<=o->o<r->bc S p o=bc S p a)(o:Nat):bc S (mX p a r) o=bc S p o:=by
 by_cases e:a<=o/\o<r
 ·rw[m6 (show (mX p a r)[o]?=p[a+r-1-o]? by rw[wm b d,aE e]),c _ ⋯ ⋯,c o e.1 e.2]
 ·exact m6 (by rw[wm b d,aH e])
structure d5(S:Nat->Int)(w G:Nat)(q p:Array Nat):Prop where
 n7:bY w p
 be:∀a,a<G->p[a]?=q[a]?
 a7:∀o,bc S p o=bc S q o
def d5.rev{G:Nat}{q:Array Nat}(N:d5 S w G q p){a r:Nat}(T:G<=a)(b:r<=w)(c:∀o,a<=o->o<r->bc S q o=bc S q a):d5 S w G q (mX p a r):=
 ⟨N.n7.rev a r,λo e=>by rw[wm N.n7 b,aH ⋯];exact N.be o e,λo=>by
  rw[UU N.n7 b (λo g d=>by rw[N.a7,N.a7];exact c o g d)];exact N.a7 o⟩
theorem EV{F:Nat->Int}{g d:Nat}(e:∀r,g+1<=r->r<d->F r=F (r-1)):∀u,g+u<d->F (g+u)=F g
 |0,_=>rfl
 |u+1,hd=>(e (g+(u+1)) ⋯ hd).trans (EV e u ⋯)
def Ed(o:gH w S (fX Yw l O YQ Yu) h){G a:Nat}(x:G+a<=w){p:Array Nat}{e:bD}{g:Nat}(q:bY w p)(Yx:e1 YQ Yu m e p)(y:1<=g)(Zi:g<=a)(t:∀r,G+1<=r->r<G+g->bc S p (r-1)<=bc S p r):
   kasC (aN Yw l) O Yq (forIn [g:a] ((Y:Option (Option Nat)),g) λf n=>pJ (G+n.2) (G+n.2-1) >>= λs=>match s with
    |some u=>if u=aa then pure (ForInStep.done (Y,n.2)) else pure (ForInStep.yield (Y,n.2+1))
    |f=>pure<|ForInStep.done (Z Y,n.2))
    (λn b Yn=>h=Yn/\e=b/\∃k,n=(Y,k)/\g<=k/\k<=a/\(∀r,G+1<=r->r<G+k->bc S p (r-1)<=bc S p r)/\(k=a\/bc S p (G+k)<bc S p (G+k-1))) e h:=by
 refine gA (tF (λf n b Yn=>h=Yn/\e=b/\n=(Y,f)/\g<=f/\∀r,G+1<=r->r<G+f->bc S p (r-1)<=bc S p r) a ?_ _ _ _ _ _ ⋯ ?_ ⟨rfl,rfl,rfl,bp _,t⟩)
 ·rintro f n b Yn z ⟨rfl,rfl,rfl,j,d⟩;dsimp only;refine bl (rJ o q ⋯ ⋯ Yx ?_);dsimp only;by_cases i:bc S p (G+f)<bc S p (G+f-1)
  ·rw[aE ⇑i];exact bf ⟨rfl,rfl,f,rfl,j,⋯,d,.inr i⟩
  ·rw[aH ⇑i];refine bf ⟨rfl,rfl,rfl,⋯,λr v A=>?_⟩;by_cases c:r=G+f
   ·subst c;lia
   ·exact d r v ⋯
 ·rintro n b Yn ⟨rfl,rfl,rfl,j,d⟩;rw[show g+(a-g)=a by lia]at d ⊢;exact⟨rfl,rfl,a,rfl,⋯,bp _,d,.inl rfl⟩
def xe(G a k:Nat): StateT bD dA (Option Nat):=(r8 G (G+k) >>= λ_ => (forIn [k:a] ((Y:Option (Option Nat)),k) λf n => pJ (G+n.2) (G+n.2-1) >>= λs => match s with
    |some b => if b=aa then pure (ForInStep.done (Y,n.2)) else pure (ForInStep.yield (Y,n.2+1))
    |f => pure<|ForInStep.done (Z Y,n.2)) >>= λn => match n.1 with
    |some s => pure s
    |none => pure (Z n.2))
def H0(G f:Nat)(n:Option (Option Nat)×Nat×Nat):StateT bD dA (ForInStep<|Option (Option Nat)×Nat×Nat):=(pJ (G+n.2.1) (G+n.2.1-1) >>= λs=>match s with
 |some a=>if a=aa then (if n.2.2>0 then r8 (G+n.2.1-(n.2.2+1)) (G+n.2.1) >>= λ_=>pure (.yield (Y,n.2.1+1,0)) else pure (.yield (Y,n.2.1+1,0)))
  else pJ (G+n.2.1-1) (G+n.2.1) >>= λs=>match s with
   |some b=>if b=aa then pure (.done (Y,n.2.1,n.2.2)) else pure (.yield (Y,n.2.1+1,n.2.2+1))
   |f=>pure (.done (Z Y,n.2.1,n.2.2))
 |f=>pure (.done (Z Y,n.2.1,n.2.2)))
def vb(G a k:Nat):StateT bD dA (Option Nat):=(liftM (PySem.rule "list.sort.descending-run") >>= λ_=>forIn [k+1:a] ((Y:Option (Option Nat)),k+1,0) (H0 G) >>= λn=>match n.1 with
 |some s=>pure s
 |none=>if n.2.2>0 then r8 (G+n.2.1-(n.2.2+1)) (G+n.2.1) >>= λ_=>xe G a n.2.1 else xe G a n.2.1)
def Fe(i:gH w S (fX Yw l O YQ Yu) h){G c k:Nat}(o:G+c<=w){q p:Array Nat}{X:bD}(N:d5 S w G q p)(j:e1 YQ Yu m X p)(cm:1<=k)(s:k<=c)(t:∀r,G+1<=r->r<G+k->bc S q r<=bc S q (r-1)){B:Option Nat->bD->ai->Prop}(e:∀k b f,1<=k->k<=c->bY w b->e1 YQ Yu m f b->(∀a,a<G->b[a]?=q[a]?)->(∀r,G+1<=r->r<G+k->bc S b (r-1)<=bc S b r)->B (Z k) f h):kasC (aN Yw l) O Yq (xe G c k) B X h:=by
 unfold xe;refine bl (vS j λy YO=>?_);have J:=wm N.n7 (a:=G) (r:=G+k) ⋯;have a7:∀a,G<=a->a<G+k->bc S (mX p G<|G+k) a=bc S q (G+(G+k)-1-a):=λa g d=>(m6 (by rw[J,aE ⟨g,d⟩])).trans (N.a7 _);refine bl (iz (Ed i o (N.n7.rev G<|G+k) YO cm s λr z A=>?_) ?_)
 ·rw[a7 _ ⋯ ⋯,a7 _ ⋯ ⋯];have:=t (G+(G+k)-1-(r-1)) ⋯ ⋯;rw[show G+(G+k)-1-(r-1)-1=G+(G+k)-1-r by lia]at this;exact this
 ·rintro n f Yn ⟨rfl,rfl,u,rfl,C,v,x,D⟩;dsimp only;exact bf (e u _ _ ⋯ v (N.n7.rev G<|G+k) YO (λa T=>by rw[J,aH ⋯];exact N.be a T) x)
def I3(A:gH w S (fX Yw l O YQ Yu) h){G s k:Nat}(E:G+s<=w){q p:Array Nat}{X:bD}(N:d5 S w G q p)(j:e1 YQ Yu m X p)(cm:1<=k)(al:k<s)(Q:∀r,G+1<=r->r<G+(k+1)->bc S q r<=bc S q (r-1)){B:Option Nat->bD->ai->Prop}(e:∀k z t,1<=k->k<=s->bY w z->e1 YQ Yu m t z->(∀a,a<G->z[a]?=q[a]?)->(∀r,G+1<=r->r<G+k->bc S z (r-1)<=bc S z r)->B (Z k) t h):kasC (aN Yw l) O Yq (vb G s k) B X h:=by
 have aR:∀{f u:Nat},u+1<=f->(∀r,G+f-u<=r->r<G+f->bc S q r=bc S q (r-1))->∀o,G+f-(u+1)<=o->o<G+f->bc S q o=bc S q (G+f-(u+1)):=λ{f u} hd c o g d=>by
  have:=EV (F:=bc S q) (g:=G+f-(u+1)) (d:=G+f) (λr f H=>c r ⋯ H) (o-(G+f-(u+1))) ⋯
  rwa [show G+f-(u+1)+(o-(G+f-(u+1)))=o by lia]at this
 unfold vb;refine bl (om<|iJ ?_);refine bl (iz (a:=λn t Yn=>h=Yn/\∃i f u,n=(Y,f,u)/\e1 YQ Yu m t i/\d5 S w G q i/\k+1<=f/\f<=s/\u+1<=f/\(∀r,G+1<=r->r<G+f->bc S q r<=bc S q (r-1))/\∀r,G+f-u<=r->r<G+f->bc S q r=bc S q (r-1))
  (gA (tF (λf n t Yn=>h=Yn/\∃i u,n=(Y,f,u)/\e1 YQ Yu m t i/\d5 S w G q i/\k+1<=f/\u+1<=f/\(∀r,G+1<=r->r<G+f->bc S q r<=bc S q (r-1))/\∀r,G+f-u<=r->r<G+f->bc S q r=bc S q (r-1)) s ?Y2 _ _ _ _ _ ⋯ ?Y8 ⟨rfl,p,0,rfl,j,N,bp _,⋯,Q,λr g d=>⋯⟩)) ?R)
 case Y2=>
  rintro f n t Yn an ⟨rfl,i,u,rfl,P,b,C,y,v,x⟩;unfold H0;dsimp only;refine bl (rJ A b.n7 ⋯ ⋯ P ?_);dsimp only;rw[b.a7,b.a7];by_cases I:bc S q (G+f)<bc S q (G+f-1)
  ·rw[aE ⇑I];have J:∀r,G+1<=r->r<G+(f+1)->bc S q r<=bc S q (r-1):=λr D T=>by
    by_cases c:r=G+f
    ·subst c;lia
    ·exact v r D ⋯
   by_cases hd:u>0
   ·rw[aE hd];refine bl (vS P λU YO=>?_);exact bf ⟨rfl,_,0,rfl,YO,b.rev ⋯ ⋯<|aR y x,⋯,⋯,J,λr g d=>⋯⟩
   ·rw[aH hd];exact bf ⟨rfl,i,0,rfl,P,b,⋯,⋯,J,λr g d=>⋯⟩
  ·rw[aH ⇑I];refine bl (rJ A b.n7 ⋯ ⋯ P ?_);dsimp only;rw[b.a7,b.a7];by_cases L:bc S q (G+f-1)<bc S q (G+f)
   ·rw[aE ⇑L];exact bf ⟨rfl,i,f,u,rfl,P,b,C,⋯,y,v,x⟩
   ·rw[aH ⇑L];refine bf ⟨rfl,i,u+1,rfl,P,b,⋯,⋯,λr D T=>?_,λr g d=>?_⟩
    ·by_cases c:r=G+f
     ·subst c;lia
     ·exact v r D ⋯
    ·by_cases c:r=G+f
     ·subst c;lia
     ·exact x r ⋯ ⋯
 case Y8=>
  rintro n t Yn ⟨rfl,i,u,rfl,P,b,C,y,v,x⟩;rw[show k+1+(s-(k+1))=s by lia] at *;exact⟨rfl,i,s,u,rfl,P,b,C,bp _,y,v,x⟩
 case R=>
  rintro n t Yn ⟨rfl,i,f,u,rfl,P,b,C,M,y,v,x⟩;dsimp only;by_cases hd:u>0
  ·rw[aE hd];refine bl (vS P λU YO=>?_);exact Fe A E (b.rev ⋯ ⋯<|aR y x) YO ⋯ M v e
  ·rw[aH hd];exact Fe A E b P ⋯ M v e
def CE(G a:Nat): StateT bD dA (Option Nat):=((forIn [1:a] ((Y:Option (Option Nat)),1) λf n => pJ (G+n.2) (G+n.2-1) >>= λs => match s with
    |some b => if b=aa then pure (ForInStep.done (Y,n.2)) else pure (ForInStep.yield (Y,n.2+1))
    |f => pure<|ForInStep.done (Z Y,n.2)) >>= λn => match n.1 with
    |some s => pure s
    |none => if (n.2==a)=aa then pure (Z n.2) else if n.2>1 then pJ G (G+n.2-1) >>= λs => match s with
      |some c => if c=aa then pure (Z n.2) else r8 G (G+n.2) >>= λ_ => vb G a n.2
      |f => pure Y
      else vb G a n.2)
def Ri(G a:Nat):countRun' G a=CE G a:=by
 kernel_rfl
def N6(p:gH w S (fX Yw l O YQ Yu) h){q:Array Nat}(b:bY w q){G f:Nat}(z:1<=f)(t:G+f<=w){X:bD}(j:e1 YQ Yu m X q){B:Option Nat->bD->ai->Prop}(e:∀k i v,1<=k->k<=f->bY w i->e1 YQ Yu m v i->(∀a,a<G->i[a]?=q[a]?)->(∀r,G+1<=r->r<G+k->bc S i (r-1)<=bc S i r)->B (Z k) v h):
  kasC (aN Yw l) O Yq (countRun' G f) B X h:=by
 rw[Ri];unfold CE;have A:d5 S w G q q:=⟨b,λ_ W=>rfl,λ_=>rfl⟩;refine bl (iz (Ed p t b j (bp _) z λr g d=>⋯) ?_);rintro n v Yn ⟨rfl,rfl,k,rfl,cm,C,s,F⟩;dsimp only;by_cases c:k=f
 ·rw[aE ⇑c];exact bf (e k q _ cm C b j (λ_ W=>rfl) s)
 rw[aH ⇑c];have H:bc S q (G+k)<bc S q (G+k-1):=F.resolve_left c;by_cases D:k>1
 ·rw[aE D];refine bl (rJ p b ⋯ ⋯ j ?_);dsimp only;by_cases E:bc S q G<bc S q (G+k-1)
  ·rw[aE ⇑E];exact bf (e k q _ cm C b j (λ_ W=>rfl) s)
  ·rw[aH ⇑E];have I:∀u,u<k->bc S q G<=bc S q (G+u)/\bc S q (G+u)<=bc S q (G+k-1):=by
    have J:∀u,u<k->bc S q G<=bc S q (G+u):=λu=>by
     induction u with
     |zero=>intro W;exact hl _
     |succ u x=>
      intro hd;have g:=s (G+(u+1)) ⋯ ⋯;rw[show G+(u+1)-1=G+u by lia]at g;have:=x ⋯;lia
    have L:∀u,u<k->bc S q (G+k-1-u)<=bc S q (G+k-1):=λu=>by
     induction u with
     |zero=>intro W;exact hl _
     |succ u x=>
      intro hd;have g:=s (G+k-1-u) ⋯ ⋯;rw[show G+k-1-u-1=G+k-1-(u+1) by lia]at g;have:=x ⋯;lia
    intro u hd;refine⟨J u hd,?_⟩;have:=L (k-1-u) ⋯
    rwa [show G+k-1-(k-1-u)=G+u by lia]at this
   have y:∀o,G<=o->o<G+k->bc S q o=bc S q G:=λo g d=>by
    have:=I (o-G) ⋯;rw[show G+(o-G)=o by lia]at this;lia
   refine bl (vS j λP YO=>?_);exact I3 (q:=q) p t (A.rev (bp _) ⋯ y) YO cm ⋯ (λr M N=>by
    by_cases c:r=G+k
    ·subst c;lia
    ·rw[y r ⋯ ⋯,y (r-1) ⋯ ⋯];exact hl _) e
 rw[aH D];obtain rfl:k=1:=⋯
 exact I3 (q:=q) p t A j (bp _) ⋯ (λr M N=>by
  obtain rfl:r=G+1:=⋯
  exact IP H) e
end
section
variable{Yw:bO}{l:bh}{O:bA}{Yq:ab->ai->Prop}{YQ:hq}{Yu:Array bk}{S:Nat->Int}{w:Nat}{h:ai}{m:Array (Nat×Nat×Nat)}
variable{q:Array Nat}
theorem eB.same:∀{i L:List (Nat×Nat×Nat)}{g d:Nat},eB S q g i d->(i.map λf=>(f.1,f.2.1))=(L.map λf=>(f.1,f.2.1))->eB S q g L d
 |[],[],g,d,e,_=>e
 |[],_::_,g,d,e,c=>by cases c
 |_::_,[],g,d,e,c=>by cases c
 | (f,t,D)::i,(k,l,m)::L,g,d,e,c=>by
  rw[cy,cy]at c;injection c with h j;injection h with a b;dsimp only at a b;subst a;subst b;exact⟨e.1,e.2.1,e.2.2.1,e.2.2.2.same j⟩
def Ni(x:Array (Nat×Nat×Nat))(a D:Nat):(x.toList.map λf=>(f.1,f.2.1))=((x.modify a λf=>(f.1,f.2.1,D)).toList.map λf=>(f.1,f.2.1)):=by
 apply rl;intro r;rw[ea,ea,e0,e0,Array.getElem?_modify];split
 ·rw[Option.map_map];rfl
 ·rfl
def iq.congr{p:Array Nat}{G k:Nat}(e:iq S q G k)(J:∀a,G<=a->bc S p a=bc S q a):iq S p G k:=λa r g d n=>by
 rw[J a g,J r ⋯];exact e a r g d n
def Qc{az:gW}{O:bA}{Yq:ab->ai->Prop}{C YH:Type}{n:Nat->Prop}{c:∀k,Decidable (n k)}{b Zo:Nat->StateT C dA YH}{B:YH->C->ai->Prop}{h:ai}(YC:Nat->C->Prop)(j:∀k X,YC k X->kasC az O Yq (Zo k) B X h)(a:(∀k X,YC k X->kasC az O Yq (Zo k) B X h)->∀k X,n k->YC k X->kasC az O Yq (b k) B X h):∀k X,YC k X->kasC az O Yq (if n k then b k else Zo k) B X h:=λk X q=>
 if e:n k then by rw[aE e];exact a j k X e q else by rw[aH e];exact j k X q
variable{B:Unit->bD->ai->Prop}
def Q_(y:gH w S (fX Yw l O YQ Yu) h)(E:2<=w)(ap:∀s b,bY w s->iS S s w->arrOf b=s.map (bg Yu)->iC b=Y->B () b h):kasC (aN Yw l) O Yq sortRuns' B (wy YQ Yu (range w).toArray) h:=by
 rw[sortRuns'_eq];refine bl (km ?_);dsimp only;have as:(arrOf<|wy YQ Yu (range w).toArray).size=w:=by
  show ((range w).toArray.map<|bg Yu).size=w;simp
 simp only[as];refine bl (iz (a:=λn b Yn=>h=Yn/\n=(Y,w)/\∃m q,bY w q/\e1 YQ Yu m b q/\eB S q 0 m.toList w)
  (gA (hr (λf n b Yn=>h=Yn/\∃G m q,n=(Y,G)/\f<=G/\G<=w/\bY w q/\e1 YQ Yu m b q/\eB S q 0 m.toList G) ?step _ 0 _ _ _ ?fin ⟨rfl,0,#[],(range w).toArray,rfl,bp _,⋯,List.Perm.refl _,⟨rfl,rfl,rfl,rfl⟩,rfl⟩)) ?after)
 case fin=>
  rintro n b Yn ⟨rfl,G,m,q,rfl,g,d,u,c,F⟩;have:G=w:=⋯
  subst this;exact⟨rfl,rfl,m,q,u,c,F⟩
 case after=>
  rintro n b Yn ⟨rfl,rfl,m,q,i,j,Ym⟩;dsimp only;refine bl (iz (a:=λn b Yn=>h=Yn/\n=(Y,())/\∃q,bY w q/\iS S q w/\arrOf b=q.map (bg Yu)/\iC b=Y)
   (gA (hr (λf n b Yn=>h=Yn/\n=(Y,())/\∃m q,bY w q/\e1 YQ Yu m b q/\eB S q 0 m.toList w/\m.size+f<=w) ?z _ 0 _ _ _ ?f2 ⟨rfl,rfl,m,q,i,j,Ym,by have:=Ym.le;rw[dq]at this;lia⟩)) ?Zi)
  case Zi=>
   rintro n b Yn ⟨rfl,rfl,q,g,d,n,u⟩;exact bf (ap q _ g d n u)
  case f2=>
   rintro n b Yn ⟨rfl,rfl,m,q,i,j,Ym,a1⟩;have c:m.toList=[]:=oy (by rw[dq];lia);rw[c]at Ym;have:0=w:=Ym;lia
  case z=>
   rintro f n b Yn ⟨rfl,rfl,m,q,i,j,Ym,a1⟩;refine bl (km ?_);by_cases c:(iv b).size<=1
   ·rw[aE c];refine bf ⟨rfl,rfl,q,i,?_,j.a,j.f⟩;rw[j.p]at c;have fz:m.toList.length<=1:=by rw[dq];exact c
    match Q:m.toList,fz with
    |[],_=>
     rw[Q]at Ym;have:0=w:=Ym;lia
    |[(f,t,D)],_=>
     rw[Q]at Ym;let@⟨rfl,_,a2,bd⟩:=Ym;have:0+t=w:=bd;exact λa r be cd=>a2 a r (g0 _) be ⋯
    |_::_::_,e=>exact absurd e ↥0
   ·rw[aH c];rw[j.p]at c;have dH:∀idx,idx+1<m.size->kasC (aN Yw l) O Yq (uI idx) (λd v z=>d=aa/\h=z/\∃m q,bY w q/\e1 YQ Yu m v q/\eB S q 0 m.toList w/\m.size+(f+1)<=w) b h:=λidx bi=>
     Ll y i j bi Ym (bp _) λM s bm g d n u R=>⟨rfl,rfl,M,s,g,d,u,⋯⟩;refine bl (iz (dH _ ?_) ?_)
    ·rw[j.p];have:∀(n:Prop) [Decidable n],(if n then m.size-2-1 else m.size-2)+1<m.size:=λn W=>by split<;>lia
     exact this _
    ·rintro d v z ⟨rfl,rfl,bn⟩;rw[aH ∅];exact bf ⟨rfl,rfl,bn⟩
 case step=>
  rintro f n b Yn ⟨rfl,G,m,q,rfl,ce,ch,i,j,Ym⟩;dsimp only;by_cases T:G >= w
  ·rw[aE T];have:G=w:=⋯
   subst this;exact bf ⟨rfl,rfl,m,q,i,j,Ym⟩
  rw[aH T];refine bl (N6 y i ⋯ ⋯ j ?_);intro k al x cm A C Yx am I;have p:k<=w-G/\1<=k/\∃q,bY w q/\e1 YQ Yu m x q/\eB S q 0 m.toList G/\iq S q G k:=⟨A,cm,al,C,Yx,Ym.congr λa W d=>m6<|am a d,G7 I⟩;dsimp only;clear I am Yx C cm A;revert k x;refine Qc (λk x=>k<=w-G/\1<=k/\∃q,bY w q/\e1 YQ Yu m x q/\eB S q 0 m.toList G/\iq S q G k) ?_ ?_
  ·intro k v p;let@⟨A,cm,⟨@Y6,J,YO,b9,L⟩⟩:=p;refine bl (km ?_);rcases ci:(iv v).back? with _|⟨cl,co,cr⟩
   ·dsimp only;refine bl (kW ?_);refine bf ⟨rfl,G+k,m.push (G,k,0),Y6,rfl,⋯,⋯,J,⟨YO.k,YO.a,by show (iv v).push _=_;rw[YO.p],YO.f⟩,?_⟩;rw[vT];exact eB.app.mpr ⟨G,b9,rfl,⋯,L,rfl⟩
   ·dsimp only;refine bl (iz (a:=λn b Yn=>h=Yn/\n=(Y,())/\∃m q,bY w q/\e1 YQ Yu m b q/\eB S q 0 m.toList G/\iq S q G (k))
     (gA<|hr (λf n b Yn=>h=Yn/\n=(Y,())/\∃m q,bY w q/\e1 YQ Yu m b q/\eB S q 0 m.toList G/\iq S q G (k)) ?_ _ 0 _ _ _ (λ_ W W D=>D) ⟨rfl,rfl,m,Y6,J,YO,b9,L⟩) ?_)
    ·rintro H n b Yn ⟨rfl,rfl,m,q,i,j,Ym,O⟩;refine bl (km ?_);by_cases c:(iv b).size>1
     ·rw[aE c];rcases cs:(iv b)[(iv b).size-2]? with _|⟨g,d,db⟩
      ·dsimp only;exact bf ⟨rfl,rfl,m,q,i,j,Ym,O⟩
      ·dsimp only;split
       ·exact bf ⟨rfl,rfl,m,q,i,j,Ym,O⟩
       ·refine bl (Ll y i j (by rw[j.p]at c ⊢;lia) Ym ⋯ ?_);intro M s bm g d n u R;rw[aH ∅];exact bf ⟨rfl,rfl,M,s,g,d,u,O.congr R⟩
     ·rw[aH c];dsimp only;exact bf ⟨rfl,rfl,m,q,i,j,Ym,O⟩
    ·rintro n b Yn ⟨rfl,rfl,m,q,i,j,Ym,O⟩;dsimp only;refine bl (kW ?_);refine bl (kW ?_);refine bf ⟨rfl,G+k,(m.modify (m.size-1) _).push (G,k,0),q,rfl,⋯,⋯,i,⟨j.k,j.a,by show ((iv b).modify ((iv b).size-1) _).push _=_;rw[j.p],j.f⟩,?_⟩;rw[vT];exact eB.app.mpr ⟨G,Ym.same<|Ni _ _ _,rfl,⋯,O,rfl⟩
  ·intro U k x ds p;let@⟨A,cm,⟨@al,C,Yx,bs,I⟩⟩:=p;refine bl (om<|iJ ?_);have N:k<=min (w-G) (minRun' w w 0):=⋯
   have an:min (w-G) (minRun' w w 0)<=w-G:=⋯
   generalize min (w-G) (minRun' w w 0)=bv at N an ⊢;refine bl (Tw y C ⋯ cm N I Yx ?_);intro Y6 v J YO ca L;rw[aH ∅];exact U bv v ⟨an,fa cm N,Y6,J,YO,bs.congr λa W d=>m6<|ca a d,L⟩
def Uz(c:gH w S (fX Yw l O YQ Yu) h)(E:2<=w)(e:w<1001\/∀r,1<=r->r<w->S (r-1)<=S r)(d:∀a b,bY w a->iS S a w->arrOf b=a.map (bg Yu)->iC b=Y->B () b h):kasC (aN Yw l) O Yq sortRuns' B (wy YQ Yu (range w).toArray) h:=Q_ c E d
end
end L2
namespace L2
open Spec PyProof.Rows
section
variable{b:aO}{M:List (ag×a3)}{C:a5}{j:ay}{h:ai}{R:aX}
variable{Zw:List ag}{YU:Nat}
def aF.F9{U:ag}{x:List av}(A:aF b M C j h)(a:∀d∈Zw,ha b M j d)(o:∀d m,d∉Zw->h.heap.get? d=Z m->R.get? d=Z m)(n:h.heap.objs.size<=U)(new:fi b.prog b.w (upd j U<|.tup x) R U (.tup x)):aF b M C (upd j U<|.tup x) {h with heap:=R,toks:=YU}:=by
 have f:j U=Y:=A.a4.fresh n;have t:∀d m,h.heap.get? d=Z m->d≠U:=λd m c=>cZ (fP (bM c) n);have q:∀d L,j d=Z L->d∉Zw:=λd L c D=>by rw[(a d D).1]at c;cases c
 refine A.step (G:=h.gens) (S:=h.drawn) (Zw:=Zw) (λd e=>⟨(a d e).2.2.2.1,(a d e).2.1,(a d e).2.2.2.2.1,(a d e).2.2.2.2.2⟩) (λd m W W i c W=>o d m i c) (λd m W W i c W=>⟨m.slots,o d m i c⟩)
  (λd m W c w=>by rw[dr (t d m c)];exact w) (λd m i c=>⟨m,o d m i c⟩) (λd YA c=>by rw[dr (hW c f)];exact c) (λd m L c=>by rw[dr (hW c f)];exact c)
  (λd Yz c=>⟨#[],by rw[dr (hW c f),c];simp⟩) (λk u=>?_) (λg m c=>?_) A.bare
 ·let⟨m,Q,@YW,v,s⟩:=u;exact⟨m,Q,YW,o _ m (λD=>(a _ D).2.1 rfl) v,s⟩
 ·by_cases r:g=U
  ·subst r;rw[e8]at c;cases c;exact new
  ·rw[dr r]at c;refine (A.a4 g m c).g9 (λd L e p=>o d L ?_ p) (λd p=>by rw[dr (hW p f)];exact p) λd YA p=>by rw[dr (hW p f)];exact p
   rcases e with D|D
   ·rw[D];exact q g m c
   ·exact q d _ D
def aF.De(A:aF b M C j h)(a:∀d∈Zw,ha b M j d)(o:∀d m,d∉Zw->h.heap.get? d=Z m->R.get? d=Z m):aF b M C j {h with heap:=R,toks:=YU}:=by
 have i:∀d L,j d=Z L->d∉Zw:=λd L c D=>by rw[(a d D).1]at c;cases c
 refine A.step (G:=h.gens) (S:=h.drawn) (Zw:=Zw) (λd e=>⟨(a d e).2.2.2.1,(a d e).2.1,(a d e).2.2.2.2.1,(a d e).2.2.2.2.2⟩) (λd m W W f c W=>o d m f c) (λd m W W f c W=>⟨m.slots,o d m f c⟩)
  (λd m W W w=>w) (λd m f c=>⟨m,o d m f c⟩) (λd YA c=>c) (λd m L c=>c) (λd Yz c=>⟨#[],by rw[c];simp⟩) (λk l=>?_) (λg m c=>?_) A.bare
 ·let⟨m,Q,@YW,n,s⟩:=l;exact⟨m,Q,YW,o _ m (λD=>(a _ D).2.1 rfl) n,s⟩
 ·refine (A.a4 g m c).g9 (λd L e p=>o d L ?_ p) (λd p=>p) λd YA p=>p;rcases e with D|D
  ·rw[D];exact i g m c
  ·exact i d _ D
end
section
variable{Yw:bO}{l:bh}{O:bA}{Yq:ab->ai->Prop}{h:ai}
variable{Yu i:ag}{a:Nat}{YJ:Array ab}{B:ab->ai->Prop}
def NQ{f:ab}(d:h.heap.IsTupleIter Yu i a)(bG:h.heap.IsTuple i YJ)(e:YJ[a]?=Z f)(p:∀R,R.IsTupleIter Yu i (a+1)->aX.SameBut Yu h.heap R->B f {h with heap:=R}):wpAny (aN Yw l) O (aY.SmallTypes.nextOf<|.ref Yu) B Yq h:=by
 let⟨@m,c,g,b⟩:=id d;let⟨@ol,g1,W,⟨@C,j⟩⟩:=bG;unfold aY.SmallTypes.nextOf;refine ao (lA (name:=aG.ofString "__next__") d.typeIs vc<|hP vc d.typeIs JI ?D<|Fb _)
 case D=>
  show wpAny _ _ (jn (.ref Yu) 0 >>= _) _ _ h;refine ao (gJ c b (x:=.ref i) rfl ?_);show wpAny _ _ (if (ab.ref i==ab.none)=aa then _ else _) _ _ h;rw[aH (show ¬ (ab.ref i==ab.none)=aa by intro D;cases D)];show wpAny _ _ (jn (.ref Yu) 1 >>= _) _ _ h;refine ao (gJ c b (x:=.int a 0) rfl ?_);show wpAny _ _ (nj (.ref i) >>= _) _ _ h;refine ao (gT g1 j ?_);simp only[kY,e];refine ao (oG c b ↥0 (aM ⟨f,rfl,aM (p _ ⟨_,jh _ c<|Ac<|qm b _,(yP ..).trans g,by rw[qm b];simp[eD]⟩<|mJ ..)⟩))
def Sy(j:O.handled=Y)(b:h.heap.IsTupleIter Yu i a)(bG:h.heap.IsTuple i YJ)(n:YJ[a]?=Y)(p:∀R c,aX.ExtBut Yu h.heap R->(∃m,R.get? c=Z m/\m.cls=.type "StopIteration")->Yq (.ref c) {h with heap:=R}):wpAny (aN Yw l) O (aY.SmallTypes.nextOf<|.ref Yu) B Yq h:=by
 let⟨@m,d,q,e⟩:=id b;let⟨@ol,g1,W,⟨@C,o⟩⟩:=bG;unfold aY.SmallTypes.nextOf;refine ao (lA (name:=aG.ofString "__next__") b.typeIs vc<|hP vc b.typeIs JI ?D<|Fb _)
 case D=>
  show wpAny _ _ (jn (.ref Yu) 0 >>= _) _ _ h;refine ao (gJ d e (x:=.ref i) rfl ?_);show wpAny _ _ (if (ab.ref i==ab.none)=aa then _ else _) _ _ h;rw[aH (show ¬ (ab.ref i==ab.none)=aa by intro D;cases D)];show wpAny _ _ (jn (.ref Yu) 1 >>= _) _ _ h;refine ao (gJ d e (x:=.int a 0) rfl ?_);show wpAny _ _ (nj (.ref i) >>= _) _ _ h;refine ao (gT g1 o ?_);simp only[kY,n];refine ao (iJ (ao (oG d e ↥0 ?_)));show wpAny _ _ (p9 (.type "StopIteration") [] >>= _) _ _ _;apply ao;simp only[p9,tv];refine ao (gz (ao (m:=qP _ _) (og (a:=ab.none) (by first|rfl|(simp only[qP];rfl)) (gz ?_ (by size_fits)))) (by size_fits));simp only[raiseNew];apply ao;apply Aq;rw[show O.in1.handled=Y from j];refine ao (m:=pure _) (aM<|Bh ?_);exact p _ _ (((mJ ..).extBut.push _).push _) ⟨_,cO _ rfl,rfl⟩
end
variable{h:ai}{Zd:b9}{Y1 Zg Y3:List Nat}{own Yz:List aG}{Yo:Φ}{Zl YT n d c g:bz}{ZD:List cf}{Yq:px}{r w:Nat}{ZH C:a5}{fd:hL}{f:aG}{q YD:Pos}{Yl x:List av}{I:List V}{aP Zb O Ym YY YI Y5 S N:List ag}{Q s:List bz}{B:cS}{YU:eH}{b:aO}{YO Yx P j:ay}{v:av}
def CK(Yo:Φ)(j:ay)(f:av)(U:String)(d:Bool):Prop:=(
 (∃a,f=.int a/\((U = "int" /\ d=aa)\/(U = "tuple" /\ d=au)\/(U = "str" /\ d=au)\/(U = "bool" /\ d=au)\/(U = "list" /\ d=au)))\/
 (∃a,f=.aB a/\((U = "bool" /\ d=aa)\/(U = "int" /\ d=aa)\/(U = "tuple" /\ d=au)\/(U = "str" /\ d=au)\/(U = "list" /\ d=au)))\/
 (∃a,f=.str a/\((U = "str" /\ d=aa)\/(U = "int" /\ d=au)\/(U = "tuple" /\ d=au)\/(U = "bool" /\ d=au)\/(U = "list" /\ d=au)))\/
 (∃g x,f=.ref g/\cL Yo j g x/\((U = "tuple" /\ d=aa)\/(U = "int" /\ d=au)\/(U = "str" /\ d=au)\/(U = "bool" /\ d=au)\/(U = "list" /\ d=au)))\/
 (∃g x,f=.ref g/\de Yo j g x/\((U = "list" /\ d=aa)\/(U = "int" /\ d=au)\/(U = "str" /\ d=au)\/(U = "bool" /\ d=au)\/(U = "tuple" /\ d=au))))
section
variable{b:aO}
def UJ:eZ b (.builtin "isinstance") (λx j B=>∃f U d,x=[f,.ty U]/\CK b.K j f U d/\B (.aB d) j):=by
 intro M h C j x YM B A s e;let⟨f,U,@d,rfl,T,p⟩:=e;cases s with
 |cons s n=>
  cases n with
  |cons Zd n=>
   cases n;cases Zd;have Zt:∀{d:Bool},B (.aB d) j->ez b M C B (.bool d) h:=λ{d} p=>⟨.aB d,j,A,rfl,p⟩;have c:∀{d:Bool},B (.aB d) j->ez b M C B (.bool d) {h with toks:=h.toks+1}:=λ{d} p=>⟨.aB d,j,A.tok _,rfl,p⟩;rcases T with ⟨a,rfl,T⟩|⟨a,rfl,T⟩|⟨a,rfl,T⟩|⟨g,x,rfl,Ys,T⟩|⟨g,x,rfl,Ys,T⟩
   ·let⟨@i,rfl⟩:=s;rcases T with ⟨rfl,rfl⟩|⟨rfl,rfl⟩|⟨rfl,rfl⟩|⟨rfl,rfl⟩|⟨rfl,rfl⟩
    ·exact IsiPair.int_int (Zt p)
    ·exact IsiPair.int_tuple (c p)
    ·exact IsiPair.int_str (c p)
    ·exact IsiPair.int_bool (c p)
    ·exact IsiPair.int_list (c p)
   ·cases s;rcases T with ⟨rfl,rfl⟩|⟨rfl,rfl⟩|⟨rfl,rfl⟩|⟨rfl,rfl⟩|⟨rfl,rfl⟩
    ·exact IsiPair.bool_bool (Zt p)
    ·exact IsiPair.bool_int (Zt p)
    ·exact IsiPair.bool_tuple (c p)
    ·exact IsiPair.bool_str (c p)
    ·exact IsiPair.bool_list (c p)
   ·let⟨@i,rfl⟩:=s;rcases T with ⟨rfl,rfl⟩|⟨rfl,rfl⟩|⟨rfl,rfl⟩|⟨rfl,rfl⟩|⟨rfl,rfl⟩
    ·exact IsiPair.str_str (Zt p)
    ·exact IsiPair.str_int (c p)
    ·exact IsiPair.str_tuple (c p)
    ·exact IsiPair.str_bool (c p)
    ·exact IsiPair.str_list (c p)
   ·cases s;let⟨@Yy,o,⟨@m,k,l,W⟩,r⟩:=A.tuple Ys;rcases T with ⟨rfl,rfl⟩|⟨rfl,rfl⟩|⟨rfl,rfl⟩|⟨rfl,rfl⟩|⟨rfl,rfl⟩
    ·exact IsiPair.tuple_tuple k l (Zt p)
    ·exact IsiPair.tuple_int k l (c p)
    ·exact IsiPair.tuple_str k l (c p)
    ·exact IsiPair.tuple_bool k l (c p)
    ·exact IsiPair.tuple_list k l (c p)
   ·cases s;let⟨@Yy,o,q,r⟩:=A.list Ys;let⟨@m,k,l,W⟩:=q.isList;rcases T with ⟨rfl,rfl⟩|⟨rfl,rfl⟩|⟨rfl,rfl⟩|⟨rfl,rfl⟩|⟨rfl,rfl⟩
    ·exact IsiPair.list_list k l (Zt p)
    ·exact IsiPair.list_int k l (c p)
    ·exact IsiPair.list_str k l (c p)
    ·exact IsiPair.list_bool k l (c p)
    ·exact IsiPair.list_tuple k l (c p)
def V2:∀{Yr:List Bool}{YM:List ab},bS (Yr.map av.aB) YM->∀(a:Nat) (v:ab),YM[a]?=Z v->∃d,Yr[a]?=Z d/\v=ab.bool d:=by
 intro Yr YM s a v e;have b:=s.length;rw[ba]at b;have T:a<Yr.length:=by rw[b];exact (eA.mp e).1
 let⟨@L,c,g⟩:=s.get (a:=a) (f:=av.aB Yr[a]) (by simp[T]);rw[e]at c;cases c;exact⟨Yr[a],by simp[T],g⟩
def V5(k:b.calm=aa):eZ b (.builtin "all") (λx j B=>∃t Yr,x=[.ref t]/\j t=Z (.lst<|List.map av.aB Yr)/\B (.aB<|Yr.all id) j):=by
 intro M h C j x YM B A s e;let⟨t,@Yr,rfl,l,p⟩:=e;let⟨@L,rfl,m⟩:=hF s;cases m;let@⟨D,⟨Yy,@w,f,c⟩⟩:=A.a4 t _ l;have g:h.heap.IsList t Yy.toArray:=⟨_,c,rfl,w,rfl⟩;refine call_all_walk (wpAny_pyIter_list g ⟨h.heap.objs.size,[h.heap.objs.size,t],[h.heap.objs.size],Yy.toArray.size,_,_,λa=>(Yr[a]?).getD aa,rfl,iD.list (A:=b.A.in1) (A.ok.hd k) _ t (cZ<|bM c) Yy.toArray,
  ⟨⟨_,cO _ rfl,rfl,rfl⟩,g.push _⟩,λa v Yn r u n i=>?_,λR YX o=>?_⟩)
 ·let⟨@d,q,rfl⟩:=V2 f a v ⇑n;simp only[q,tw]at i;exact tX i
 ·have fz:Yy.toArray.size=Yr.length:=by
   have:=f.length;rw[ba]at this;rw[cv,this]
  rw[fz,LSm.range_all];exact⟨.aB _,j,A.kept<|BZ o,rfl,p⟩
def R1:d2 b (gr .Mult) (qe IntMulOk λa r=>.int<|a*r):=uC λ_ W W W W W W c p=>mul_int p c
end
inductive aj where
 | im (u:V)
 | ek
 | dv (I:List V)
 | lst (I:List V)
 | dU (YE:List (eO×V))
 | bN (YE:List (List V×V))
 | hC (x:List aj)
 | qI (x:List aj)
variable{m:Option aj}{Zc:List aj->Option aj}{F:aj->aj->Option aj}{u:aj}
abbrev a6:=List (Option aj)
variable{YN y:a6}{e:List aj->a6->Option a6}
abbrev ff{YQ:Type}(j:ay):List (YQ×V)->List (YQ×av)->Prop:=es λq p=>q.1=p.1/\cH j q.2 p.2
def ff.mono{YQ:Type}{t:List (YQ×V)}{k:List (YQ×av)}(i:p_ j P)(e:ff j t k):ff P t k:=es.uR e λ_ W D=>⟨D.1,D.2.mono i⟩
structure fx(j P:ay):Prop where
 tup:p_ j P
 dF:∀g m L,j g=Z (.dF m L)->P g=Z (.dF m L)
mutual
def cP(j:ay):aj->av->List ag->Prop
 |.im u,v,N=>cH j u v/\N=[]
 |.ek,_,N=>N=[]
 |.dv I,v,N=>∃g x m,v=.ref g/\j g=Z (.dF m<|.lst x)/\bb j I x/\N=[]
 |.lst I,v,N=>∃g x,v=.ref g/\j g=Z (.lst x)/\bb j I x/\N=[g]
 |.dU YE,v,N=>∃g T,v=.ref g/\j g=Z (.dU T)/\ff j YE T/\N=[g]
 |.bN YE,v,N=>∃g T,v=.ref g/\j g=Z (.bN T)/\ff j YE T/\N=[g]
 |.hC I,v,N=>∃g x S,v=.ref g/\j g=Z (.lst x)/\ey j I x S/\N=g::S
 |.qI I,v,N=>∃g x,v=.ref g/\j g=Z (.tup x)/\ey j I x N
def ey(j:ay):List aj->List av->List ag->Prop
 |[],Yl,N=>Yl=[]/\N=[]
 |u::I,Yl,N=>∃v s YI YY,Yl=v::s/\cP j u v YI/\ey j I s YY/\N=YI++YY
end
mutual
theorem cP.mono{j P:ay}(i:fx j P):∀{u:aj}{v:av}{N:List ag},cP j u v N->(∀g∈N,∀m,j g=Z m->P g=Z m)->cP P u v N
 |.im u,v,N,e,_=>⟨e.1.mono i.tup,e.2⟩
 |.ek,v,N,e,_=>e
 |.dv I,v,N,e,_=>by
  let⟨g,x,@m,rfl,z,E,rfl⟩:=e;exact⟨g,x,m,rfl,i.dF _ _ _ z,E.mono i.tup,rfl⟩
 |.lst I,v,N,e,o=>by
  let⟨g,@x,rfl,z,E,rfl⟩:=e;exact⟨g,x,rfl,o g (.head _) _ z,E.mono i.tup,rfl⟩
 |.dU YE,v,N,e,o=>by
  let⟨g,@x,rfl,z,E,rfl⟩:=e;exact⟨g,x,rfl,o g (.head _) _ z,E.mono i.tup,rfl⟩
 |.bN YE,v,N,e,o=>by
  let⟨g,@x,rfl,z,E,rfl⟩:=e;exact⟨g,x,rfl,o g (.head _) _ z,E.mono i.tup,rfl⟩
 |.hC I,v,N,e,o=>by
  let⟨g,x,@S,rfl,z,E,rfl⟩:=e;exact⟨g,x,S,rfl,o g (.head _) _ z,ey.mono i E λd a=>o d<|.tail _ a,rfl⟩
 |.qI I,v,N,e,o=>by
  let⟨g,@x,rfl,z,E⟩:=e;exact⟨g,x,rfl,i.tup g x z,ey.mono i E o⟩
theorem ey.mono{j P:ay}(i:fx j P):∀{I:List aj}{Yl:List av}{N:List ag},ey j I Yl N->(∀g∈N,∀m,j g=Z m->P g=Z m)->ey P I Yl N
 |[],Yl,N,e,_=>e
 |u::I,Yl,N,e,o=>by
  let⟨v,s,YI,@YY,rfl,z,E,rfl⟩:=e;exact⟨v,s,YI,YY,rfl,cP.mono i z λg a=>o g<|gd _ a,ey.mono i E λg a=>o g<|fE _ a,rfl⟩
end
def gX(j:ay)(g:ag):Prop:=(∃m,j g=Z m/\(∀x,m≠.tup x)/\∀q L,m≠.dF q L)
mutual
theorem cP.chg{j:ay}:∀{u:aj}{v:av}{N:List ag},cP j u v N->∀g∈N,gX j g
 |.im u,v,N,e,g,b=>by rw[e.2]at b;cases b
 |.ek,v,N,e,g,b=>by rw[show N=[] from e]at b;cases b
 |.dv I,v,N,e,d,a=>by
  let⟨g,x,@m,rfl,z,E,rfl⟩:=e;cases a
 |.lst I,v,N,e,d,a=>by
  let⟨g,@x,rfl,z,E,rfl⟩:=e;rw[cX.mp a];exact⟨_,z,(λ_ c=>by cases c),(λ_ W c=>by cases c)⟩
 |.dU YE,v,N,e,d,a=>by
  let⟨g,@x,rfl,z,E,rfl⟩:=e;rw[cX.mp a];exact⟨_,z,(λ_ c=>by cases c),(λ_ W c=>by cases c)⟩
 |.bN YE,v,N,e,d,a=>by
  let⟨g,@x,rfl,z,E,rfl⟩:=e;rw[cX.mp a];exact⟨_,z,(λ_ c=>by cases c),(λ_ W c=>by cases c)⟩
 |.hC I,v,N,e,d,a=>by
  let⟨g,x,@S,rfl,z,E,rfl⟩:=e;rcases bW.mp a with rfl|a
  ·exact⟨_,z,(λ_ c=>by cases c),(λ_ W c=>by cases c)⟩
  ·exact ey.chg E d a
 |.qI I,v,N,e,d,a=>by
  let⟨g,@x,rfl,z,E⟩:=e;exact ey.chg E d a
theorem ey.chg{j:ay}:∀{I:List aj}{Yl:List av}{N:List ag},ey j I Yl N->∀g∈N,gX j g
 |[],Yl,N,e,g,a=>by rw[e.2]at a;cases a
 |u::I,Yl,N,e,g,a=>by
  let⟨v,s,YI,@YY,rfl,z,E,rfl⟩:=e;rcases eh.mp a with a|a
  ·exact cP.chg z g a
  ·exact ey.chg E g a
end
theorem ey.length:∀{I:List aj}{Yl:List av}{N:List ag},ey j I Yl N->I.length=Yl.length
 |[],Yl,N,e=>by rw[e.1];rfl
 |u::I,Yl,N,e=>by
  let⟨v,s,YI,@YY,rfl,z,E,rfl⟩:=e;rw[c8,c8,E.length]
theorem bb.length:∀{I:List V}{Yl:List av},bb j I Yl->I.length=Yl.length
 |[],Yl,e=>by rw[show Yl=[] from e];rfl
 |u::I,Yl,e=>by
  let⟨v,@s,rfl,z,E⟩:=e;rw[c8,c8,E.length]
def ng(j:ay):Option aj->Option av->List ag->Prop
 |none,_,N=>N=[]
 |some u,f,N=>∃v,f=Z v/\cP j u v N
def bE(j:ay):a6->a5->List ag->Prop
 |[],C,N=>C=[]/\N=[]
 |m::y,C,N=>∃f s YI YY,C=f::s/\ng j m f YI/\bE j y s YY/\N=YI++YY
structure br(j:ay)(N:List ag)(P:ay)(Y5:List ag):Prop where
 keep:∀g m,j g=Z m->g∉N->P g=Z m
 sub:∀g∈Y5,g∈N\/j g=Y
 ah:Y5.Nodup
 tup:fx j P
 grow:∀g m,j g=Z m->∃Y7,P g=Z Y7
theorem ng.mono(i:fx j P):∀{m:Option aj}{f:Option av}{N:List ag},ng j m f N->(∀g∈N,∀m,j g=Z m->P g=Z m)->ng P m f N
 |none,_,_,e,_=>e
 |some u,f,N,e,o=>by
  let⟨@v,rfl,e⟩:=e;exact⟨v,rfl,e.mono i o⟩
theorem bE.mono{j P:ay}(i:fx j P):∀{y:a6}{C:a5}{N:List ag},bE j y C N->(∀g∈N,∀m,j g=Z m->P g=Z m)->bE P y C N
 |[],C,N,e,_=>e
 |m::y,C,N,e,o=>by
  let⟨f,s,YI,@YY,rfl,z,E,rfl⟩:=e;exact⟨f,s,YI,YY,rfl,z.mono i λg a=>o g<|gd _ a,bE.mono i E λg a=>o g<|fE _ a,rfl⟩
theorem ng.chg:∀{m:Option aj}{f:Option av}{N:List ag},ng j m f N->∀g∈N,gX j g
 |none,_,N,e,g,a=>by rw[show N=[] from e]at a;cases a
 |some u,f,N,e,g,a=>by
  let⟨@v,rfl,e⟩:=e;exact e.chg g a
theorem bE.chg{j:ay}:∀{y:a6}{C:a5}{N:List ag},bE j y C N->∀g∈N,gX j g
 |[],C,N,e,g,a=>by rw[e.2]at a;cases a
 |m::y,C,N,e,g,a=>by
  let⟨f,s,YI,@YY,rfl,z,E,rfl⟩:=e;rcases eh.mp a with a|a
  ·exact z.chg g a
  ·exact bE.chg E g a
theorem bE.len{j:ay}:∀{y:a6}{C:a5}{N:List ag},bE j y C N->y.length=C.length
 |[],C,N,e=>by rw[e.1];rfl
 |m::y,C,N,e=>by
  let⟨f,s,YI,@YY,rfl,z,E,rfl⟩:=e;rw[c8,c8,bE.len E]
def aj.d8:aj->Bool
 |.im _=>aa
 |.dv _=>aa
 |_=>au
def cP.d8(e:cP j u v N)(n:u.d8=aa):N=[]:=by
 cases u with
 |im u=>exact e.2
 |dv I=>let⟨g,x,@m,rfl,z,E,rfl⟩:=e;rfl
 |_=>cases n
theorem bE.out{j:ay}:∀{y:a6}{C:a5}{N:List ag}{a:Nat}{u:aj},bE j y C N->y[a]?=Z (Z u)->∃v YI YY,C[a]?=Z (Z v)/\cP j u v YI/\bE j (y.set a<|Z .ek) C YY/\(YY++YI).Perm N
 |[],C,N,a,u,e,c=>by simp at c
 |m::y,C,N,0,u,e,c=>by
  let⟨f,s,YI,@YY,rfl,z,E,rfl⟩:=e;simp at c;subst c;let⟨@v,rfl,z⟩:=z;exact⟨v,YI,YY,rfl,z,⟨Z v,s,[],YY,rfl,⟨v,rfl,rfl⟩,E,rfl⟩,dy⟩
 |m::y,C,N,a+1,u,e,c=>by
  let⟨f,s,YI,@YY,rfl,z,E,rfl⟩:=e;let⟨v,d,@b,g,h,i,k⟩:=bE.out (a:=a) E ⇑c;refine⟨v,d,YI++b,by simpa using g,h,⟨f,s,YI,b,rfl,z,i,rfl⟩,?_⟩;rw[bq];exact d1 _ k
theorem bE.put{j:ay}:∀{y:a6}{C:a5}{N:List ag}{a:Nat}{u:aj}{v:av}{S:List ag},bE j y C N->cP j u v S->a<y.length->∃YI YY,bE j (y.set a<|Z u) (C.set a<|Z v) YI/\(YI++YY).Perm (N++S)
 |[],C,N,a,u,v,S,e,l,t=>by simp at t
 |m::y,C,N,0,u,v,S,e,l,t=>by
  let⟨f,s,YI,@YY,rfl,z,E,rfl⟩:=e;refine⟨S++YY,YI,⟨Z v,s,S,YY,rfl,⟨v,rfl,l⟩,E,rfl⟩,?_⟩;refine dy.trans ?_;rw[bq];exact d1 _ dy
 |m::y,C,N,a+1,u,v,S,e,l,t=>by
  let⟨f,s,YI,@YY,rfl,z,E,rfl⟩:=e;let⟨b,@c,d,g⟩:=bE.put (a:=a) E l ⇑t;refine⟨YI++b,c,⟨f,_,YI,b,rfl,z,d,rfl⟩,?_⟩;rw[bq,bq];exact d1 _ g
def bE.d8{a:Nat}(e:bE j y C N)(c:y[a]?=Z (Z u))(n:u.d8=aa):∃v,C[a]?=Z (Z v)/\cP j u v []:=by
 let⟨v,YI,@YY,d,b,W⟩:=e.out c;obtain rfl:=b.d8 n;exact⟨v,d,b⟩
def T1{a:Nat}(e:C[a]?=Z (Z v)):C.set a (Z v)=C:=by
 refine rl λr=>?_;by_cases c:a=r
 ·subst c;rw[e,w5 (eA.mp e).1]
 ·rw[n_ c]
def bE.back{a:Nat}(e:bE j y C N)(l:cP j u v S)(b:C[a]?=Z (Z v)):∃YI YY,bE j (y.set a<|Z u) C YI/\(YI++YY).Perm (N++S):=by
 have t:a<y.length:=by rw[e.len];exact (eA.mp b).1
 let⟨YI,@YY,z,E⟩:=e.put (a:=a) l t;rw[T1 b]at z;exact⟨YI,YY,z,E⟩
def fx.of(F:tZ j P)(J:∀g m L,j g=Z (.dF m L)->P g=Z (.dF m L)):fx j P:=⟨⟨F,J⟩,J⟩
def yM(j:ay):fx j j:=⟨⟨λ_ W c=>c,λ_ W W c=>c⟩,λ_ W W c=>c⟩
def fx.trans(g:fx j Yx)(d:fx Yx YO):fx j YO:=⟨⟨λf x c=>d.tup.t f x<|g.tup.t f x c,λf m L c=>d.dF f m L<|g.dF f m L c⟩,λf m L c=>d.dF f m L<|g.dF f m L c⟩
def br.refl(e:Y5.Nodup)(h:∀g∈Y5,g∈N):br j N j Y5:=⟨λ_ W c W=>c,λg a=>.inl<|h g a,e,yM j,λ_ m c=>⟨m,c⟩⟩
def br.perm(e:N.Nodup)(q:Y5.Perm N):br j N j Y5:=br.refl ((q.nodup_iff).mpr e) λg a=>q.mem_iff.mp a
def br.trans(g:br j N Yx (YI++Ym))(d:br Yx YI YO YY)(i:∀f∈Ym,gX Yx f):br j N YO (YY++Ym):=by
 have ah:=d0.mp g.ah;have k:∀f∈YY,f∉Ym:=λf a h=>by
  rcases d.sub f a with e|e
  ·exact ah.2.2 f e f h rfl
  ·let⟨@m,c,W⟩:=i f h;rw[c]at e;cases e
 refine⟨λf m c a=>?_,λf a=>?_,d0.mpr ⟨d.ah,ah.2.1,λf a H l c=>k f a<|c ▸ l⟩,g.tup.trans d.tup,λf m c=>let ⟨Y7,b⟩:=g.grow f m c;d.grow f Y7 b⟩
 ·refine d.keep f m (g.keep f m c a) λz=>?_;rcases g.sub f (gd _ z) with e|e
  ·exact a e
  ·rw[c]at e;cases e
 ·rcases eh.mp a with a|a
  ·rcases d.sub f a with e|e
   ·exact g.sub f (gd _ e)
   ·refine .inr ?_;cases c:j f with
    |none=>rfl
    |some m=>
     let⟨@Y7,b⟩:=g.grow f m c;rw[b]at e;cases e
  ·exact g.sub f (fE _ a)
def bZ.tupS(h:bZ j P):fx j P:=⟨⟨λg x c=>h g _ c,λg m L c=>h g _ c⟩,λg m L c=>h g _ c⟩
def Fu{g d:ag}{m L:gu}(c:j d=Z m)(e:j g=Y):L2.upd j g L d=Z m:=by rw[dr (hW c e)];exact c
def bZ.upd(h:bZ j P){g:ag}{m:gu}(e:P g=Y):bZ j (L2.upd P g m):=λd L c=>Fu (h d L c) e
abbrev az(YH:Type):=a6->Option (YH×a6)
variable{ZF:az aj}{ZE o:az Bool}
inductive bw where
 | aZ (a:Nat)
 | cp (u:aj)
variable{Zk Zp:az bw}{J:az (List bw)}
def eY(y:a6):bw->Option aj
 |.aZ a=>(y[a]?).getD Y
 |.cp u=>Z u
def j2(j:ay)(C:a5):bw->av->List ag->Prop
 |.aZ a,v,Ym=>C[a]?=Z (Z v)/\Ym=[]
 |.cp u,v,Ym=>cP j u v Ym
def oh(J:az aj):cC:=(λC j B=>∃y N s YN,bE j y C N/\N.Nodup/\J y=Z (s,YN)/\∀v P Y5 Ym,bE P YN C Y5->cP P s v Ym->br j N P (Y5++Ym)->B v P)
def sL(J:az bw):cC:=(λC j B=>∃y N s YN,bE j y C N/\N.Nodup/\J y=Z (s,YN)/\∀v P Y5 Ym,bE P YN C Y5->j2 P C s v Ym->br j N P (Y5++Ym)->B v P)
def kb(J:az Bool):eH:=(λC j B=>∃y N d YN,bE j y C N/\N.Nodup/\J y=Z (d,YN)/\∀P Y5,bE P YN C Y5->br j N P Y5->B d P)
def cI(b:aO)(c:bz)(J:az aj):Prop:=(∀ ⦃q⦄,zc b c (oh J) q)
def dZ(b:aO)(c:bz)(J:az bw):Prop:=(∀ ⦃q⦄,zc b c (sL J) q)
def ji(b:aO)(c:bz)(J:az Bool):Prop:=(∀ ⦃q⦄,Ir b c (kb J) q)
def eW{i YU:cC}(e:cj b c i)(a:∀C j B,YU C j B->i C j B):cj b c YU:=λM h C j B A d=>e M h C j B A (a C j B d)
def yi{i:eH}(e:ix b c i)(a:∀C j B,YU C j B->i C j B):ix b c YU:=λM h C j B A d=>e M h C j B A (a C j B d)
def j2.mono{s:bw}(e:j2 j C s v Ym)(i:fx j P)(o:∀g∈Ym,∀m,j g=Z m->P g=Z m):j2 P C s v Ym:=by
 cases s with
 |aZ a=>exact e
 |cp u=>exact cP.mono i e o
def j2.chg{s:bw}(e:j2 j C s v Ym):∀g∈Ym,gX j g:=by
 cases s with
 |aZ a=>intro g b;rw[e.2]at b;cases b
 |cp u=>exact cP.chg e
def gn(j:ay)(u:aj)(v:av):Prop:=(∃Ym,cP j u v Ym)
def j2.read{s:bw}(e:j2 j C s v Ym)(X:bE j y C N)(c:eY y s=Z u):gn j u v:=by
 cases s with
 |cp g=>cases c;exact⟨Ym,e⟩
 |aZ a=>
  have d:y[a]?=Z (Z u):=by
   have:(y[a]?).getD Y=Z u:=c;cases p:y[a]? with
   |none=>rw[p]at this;cases this
   |some m=>rw[p]at this;rw[show m=Z u from this]
  let⟨h,YI,@YY,b,f,W⟩:=X.out d;rw[e.1]at b;cases b;exact⟨YI,f⟩
@[simp] def f3(a:Nat):az aj:=λy=>match y[a]? with
 |some (Z u)=>if u.d8=aa then Z (u,y) else Z (u,y.set a<|Z .ek)
 |_=>Y
def aA(u:V):az aj:=(λy=>Z (.im u,y))
@[simp] def af(a:Nat):az bw:=λy=>match y[a]? with
 |some (Z _)=>Z (.aZ a,y)
 |_=>Y
@[simp] def ae(J:az aj):az bw:=λy=>(J y).map λq=>(.cp q.1,q.2)
section
variable{b:aO}
variable{a:Nat}
def je(e:cj b c (pS a)):cI b c (f3 a):=by
 refine eW e λC j B f=>?_;let⟨y,N,s,@YN,X,ah,d,p⟩:=f;unfold f3 at d;split at d
 ·rename_i u hd;split at d
  ·rename_i g;cases d;let⟨@v,z,E⟩:=X.d8 hd g;exact⟨v,z,p v j N [] X E (by rw[cA];exact br.perm ah (List.Perm.refl _))⟩
  ·cases d;let⟨v,YI,@YY,z,E,h,i⟩:=X.out hd;exact⟨v,z,p v j YY YI h E<|br.perm ah i⟩
 ·cases d
def Uk(e:cj b c (pS a)):dZ b c (af a):=by
 refine eW e λC j B f=>?_;let⟨y,N,s,@YN,X,ah,d,p⟩:=f;unfold af at d;split at d
 ·rename_i u hd;cases d;let⟨v,YI,@YY,z,E,g,h⟩:=X.out hd;exact⟨v,z,p v j N [] X ⟨z,rfl⟩ (by rw[cA];exact br.perm ah (List.Perm.refl _))⟩
 ·cases d
def a0{J:az aj}(e:cI b c J):dZ b c (ae J):=by
 refine eW e λC j B d=>?_;let⟨y,N,s,@YN,X,ah,a,p⟩:=d;unfold ae at a;let⟨@⟨Zd,Yv⟩,z,E⟩:=cB.mp a;cases E;exact⟨y,N,Zd,_,X,ah,z,p⟩
def sy{u:V}(e:cj b c (qV v))(hd:∀j,cH j u v):cI b c (aA u):=by
 refine eW e λC j B a=>?_;let⟨y,N,s,@YN,X,ah,d,p⟩:=a;cases d;exact p v j N [] X ⟨hd j,rfl⟩ (by rw[cA];exact br.perm ah (List.Perm.refl _))
def hh{a:Int}{r YD}:cI b (.Constant (.int a) r YD) (aA<|.int a):=sy XJ λ_=>rfl
def jH{d:Bool}{r YD}:cI b (.Constant (.bool d) r YD) (aA<|.aB d):=sy SV λ_=>rfl
def ra{r YD}:cI b (.Constant .none r YD) (aA .aV):=sy LJ λ_=>rfl
def Nr{Yv M:a6}{f H:bw}{Yo:av->av->ay->Prop}(X:bE j y C N)(ah:N.Nodup)(b:Zp y=Z (f,Yv))(i:Zk Yv=Z (H,M))(o:∀v L P Y5 a b9,bE P M C Y5->j2 P C f v a->j2 P C H L b9->br j N P ((Y5++b9)++a)->Yo v L P):sL Zp C j λv Yx=>sL Zk C Yx λL YO=>Yo v L YO:=by
 refine⟨y,N,f,Yv,X,ah,b,λv Yx YI a k A d=>⟨Yv,YI,H,M,k,(d0.mp d.ah).1,i,λL YO YY b9 l Y4 h=>?_⟩⟩;refine o v L YO YY a b9 l (A.mono h.tup λg b m c=>h.keep g m c λe=>?_) Y4 (d.trans h A.chg);exact (d0.mp d.ah).2.2 g e g b rfl
def br.new{d:List ag}(g:br j N Yx (YI++Ym))(h:bZ Yx YO)(ah:d.Nodup)(e:∀f∈d,Yx f=Y)(n:∀f∈YI,gX Yx f):br j N YO (YI++d):=by
 refine⟨λf m c a=>h _ _<|g.keep f m c a,λf a=>?_,d0.mpr ⟨(d0.mp g.ah).1,ah,λf a H i c=>?_⟩,g.tup.trans h.tupS,λf m c=>let ⟨Y7,b⟩:=g.grow f m c;⟨Y7,h _ _ b⟩⟩
 ·rcases eh.mp a with a|a
  ·exact g.sub f (gd _ a)
  ·refine .inr ?_;cases c:j f with
   |none=>rfl
   |some m=>
    let⟨@Y7,b⟩:=g.grow f m c;rw[e f a]at b;cases b
 ·subst c;let⟨@m,c,W⟩:=n f a;rw[e f i]at c;cases c
def fQ(b:aO)(F:ab->ab->dA ab)(Zc:aj->aj->Option aj):Prop:=(
 d2 b F λf H j B=>∃Y2 Y8 u,gn j Y2 f/\gn j Y8 H/\Zc Y2 Y8=Z u/\∀v P Ym,bZ j P->cP P u v Ym->Ym.Nodup->(∀g∈Ym,j g=Y)->B v P)
@[simp] def aw(Zc:aj->aj->Option aj)(Zp Zk:az bw):az aj:=λy=>(Zp y).bind λq=>(Zk q.2).bind λp=>(eY p.2 q.1).bind λY2=>(eY p.2 p.1).bind λY8=>(Zc Y2 Y8).map λu=>(u,p.2)
def xw{Zc:aj->aj->Option aj}(e:oh (aw Zc Zp Zk) C j B):
  sL Zp C j λf Yx=>sL Zk C Yx λH YO=>∃Y2 Y8 u,gn YO Y2 f/\gn YO Y8 H/\Zc Y2 Y8=Z u/\∀v P Ym,bZ YO P->cP P u v Ym->Ym.Nodup->(∀g∈Ym,YO g=Y)->B v P:=by
 let⟨y,N,s,@YN,X,ah,a,p⟩:=e;unfold aw at a;let⟨@⟨f,Yv⟩,i,a⟩:=bC.mp a;let⟨@⟨H,M⟩,k,a⟩:=bC.mp a;let⟨@Y2,z,a⟩:=bC.mp a;let⟨@Y8,E,a⟩:=bC.mp a;let⟨@u,n,a⟩:=cB.mp a;cases a;refine Nr X ah i k λv L YO YY t b9 b A Y4 h=>⟨Y2,Y8,_,A.read b z,Y4.read b E,n,λl o Ym d YV q r=>?_⟩;rw[bq]at h;exact p l o YY Ym (b.mono d.tupS λg W m c=>d g m c) YV (h.new d q r b.chg)
def gg{Zc:AZ}(a:fQ b (gr Zc) F)(c:dZ b g Zp)(f:dZ b d Zk):cI b (.BinOp g Zc d YD) (aw F Zp Zk):=
 eW (Xn a c f) λ_ W W e=>xw e
variable{Zc:n3}
def pf(a:fQ b (eS Zc) F)(c:dZ b g Zp)(f:dZ b d Zk)(h:qk Zc d=au):cI b (.Compare g [Zc] [d] YD) (aw F Zp Zk):=
 eW (Pz a c f h) λ_ W W e=>xw e
def jc(a:ib b (λf H j B=>∃Y2 Y8 u,gn j Y2 f/\gn j Y8 H/\F Y2 Y8=Z u/\∀v P Ym,bZ j P->cP P u v Ym->Ym.Nodup->(∀g∈Ym,j g=Y)->B v P))(c:dZ b g Zp)(h:dZ b d Zk)(Ys:wt d):cI b (.Subscript g d YD) (aw F Zp Zk):=
 eW (Xd a c h Ys) λ_ W W e=>xw e
@[simp] def q7:aj->Option Bool
 |.im (.aB d)=>Z d
 |_=>Y
@[simp] def cb(J:az aj):az Bool:=λy=>(J y).bind λq=>(q7 q.1).map λd=>(d,q.2)
def Ej{d:Bool}(e:q7 u=Z d):u=.im (.aB d):=by
 unfold q7 at e;split at e
 ·cases e;rfl
 ·cases e
def fo(a:fQ b (eS Zc) F)(c:dZ b g Zp)(e:dZ b d Zk)(f:qk Zc d=au):ji b (.Compare g [Zc] [d] YD) (cb<|aw F Zp Zk):=by
 refine yi (WZ a c e f) λC j B i=>?_;let⟨y,N,n,@YN,X,ah,k,p⟩:=i;refine xw ⟨y,N,.im<|.aB n,YN,X,ah,?_,λv P Y5 Ym l YV h=>⟨n,YV.1,p P Y5 l (by rw[YV.2,cA]at h;exact h)⟩⟩;let⟨@q,z,E⟩:=bC.mp k;let⟨@r,m,o⟩:=cB.mp E;cases o;rw[z,<-Ej m]
@[simp] def m1(J:az Bool):az Bool:=λy=>(J y).map λq=>(!q.1,q.2)
variable{J:az Bool}
def uW(e:ji b g J):ji b (.UnaryOp .Not g YD) (m1 J):=by
 refine yi (M9 e) λC j B a=>?_;let⟨y,N,n,@YN,X,ah,c,p⟩:=a;let⟨@q,z,E⟩:=cB.mp c;cases E;exact⟨y,N,q.1,_,X,ah,z,p⟩
@[simp] def iH(J e:az Bool):az Bool:=λy=>(J y).bind λq=>if q.1=aa then e q.2 else Z (au,q.2)
@[simp] def mf(J e:az Bool):az Bool:=λy=>(J y).bind λq=>if q.1=aa then Z (aa,q.2) else e q.2
variable{B:Bool->ay->Prop}{e:az Bool}
def Hl(l:kb (iH J e) C j B):KQ (kb J) (kb e) C j B:=by
 let⟨y,N,n,@YN,X,ah,c,p⟩:=l;let⟨@⟨d,Yv⟩,z,E⟩:=bC.mp c;refine⟨y,N,d,Yv,X,ah,z,λYx YI b a=>?_⟩;cases d with
 |true=>
  rw[aE rfl];rw[aE rfl]at E;exact⟨Yv,YI,n,YN,b,a.ah,E,λYO YY g h=>p YO YY g (by
   have:=br.trans (Ym:=[]) (by rw[cA];exact a) h (λf i=>nomatch i)
   rwa [cA]at this)⟩
 |false=>
  rw[aH dj]at E ⊢;cases E;exact p Yx YI b a
def WU(l:kb (mf J e) C j B):Jz (kb J) (kb e) C j B:=by
 let⟨y,N,n,@YN,X,ah,c,p⟩:=l;let⟨@⟨d,Yv⟩,z,E⟩:=bC.mp c;refine⟨y,N,d,Yv,X,ah,z,λYx YI b a=>?_⟩;cases d with
 |false=>
  rw[aH dj]at E ⊢;exact⟨Yv,YI,n,YN,b,a.ah,E,λYO YY g h=>p YO YY g (by
   have:=br.trans (Ym:=[]) (by rw[cA];exact a) h (λf i=>nomatch i)
   rwa [cA]at this)⟩
 |true=>
  rw[aE rfl]at E ⊢;cases E;exact p Yx YI b a
def jS(b:aO)(c:bz)(J:az Bool):Prop:=(∀ ⦃q⦄,Fv b c (kb J) q)
def Cm{i:eH}(e:kC b c i)(a:∀C j B,YU C j B->i C j B):kC b c YU:=λd M h C j B A f=>e d M h C j B A (a C j B f)
def SE(e:ji b g J):jS b (.BoolOp .And [g] YD) J:=XP e
def Cc(e:ji b g J):jS b (.BoolOp .Or [g] YD) J:=Xo e
def GR(e:ji b g J)(a:jS b (.BoolOp .And (d::s) YD) o):jS b (.BoolOp .And (g::d::s) YD) (iH J o):=Cm (Tq e a) λ_ W W l=>Hl l
def vZ(e:ji b g J)(a:jS b (.BoolOp .Or (d::s) YD) o):jS b (.BoolOp .Or (g::d::s) YD) (mf J o):=Cm (Qk e a) λ_ W W l=>WU l
def jS.vM(e:jS b c J):ji b c J:=kC.pt e
@[simp] def kE(J:az Bool):az aj:=λy=>(J y).map λq=>(.im<|.aB q.1,q.2)
def GO(e:cI b c (kE J)):cj b c λC j B=>kb J C j λd P=>B (.aB d) P:=by
 refine eW e λC j B a=>?_;let⟨y,N,n,@YN,X,ah,f,p⟩:=a;refine⟨y,N,.im<|.aB n,YN,X,ah,by unfold kE;rw[f];rfl,λv P Y5 Ym g YV h=>?_⟩;rw[show v=.aB n from YV.1];exact p P Y5 g (by rw[YV.2,cA]at h;exact h)
def SK(e:cj b c λC j B=>kb J C j λd P=>B (.aB d) P):cI b c (kE J):=by
 refine eW e λC j B a=>?_;let⟨y,N,s,@YN,X,ah,f,p⟩:=a;let⟨@q,z,E⟩:=cB.mp f;cases E;exact⟨y,N,q.1,_,X,ah,z,λP Y5 g h=>p _ P Y5 [] g ⟨rfl,rfl⟩ (by rw[cA];exact h)⟩
def u9{J:az aj}(e:cI b c J):cI b c (kE<|cb J):=by
 refine eW e λC j B a=>?_;let⟨y,N,s,@YN,X,ah,d,p⟩:=a;let⟨@q,z,E⟩:=cB.mp d;let⟨@f,g,h⟩:=bC.mp z;let⟨@n,i,k⟩:=cB.mp h;cases k;cases E;exact⟨y,N,f.1,_,X,ah,g,by rw[Ej i];exact p⟩
def Kb{Zc}{J:az aj}(e:cI b g J):cI b (.BoolOp Zc [g] YD) J:=UY e
def KY(e:cI b g (kE J))(a:cI b (.BoolOp .And (d::s) YD) (kE o)):cI b (.BoolOp .And (g::d::s) YD) (kE<|iH J o):=by
 refine SK (eW (Ra (GO e)<|GO a) λC j B l=>?_);have:=Hl l;let⟨y,N,n,@YN,X,ah,c,p⟩:=this;exact⟨y,N,n,YN,X,ah,c,λP Y5 f h=>⟨n,rfl,p P Y5 f h⟩⟩
@[simp] def ou(n:az Bool)(g d:az aj):az aj:=λy=>(n y).bind λq=>if q.1=aa then g q.2 else d q.2
def br.seq(g:br j N Yx YI)(d:br Yx YI YO YY):br j N YO YY:=by
 have:=br.trans (Ym:=[]) (by rw[cA];exact g) d (λf a=>nomatch a)
 rwa [cA]at this
def DH{Zp Zk:az aj}(h:ji b n ZE)(k:cI b g Zp)(l:cI b d Zk):cI b (.IfExp n g d YD) (ou ZE Zp Zk):=by
 refine eW (Xj h k l) λC j B m=>?_;let⟨y,N,s,@YN,X,ah,o,p⟩:=m;let⟨@⟨i,Yv⟩,z,E⟩:=bC.mp o;refine⟨y,N,i,Yv,X,ah,z,λYx YI f a=>?_⟩;cases i with
 |true=>
  rw[aE rfl]at E ⊢;exact⟨Yv,YI,s,YN,f,a.ah,E,λv YO YY Ym c YV e=>p v YO YY Ym c YV<|a.seq e⟩
 |false=>
  rw[aH dj]at E ⊢;exact⟨Yv,YI,s,YN,f,a.ah,E,λv YO YY Ym c YV e=>p v YO YY Ym c YV<|a.seq e⟩
end
def l7(j:ay)(C:a5):List bw->List av->List ag->Prop
 |[],Yl,Ym=>Yl=[]/\Ym=[]
 |m::YG,Yl,Ym=>∃v s a b9,Yl=v::s/\j2 j C m v a/\l7 j C YG s b9/\Ym=a++b9
def hH(J:az (List bw)):ei:=(λC j B=>∃y N s YN,bE j y C N/\N.Nodup/\J y=Z (s,YN)/\∀Yl P Y5 Ym,bE P YN C Y5->l7 P C s Yl Ym->br j N P (Y5++Ym)->B Yl P)
def fJ(b:aO)(Q:List bz)(J:az (List bw)):Prop:=(∀ ⦃q⦄,Ju b Q (hH J) q)
def EG{i YU:ei}(e:gR b Q i)(a:∀C j B,YU C j B->i C j B):gR b Q YU:=λYD M h C j B A c=>e YD M h C j B A (a C j B c)
def aD:az (List bw):=(λy=>Z ([],y))
@[simp] def aq(J:az bw)(e:az (List bw)):az (List bw):=λy=>(J y).bind λq=>(e q.2).map λp=>(q.1::p.1,p.2)
def br.kJ(h:br j N P O)(q:O.Perm Zb):br j N P Zb:=⟨h.keep,λg a=>h.sub g<|q.mem_iff.mpr a,(q.nodup_iff).mp h.ah,h.tup,h.grow⟩
def br.less(h:br j N P O)(q:(Zb++aP).Perm O):br j N P Zb:=
 ⟨h.keep,λg a=>h.sub g<|q.mem_iff.mp<|gd _ a,(d0.mp<|(q.nodup_iff).mpr h.ah).1,h.tup,h.grow⟩
section
variable{b:aO}
def k_:fJ b [] aD:=by
 refine EG Jx λC j B a=>?_;let⟨y,N,s,@YN,X,ah,c,p⟩:=a;cases c;exact p [] j N [] X ⟨rfl,rfl⟩ (by rw[cA];exact br.perm ah (List.Perm.refl _))
def mL{J:az bw}{e:az (List bw)}(i:dZ b c J)(k:fJ b Q e)(Ys:bH (c::Q) b.env=(au,b0 c b.env)::bH Q b.env:=by rfl):fJ b (c::Q) (aq J e):=by
 refine EG (A8 i k Ys) λC j B l=>?_;let⟨y,N,s,@YN,X,ah,n,p⟩:=l;let⟨@⟨f,Yv⟩,z,E⟩:=bC.mp n;let⟨@⟨YA,M⟩,o,q⟩:=cB.mp E;cases q;refine⟨y,N,f,Yv,X,ah,z,λv Yx YI h r A a=>⟨Yv,YI,YA,_,r,(d0.mp a.ah).1,o,λYl YO YY b9 t Y4 d=>?_⟩⟩;refine p (v::Yl) YO YY (h++b9) t ⟨v,Yl,h,b9,rfl,A.mono d.tup λg u m c=>d.keep g m c λe=>?_,Y4,rfl⟩ ((a.trans d A.chg).kJ ?_)
 ·exact (d0.mp a.ah).2.2 g e g u rfl
 ·rw[bq];exact d1 _ dy
end
def eF(y:a6):List bw->Option (List aj)
 |[]=>Z []
 |m::YG=>(eY y m).bind λu=>(eF y YG).map λI=>u::I
def mY(j:ay):List aj->List av->Prop
 |[],Yl=>Yl=[]
 |u::I,Yl=>∃v s,Yl=v::s/\gn j u v/\mY j I s
theorem l7.read{j:ay}{y:a6}{C:a5}{N:List ag}(X:bE j y C N):∀{YG:List bw}{Yl:List av}{Ym:List ag}{I:List aj},l7 j C YG Yl Ym->eF y YG=Z I->mY j I Yl
 |[],_,_,_,e,c=>by cases c;exact e.1
 |m::YG,_,_,_,e,c=>by
  let⟨v,s,g,@b9,rfl,z,E,rfl⟩:=e;let⟨@u,a,b⟩:=bC.mp c;let⟨@I,d,f⟩:=cB.mp b;cases f;exact⟨v,s,rfl,z.read X a,l7.read X E d⟩
def eu:List bw->a6->Option (List aj×a6)
 |[],y=>Z ([],y)
 |.cp u::YG,y=>(eu YG y).map λq=>(u::q.1,q.2)
 |.aZ a::YG,y=>(f3 a y).bind λq=>(eu YG q.2).map λp=>(q.1::p.1,p.2)
def CF{a:Nat}(X:bE j y C N)(e:f3 a y=Z (u,YN)):∃v YI Ym,C[a]?=Z (Z v)/\cP j u v Ym/\bE j YN C YI/\(YI++Ym).Perm N:=by
 unfold f3 at e;split at e
 ·rename_i c hd;split at e
  ·rename_i b;cases e;let⟨@v,z,E⟩:=X.d8 hd b;exact⟨v,N,[],z,E,X,by rw[cA]⟩
  ·cases e;let⟨v,YI,@YY,z,E,d,f⟩:=X.out hd;exact⟨v,YY,YI,z,E,d,f⟩
 ·cases e
def lZ:(O++(Zb++aP)).Perm (Zb++(O++aP)):=by
 rw[<-bq,<-bq];exact fI _ dy
theorem mZ{j:ay}{C:a5}:∀{YG:List bw}{Yl:List av}{Ym N:List ag}{y YN:a6}{I:List aj},bE j y C N->l7 j C YG Yl Ym->eu YG y=Z (I,YN)->∃YI b,bE j YN C YI/\ey j I Yl b/\(YI++b).Perm (N++Ym)
 |[],_,_,N,_,_,_,X,e,c=>by
  cases c;exact⟨N,[],X,⟨e.1,rfl⟩,by rw[e.2]⟩
 |.cp u::YG,_,_,N,y,_,_,X,e,c=>by
  let⟨v,s,b,@b9,rfl,z,E,rfl⟩:=e;rw[eu]at c;let⟨@q,g,h⟩:=cB.mp c;cases h;let⟨YI,@d,f,i,k⟩:=mZ (YN:=q.2) (I:=q.1) X E g;exact⟨YI,b++d,f,⟨v,s,b,d,rfl,z,i,rfl⟩,lZ.trans<|(d1 _ k).trans lZ⟩
 |.aZ a::YG,_,_,N,y,_,_,X,e,c=>by
  let⟨v,s,b,@b9,rfl,@⟨z,rfl⟩,E,rfl⟩:=e;rw[eu]at c;let⟨@⟨u,Yv⟩,m,n⟩:=bC.mp c;let⟨@q,g,h⟩:=cB.mp n;cases h;let⟨r,YI,@d,f,i,k,o⟩:=CF X m;rw[z]at f;cases f;let⟨YY,@l,YK,YR,p⟩:=mZ (YN:=q.2) (I:=q.1) k E g;refine⟨YY,d++l,YK,⟨v,s,d,l,rfl,i,YR,rfl⟩,lZ.trans<|(d1 _ p).trans ?_⟩;rw[<-bq];exact fI _ (dy.trans o)
@[simp] def gQ:List bw->List aj->a6->a6
 |.aZ a::YG,u::I,y=>gQ YG I (match y[a]? with|some (Z .ek)=>y.set a (Z u)|_=>y)
 |.cp _::YG,_::I,y=>gQ YG I y
 |_,_,y=>y
theorem xr{j h:ay}{C:a5}:∀{YG:List bw}{I:List aj}{Yl:List av}{Ym N YB:List ag}{y:a6},bE j y C N->l7 h C YG Yl YB->ey j I Yl Ym->∃YI b,bE j (gQ YG I y) C YI/\(YI++b).Perm (N++Ym)
 |[],I,_,Ym,N,_,y,X,_,_=>⟨N,Ym,by unfold gQ;exact X,List.Perm.refl _⟩
 |.cp _::YG,[],_,Ym,N,_,y,X,_,_=>⟨N,Ym,by unfold gQ;exact X,List.Perm.refl _⟩
 |.aZ _::YG,[],_,Ym,N,_,y,X,_,_=>⟨N,Ym,by unfold gQ;exact X,List.Perm.refl _⟩
 |.cp _::YG,u::I,_,Ym,N,_,y,X,e,l=>by
  let⟨v,s,i,@k,rfl,z,E,rfl⟩:=e;let⟨m,Zd,b,@b9,c,dB,dg,rfl⟩:=l;cases c;let⟨YI,@d,f,g⟩:=xr (y:=y) X E dg;refine⟨YI,b++d,by rw[gQ];exact f,lZ.trans<|(d1 _ g).trans lZ⟩
 |.aZ a::YG,u::I,_,Ym,N,_,y,X,e,l=>by
  let⟨v,s,i,@k,rfl,@⟨z,W⟩,E,rfl⟩:=e;let⟨m,Zd,b,@b9,c,dB,dg,rfl⟩:=l;cases c;rw[gQ];split
  ·let⟨YI,@S,f,g⟩:=X.back dB z;let⟨YY,@d,YK,YR⟩:=xr f E dg;refine⟨YY,d++S,YK,?_⟩;rw[<-bq,<-bq];refine (fI _ YR).trans ?_;rw[bq];refine (d1 _ dy).trans ?_;rw[<-bq];exact fI _ g
  ·let⟨YI,@d,f,g⟩:=xr X E dg;exact⟨YI,b++d,f,lZ.trans<|(d1 _ g).trans lZ⟩
def h6:List aj->Option (List V)
 |[]=>Z []
 |.im u::I=>(h6 I).map λs=>u::s
 |_::_=>Y
@[simp] def s9(I:List aj):aj:=match h6 I with
 |some is=>.im (.tup is)
 |none=>.qI I
@[simp] def tn(I:List aj):aj:=match h6 I with
 |some is=>.lst is
 |none=>.hC I
theorem Al{j:ay}:∀{I:List aj}{Yl:List av}{Ym:List ag}{is:List V},ey j I Yl Ym->h6 I=Z is->bb j is Yl/\Ym=[]
 |[],_,_,_,e,c=>by cases c;exact e
 |.im u::I,_,_,_,e,c=>by
  let⟨v,s,f,@b9,rfl,@⟨z,rfl⟩,E,rfl⟩:=e;rw[h6]at c;let⟨@q,a,b⟩:=cB.mp c;cases b;let@⟨d,rfl⟩:=Al E a;exact⟨⟨v,s,rfl,z,d⟩,rfl⟩
 |.ek::_,_,_,_,_,c=>by rw[h6]at c;cases c;all_goals (intro W D;cases D)
 |.dv _::_,_,_,_,_,c=>by rw[h6]at c;cases c;all_goals (intro W D;cases D)
 |.lst _::_,_,_,_,_,c=>by rw[h6]at c;cases c;all_goals (intro W D;cases D)
 |.dU _::_,_,_,_,_,c=>by rw[h6]at c;cases c;all_goals (intro W D;cases D)
 |.bN _::_,_,_,_,_,c=>by rw[h6]at c;cases c;all_goals (intro W D;cases D)
 |.hC _::_,_,_,_,_,c=>by rw[h6]at c;cases c;all_goals (intro W D;cases D)
 |.qI _::_,_,_,_,_,c=>by rw[h6]at c;cases c;all_goals (intro W D;cases D)
@[simp] def d6(J:az (List bw)):az aj:=λy=>(J y).bind λq=>(eu q.1 q.2).bind λp=>if p.1.length<=100000 then Z (s9 p.1,p.2) else Y
@[simp] def dO(J:az (List bw)):az aj:=λy=>(J y).bind λq=>(eu q.1 q.2).bind λp=>if p.1.length<=100000 then Z (tn p.1,p.2) else Y
def Ur{I:List aj}{q:ag}(h:bZ j P)(e:ey j I Yl Ym)(c:P q=Z (.tup Yl)):∃a,cP P (s9 I) (.ref q) a/\a=Ym:=by
 unfold s9;split
 ·rename_i is T;let@⟨b,rfl⟩:=Al e T;exact⟨[],⟨⟨q,Yl,rfl,c,b.mono h.tupS.tup⟩,rfl⟩,rfl⟩
 ·exact⟨Ym,⟨q,Yl,rfl,c,e.mono h.tupS λg W m p=>h g m p⟩,rfl⟩
def LF{I:List aj}{q:ag}(h:bZ j P)(e:ey j I Yl Ym)(c:P q=Z (.lst Yl)):cP P (tn I) (.ref q) (q::Ym):=by
 unfold tn;split
 ·rename_i is T;let@⟨a,rfl⟩:=Al e T;exact⟨q,Yl,rfl,c,a.mono h.tupS.tup,rfl⟩
 ·exact⟨q,Yl,Ym,rfl,c,e.mono h.tupS λg W m p=>h g m p,rfl⟩
def l8(e:w<=100000):w<=sizeLine:=fa e ∅
def br.add{j Yx:ay}{N O:List ag}{q:ag}{m:gu}(g:br j N Yx O)(a:Yx q=Y)(n:∀f∈O,gX Yx f):br j N (upd Yx q m) (O++[q]):=by
 have h:bZ Yx (upd Yx q m):=(bZ.refl Yx).upd a;have:=br.new (Ym:=[]) (d:=[q]) (by rw[cA];exact g) h (f9 _ _) (λf b=>by rw[cX.mp b];exact a) n;exact this
def br.same(g:br j N Yx O)(h:bZ Yx YO):br j N YO O:=
 ⟨λf m c a=>h _ _<|g.keep f m c a,g.sub,g.ah,g.tup.trans h.tupS,λf m c=>let ⟨Y7,b⟩:=g.grow f m c;⟨Y7,h _ _ b⟩⟩
section
variable{b:aO}
def pg{d}(e:fJ b Q J):cI b (.Tuple Q d YD) (d6 J):=by
 refine eW (Su e) λC j B f=>?_;let⟨y,N,s,@YN,X,ah,i,p⟩:=f;let⟨@⟨YG,Yv⟩,z,E⟩:=bC.mp i;let⟨@⟨I,M⟩,k,a⟩:=bC.mp E;refine⟨y,N,YG,Yv,X,ah,z,λYl Yx YI x l A n=>?_⟩;let⟨YY,@b9,o,YV,YZ⟩:=mZ l A k;split at a
 ·rename_i r;cases a;have t:Yl.length<=100000:=by rw[<-YV.length];exact r
  refine⟨l8 t,λq u=>?_⟩;have h:bZ Yx (upd Yx q<|.tup Yl):=(bZ.refl Yx).upd u;let⟨@v,w,rfl⟩:=Ur h YV e8;exact p _ _ YY v (o.mono h.tupS λg W m c=>h g m c) w ((n.kJ YZ.symm).same h)
 ·cases a
def fF(e:fJ b Q J):cI b (.List Q YD) (dO J):=by
 refine eW (R8 e) λC j B l=>?_;let⟨y,N,s,@YN,X,ah,n,p⟩:=l;let⟨@⟨YG,Yv⟩,z,E⟩:=bC.mp n;let⟨@⟨I,M⟩,o,d⟩:=bC.mp E;refine⟨y,N,YG,Yv,X,ah,z,λYl Yx YI x r A t=>?_⟩;let⟨YY,@b9,i,YV,YZ⟩:=mZ r A o;split at d
 ·rename_i u;cases d;have v:Yl.length<=100000:=by rw[<-YV.length];exact u
  refine⟨l8 v,λq k=>?_⟩;have h:bZ Yx (upd Yx q<|.lst Yl):=(bZ.refl Yx).upd k;have w:=LF h YV (q:=q) e8;refine p _ _ YY (q::b9) (i.mono h.tupS λg W m c=>h g m c) w (((t.kJ YZ.symm).add k λf a=>?_).kJ ?_)
  ·rcases eh.mp a with a|a
   ·exact i.chg f a
   ·exact YV.chg f a
  ·rw[bq];exact d1 _ dy
 ·cases d
def hJ(b:aO)(F:ab)(Zc:List aj->Option aj):Prop:=(
 eZ b F λx j B=>∃I u,mY j I x/\Zc I=Z u/\∀v P Ym,bZ j P->cP P u v Ym->Ym.Nodup->(∀g∈Ym,j g=Y)->B v P)
@[simp] def b3(Zc:List aj->Option aj)(J:az (List bw)):az aj:=λy=>(J y).bind λq=>(eF q.2 q.1).bind λI=>(Zc I).map λu=>(u,q.2)
def Dg(e:oh (b3 Zc J) C j B):
  hH J C j λx Yx=>∃I u,mY Yx I x/\Zc I=Z u/\∀v P Ym,bZ Yx P->cP P u v Ym->Ym.Nodup->(∀g∈Ym,Yx g=Y)->B v P:=by
 let⟨y,N,s,@YN,X,ah,d,p⟩:=e;let⟨@⟨YG,Yv⟩,z,E⟩:=bC.mp d;let⟨@I,f,h⟩:=bC.mp E;let⟨@u,i,k⟩:=cB.mp h;cases k;refine⟨y,N,YG,Yv,X,ah,z,λYl Yx YI q a A l=>⟨I,_,A.read a f,i,λv YO Ym b YV n o=>?_⟩⟩;exact p v YO YI Ym (a.mono b.tupS λg W m c=>b g m c) YV (l.new b n o a.chg)
def VM{id:String}(a:hJ b (.builtin id) Zc)(d:dE b f)(g:b.aI f=Y)(h:e4 f=Z (.builtin id))(i:fJ b (c::Q) J)(j:f ≠ "__name__" := by decide)(k:(f==("__debug__" : aG))=au:=by decide)(l:bH (c::Q) b.env=(au,b0 c b.env)::bH Q b.env:=by rfl)(m:(gp YD<|bH Q b.env).any (·.1)=au:=by rfl):
  cI b (.Call (.Name f q) (c::Q) [] YD) (b3 Zc J):=eW (En a d g h i j k l m) λ_ W W e=>Dg e
def iR{U:String}(a:hJ b (.type U) Zc)(d:dE b f)(g:b.aI f=Y)(h:e4 f=Z (.type U))(i:fJ b (c::Q) J)(j:f ≠ "__name__" := by decide)(k:(f==("__debug__" : aG))=au:=by decide)(l:bH (c::Q) b.env=(au,b0 c b.env)::bH Q b.env:=by rfl)(m:(gp YD<|bH Q b.env).any (·.1)=au:=by rfl):
  cI b (.Call (.Name f q) (c::Q) [] YD) (b3 Zc J):=eW (Q0 a d g h i j k l m) λ_ W W e=>Dg e
abbrev dn:=List aj->Option (aj×List aj)
def lH(w:Nat)(S:dn):m2:=(λYl j B W=>Yl.length=w/\∃I N s i,ey j I Yl N/\N.Nodup/\S I=Z (s,i)/\∀v P Ym a,cP P s v Ym->ey P i Yl a->br j N P (Ym++a)->B v P)
@[simp] def b_(w:Nat)(S:dn)(J:az (List bw)):az aj:=λy=>(J y).bind λq=>if q.1.length=w then (eu q.1 q.2).bind λp=>(S p.1).map λs=>(s.1,gQ q.1 s.2 p.2) else Y
theorem l7.length{j:ay}{C:a5}:∀{YG:List bw}{Yl:List av}{Ym:List ag},l7 j C YG Yl Ym->YG.length=Yl.length
 |[],_,_,e=>by rw[e.1];rfl
 |m::YG,_,_,e=>by
  let⟨v,s,a,@b9,rfl,z,E,rfl⟩:=e;rw[c8,c8,l7.length E]
def So{S:dn}{Yq:hs}(e:oh (b_ w S J) C j B):Dx (lH w S) [] Yq (hH J) C j B:=by
 let⟨y,N,s,@YN,X,ah,k,p⟩:=e;let⟨@⟨YG,Yv⟩,z,E⟩:=bC.mp k;split at E
 ·rename_i l;let⟨@⟨I,M⟩,n,o⟩:=bC.mp E;let⟨@⟨Zd,i⟩,q,r⟩:=cB.mp o;cases r;refine⟨y,N,YG,Yv,X,ah,z,λYl Yx YI Q t A u=>?_⟩;let⟨YY,b9,f,YV,YZ⟩:=mZ t A n;have a:=u.kJ (YZ.symm.trans dy);rw[cA];refine⟨by rw[<-A.length];exact l,I,b9,_,i,YV,(d0.mp a.ah).1,q,λv h Ym R dB dg b=>?_⟩;have x:=a.trans b f.chg;have D:∀g∈YY,g∉b9:=λg d F=>(d0.mp a.ah).2.2 g F g d rfl;have G:bE h M C YY:=f.mono b.tup λg d m c=>b.keep g m c (D g d);let⟨H,@L,O,P⟩:=xr G A dg;refine p v h H Ym O dB (x.less (aP:=L) ?_);refine List.Perm.trans ?_ dy;rw[bq];refine (d1 _ dy).trans ?_;rw[<-bq];refine (fI _ P).trans ?_;rw[bq];exact d1 _ dy
 ·cases E
variable{o:Nat}
def Rd{S:dn}{F:ag}(N:js b.prog b.w b.K b.aI b.base iO o F fd Yz (lH w S))(a:fO o b.A)(d:dE b f)(g:b.aI f=Z (.ref F))(h:Θ b.K (.ref F)=aa)(i:j8 b.K fd Yz [])(j:fJ b (c::Q) J)(k:(f==("__debug__" : aG))=au:=by decide)(m:bH (c::Q) b.env=(au,b0 c b.env)::bH Q b.env:=by rfl)(n:(gp YD<|bH Q b.env).any (·.1)=au:=by rfl):
  cI b (.Call (.Name f q) (c::Q) [] YD) (b_ w S J):=eW (NN N a d g h i .nil LU j k m n) λ_ U U e=>So e
inductive nB where
 | aU|dD (u:aj)|gv|cx
abbrev bB:=a6->Option (nB×a6)
def dm(Y3:List Nat)(C b:a5):Prop:=(b.length=C.length/\∀a∈Y3,b[a]?=C[a]?)
def dm.refl:dm Y3 C C:=⟨rfl,λ_ W=>rfl⟩
def dm.trans{b:a5}(g:dm Y3 C ZH)(d:dm Y3 ZH b):dm Y3 C b:=⟨d.1.trans g.1,λa T=>(d.2 a T).trans<|g.2 a T⟩
def dm.set{v:Option av}(e:r∉Y3):dm Y3 C (C.set r v):=⟨xq,λa T=>n_ λc=>e (by rw[c];exact T)⟩
def sD(Y3:List Nat)(Yq:px)(C:a5)(j:ay)(N:List ag)(YN:a6):nB->Prop
 |.aU=>∀a P Y5,dm Y3 C a->bE P YN a Y5->br j N P Y5->Yq.aU a P
 |.gv=>∀a P Y5,dm Y3 C a->bE P YN a Y5->br j N P Y5->Yq.gv a P
 |.cx=>∀a P Y5,dm Y3 C a->bE P YN a Y5->br j N P Y5->Yq.cx a P
 |.dD u=>∀v a P Y5 Ym,dm Y3 C a->bE P YN a Y5->cP P u v Ym->br j N P (Y5++Ym)->Yq.dD v P
def pM(Y3:List Nat)(J:bB):f6:=(λYq C j=>∃y N aR YN,bE j y C N/\N.Nodup/\J y=Z (aR,YN)/\sD Y3 Yq C j N YN aR)
def iN(b:aO)(Y3:List Nat)(X:cf)(J:bB):Prop:=(∀ ⦃q⦄,Iz b X (pM Y3 J) q)
def jm(b:aO)(Y3:List Nat)(e_:List cf)(J:bB):Prop:=(∀ ⦃q⦄,CH b e_ (pM Y3 J) q)
variable{YU:f6}
def kV{X:cf}{i:f6}(e:iT b X i)(a:∀Yq C j,YU Yq C j->i Yq C j):iT b X YU:=λM h C j y A c=>e M h C j y A (a y C j c)
def HV{X:List cf}{i:f6}(e:iA b X i)(a:∀Yq C j,YU Yq C j->i Yq C j):iA b X YU:=λM h C j y A c=>e M h C j y A (a y C j c)
def sD.on{aR:nB}(e:sD Y3 Yq C j N YN aR)(Zg:dm Y3 C ZH)(h:br j N Yx YI):sD Y3 Yq ZH Yx YI YN aR:=by
 cases aR with
 |aU=>exact λa P Y5 F X Yn=>e a P Y5 (Zg.trans F) X (h.seq Yn)
 |gv=>exact λa P Y5 F X Yn=>e a P Y5 (Zg.trans F) X (h.seq Yn)
 |cx=>exact λa P Y5 F X Yn=>e a P Y5 (Zg.trans F) X (h.seq Yn)
 |dD u=>exact λv a P Y5 Ym F X YV Yn=>e v a P Y5 Ym (Zg.trans F) X YV (h.seq Yn)
def eM:bB:=(λy=>Z (.aU,y))
@[simp] def a_(J e:bB):bB:=λy=>(J y).bind λq=>match q.1 with
 |.aU=>e q.2
 |aR=>Z (aR,q.2)
def hg:jm b Y3 [] eM:=by
 refine HV Wg λYq C j a=>?_;let⟨y,N,aR,@YN,X,ah,c,p⟩:=a;cases c;exact p C j N dm.refl X (br.perm ah<|List.Perm.refl _)
variable{J:bB}
def cq{X:cf}(e:iN b Y3 X J):jm b Y3 [X] J:=NU e
def Vx{e:bB}(l:pM Y3 (a_ J e) Yq C j):FC (pM Y3 J) (pM Y3 e) Yq C j:=by
 let⟨y,N,aR,@YN,X,ah,a,p⟩:=l;let⟨@⟨b,Yv⟩,z,E⟩:=bC.mp a;cases b with
 |aU=>exact⟨y,N,.aU,Yv,X,ah,z,λd P Y5 Zg c h=>⟨Yv,Y5,aR,YN,c,h.ah,E,p.on Zg h⟩⟩
 |gv=>cases E;exact⟨y,N,.gv,Yv,X,ah,z,p⟩
 |cx=>cases E;exact⟨y,N,.cx,Yv,X,ah,z,p⟩
 |dD u=>cases E;exact⟨y,N,.dD u,Yv,X,ah,z,p⟩
def bK{X:cf}{e_:List cf}{e:bB}(z:iN b Y3 X J)(E:jm b Y3 e_ e):jm b Y3 (X::e_) (a_ J e):=HV (Td z E) λ_ W W l=>Vx l
@[simp] def h4(J:az aj):bB:=λy=>(J y).map λq=>(.aU,q.2)
variable{J:az aj}
def k7(e:cI b c J)(Ys:oQ c Y YD.line b.env=pure au:=by rfl):iN b Y3 (.Expr c YD) (h4 J):=by
 refine kV (Vm e Ys) λYq C j a=>?_;let⟨y,N,aR,@YN,X,ah,d,p⟩:=a;let⟨@⟨s,Yv⟩,z,E⟩:=cB.mp d;cases E;exact⟨y,N,s,_,X,ah,z,λv P Y5 Ym f YV h=>p C P Y5 dm.refl f<|h.less<|List.Perm.refl _⟩
@[simp] def cV(J:az aj):bB:=λy=>(J y).map λq=>(.dD q.1,q.2)
def dw(e:cI b c J):iN b Y3 (.Return (Z c) YD) (cV J):=by
 refine kV (R6 e) λYq C j a=>?_;let⟨y,N,aR,@YN,X,ah,d,p⟩:=a;let⟨@⟨s,Yv⟩,z,E⟩:=cB.mp d;cases E;exact⟨y,N,s,_,X,ah,z,λv P Y5 Ym f YV h=>p v C P Y5 Ym dm.refl f YV h⟩
@[simp] def dT(n:az Bool)(g d:bB):bB:=λy=>(n y).bind λq=>if q.1=aa then g q.2 else d q.2
variable{Zk:bB}
def gY{g d:List cf}{Zp:bB}(e:ji b n ZE)(f:jm b Y3 g Zp)(h:jm b Y3 d Zk):iN b Y3 (.If n g d YD) (dT ZE Zp Zk):=by
 refine kV (OJ e f h) λYq C j k=>?_;let⟨y,N,aR,@YN,X,ah,l,p⟩:=k;let⟨@⟨i,Yv⟩,z,E⟩:=bC.mp l;refine⟨y,N,i,Yv,X,ah,z,λYx YI c a=>?_⟩;cases i with
 |true=>
  rw[aE rfl]at E ⊢;exact⟨Yv,YI,aR,YN,c,a.ah,E,p.on dm.refl a⟩
 |false=>
  rw[aH dj]at E ⊢;exact⟨Yv,YI,aR,YN,c,a.ah,E,p.on dm.refl a⟩
@[simp] def bP(a:Nat)(J:az aj):bB:=λy=>(J y).bind λq=>if a<q.2.length then Z (.aU,q.2.set a<|Z q.1) else Y
variable{a:Nat}
def oP{i:Pos}(d:b.N.Nodup)(T:b.N[a]?=Z f)(e:ks b.env.scope f)(g:cI b c J)(h:a∉Y3)(Ys:oQ c (Z<|.Name f i) YD.line b.env=pure au:=by rfl)(k:b.fn f=aa\/b.env.scope.names.lookup f=Z .local:=by first|exact .inl rfl|exact .inr rfl|assumption):iN b Y3 (.Assign [.Name f i] c YD) (bP a J):=by
 refine kV (Mc d T e g Ys k) λYq C j l=>?_;let⟨y,N,aR,@YN,X,ah,m,p⟩:=l;let⟨@⟨s,Yv⟩,z,E⟩:=bC.mp m;split at E
 ·rename_i n;cases E;refine⟨y,N,s,_,X,ah,z,λv Yx YI Ym o YV q=>?_⟩;let⟨YY,@b9,r,YZ⟩:=o.put (a:=a) YV n;exact p _ Yx YY (dm.set h) r (q.less YZ)
 ·cases E
abbrev fk:=aj->a6->Option a6
def BS(Y3:List Nat)(J:fk):hy:=(λv C j B=>∃y N u Ym YN,bE j y C N/\cP j u v Ym/\(N++Ym).Nodup/\J u y=Z YN/\∀a P Y5,dm Y3 C a->bE P YN a Y5->br j (N++Ym) P Y5->B a P)
def hZ(b:aO)(Y3:List Nat)(c:bz)(J:fk):Prop:=(∀ ⦃q⦄,FX b c (BS Y3 J) q)
def AR{i YU:hy}(e:ky b c i)(a:∀v C j B,YU v C j B->i v C j B):ky b c YU:=λM h C j f v B A s d=>e M h C j f v B A s (a f C j B d)
@[simp] def b5(a:Nat):fk:=λu y=>if a<y.length then Z (y.set a<|Z u) else Y
def It(d:b.N.Nodup)(T:b.N[a]?=Z f)(e:ks b.env.scope f)(g:a∉Y3)(h:b.fn f=aa\/b.env.scope.names.lookup f=Z .local:=by first|exact .inl rfl|exact .inr rfl|assumption):hZ b Y3 (.Name f YD) (b5 a):=by
 refine AR (WY d T e h) λv C j B i=>?_;let⟨y,N,u,Ym,@YN,X,YV,ah,c,p⟩:=i;unfold b5 at c;split at c
 ·rename_i k;cases c;let⟨YY,@b9,l,YZ⟩:=X.put (a:=a) YV k;exact p _ j YY (dm.set g) l ((br.perm ah<|List.Perm.refl _).less YZ)
 ·cases c
def Qj(Y3:List Nat)(J:List aj->a6->Option a6):k3:=(λYl C j B=>∃y N I Ym YN,bE j y C N/\ey j I Yl Ym/\(N++Ym).Nodup/\J I y=Z YN/\∀a P Y5,dm Y3 C a->bE P YN a Y5->br j (N++Ym) P Y5->B a P)
def uh(b:aO)(Y3:List Nat)(Q:List bz)(J:List aj->a6->Option a6):Prop:=(∀ ⦃q⦄,EW b Q (Qj Y3 J) q)
@[simp] def g6:List aj->a6->Option a6
 |[],y=>Z y
 |_,_=>Y
@[simp] def dW(J:fk)(e:List aj->a6->Option a6):List aj->a6->Option a6
 |u::I,y=>(J u y).bind (e I)
 |_,_=>Y
def G4{i YU:k3}(e:q2 b Q i)(a:∀v C j B,YU v C j B->i v C j B):q2 b Q YU:=λM h C j x Yl B A s c=>e M h C j x Yl B A s (a x C j B c)
def Q3:uh b Y3 [] g6:=by
 refine G4 VN λYl C j B c=>?_;let⟨y,N,I,Ym,@YN,X,YV,ah,a,p⟩:=c;cases I with
 |cons u I=>cases a
 |nil=>
  cases a;exact⟨YV.1,p C j N dm.refl X<|(br.perm ah<|List.Perm.refl _).less<|List.Perm.refl _⟩
def E9{J:fk}(z:hZ b Y3 c J)(E:uh b Y3 Q e)(Ys:(hM (c::Q) b.env).map (·.2)=ju c b.env::(hM Q b.env).map (·.2):=by rfl):uh b Y3 (c::Q) (dW J e):=by
 refine G4 (RA z E Ys) λYl C j B q=>?_;let⟨y,N,I,Ym,@YN,X,YV,ah,l,p⟩:=q;cases I with
 |nil=>cases l
 |cons u I=>
  let⟨v,s,h,@b9,rfl,dB,dg,rfl⟩:=YV;let⟨@Yv,r,t⟩:=bC.mp (show (J u y).bind (e I)=Z YN from l);have k:((N++h)++b9).Nodup:=by rw[bq];exact ah
  refine⟨v,s,rfl,y,N,u,h,Yv,X,dB,(d0.mp k).1,r,λZH Yx YI Zg w f=>?_⟩;have n:∀g∈b9,g∉N++h:=λg a i=>(d0.mp k).2.2 g i g a rfl;have x:ey Yx I s b9:=dg.mono f.tup λg a m c=>f.keep g m c (n g a);have o:br j (N++(h++b9)) Yx (YI++b9):=by
   refine⟨λg m c a=>f.keep g m c λe=>a ?_,λg a=>?_,d0.mpr ⟨f.ah,(d0.mp k).2.1,λg a d i c=>?_⟩,f.tup,f.grow⟩
   ·rw[<-bq];exact gd _ e
   ·rcases eh.mp a with a|a
    ·rcases f.sub g a with e|e
     ·left;rw[<-bq];exact gd _ e
     ·exact .inr e
    ·left;rw[<-bq];exact fE _ a
   ·subst c;rcases f.sub g a with e|e
    ·exact n g i e
    ·let⟨@m,c,W⟩:=dg.chg g i;rw[c]at e;cases e
  exact⟨Yv,YI,I,b9,YN,w,x,o.ah,t,λA YO YY D F G=>p A YO YY (Zg.trans D) F<|o.seq G⟩
@[simp] def fl(w:Nat)(e:List aj->a6->Option a6):fk:=λu y=>match u with
 |.im (.tup is)=>if is.length=w then e (is.map .im) y else Y
 |.qI I=>if I.length=w then e I y else Y
 |_=>Y
theorem Fc{j:ay}:∀{is:List V}{Yl:List av},bb j is Yl->ey j (is.map .im) Yl []
 |[],Yl,e=>⟨e,rfl⟩
 |u::is,Yl,e=>by
  let⟨v,@s,rfl,z,E⟩:=e;exact⟨v,s,[],[],rfl,⟨z,rfl⟩,Fc E,rfl⟩
def MK(d:b.calm=aa)(Ys:uh b Y3 Q e)(f:(hM Q b.env).length=w:=by rfl)(h:(hM Q b.env).findIdx? (·.1)=Y:=by rfl):hZ b Y3 (.Tuple Q o YD) (fl w e):=by
 refine AR (Sv d Ys f h) λv C j B i=>?_;let⟨y,N,u,Ym,@YN,X,YV,ah,a,p⟩:=i;unfold fl at a;split at a
 ·rename_i is;split at a
  ·rename_i c;let@⟨⟨g,@x,rfl,z,E⟩,rfl⟩:=YV;exact⟨g,x,rfl,cL.of z,by rw[<-E.length];exact c,y,N,_,[],YN,X,Fc E,ah,a,p⟩
  ·cases a
 ·rename_i I;split at a
  ·rename_i c;let⟨g,@x,rfl,z,E⟩:=YV;exact⟨g,x,rfl,cL.of z,by rw[<-E.length];exact c,y,N,_,Ym,YN,X,E,ah,a,p⟩
  ·cases a
 ·cases a
@[simp] def i7(J:az aj)(e:fk):bB:=λy=>(J y).bind λq=>(e q.1 q.2).map λYN=>(.aU,YN)
def ph{e:fk}(d:cI b c J)(f:hZ b Y3 YT e)(Ys:uT [YT] c YD.line b.env=pure au:=by rfl)(g:wa [YT] c b.env=pure Y:=by rfl)(z:(hM [YT] b.env).map (·.2)=[ju YT b.env]:=by rfl):iN b Y3 (.Assign [YT] c YD) (i7 J e):=by
 refine kV (Ve d f Ys g z) λYq C j h=>?_;let⟨y,N,aR,@YN,X,ah,i,p⟩:=h;let⟨@⟨s,Yv⟩,g1,g2⟩:=bC.mp i;let⟨@M,k,l⟩:=cB.mp g2;cases l;exact⟨y,N,s,Yv,X,ah,g1,λv Yx YI Ym m YV a=>⟨Yv,YI,s,Ym,_,m,YV,a.ah,k,λn P Y5 Zg o q=>p n P Y5 Zg o<|a.seq q⟩⟩
@[simp] def n5(a r:Nat)(J:az (List bw)):bB:=λy=>(J y).bind λq=>(eu q.1 q.2).bind λp=>match p.1 with
 |[Y2,Y8]=>if a<p.2.length/\r<p.2.length then Z (.aU,(p.2.set a<|Z Y2).set r<|Z Y8) else Y
 |_=>Y
def va{H:aG}{J:az (List bw)}{kr h pt YD:Pos}{Ze YR i}(m:b.calm=aa)(n:b.N.Nodup)(T:b.N[a]?=Z f)(o:b.N[r]?=Z H)(q:a≠r)(t:b.env.scope.names.lookup f=Z .local)(u:b.env.scope.names.lookup H=Z .local)(w:fJ b [g,d] J)(x:a∉Y3)(B:r∉Y3)(D:wa [.Tuple [.Name f kr,.Name H h] Ze pt] (.Tuple [g,d] YR i) b.env=pure (Z [f,H]))(Ys:uT [.Tuple [.Name f kr,.Name H h] Ze pt] (.Tuple [g,d] YR i) YD.line b.env=pure au:=by rfl):
  iN b Y3 (.Assign [.Tuple [.Name f kr,.Name H h] Ze pt] (.Tuple [g,d] YR i) YD) (n5 a r J):=by
 refine kV (R9 m n T o q t u w D Ys) λYq C j F=>?_;let⟨y,N,aR,@YN,X,ah,G,p⟩:=F;let⟨@⟨YG,Yv⟩,z,E⟩:=bC.mp G;let⟨@⟨I,M⟩,P,e⟩:=bC.mp E;refine⟨y,N,YG,Yv,X,ah,z,λYl Yx YI a2 Q A R=>?_⟩;let⟨YY,@b9,S,YV,YZ⟩:=mZ Q A P;dsimp only at e;split at e
 ·rename_i Y2 Y8 c;split at e
  ·rename_i k;cases e;let⟨v,s,O,@Zb,rfl,dB,dg,rfl⟩:=YV;let⟨L,Zd,bd,@be,rfl,d_,@⟨rfl,rfl⟩,rfl⟩:=dg;let⟨U,@l,al,am⟩:=S.put (a:=a) dB k.1;let⟨an,@ap,as,a1⟩:=al.put (a:=r) d_ (by rw[xq];exact k.2);refine⟨v,L,rfl,p _ Yx an ((dm.set x).trans<|dm.set B) as<|(R.kJ YZ.symm).less (aP:=ap++l) ?_⟩;rw[<-bq,cA,<-bq];refine (fI l a1).trans ?_;rw[bq];refine (d1 U dy).trans ?_;rw[<-bq];exact fI _ am
  ·cases e
 ·cases e
def kA(n:az Bool)(d:bB):Nat->bB
 |0=>λ_=>Y
 |w+1=>λy=>(n y).bind λq=>if q.1=aa then (d q.2).bind λp=>match p.1 with
  |.aU=>kA n d w p.2
  |.cx=>kA n d w p.2
  |.gv=>Z (.aU,p.2)
  |.dD u=>Z (.dD u,p.2) else Z (.aU,q.2)
def yS(w:Nat)(q:ri (aN b.prog b.w) b.A b.env b.c1)(r:ji b n ZE)(s:jm b Y3 ZD Zk):iN b Y3 (.While n ZD [] YD) (kA ZE Zk w):=by
 refine kV (Wq q r s) λYq C j t=>?_;let⟨y,N,aR,@YN,X,ah,x,p⟩:=t;refine⟨λk a P=>∃g Y5,bE P g a Y5/\dm Y3 C a/\br j N P Y5/\kA ZE Zk k g=Z (aR,YN),⟨w,y,N,X,dm.refl,br.perm ah<|List.Perm.refl _,x⟩,?_⟩;rintro k ZH Yx ⟨Yv,YI,z,h,d,l⟩;cases k with
 |zero=>cases l
 |succ k=>
  rw[kA]at l;let⟨@⟨i,M⟩,dB,dg⟩:=bC.mp l;refine⟨Yv,YI,i,M,z,d.ah,dB,λYO YY o f=>?_⟩;cases i with
  |false=>
   rw[aH dj]at dg ⊢;cases dg;exact p ZH YO YY h o (d.seq f)
  |true=>
   rw[aE rfl]at dg ⊢;let⟨@⟨F,R⟩,d_,m⟩:=bC.mp dg;refine⟨λa P=>∃g Y5,bE P g a Y5/\dm Y3 C a/\br j N P Y5/\kA ZE Zk k g=Z (aR,YN),λa P e=>⟨k,ko k,e⟩,M,YY,F,R,o,f.ah,d_,?_⟩;cases F with
   |aU=>exact λa P Y5 Zg c Yn=>⟨R,Y5,c,h.trans Zg,(d.seq f).seq Yn,m⟩
   |cx=>exact λa P Y5 Zg c Yn=>⟨R,Y5,c,h.trans Zg,(d.seq f).seq Yn,m⟩
   |gv=>
    cases m;exact λa P Y5 Zg c Yn=>p a P Y5 (h.trans Zg) c ((d.seq f).seq Yn)
   |dD u=>
    cases m;exact λv a P Y5 Ym Zg c YV Yn=>p v a P Y5 Ym (h.trans Zg) c YV ((d.seq f).seq Yn)
structure kU(Zo:fY)(j:ay)(Ym:List ag)(I:List V):Prop where
 go:∀P,fx j P->(∀g∈Ym,∀m,j g=Z m->P g=Z m)->∀(a:Nat) (u:V),I[a]?=Z u->Zo.go a P/\∀f zb,Zo.rU a P f zb->bZ P zb/\cH zb u f
 stop:∀P,fx j P->(∀g∈Ym,∀m,j g=Z m->P g=Z m)->Zo.stop I.length P
def td(j:ay)(C:a5)(Ym:List ag):Option (Nat×aj)->Prop
 |none=>True
 |some (a,u)=>∃v,C[a]?=Z (Z v)/\cP j u v Ym
def bV(J:az (List V×Option (Nat×aj))):bI:=(λC j a=>∃y N s YN,bE j y C N/\N.Nodup/\J y=Z (s,YN)/\∀Zo P Y5 Ym,bE P YN C Y5->kU Zo P Ym s.1->td P C Ym s.2->(∀g∈Ym,gX P g)->br j N P (Y5++Ym)->a Zo P)
def l6(b:aO)(YT Zl:bz)(J:az (List V×Option (Nat×aj))):Prop:=(∀ ⦃q⦄,JT b YT Zl (bV J) q)
def tr{i YU:bI}(e:kp b YT Zl i)(a:∀C j Ym,YU C j Ym->i C j Ym):kp b YT Zl YU:=λM h C j Ym A c=>e M h C j Ym A (a C j Ym c)
def dX(YT:fk)(d:bB):List V->bB
 |[]=>λy=>Z (.aU,y)
 |f::s=>λy=>(YT (.im f) y).bind λYv=>(d Yv).bind λp=>match p.1 with
  |.aU=>dX YT d s p.2
  |.cx=>dX YT d s p.2
  |.gv=>Z (.aU,p.2)
  |.dD u=>Z (.dD u,p.2)
@[simp] def mA:Option (Nat×aj)->a6->a6
 |none,y=>y
 |some (a,u),y=>match y[a]? with
  |some (Z .ek)=>y.set a (Z u)
  |_=>y
@[simp] def hz(J:az (List V×Option (Nat×aj)))(YT:fk)(d:bB):bB:=λy=>(J y).bind λq=>(dX YT d q.1.1 q.2).map λp=>(p.1,mA q.1.2 p.2)
def Av{m:Option (Nat×aj)}(X:bE j y C N)(e:td j C Ym m):∃YI S,bE j (mA m y) C YI/\(YI++S).Perm (N++Ym):=by
 cases m with
 |none=>exact⟨N,Ym,X,List.Perm.refl _⟩
 |some q=>
  let⟨a,u⟩:=q;let⟨@v,z,E⟩:=e;unfold mA;dsimp only;split
  ·exact X.back E z
  ·exact⟨N,Ym,X,List.Perm.refl _⟩
def nO(Zg:List Nat):Option (Nat×aj)->Prop
 |none=>True
 |some (a,_)=>a∈Zg
def XE{J:az (List V×Option (Nat×aj))}{H:fk}(g3:ri (aN b.prog b.w) b.A b.env b.c1)(hd:b.calm=aa)(T:l6 b YT Zl J)(he:hZ b Zg YT H)(hf:jm b Zg ZD Zk)(cs:∀a∈Y3,a∈Zg)(Ys:∀y s YN,J y=Z (s,YN)->nO Zg s.2)(db:iT b (.For YT Zl ZD [] YD) (CV (bV J) (BS Zg H)<|pM Zg Zk)):iN b Y3 (.For YT Zl ZD [] YD) (hz J H Zk):=by
 refine kV db λYq C j ds=>?_;let⟨y,N,aR,@YN,X,ah,dL,p⟩:=ds;let⟨@⟨⟨I,m⟩,Yv⟩,z,E⟩:=bC.mp dL;let⟨@⟨F,M⟩,eq,ev⟩:=cB.mp E;cases ev;refine⟨y,N,(I,m),Yv,X,ah,z,λZo Yx YI Ym ex Yu fd bm ap=>?_⟩;have fn:nO Zg m:=Ys y _ _ z;have bn:=d0.mp ap.ah;have as:∀{YO:ay}{YY:List ag},br Yx YI YO YY->∀g∈Ym,∀L,Yx g=Z L->YO g=Z L:=λh g fr L c=>h.keep g L c λe=>bn.2.2 g e g fr rfl;have bs:∀{YO:ay}{YY:List ag}{d:a5},br Yx YI YO YY->dm Zg C d->td YO d Ym m:=λ{YO YY d} h F=>by
  cases m with
  |none=>trivial
  |some q=>
   let⟨a,u⟩:=q;let⟨@v,f0,f1⟩:=fd;exact⟨v,(F.2 a fn).trans f0,f1.mono h.tup<|as h⟩
 have bv:∀{d:a5},dm Zg C d->dm Y3 C d:=λF=>⟨F.1,λa T=>F.2 a<|cs a T⟩;have ca:∀{d:a5}{YO:ay}{YY:List ag}{M:a6},sD Y3 Yq C j N (mA m M) .aU->dm Zg C d->bE YO M d YY->br Yx YI YO YY->Yq.aU d YO:=λ{d YO YY M} p F a1 t=>by
  let⟨G,@S,a2,YZ⟩:=Av a1 (bs t F);exact p d YO G (bv F) a2 ((ap.trans t bm).less YZ)
 refine⟨λa k bd P=>k+a=I.length/\∃i Y5,dm Zg C bd/\bE P i bd Y5/\br Yx YI P Y5/\dX H Zk (I.drop a) i=Z (F,M),⟨I.length,rfl,Yv,YI,dm.refl,ex,br.perm bn.1<|List.Perm.refl _,eq⟩,?_⟩;rintro a k bd P ⟨hm,i,Y5,x,cd,Yn,Q⟩;by_cases ce:a<I.length
 ·let@⟨f2,f4⟩:=Yu.go P Yn.tup (as Yn) a I[a] (by simp[ce]);rw[jF ce,dX]at Q;let⟨@R,dB,dg⟩:=bC.mp Q;let⟨@⟨ch,be⟩,d_,U⟩:=bC.mp dg;refine .inr ⟨f2,λd YO=>(k-1)+(a+1)=I.length/\∃i Y5,dm Zg C d/\bE YO i d Y5/\br Yx YI YO Y5/\dX H Zk (I.drop<|a+1) i=Z (F,M),λd YO e=>⟨k-1,⋯,e⟩,λf YO f8=>?_⟩;let@⟨bi,ga⟩:=f4 f YO f8;have a1:=cd.mono bi.tupS λg W m c=>bi g m c;have t:=Yn.same bi;refine⟨i,Y5,.im I[a],[],R,a1,⟨ga,rfl⟩,by rw[cA];exact t.ah,dB,λhw ge G al a2 cR=>?_⟩;have B:br Yx YI ge G:=t.seq (by rw[cA]at cR;exact cR);refine⟨R,G,ch,be,a2,B.ah,d_,?_⟩;cases ch with
  |aU=>exact λam an D n o r=>⟨⋯,be,D,(x.trans al).trans n,o,B.seq r,U⟩
  |cx=>exact λam an D n o r=>⟨⋯,be,D,(x.trans al).trans n,o,B.seq r,U⟩
  |gv=>
   cases U;exact λam an D n o r=>ca p ((x.trans al).trans n) o (B.seq r)
  |dD u=>
   cases U;intro v am an D ci n o gl r;have cl:=B.seq r;have co:=(x.trans al).trans n;let⟨cr,@gt,g1,g2⟩:=Av (Ym:=Ym) o (bs cl co);refine p v am an cr ci (bv co) g1 gl ((ap.trans cl bm).less (aP:=gt) ?_);rw[bq];refine (d1 cr dy).trans ?_;rw[<-bq];refine (fI ci g2).trans ?_;rw[bq,bq];exact d1 _ dy
 ·have T:a=I.length:=⋯
  subst T;refine .inl ⟨Yu.stop P Yn.tup<|as Yn,?_⟩;rw[m_ (bp _)]at Q;cases Q;exact ca p x cd Yn
end
section
variable{b:aO}
variable{H:fk}
def kv{J:az (List V×Option (Nat×aj))}{Zk:bB}(c:ri (aN b.prog b.w) b.A b.env b.c1)(d:b.calm=aa)(T:l6 b YT Zl J)(e:hZ b Zg YT H)(g:jm b Zg ZD Zk)(h:∀a∈Y3,a∈Zg)(Ys:∀y s YN,J y=Z (s,YN)->nO Zg s.2)(i:∀f,me Zl b.env f=pure f:=by intro W;rfl):iN b Y3 (.For YT Zl ZD [] YD) (hz J H Zk):=
 XE c d T e g h Ys (KX c d T e g i)
def NM(Yo:Φ)(ZC:cC):bI:=(λC j Ym=>ZC C j λf Yx=>∃g,f=.ref g/\(((∃x,de Yo Yx g x)/\Ym (tc Yo g) Yx)\/((∃x,cL Yo Yx g x)/\Ym (vJ Yo g) Yx)))
variable{t:bz}
def Hp{ZC:cC}(n:cj b t ZC):kp b YT t (NM b.K ZC):=by
 intro M h C j Ym A e;refine cn (n M h C j _ A e) λv a o=>?_;let⟨f,@Yx,i,r,s⟩:=o;let⟨@g,c,p⟩:=s;subst c;cases r;rcases p with ⟨⟨x,k⟩,p⟩|⟨⟨x,k⟩,p⟩
 ·let⟨@Yy,u,q,w⟩:=i.list k;refine wpAny_pyIter_list q.isList ?_;refine⟨a.heap.objs.size,[a.heap.objs.size],_,_,Yx,rfl,i.kept (YU:=a.toks) λd m c=>bJ _ c,R2 g _,⟨_,cO _ rfl,rfl,rfl⟩,λd l=>?_,p⟩;have c:d=a.heap.objs.size:=by simpa using l
  subst c;exact i.rg (bp _) (i.a4.fresh<|bp _)
 ·let⟨@Yy,u,q,w⟩:=i.tuple k;refine wpAny_pyIter_tuple (show a.heap.IsTuple g Yy.toArray from q) ?_;refine⟨a.heap.objs.size,[a.heap.objs.size],_,_,Yx,rfl,i.kept (YU:=a.toks) λd m c=>bJ _ c,Pt g _,⟨_,cO _ rfl,rfl,rfl⟩,λd l=>?_,p⟩;have c:d=a.heap.objs.size:=by simpa using l
  subst c;exact i.rg (bp _) (i.a4.fresh<|bp _)
theorem bb.get{j:ay}:∀{I:List V}{Yl:List av}{a:Nat}{u:V},bb j I Yl->I[a]?=Z u->∃v,Yl[a]?=Z v/\cH j u v
 |[],_,_,_,_,c=>by simp at c
 |u::I,_,0,_,e,c=>by
  let⟨v,@s,rfl,z,E⟩:=e;simp at c;subst c;exact⟨v,rfl,z⟩
 |u::I,_,a+1,_,e,c=>by
  let⟨v,@s,rfl,z,E⟩:=e;let⟨@L,b,d⟩:=bb.get (a:=a) E ⇑c;exact⟨L,by simpa using b,d⟩
theorem yX{g:ag}(e:j g=Z (.lst x))(hd:bb j I x):kU (tc Yo g) j [g] I where
 go:=λP i o a u c=>by
  let⟨@v,b,d⟩:=hd.get c;have R:=de.of (Yo:=Yo) (o g (.head _) _ e);refine⟨⟨x,v,R,b⟩,λf l ⟨h,k⟩=>?_⟩;subst h;rw[k x R]at b;cases b;exact⟨bZ.refl _,d.mono i.tup⟩
 stop:=λP i o=>⟨x,de.of<|o g (.head _) _ e,by rw[<-hd.length];exact bp _⟩
theorem UB{g:ag}{m:a3}(e:j g=Z (.dF m<|.lst x))(hd:bb j I x):kU (tc Yo g) j [] I where
 go:=λP i o a u c=>by
  let⟨@v,b,d⟩:=hd.get c;have R:de Yo P g x:=.inl (.inr ⟨m,i.dF _ _ _ e⟩);refine⟨⟨x,v,R,b⟩,λf l ⟨h,k⟩=>?_⟩;subst h;rw[k x R]at b;cases b;exact⟨bZ.refl _,d.mono i.tup⟩
 stop:=λP i o=>⟨x,.inl<|.inr ⟨m,i.dF _ _ _ e⟩,by rw[<-hd.length];exact bp _⟩
theorem S2{g:ag}(e:j g=Z (.tup x))(hd:bb j I x):kU (vJ Yo g) j [] I where
 go:=λP i o a u c=>by
  let⟨@v,b,d⟩:=hd.get c;have R:=cL.of (Yo:=Yo) (i.tup g _ e);refine⟨⟨x,v,R,b⟩,λf l ⟨h,k⟩=>?_⟩;subst h;rw[k x R]at b;cases b;exact⟨bZ.refl _,d.mono i.tup⟩
 stop:=λP i o=>⟨x,cL.of<|i.tup g _ e,by rw[<-hd.length];exact bp _⟩
abbrev jb:=az (List V×Option (Nat×aj))
@[simp] def gI(u:aj):Option (List V):=match u with
 |.im (.tup I)=>Z I
 |.lst I=>Z I
 |.dv I=>Z I
 |_=>Y
@[simp] def gO(J:az bw):jb:=λy=>(J y).bind λq=>match q.1 with
 |.cp u=>(gI u).map λI=>((I,Y),q.2)
 |.aZ a=>(f3 a q.2).bind λp=>(gI p.1).map λI=>((I,if p.1.d8=aa then Y else Z (a,p.1)),p.2)
def FG(l:cP j u v Ym)(c:gI u=Z I):
  ∃g,v=.ref g/\(((∃x,de Yo j g x)/\kU (tc Yo g) j Ym I)\/((∃x,cL Yo j g x)/\kU (vJ Yo g) j Ym I)):=by
 unfold gI at c;split at c
 ·cases c;let@⟨⟨g,@x,rfl,z,E⟩,rfl⟩:=l;exact⟨g,rfl,.inr ⟨⟨x,cL.of z⟩,S2 z E⟩⟩
 ·cases c;let⟨g,@x,rfl,z,E,rfl⟩:=l;exact⟨g,rfl,.inl ⟨⟨x,de.of z⟩,yX z E⟩⟩
 ·cases c;let⟨g,x,@m,rfl,z,E,rfl⟩:=l;exact⟨g,rfl,.inl ⟨⟨x,.inl<|.inr ⟨m,z⟩⟩,UB z E⟩⟩
 ·cases c
def k2{J:az bw}(e:dZ b t J):l6 b YT t (gO J):=by
 refine tr (Hp e) λC j G w=>?_;let⟨y,N,s,@YN,X,ah,x,p⟩:=w;let⟨@⟨f,Yv⟩,z,E⟩:=bC.mp x;refine⟨y,N,f,Yv,X,ah,z,λv Yx YI Ym i A d=>?_⟩;cases f with
 |cp u=>
  let⟨@I,k,l⟩:=cB.mp E;cases l;let⟨@g,rfl,m⟩:=FG (Yo:=b.K) A k;refine⟨g,rfl,?_⟩;rcases m with ⟨c,Yu⟩|⟨c,Yu⟩
  ·exact .inl ⟨c,p _ Yx YI Ym i Yu trivial (cP.chg A) d⟩
  ·exact .inr ⟨c,p _ Yx YI Ym i Yu trivial (cP.chg A) d⟩
 |aZ a=>
  let⟨@⟨u,M⟩,k,l⟩:=bC.mp E;let⟨@I,B,D⟩:=cB.mp l;cases D;let⟨H,YY,@b9,n,h,o,F⟩:=CF i k;let@⟨A,rfl⟩:=A;rw[A]at n;cases n;rw[cA]at d;have q:=d.kJ F.symm;let⟨@g,rfl,m⟩:=FG (Yo:=b.K) h B;have r:td Yx C b9 (if u.d8=aa then Y else Z (a,u)):=by
   split
   ·trivial
   ·exact⟨_,A,h⟩
  refine⟨g,rfl,?_⟩;rcases m with ⟨c,Yu⟩|⟨c,Yu⟩
  ·exact .inl ⟨c,p _ Yx YY b9 o Yu r h.chg q⟩
  ·exact .inr ⟨c,p _ Yx YY b9 o Yu r h.chg q⟩
def FJ{J:az aj}:∀y s YN,gO (ae J) y=Z (s,YN)->nO Zg s.2:=by
 intro y s YN e;let⟨@⟨f,Yv⟩,z,E⟩:=bC.mp e;unfold ae at z;let⟨@q,c,a⟩:=cB.mp z;cases a;let⟨@I,d,b⟩:=cB.mp E;cases b
 trivial
variable{a:Nat}
def G9(T:a∈Zg):∀y s YN,gO (af a) y=Z (s,YN)->nO Zg s.2:=by
 intro y s YN e;let⟨@⟨f,Yv⟩,z,E⟩:=bC.mp e;unfold af at z;split at z
 ·cases z;let⟨@⟨u,M⟩,d,b⟩:=bC.mp E;let⟨@I,g,c⟩:=cB.mp b;cases c;show nO Zg (if u.d8=aa then Y else Z (a,u));split
  ·trivial
  ·exact T
 ·cases z
def fV(G:Int)(w:Nat):List V:=((range w).map λ(o:Nat)=>V.int (G+(o:Int)))
theorem Em{G:Int}:kU (r0 G w) j [] (fV G w) where
 go:=λP i o a u c=>by
  have T:a<w:=by
   have:=(eA.mp c).1
   rwa [fV,ba,gh]at this
  refine⟨T,λf e ⟨b,d⟩=>?_⟩;subst b;rw[fV,ea,GL T]at c;cases c;exact⟨bZ.refl _,d⟩
 stop:=λP i o=>by
  show w<=_;rw[fV,ba,gh];exact bp _
def small(a:Int):Prop :=( -1000000<=a/\a<=1000000)
noncomputable instance (a:Int):Decidable (small a):=inferInstanceAs (Decidable<|_/\_)
@[simp] def kd(J:az (List bw)):jb:=λy=>(J y).bind λq=>(eF q.2 q.1).bind λI=>match I with
 |[.im (.int r)]=>if small r then Z ((fV 0 r.toNat,Y),q.2) else Y
 |_=>Y
@[simp] def oi(J:az (List bw)):jb:=λy=>(J y).bind λq=>(eF q.2 q.1).bind λI=>match I with
 |[.im (.int a),.im<|.int r]=>if small a/\small r then Z ((fV a (r-a).toNat,Y),q.2) else Y
 |_=>Y
def pX{u:V}(e:mY j [.im u] Yl):∃v,Yl=[v]/\cH j u v:=by
 let⟨v,@s,rfl,⟨@Ym,z,W⟩,E⟩:=e;cases (show s=[] from E);exact⟨v,rfl,z⟩
def uu{u c:V}(e:mY j [.im u,.im c] Yl):∃v L,Yl=[v,L]/\cH j u v/\cH j c L:=by
 let⟨v,@s,rfl,⟨@Ym,z,W⟩,E⟩:=e;let⟨@L,rfl,a⟩:=pX E;exact⟨v,L,rfl,z,a⟩
def r9(h:dE b "range")(i:b.aI "range" = Y)(d:fJ b [g] J)(Ys:bH [g] b.env=[(au,b0 g b.env)]:=by rfl):l6 b YT (.Call (.Name "range" q) [g] [] YD) (kd J):=by
 refine tr (XF h i d Ys) λC j t k=>?_;let⟨y,N,s,@YN,X,ah,l,p⟩:=k;let⟨@⟨YG,Yv⟩,z,E⟩:=bC.mp l;let⟨@I,m,a⟩:=bC.mp E;refine⟨y,N,YG,Yv,X,ah,z,λYl Yx YI u e A n=>?_⟩;have o:=A.read e m;split at a
 ·rename_i r;split at a
  ·rename_i f;cases a;let⟨@v,rfl,c⟩:=pX o;cases (show v=.int r from c);exact⟨r,rfl,by have:=f.1;lia,by have:=f.2;lia,p _ Yx YI [] e Em trivial (λg d=>nomatch d) (by rw[cA];exact n.less (List.Perm.refl _))⟩
  ·cases a
 ·cases a
def IU(i:dE b "range")(k:b.aI "range" = Y)(f:fJ b [g,d] J)(Ys:bH [g,d] b.env=[(au,b0 g b.env),(au,b0 d b.env)]:=by rfl)(l:bH [d] b.env=[(au,b0 d b.env)]:=by rfl):l6 b YT (.Call (.Name "range" q) [g,d] [] YD) (oi J):=by
 refine tr (RS i k f Ys l) λC j B m=>?_;let⟨y,N,s,@YN,X,ah,n,p⟩:=m;let⟨@⟨YG,Yv⟩,z,E⟩:=bC.mp n;let⟨@I,o,e⟩:=bC.mp E;refine⟨y,N,YG,Yv,X,ah,z,λYl Yx YI D h A t=>?_⟩;have u:=A.read h o;split at e
 ·rename_i a r;split at e
  ·rename_i w;cases e;let⟨v,@L,rfl,c,x⟩:=uu u;cases (show v=.int a from c);cases (show L=.int r from x);let@⟨@⟨F,Zi⟩,aQ,aS⟩:=w;exact⟨a,r,rfl,⟨⋯,⋯,⋯,⋯⟩,p _ Yx YI [] h Em trivial (λg f=>nomatch f) (by rw[cA];exact t.less (List.Perm.refl _))⟩
  ·cases e
 ·cases e
def wx:∀y s YN,kd J y=Z (s,YN)->nO Zg s.2:=by
 intro y s YN e;let⟨@⟨YG,Yv⟩,z,E⟩:=bC.mp e;let⟨@I,b,a⟩:=bC.mp E;split at a
 ·split at a
  ·cases a;trivial
  ·cases a
 ·cases a
def w6(b:aO)(Zz:List bz)(J:az Bool):Prop:=(∀ ⦃q⦄,HT b Zz (kb J) q)
def fD:az Bool:=(λy=>Z (aa,y))
def yC:w6 b [] fD:=by
 intro M h C j B A a;let⟨y,N,d,@YN,X,ah,c,p⟩:=a;cases c;exact WH M h C j B A (p j N X<|br.perm ah<|List.Perm.refl _)
def Ry{J:az Bool}(e:ji b n J):w6 b [n] J:=Mp e
@[simp] def lB(Y1:List Nat)(y:a6):a6:=Y1.map λa=>y.getD a Y
def lF:List Nat->a6->a6
 |[],y=>y
 |a::s,y=>lF s (match y[a]? with|some (Z _)=>y.set a (Z .ek)|_=>y)
@[simp] def jr:List Nat->a6->a6->a6
 |a::s,m::aP,y=>jr s aP (y.set a m)
 |_,_,y=>y
def hU(own:Nat)(YT:fk)(n:az Bool)(c:az aj): List V -> List V -> a6 -> Option (List V × a6)
  |[],a,aP => Z (a,aP)
  |f :: s,a,aP => (YT (.im f)<|List.replicate own Y ++ aP).bind λYv => (n Yv).bind λq => if q.1=aa then (c q.2).bind λp => match p.1 with
      |.im u => if a.length<100000 then hU own YT n c s (a ++ [u]) (p.2.drop own) else Y
      |_ => Y
    else hU own YT n c s a (q.2.drop own)
@[simp] def fN(own:Nat)(Y1:List Nat)(l:jb)(YT:fk)(n:az Bool)(c:az aj):az aj:=λy=>(l y).bind λq=>(hU own YT n c q.1.1 []<|lB Y1 q.2).map λp=>(.lst p.1,mA q.1.2<|jr Y1 p.2 q.2)
def qx(own w:Nat):List Nat:=((range w).map (·+own))
def Qv(e:y[a]?=Z m):y.getD a Y=m:=by rw[cG,e];rfl
def bE.void(X:bE j y C N)(a:Nat):∃YI YY,bE j (match y[a]? with|some (Z _)=>y.set a (Z .ek)|_=>y) C YI/\ng j (y.getD a Y) (C.getD a Y) YY/\(YI++YY).Perm N:=by
 split
 ·rename_i u hd;let⟨v,YI,@YY,z,E,b,d⟩:=X.out hd;refine⟨YY,YI,b,?_,d⟩;rw[Qv hd,cG,z];exact⟨v,rfl,E⟩
 ·rename_i e;refine⟨N,[],X,?_,by rw[cA]⟩;have:y.getD a Y=Y:=by
   rw[cG];cases c:y[a]? with
   |none=>rfl
   |some m=>
    cases m with
    |none=>rfl
    |some u=>exact absurd c (e u)
  rw[this];exact rfl
theorem Co{j:ay}{C:a5}:∀{Y1:List Nat}{y:a6}{N:List ag},Y1.Nodup->bE j y C N->∃YI YY,bE j (lF Y1 y) C YI/\bE j (lB Y1 y) (Y1.map λa=>C.getD a Y) YY/\(YI++YY).Perm N
 |[],y,N,_,X=>⟨N,[],X,⟨rfl,rfl⟩,by rw[cA]⟩
 |a::s,y,N,ah,X=>by
  let⟨YI,@YY,z,E,f⟩:=X.void a;have b:=g5.mp ah;let⟨g,@d,h,e,i⟩:=Co (Y1:=s) b.2 z;refine⟨g,YY++d,h,⟨_,_,YY,d,rfl,E,?_,rfl⟩,lZ.trans<|(d1 _ i).trans<|dy.trans f⟩;have c:lB s (match y[a]? with|some (Z _)=>y.set a (Z .ek)|_=>y)=lB s y:=by
   unfold lB;refine kH λr k=>?_;split
   ·rw[cG,cG,n_];rintro rfl;exact b.1 k
   ·rfl
  rw[c]at e;exact e
def bE.WC(X:bE j y C N)(e:ng j m (C.getD a Y) S):∃YI YY,bE j (y.set a m) C YI/\(YI++YY).Perm (N++S):=by
 cases m with
 |some u=>
  let⟨@v,c,l⟩:=e;refine X.back l ?_;rw[cG]at c;cases p:C[a]? with
  |none=>rw[p]at c;cases c
  |some f=>rw[p]at c;rw[show f=Z v from c]
 |none=>
  cases (show S=[] from e);rw[cA];by_cases T:a<y.length
  ·cases p:y[a]? with
   |none=>exact absurd (List.getElem?_eq_none_iff.mp p) ⋯
   |some f=>
    cases f with
    |none=>
     refine⟨N,[],?_,by rw[cA]⟩;have:y.set a Y=y:=by
      refine rl λr=>?_;by_cases c:a=r
      ·subst c;rw[p,w5 T]
      ·rw[n_ c]
     rw[this];exact X
    |some u=>
     let⟨v,YI,@YY,z,E,k,n⟩:=X.out p;have gen:∀{y:a6}{C:a5}{N:List ag}{a:Nat},bE j y C N->∃YI YY,bE j (y.set a Y) C YI/\(YI++YY).Perm N:=by
      intro y;induction y with
      |nil=>intro C N a X;exact⟨N,[],by simpa using X,by rw[cA]⟩
      |cons m y d=>
       intro C N a X;let⟨f,s,O,@Zb,rfl,g,b,rfl⟩:=X;cases a with
       |zero=>exact⟨Zb,O,⟨f,s,[],Zb,rfl,rfl,b,rfl⟩,dy⟩
       |succ a=>
        let⟨aP,@Yq,h,i⟩:=d (a:=a) b;refine⟨O++aP,Yq,⟨f,s,O,aP,rfl,g,h,rfl⟩,?_⟩;rw[bq];exact d1 _ i
     exact gen X
  ·refine⟨N,[],?_,by rw[cA]⟩;rw[List.set_eq_of_length_le ⋯];exact X
theorem FR{j:ay}{C:a5}:∀{Y1:List Nat}{aP y:a6}{N S:List ag},bE j y C N->bE j aP (Y1.map λa=>C.getD a Y) S->∃YI YY,bE j (jr Y1 aP y) C YI/\(YI++YY).Perm (N++S)
 |[],aP,y,N,S,X,_=>⟨N,S,by cases aP<;>exact X,List.Perm.refl _⟩
 |a::s,[],y,N,S,X,e=>⟨N,S,X,List.Perm.refl _⟩
 |a::s,m::aP,y,N,S,X,e=>by
  let⟨f,i,g,@h,c,z,E,rfl⟩:=e;cases c;let⟨YI,@O,b,d⟩:=X.WC z;let⟨YY,@Zb,YK,YR⟩:=FR (Y1:=s) (aP:=aP) b E;refine⟨YY,Zb++O,YK,?_⟩;rw[<-bq,<-bq];refine (fI O YR).trans ?_;rw[bq];refine (d1 YI dy).trans ?_;rw[<-bq];exact fI _ d
def VX:∀{Y1:List Nat}{aP y:a6},Y1.length=aP.length->Y1.Nodup->jr Y1 aP (lF Y1 y)=jr Y1 aP y:=by
 have j:∀{s:List Nat}{aP y:a6}{a:Nat}{m:Option aj},a∉s->jr s aP (y.set a m)=(jr s aP y).set a m:=by
  intro s;induction s with
  |nil=>intro aP y a m W;cases aP<;>rfl
  |cons r s b=>
   intro aP y a m e;cases aP with
   |nil=>rfl
   |cons n aP=>
    have f:a≠r:=λc=>e (by rw[c];exact .head _);show jr s aP ((y.set a m).set r n)=(jr s aP<|y.set r n).set a m;rw[A0 _ _ f,b λD=>e<|.tail _ D]
 have g:∀{s:List Nat}{y:a6}{a:Nat}{m:Option aj},a∉s->lF s (y.set a m)=(lF s y).set a m:=by
  intro s;induction s with
  |nil=>intro y a m W;rfl
  |cons r s b=>
   intro y a m e;have f:a≠r:=λc=>e (by rw[c];exact .head _);show lF s (match (y.set a m)[r]? with|some (Z _)=>(y.set a m).set r (Z .ek)|_=>y.set a m)=(lF s (match y[r]? with|some (Z _)=>y.set r (Z .ek)|_=>y)).set a m;rw[n_ f];cases y[r]? with
   |none=>exact b λD=>e (.tail _ D)
   |some p=>
    cases p with
    |none=>exact b λD=>e (.tail _ D)
    |some u=>
     show lF s ((y.set a m).set r<|Z .ek)=_;rw[A0 _ _ f];exact b λD=>e (.tail _ D)
 intro Y1;induction Y1 with
 |nil=>intro aP y W W;cases aP<;>rfl
 |cons a s b=>
  intro aP y h ah;have d:=g5.mp ah;cases aP with
  |nil=>cases h
  |cons n aP=>
   have i:s.length=aP.length:=by simpa using h
   show jr s aP ((lF s (match y[a]? with|some (Z _)=>y.set a (Z .ek)|_=>y)).set a n)=jr s aP (y.set a n);split
   ·rw[g d.1,zQ,<-g d.1,b i d.2]
   ·rw[<-g d.1,b i d.2]
theorem FT{j:ay}{y:a6}{s:a5}{N:List ag}(e:bE j y s N):∀{own:List aG},bE j (List.replicate own.length Y++y) (own.map (λ_=>Y)++s) N
 |[]=>e
 |f::own=>⟨Y,_,[],N,rfl,rfl,FT e (own:=own),rfl⟩
theorem x1{j:ay}:∀{w:Nat}{y:a6}{C:a5}{N:List ag},bE j y C N->∃YI YY,bE j (y.drop w) (C.drop w) YI/\(YI++YY).Perm N
 |0,y,C,N,e=>⟨N,[],e,by rw[cA]⟩
 |w+1,[],C,N,e=>by
  cases e.1;exact⟨[],N,⟨rfl,rfl⟩,List.Perm.refl _⟩
 |w+1,m::y,C,N,e=>by
  let⟨f,s,O,@Zb,rfl,z,E,rfl⟩:=e;let⟨YI,@YY,a,b⟩:=x1 (w:=w) E;exact⟨YI,YY++O,a,by rw[<-bq];exact (fI O b).trans dy⟩
def br.both(g:br j N Yx (YI++Ym)):br j N Yx YI:=g.less (List.Perm.refl _)
theorem bb.snoc:∀{I:List V}{Yl:List av}{u:V}{v:av},bb j I Yl->cH j u v->bb j (I++[u]) (Yl++[v])
 |[],Yl,u,v,e,l=>by cases (show Yl=[] from e);exact⟨v,[],rfl,l,rfl⟩
 |c::I,Yl,u,v,e,l=>by
  let⟨L,@s,rfl,z,E⟩:=e;exact⟨L,s++[v],rfl,z,E.snoc l⟩
variable{l:jb}
def IT(ah:Y1.Nodup)(e:oh (fN own.length Y1 l H ZE ZF) C j B):
  w4 own Y1 (bV l) (λ_=>BS (qx own.length Y1.length) H) (λ_=>kb ZE) (λ_=>oh ZF) C j B:=by
 let⟨y,N,s,@YN,X,f0,f1,p⟩:=e;let⟨@⟨⟨x,m⟩,Yv⟩,z,E⟩:=bC.mp f1;let⟨@⟨I,bv⟩,f2,f4⟩:=cB.mp E;cases f4;refine⟨y,N,(x,m),Yv,X,f0,z,λZo Yx YI Ym f8 Yu ga ge gl lf=>?_⟩;let⟨al,@J,el,i,YZ⟩:=Co ah f8;have ca:br j N Yx (J++(al++Ym)):=gl.kJ (by
  refine (fI Ym YZ.symm).trans ?_;rw[bq];exact lZ)
 have cd:=d0.mp ca.ah;have gt:∀f∈al++Ym,gX Yx f:=λf F=>by
  rcases eh.mp F with F|F
  ·exact el.chg f F
  ·exact ge f F
 have am:∀{YO:ay}{YY:List ag},br Yx J YO YY->∀g∈al++Ym,∀L,Yx g=Z L->YO g=Z L:=λh g b L c=>h.keep g L c λe=>cd.2.2 g e g b rfl;refine⟨λa k YA P=>k+a=x.length/\∃o aP G,bE P aP (Y1.map λa=>C.getD a Y) G/\aP.length=Y1.length/\br Yx J P G/\bb P o YA/\hU own.length H ZE ZF (x.drop a) o aP=Z (I,bv),
  ⟨x.length,rfl,[],lB Y1 Yv,J,i,by rw[lB,ba],br.perm cd.1<|List.Perm.refl _,rfl,f2⟩,?_⟩;rintro a k YA P ⟨an,o,aP,G,ce,g1,Yn,ch,ap⟩;by_cases ci:a<x.length
 ·let@⟨g2,g3⟩:=Yu.go P Yn.tup (λg b=>am Yn g<|fE _ b) a x[a] (by simp[ci]);rw[jF ci,hU]at ap;let⟨@R,dB,dg⟩:=bC.mp ap;let⟨@⟨d,a2⟩,d_,Q⟩:=bC.mp dg;refine .inr ⟨g2,λcl YO=>(k-1)+(a+1)=x.length/\∃o aP G,bE YO aP (Y1.map λa=>C.getD a Y) G/\aP.length=Y1.length/\br Yx J YO G/\bb YO o cl/\hU own.length H ZE ZF (x.drop<|a+1) o aP=Z (I,bv),λcl YO e=>⟨k-1,⋯,e⟩,λf YO F=>?_⟩;let@⟨t,hd⟩:=g3 f YO F;have he:=ce.mono t.tupS λg W m c=>t g m c;have co:=Yn.same t;have as:=ch.mono t.tupS.tup;refine⟨List.replicate own.length Y++aP,G,.im x[a],[],R,FT he,⟨hd,rfl⟩,by rw[cA];exact co.ah,dB,λbd hf cr a1 cs cR=>⟨λr v n=>?_,?_⟩⟩
  ·
   have li:own.length<=r:=by
    by_cases hm:r<own.length
    ·rw[kx,kL ⇑hm,ea]at n;cases c:own[r]? with
     |none=>rw[c]at n;cases n
     |some D=>rw[c]at n;cases n
    ·lia
   have lm:r<own.length+Y1.length:=by
    have:=(eA.mp n).1
    rwa [kx,c6,ba,ba]at this
   have an:r∈qx own.length Y1.length:=cW.mpr ⟨r-own.length,eT.mpr ⋯,⋯⟩;exact (a1.2 r an).trans n
  ·have db:br Yx J hf cr:=co.seq (by rw[cA]at cR;exact cR);have as:=as.mono cR.tup.tup;have ds:bd.drop own.length=Y1.map λa=>C.getD a Y:=by
    have ln:=cs.len;refine rl λr=>?_;by_cases n:r<Y1.length
    ·have an:r+own.length∈qx own.length Y1.length:=cW.mpr ⟨r,eT.mpr n,rfl⟩;have:=a1.2 _ an;rw[lq,rn,this,kx,j6 ↥0,ba,Nat.add_sub_cancel]
    ·have ls:bd.length<=own.length+Y1.length:=by
      rw[a1.1,kx,c6,ba,ba];exact bp _
     rw[tf (by rw[fg];lia),tf (by rw[ba];lia)]
   have dL:bd.length=own.length+Y1.length:=by rw[a1.1,kx,c6,ba,ba]
   refine⟨R,cr,d,a2,cs,db.ah,d_,λlv be M bi=>?_⟩;have S:=db.seq bi;dsimp only at Q ⊢;cases d with
   |false=>
    rw[aH dj]at Q ⊢;let⟨U,@eq,A,bm⟩:=x1 (w:=own.length) M;rw[ds]at A;exact⟨⋯,o,a2.drop own.length,U,A,by rw[fg,M.len,dL];lia,S.less bm,as.mono bi.tup.tup,Q⟩
   |true=>
    rw[aE rfl]at Q ⊢;let⟨@⟨v,ev⟩,hw,O⟩:=bC.mp Q;dsimp only at O;split at O
    ·rename_i u;split at O
     ·rename_i lw;refine⟨a2,be,.im u,ev,M,S.ah,hw,λL mb U mo A YV bn=>?_⟩;let@⟨h0,rfl⟩:=YV;rw[cA]at bn;have ex:=(as.mono bi.tup.tup).mono bn.tup.tup;refine⟨vh (show YA.length<=100000 by rw[<-ex.length];lia) ∅,?_⟩;let⟨ii,@ms,fd,io⟩:=x1 (w:=own.length) A;rw[ds]at fd;exact⟨⋯,o++[u],ev.drop own.length,ii,fd,by rw[fg,A.len,dL];lia,(S.seq bn).less io,ex.snoc h0,O⟩
     ·cases O
    ·cases O
 ·have T:a=x.length:=⋯
  subst T;refine .inl ⟨Yu.stop P Yn.tup<|λg b=>am Yn g<|fE _ b,λbs fn=>?_⟩;rw[m_ (bp _),hU]at ap;cases ap;have it:bE P (lF Y1 Yv) C al:=el.mono Yn.tup λg b=>am Yn g (gd _ b);let⟨be,@fr,M,jp⟩:=FR it ce;rw[VX (by rw[g1]) ah]at M;have kt:td P C Ym m:=by
   cases m with
   |none=>trivial
   |some q=>
    let⟨a,u⟩:=q;let⟨@v,kw,lc⟩:=ga;exact⟨v,kw,lc.mono Yn.tup λg b=>am Yn g<|fE _ b⟩
  let⟨U,@eq,A,bm⟩:=Av (Ym:=Ym) M kt;have t:bZ P (upd P bs<|.lst YA):=(bZ.refl P).upd fn;have S:br j N P U:=(ca.trans Yn gt).less (aP:=eq++fr) (by
   rw[<-bq];refine (fI fr bm).trans ?_;rw[bq];refine (d1 be dy).trans ?_;rw[<-bq];refine (fI Ym jp).trans ?_;rw[bq];exact lZ)
  exact p _ _ U [bs] (A.mono t.tupS λg W m c=>t g m c) ⟨bs,YA,rfl,e8,ch.mono t.tupS.tup,rfl⟩ (S.add fn A.chg)
def Cs{ZA:bz}{Zz:List bz}{YS:hO}(c:b.calm=aa)(YB:j4 b YS own Y1)(ah:Y1.Nodup)(T:l6 b YT Zl l)(d:∀a,hZ (b.df (gB b own Y1) YS a) (qx own.length Y1.length) YT H)(bG:∀a,w6 (b.df (gB b own Y1) YS a) Zz ZE)(g:∀a,cI (b.df (gB b own Y1) YS a) ZA ZF)(Ys:∀f,me Zl b.env f=pure f:=by intro W;rfl):cI b (.ListComp ZA [⟨YT,Zl,Zz,0⟩] YS YD) (fN own.length Y1 l H ZE ZF):=
 eW (Q9 c YB T d bG g Ys) λC j B e=>IT ah e
end
@[simp] def i6(Y3:List Nat):List aj->a6->Nat->List aj
 |u::I,m::y,r=>(if u.d8=aa then u else if r∈Y3 then m.getD .ek else .ek)::i6 Y3 I y (r+1)
 |u::I,[],r=>(if u.d8=aa then u else .ek)::i6 Y3 I [] (r+1)
 |[],_,_=>[]
@[simp] def dG(w k:Nat)(Y3:List Nat)(J:bB):dn:=λI=>if I.length=w then match J (I.map Z++List.replicate (k-w) Y) with
 |some (.dD s,y)=>Z (s,i6 Y3 I y 0)
 |some (.aU,y)=>Z (.im .aV,i6 Y3 I y 0)
 |_=>Y else Y
theorem KN{j:ay}:∀{I:List aj}{Yl:List av}{N:List ag}{k:Nat},ey j I Yl N->bE j (I.map Z++List.replicate k Y) (Yl.map Z++List.replicate k Y) N
 |[],Yl,N,k,e=>by
  let@⟨rfl,rfl⟩:=e;show bE j (List.replicate k Y) (List.replicate k Y) [];induction k with
  |zero=>exact⟨rfl,rfl⟩
  |succ k a=>exact⟨Y,_,[],[],rfl,rfl,a,rfl⟩
 |u::I,Yl,N,k,e=>by
  let⟨v,s,YI,@YY,rfl,z,E,rfl⟩:=e;exact⟨Z v,_,YI,YY,rfl,⟨v,rfl,z⟩,KN E,rfl⟩
theorem zy{j P:ay}{Y3:List Nat}(i:fx j P):∀{I:List aj}{Yl:List av}{p:List ag}{y:a6}{C:a5}{N:List ag}{a:Nat},ey j I Yl p->bE P y C N->(∀(r:Nat) (v:av),(a+r)∈Y3->Yl[r]?=Z v->C[r]?=Z (Z v))->
  ∃Ym S,ey P (i6 Y3 I y a) Yl Ym/\(Ym++S).Perm N
 |[],Yl,p,y,C,N,a,e,X,_=>⟨[],N,by unfold i6;exact⟨e.1,rfl⟩,List.Perm.refl _⟩
 |u::I,Yl,p,[],C,N,a,e,X,o=>by
  let⟨v,s,O,@Zb,rfl,z,E,rfl⟩:=e;let@⟨rfl,rfl⟩:=X;let⟨Ym,@S,b,d⟩:=zy (y:=[]) (C:=[]) (N:=[]) (a:=a+1) i E ⟨rfl,rfl⟩ λr v q t=>by
   have:=o (r+1) v (by rw[show a+(r+1)=a+1+r by lia];exact q) ⇑t;simp at this
  rw[i6];refine⟨Ym,S,⟨v,s,[],Ym,rfl,?_,b,rfl⟩,d⟩;split
  ·rename_i k;have:=z.mono i λg n=>by rw[z.d8 k]at n;cases n
   rw[z.d8 k]at this;exact this
  ·exact rfl
 |u::I,Yl,p,m::y,C,N,a,e,X,o=>by
  let⟨v,s,O,@Zb,rfl,z,E,rfl⟩:=e;let⟨f,h,aP,@Yq,rfl,x,A,rfl⟩:=X;let⟨Ym,@S,b,d⟩:=zy (y:=y) (C:=h) (a:=a+1) i E A λr v q t=>by
   have:=o (r+1) v (by rw[show a+(r+1)=a+1+r by lia];exact q) ⇑t;simpa using this
  rw[i6];split
  ·rename_i k;have w:=z.mono i λg n=>by rw[z.d8 k]at n;cases n
   rw[z.d8 k]at w;refine⟨Ym,S++aP,⟨v,s,[],Ym,rfl,w,b,rfl⟩,?_⟩;rw[<-bq];exact (fI aP d).trans dy
  ·split
   ·rename_i B;have D:f=Z v:=by
     have:=o 0 v B rfl;simpa using this
    subst D;cases m with
    |none=>
     refine⟨Ym,S++aP,⟨v,s,[],Ym,rfl,rfl,b,rfl⟩,?_⟩;rw[<-bq];exact (fI aP d).trans dy
    |some c=>
     let⟨@G,F,l⟩:=x;cases F;refine⟨aP++Ym,S,⟨v,s,aP,Ym,rfl,l,b,rfl⟩,?_⟩;rw[bq];exact d1 _ d
   ·refine⟨Ym,S++aP,⟨v,s,[],Ym,rfl,rfl,b,rfl⟩,?_⟩;rw[<-bq];exact (fI aP d).trans dy
section
variable{YC:bO}{l:bh}{Yo:Φ}{aI:aG->Option ab}{YF:aX}
def Rm{Zr:aG}{X:cf}{F:ag}{Y0:List aG}{o:Nat}{J:bB}(N:hk Yo f Zr X F fd)(YB:oO Y0 Yz (eV X))(y:Yz.length=w)(M:∀a∈Y3,a<w)(z:∀(D:ab) (O:bA) (G:List fA) (h:ai) (j:ay) (Yq:hs),fO o (O.deeper<|jR Zr (eV X) h.heap.objs.size F D)->jm (mc iO YC l Yo aI YF Y0 Zr (eV X) F D O G h j Yq).pL Y3 (ho X) J):
  js YC l Yo aI YF iO (o+1) F fd Yz (lH w<|dG w Y0.length Y3 J):=by
 refine N.ok YB (λYl j B Yq e=>e.1.trans y.symm) (λD O G h j Yl B Yq A e=>⟨_,z D O G h j Yq A,?_⟩);let@⟨n,⟨I,m,s,@i,YV,ah,b,p⟩⟩:=e;have C:I.length=w:=YV.length.trans n;unfold dG at b;rw[aE C]at b;have X:=KN (k:=Y0.length-w) YV;have Q:ly Y0 Yl=Yl.map Z++List.replicate (Y0.length-w) Y:=by unfold ly;rw[n]
 rw[Q];have q:∀{d:a5}{P:ay}{Y5:List ag}{YN:a6}{v:av}{Ym:List ag},i6 Y3 I YN 0=i->dm Y3 (Yl.map Z++List.replicate (Y0.length-w) Y) d->bE P YN d Y5->cP P s v Ym->br j m P (Y5++Ym)->B v P:=λ{d P Y5 YN v Ym} E Zg g H Yn=>by
  let⟨b9,@S,t,L⟩:=zy (Y3:=Y3) (a:=0) Yn.tup YV g λr v u x=>by
   rw[IZ]at u;rw[Zg.2 r u,kL (by rw[ba];exact (eA.mp x).1),ea,x];rfl
  rw[E]at t;refine p v P Ym b9 H t (Yn.less (aP:=S) ?_);rw[bq];exact (d1 Ym L).trans dy
 split at b
 ·rename_i Zd YN c;cases b;exact⟨_,m,.dD s,YN,X,ah,c,λv d P Y5 Ym Zg g H Yn=>q rfl Zg g H Yn⟩
 ·rename_i YN c;cases b;exact⟨_,m,.aU,YN,X,ah,c,λd P Y5 Zg g Yn=>q rfl Zg g ⟨rfl,rfl⟩ (by rw[cA];exact Yn)⟩
 ·cases b
end
def ck(j:ay)(u:aj)(B:cS):Prop:=(∀v P Ym,bZ j P->cP P u v Ym->Ym.Nodup->(∀g∈Ym,j g=Y)->B v P)
def ck.Dm{u:V}(p:ck j (.im u) B)(h:bZ j P)(e:cH P u v):B v P:=p v P [] h ⟨e,rfl⟩ kR (λg a=>nomatch a)
def ck.i{j:ay}{u:V}{B:cS}{v:av}(p:ck j (.im u) B)(e:cH j u v):B v j:=p.Dm (bZ.refl j) e
def ck.l{j:ay}{I:List V}{x:List av}{B:cS}{q:ag}(p:ck j (.lst I) B)(a:j q=Y)(e:bb j I x):B (.ref q) (upd j q<|.lst x):=by
 have h:bZ j (upd j q<|.lst x):=(bZ.refl j).upd a;exact p _ _ [q] h ⟨q,x,rfl,e8,e.mono h.tupS.tup,rfl⟩ (f9 _ _) λg b=>by rw[cX.mp b];exact a
def ck.t{j:ay}{I:List V}{x:List av}{B:cS}{q:ag}(p:ck j (.im<|.tup I) B)(a:j q=Y)(e:bb j I x):B (.ref q) (upd j q<|.tup x):=by
 have h:bZ j (upd j q<|.tup x):=(bZ.refl j).upd a;exact p.Dm h ⟨q,x,rfl,e8,e.mono h.tupS.tup⟩
section
variable{b:aO}
def d2.imp{F:ab->ab->dA ab}{s:b9}(e:d2 b F s)(a:∀f H j B,Zd f H j B->s f H j B):d2 b F Zd:=λM h C j f H v L B A c d g=>e M h C j f H v L B A c d (a f H j B g)
def eZ.imp{F:ab}{s Zd:List av->ay->cS->Prop}(e:eZ b F s)(a:∀x j B,Zd x j B->s x j B):eZ b F Zd:=λM h C j x YM B A c d=>e M h C j x YM B A c (a x j B d)
def ib.imp{s:b9}(e:ib b s)(a:∀f H j B,Zd f H j B->s f H j B):ib b Zd:=λc d M h C j f H v L B A g i k=>e c d M h C j f H v L B A g i (a f H j B k)
def gn.i{j:ay}{u:V}{v:av}(e:gn j (.im u) v):cH j u v:=e.elim λ_ l=>l.1
end
abbrev gi:=aj->aj->Option aj
@[simp] def jq(aP:Int->Int->Bool)(J:Int->Int->V):gi:=λg d=>match g,d with
 |.im (.int a),.im (.int r)=>if aP a r=aa then Z (.im<|J a r) else Y
 |_,_=>Y
def El{aP:Int->Int->Bool}{J:Int->Int->V}{g d:aj}(e:jq aP J g d=Z u):∃a r,g=.im (.int a)/\d=.im (.int r)/\aP a r=aa/\u=.im (J a r):=by
 unfold jq at e;split at e
 ·rename_i a r;split at e
  ·rename_i b;cases e;exact⟨a,r,rfl,rfl,b,rfl⟩
  ·cases e
 ·cases e
section
variable{b:aO}
variable{F:ab->ab->dA ab}{J:Int->Int->av}{e:Int->Int->V}
def vG{aP:Int->Int->Prop}{Zb:Int->Int->Bool}(m:d2 b F (qe aP J))(d:∀a r,Zb a r=aa->aP a r)(g:∀j a r,cH j (e a r)<|J a r):fQ b F (jq Zb e):=
 m.imp λf H j B ⟨Y2,Y8,u,h,k,c,p⟩=>by
  let⟨a,@r,rfl,rfl,l,rfl⟩:=El c;exact⟨a,r,h.i,k.i,d a r l,ck.i p<|g j a r⟩
def tp(m:d2 b F (mn J))(d:∀j a r,cH j (e a r)<|J a r):fQ b F (jq (λ_ W=>aa) e):=
 m.imp λf H j B ⟨Y2,Y8,u,g,h,c,p⟩=>by
  let⟨a,@r,rfl,rfl,k,rfl⟩:=El c;exact⟨a,r,g.i,h.i,ck.i p<|d j a r⟩
@[simp] def fy:gi:=jq (λ_ W=>aa) λa r=>.int (a-r)
def iM(a r:Int):Bool:=(!(decide (aY.Int.intBits a>wG)&&decide (aY.Int.intBits r>wG)&&aY.Int.intTooBig (aY.Int.intBits a+aY.Int.intBits r)))
@[simp] def fR:gi:=jq iM λa r=>.int (a*r)
@[simp] def kQ:gi:=jq (λ_ r=>decide (0<r/\r<1073741824)) λa r=>.int (a/r)
@[simp] def fT:gi:=jq (λ_ r=>decide (0<r)) λa r=>.int (a%r)
@[simp] def nW:gi:=jq (λa r=>decide (0<=r/\r<=1000000/\a.natAbs<2^64)) λa r=>.int (a^r.toNat)
@[simp] def i_:gi:=jq (λ_ W=>aa) λa r=>.aB (decide (a<r))
@[simp] def l0:gi:=jq (λ_ W=>aa) λa r=>.aB (decide (a<=r))
@[simp] def oo:gi:=jq (λ_ W=>aa) λa r=>.aB (decide (r<a))
@[simp] def p4:gi:=jq (λ_ W=>aa) λa r=>.aB (decide (r<=a))
def ht:fQ b (gr .Sub) fy:=tp T4 λ_ W W=>rfl
def hI:fQ b (gr .Mult) fR:=vG R1 (λa r e=>by unfold iM at e;unfold IntMulOk;rw[uV]at e;rw[e];exact dj) λ_ W W=>rfl
def tj:fQ b (gr .FloorDiv) kQ:=vG MO (λa r e=>show 0<r/\r<1073741824 from gf e) λ_ W W=>rfl
def jx:fQ b (gr .Mod) fT:=vG W8 (λa r e=>gf e) λ_ W W=>rfl
def vx:fQ b (gr .Pow) nW:=vG Xf (λa r e=>show 0<=r/\r<=1000000/\a.natAbs<2^64 from gf e) λ_ W W=>rfl
def tK:fQ b (eS .Lt) i_:=tp Nl λ_ W W=>rfl
def yU:fQ b (eS .LtE) l0:=tp Rt λ_ W W=>rfl
def Kn:fQ b (eS .Gt) oo:=tp Qz λ_ W W=>rfl
def zl:fQ b (eS .GtE) p4:=tp SP λ_ W W=>rfl
def Of:d2 b (gr .Add) (λf H j B=>∃g d YA,f=.ref g/\H=.ref d/\cL b.K j g []/\cL b.K j d YA/\B (.ref d) j):=by
 intro M h C j f H v L B A n o e;let⟨g,d,@YA,rfl,rfl,q,r,p⟩:=e;cases n;cases o;let⟨@Yy,s,t,W⟩:=A.tuple q;let⟨@z,D,Y6,W⟩:=A.tuple r;have c:Yy=[]:=s.uJ.mpr rfl;subst c;let⟨@⟨cls,u,data,aZ⟩,a,i,⟨@w,hd⟩⟩:=id t;let⟨@⟨E,x,data2,y⟩,k,l,⟨@Zq,m⟩⟩:=id Y6;simp only at i hd l m;subst i hd l m;exact x3 ⟨_,a,rfl⟩ ⟨_,k,rfl⟩ z8 zJ zV y3 (BG _ _) (tuple_addW0 g d _ _ w Zq u x aZ y rfl) ⟨a,k,.ref d,j,A,rfl,p⟩
@[simp] def cD:gi:=λg d=>match g,d with
 |.im (.int a),.im (.int r)=>Z (.im<|.int<|a+r)
 |.im (.tup f),.im (.tup H)=>if f.length+H.length<=100000 then Z (.im<|.tup<|f++H) else Y
 |.lst f,.lst H=>if f.length+H.length<=100000 then Z (.lst<|f++H) else Y
 |.im (.str f),.im (.str H)=>if f.length+H.length<=100000 then Z (.im<|.str<|f++H) else Y
 |_,_=>Y
theorem bb.app:∀{g d:List V}{f H:List av},bb j g f->bb j d H->bb j (g++d) (f++H)
 |[],d,f,H,e,o=>by cases (show f=[] from e);exact o
 |u::g,d,f,H,e,o=>by
  let⟨v,@s,rfl,z,E⟩:=e;exact⟨v,s++H,rfl,z,E.app o⟩
def bb.nil{j:ay}{g:List V}(e:bb j g []):g=[]:=by
 cases g with
 |nil=>rfl
 |cons u g=>let⟨W,@W,c,W⟩:=e;cases c
def dK:fQ b (gr .Add) cD:=by
 refine (O_.or<|Of.or<|T2.or<|P_.or Oc).imp λf H j B y=>?_;let⟨Y2,Y8,@u,n,o,c,p⟩:=y;unfold cD at c;split at c
 ·cases c;exact .inl ⟨_,_,n.i,o.i,ck.i p rfl⟩
 ·rename_i g d;split at c
  ·rename_i h;cases c;let⟨q,@x,rfl,z,E⟩:=n.i;let⟨k,@YA,rfl,m,e⟩:=o.i;refine .inr ?_;by_cases s:x=[]
   ·subst s;cases E.nil;exact .inl ⟨q,k,YA,rfl,rfl,cL.of z,cL.of m,ck.i p ⟨k,YA,rfl,m,e⟩⟩
   ·refine .inr (.inl ⟨q,k,x,YA,rfl,rfl,cL.of z,cL.of m,s,l8 (by rw[<-E.length,<-e.length];exact h),λv=>?_,λv w r=>ck.t p r<|E.app e⟩);subst v;cases e.nil;rw[cA]at p;exact ck.i p ⟨q,x,rfl,z,E⟩
  ·cases c
 ·rename_i g d;split at c
  ·rename_i h;cases c;let⟨W,q,@x,rfl,z,E,W⟩:=n;let⟨W,k,@YA,rfl,m,e,W⟩:=o;exact .inr (.inr (.inr (.inl ⟨q,k,x,YA,rfl,rfl,z,m,l8 (by rw[<-E.length,<-e.length];exact h),λw r=>ck.l p r<|E.app e⟩)))
  ·cases c
 ·rename_i g d;split at c
  ·rename_i h;cases c;exact .inr (.inr<|.inr<|.inr ⟨g,d,n.i,o.i,l8 h,ck.i p rfl⟩)
  ·cases c
 ·cases c
def MW(w:Nat){O:bA}{f H:V}{L v:ab}(l:V.bo w f=aa)(a7:V.bo w H=aa)(T:O.units+w+2<bQ)(o:dS h.heap f L)(b:dS h.heap H v):SeqAt.RcAt O h L v (ct f H):=by
 cases f with
 |aV=>
  cases (show L=.none from o);cases H with
  |aV=>cases (show v=.none from b);exact QA
  |aB d=>cases (show v=.bool d from b);exact QH d
  |int r=>let⟨@i,rfl⟩:=b;exact T_ r i
  |str D=>let⟨@i,rfl⟩:=b;exact M1 D i
  |tup I=>let⟨g,m,YJ,@k,rfl,z,E,j,W⟩:=b;exact TX ⟨m,z,E,k,j⟩ ⋯
  |fn g=>cases w<;>cases a7
  |aR g=>cases w<;>cases a7
  |fd=>cases w<;>cases a7
 |aB d=>
  cases (show L=.bool d from o);cases H with
  |aV=>cases (show v=.none from b);exact Wo d
  |aB n=>cases (show v=.bool n from b);exact P7 d n
  |int r=>let⟨@i,rfl⟩:=b;exact WG d r i
  |str D=>let⟨@i,rfl⟩:=b;exact SW d D i
  |tup I=>let⟨g,m,YJ,@k,rfl,z,E,j,W⟩:=b;exact Qu d ⟨m,z,E,k,j⟩ ⋯
  |fn g=>cases w<;>cases a7
  |aR g=>cases w<;>cases a7
  |fd=>cases w<;>cases a7
 |int a=>
  let⟨@e,rfl⟩:=o;cases H with
  |aV=>cases (show v=.none from b);exact QY a e
  |aB n=>cases (show v=.bool n from b);exact OX a e n
  |int r=>let⟨@i,rfl⟩:=b;exact PY a e r i
  |str D=>let⟨@i,rfl⟩:=b;exact UT a e D i
  |tup I=>let⟨g,m,YJ,@k,rfl,z,E,j,W⟩:=b;exact O1 a e ⟨m,z,E,k,j⟩ ⋯
  |fn g=>cases w<;>cases a7
  |aR g=>cases w<;>cases a7
  |fd=>cases w<;>cases a7
 |str a=>
  let⟨@e,rfl⟩:=o;cases H with
  |aV=>cases (show v=.none from b);exact Vh a e
  |aB n=>cases (show v=.bool n from b);exact U3 a e n
  |int r=>let⟨@i,rfl⟩:=b;exact XI a e r i
  |str D=>let⟨@i,rfl⟩:=b;exact Sn a e D i
  |tup I=>let⟨g,m,YJ,@k,rfl,z,E,j,W⟩:=b;exact Rw a e ⟨m,z,E,k,j⟩ ⋯
  |fn g=>cases w<;>cases a7
  |aR g=>cases w<;>cases a7
  |fd=>cases w<;>cases a7
 |fn g=>cases w<;>cases l
 |aR g=>cases w<;>cases l
 |fd=>cases w<;>cases l
 |tup I=>
  cases w with
  |zero=>cases l
  |succ w=>
  let⟨g,m,YJ,@k,rfl,z,E,j,s⟩:=o;have Za:h.heap.IsTuple g YJ:=⟨m,z,E,k,j⟩;cases H with
  |aV=>cases (show v=.none from b);exact P8 Za ⋯
  |aB n=>cases (show v=.bool n from b);exact Xz n Za ⋯
  |int r=>let⟨@i,rfl⟩:=b;exact NT r i Za ⋯
  |str D=>let⟨@i,rfl⟩:=b;exact VE D i Za ⋯
  |fn g=>cases a7
  |aR g=>cases a7
  |fd=>cases a7
  |tup Q=>
   let⟨d,Y7,q,@B,rfl,C,F,G,t⟩:=b;have Zu:h.heap.IsTuple d q:=⟨Y7,C,F,B,G⟩;have u:=s.length;have x:=t.length;have J:YJ.toList.length=YJ.size:=by simp
   have M:q.toList.length=q.size:=by simp
   rw[J]at u;rw[M]at x;have p:=Jd (A:=O) (e:=λr=>ct (I.getD r .aV)<|Q.getD r .aV) Za Zu ⋯ λr N P=>by
    let⟨@Y2,y,R⟩:=s.get (r:=r) (v:=YJ[r]) (by rw[e0];simp[N]);let⟨@Y8,A,S⟩:=t.get (r:=r) (v:=q[r]) (by rw[e0];simp[P]);rw[cG,y,cG,A];exact ic w (i8 l y) (i8 a7 A) (by show O.units+1+w+1<bQ;lia) R S
   rw[<-u,<-x,qK (I:=I) (Q:=Q) (λr f H g d=>by rw[cG,g,cG,d];rfl)]at p;rw[ct];exact p
@[simp] def gP:gi:=λg d=>match g,d with
 |.im f,.im H=>if (V.bo 8 f&&V.bo 8 H)=aa then Z (.im<|.aB<|ct f H) else Y
 |.lst f,.lst H=>if (V.cQ 8 f&&V.cQ 8 H)=aa then Z (.im<|.aB<|eU f H) else Y
 |_,_=>Y
theorem vw:∀{f H:List V},f.length≠H.length->eU f H=au
 |[],[],e=>absurd rfl e
 |[],_::_,_=>rfl
 |_::_,[],_=>rfl
 |g::f,d::H,e=>by
  rw[eU,vw (λc=>e (by rw[c8,c8,c])),BE]
def oE{M:List (ag×a3)}(A:aF b M C j h){g:ag}{x:List av}{I:List V}(z:j g=Z (.lst x))(E:bb j I x):∃Yy:List ab,h.heap.IsList g Yy.toArray/\dM h.heap I Yy/\Yy.length=I.length:=by
 let@⟨D,⟨Yy,@w,a,c⟩⟩:=A.a4 g _ z;have:=E.fb A.a4 a;exact⟨Yy,⟨_,c,rfl,w,rfl⟩,this,this.length.symm⟩
def q0(ap:b.A.units+20<bQ):fQ b (eS .Eq) gP:=by
 intro M h C j f H v L B A s t R;let⟨Y2,Y8,@u,k,m,c,p⟩:=R;unfold gP at c;split at c
 ·rename_i g d;split at c
  ·rename_i e;cases c;rw[cU]at e;exact MW 8 e.1 e.2 ⋯ (k.i.fb A.a4 s) (m.i.fb A.a4 t) b.prog b.w _ _ ⟨.aB _,j,A,rfl,ck.i p rfl⟩
  ·cases c
 ·rename_i g d;split at c
  ·rename_i e;cases c;rw[cU]at e;let⟨W,q,@x,rfl,z,E,W⟩:=k;let⟨W,as,@YA,rfl,S,T,W⟩:=m;cases s;cases t;let⟨@U,y,al,o⟩:=oE A z E;let⟨@am,D,an,Zq⟩:=oE A S T;by_cases n:g.length=d.length
   ·have:=TO (A:=b.A) (e:=λr=>ct (g.getD r .aV)<|d.getD r .aV) y D (by rw[cv,cv,o,Zq];exact n) ⋯ λr F G=>by
     let⟨@Y2,J,k⟩:=al.get (r:=r) (v:=U.toArray[r]) (by simp at F;simp[F]);let⟨@Y8,N,m⟩:=an.get (r:=r) (v:=am.toArray[r]) (by simp at G;simp[G]);rw[cG,J,cG,N];exact ic 8 (i8 e.1 J) (i8 e.2 N) (by show b.A.units+1+8+1<bQ;lia) k m
    refine this b.prog b.w _ _ ⟨.aB _,j,A,rfl,?_⟩;have P:=qK (I:=g) (Q:=d) (c:=λr=>ct (g.getD r .aV)<|d.getD r .aV) (λr f H g d=>by rw[cG,g,cG,d];rfl);rw[<-n,xc,l5,y9]at P;rw[cv,o,P];exact ck.i p rfl
   ·refine QB (A:=b.A) y D (by rw[cv,cv,o,Zq];simpa using n) ⋯ b.prog b.w _ _ ⟨.aB _,j,A,rfl,?_⟩;rw[vw n]at p;exact ck.i p rfl
  ·cases c
 ·cases c
end
section
variable{b:aO}
def PG(w:Nat){O:bA}{f H:V}{L v:ab}(l:V.bo w f=aa)(a7:V.bo w H=aa)(T:O.units+w+2<bQ)(o:dS h.heap f L)(b:dS h.heap H v):SeqAt.RcNeAt O h L v (!ct f H):=by
 cases f with
 |aV=>
  cases (show L=.none from o);cases H with
  |aV=>cases (show v=.none from b);exact VD
  |aB d=>cases (show v=.bool d from b);exact ML d
  |int r=>let⟨@i,rfl⟩:=b;exact Uh r i
  |str D=>let⟨@i,rfl⟩:=b;exact Ta D i
  |tup I=>let⟨g,m,YJ,@k,rfl,z,E,j,W⟩:=b;exact Nm ⟨m,z,E,k,j⟩ ⋯
  |fn g=>cases w<;>cases a7
  |aR g=>cases w<;>cases a7
  |fd=>cases w<;>cases a7
 |aB d=>
  cases (show L=.bool d from o);cases H with
  |aV=>cases (show v=.none from b);exact OD d
  |aB n=>cases (show v=.bool n from b);exact Om d n
  |int r=>let⟨@i,rfl⟩:=b;exact PM d r i
  |str D=>let⟨@i,rfl⟩:=b;exact Sm d D i
  |tup I=>let⟨g,m,YJ,@k,rfl,z,E,j,W⟩:=b;exact RQ d ⟨m,z,E,k,j⟩ ⋯
  |fn g=>cases w<;>cases a7
  |aR g=>cases w<;>cases a7
  |fd=>cases w<;>cases a7
 |int a=>
  let⟨@e,rfl⟩:=o;cases H with
  |aV=>cases (show v=.none from b);exact Me a e
  |aB n=>cases (show v=.bool n from b);exact Mv a e n
  |int r=>let⟨@i,rfl⟩:=b;exact QO a e r i
  |str D=>let⟨@i,rfl⟩:=b;exact Nx a e D i
  |tup I=>let⟨g,m,YJ,@k,rfl,z,E,j,W⟩:=b;exact O5 a e ⟨m,z,E,k,j⟩ ⋯
  |fn g=>cases w<;>cases a7
  |aR g=>cases w<;>cases a7
  |fd=>cases w<;>cases a7
 |str a=>
  let⟨@e,rfl⟩:=o;cases H with
  |aV=>cases (show v=.none from b);exact WO a e
  |aB n=>cases (show v=.bool n from b);exact NY a e n
  |int r=>let⟨@i,rfl⟩:=b;exact LL a e r i
  |str D=>let⟨@i,rfl⟩:=b;exact W_ a e D i
  |tup I=>let⟨g,m,YJ,@k,rfl,z,E,j,W⟩:=b;exact Nj a e ⟨m,z,E,k,j⟩ ⋯
  |fn g=>cases w<;>cases a7
  |aR g=>cases w<;>cases a7
  |fd=>cases w<;>cases a7
 |fn g=>cases w<;>cases l
 |aR g=>cases w<;>cases l
 |fd=>cases w<;>cases l
 |tup I=>
  cases w with
  |zero=>cases l
  |succ w=>
  let⟨g,m,YJ,@k,rfl,z,E,j,s⟩:=o;have Za:h.heap.IsTuple g YJ:=⟨m,z,E,k,j⟩;cases H with
  |aV=>cases (show v=.none from b);exact Xt Za ⋯
  |aB n=>cases (show v=.bool n from b);exact Pl n Za ⋯
  |int r=>let⟨@i,rfl⟩:=b;exact Qh r i Za ⋯
  |str D=>let⟨@i,rfl⟩:=b;exact Ml D i Za ⋯
  |fn g=>cases a7
  |aR g=>cases a7
  |fd=>cases a7
  |tup Q=>
   let⟨d,Y7,q,@B,rfl,C,F,G,t⟩:=b;have Zu:h.heap.IsTuple d q:=⟨Y7,C,F,B,G⟩;have u:=s.length;have x:=t.length;have J:YJ.toList.length=YJ.size:=by simp
   have M:q.toList.length=q.size:=by simp
   rw[J]at u;rw[M]at x;have p:=LM (A:=O) (e:=λr=>ct (I.getD r .aV)<|Q.getD r .aV) Za Zu ⋯ λr N P=>by
    let⟨@Y2,y,R⟩:=s.get (r:=r) (v:=YJ[r]) (by rw[e0];simp[N]);let⟨@Y8,A,S⟩:=t.get (r:=r) (v:=q[r]) (by rw[e0];simp[P]);rw[cG,y,cG,A];exact ic w (i8 l y) (i8 a7 A) (by show O.units+1+w+1<bQ;lia) R S
   rw[<-u,<-x,qK (I:=I) (Q:=Q) (λr f H g d=>by rw[cG,g,cG,d];rfl)]at p;rw[ct];exact p
@[simp] def i3:gi:=λg d=>match g,d with
 |.im f,.im H=>if (V.bo 8 f&&V.bo 8 H)=aa then Z (.im<|.aB<|!ct f H) else Y
 |.lst f,.lst H=>if (V.cQ 8 f&&V.cQ 8 H)=aa then Z (.im<|.aB<|!eU f H) else Y
 |_,_=>Y
def sQ(ap:b.A.units+20<bQ):fQ b (eS .NotEq) i3:=by
 intro M h C j f H v L B A s t R;let⟨Y2,Y8,@u,k,m,c,p⟩:=R;unfold i3 at c;split at c
 ·rename_i g d;split at c
  ·rename_i e;cases c;rw[cU]at e;exact PG 8 e.1 e.2 ⋯ (k.i.fb A.a4 s) (m.i.fb A.a4 t) b.prog b.w _ _ ⟨.aB _,j,A,rfl,ck.i p rfl⟩
  ·cases c
 ·rename_i g d;split at c
  ·rename_i e;cases c;rw[cU]at e;let⟨W,q,@x,rfl,z,E,W⟩:=k;let⟨W,as,@YA,rfl,S,T,W⟩:=m;cases s;cases t;let⟨@U,y,al,o⟩:=oE A z E;let⟨@am,D,an,Zq⟩:=oE A S T;by_cases n:g.length=d.length
   ·have:=DN (A:=b.A) (e:=λr=>ct (g.getD r .aV)<|d.getD r .aV) y D (by rw[cv,cv,o,Zq];exact n) ⋯ λr F G=>by
     let⟨@Y2,J,k⟩:=al.get (r:=r) (v:=U.toArray[r]) (by simp at F;simp[F]);let⟨@Y8,N,m⟩:=an.get (r:=r) (v:=am.toArray[r]) (by simp at G;simp[G]);rw[cG,J,cG,N];exact ic 8 (i8 e.1 J) (i8 e.2 N) (by show b.A.units+1+8+1<bQ;lia) k m
    refine this b.prog b.w _ _ ⟨.aB _,j,A,rfl,?_⟩;have P:=qK (I:=g) (Q:=d) (c:=λr=>ct (g.getD r .aV)<|d.getD r .aV) (λr f H g d=>by rw[cG,g,cG,d];rfl);rw[<-n,xc,l5,y9]at P;rw[cv,o,P];exact ck.i p rfl
   ·refine GA (A:=b.A) y D (by rw[cv,cv,o,Zq];simpa using n) ⋯ b.prog b.w _ _ ⟨.aB _,j,A,rfl,?_⟩;rw[vw n]at p;exact ck.i p rfl
  ·cases c
 ·cases c
@[simp] def pC(w:Bool):gi:=λg d=>match g,d with
 |.im f,.im .aV=>Z (.im<|.aB<|w != decide (f=.aV))
 |.im (.aB f),.im (.aB H)=>Z (.im<|.aB<|w != (f==H))
 |_,_=>Y
def Jw{u:V}(e:cH j u v):decide (v=.aV)=decide (u=.aV):=by
 cases u with
 |aV=>cases (show v=.aV from e);rfl
 |aB d=>cases (show v=.aB d from e);rfl
 |int d=>cases (show v=.int d from e);rfl
 |str d=>cases (show v=.str d from e);rfl
 |fn d=>cases (show v=.ref d from e);rfl
 |tup I=>let⟨g,@x,rfl,W⟩:=e;rfl
 |aR I=>let⟨g,x,@m,rfl,W⟩:=e;rfl
 |fd=>let⟨g,@m,rfl,W⟩:=e;rfl
def Rf:d2 b (eS .Is) (λf H j B=>∃g d,f=.aB g/\H=.aB d/\B (.aB<|g==d) j):=by
 intro M h C j f H v L B A a c e;let⟨g,@d,i,k,p⟩:=e;subst i k;cases a;cases c;refine wpAny_is_plain (by cases g<;>cases d<;>rfl) ⟨.aB<|g==d,j,A,?_,p⟩;cases g<;>cases d<;>rfl
def L9:d2 b (eS .IsNot) (λf H j B=>∃g d,f=.aB g/\H=.aB d/\B (.aB<|!(g==d)) j):=by
 intro M h C j f H v L B A a c e;let⟨g,@d,i,k,p⟩:=e;subst i k;cases a;cases c;refine wpAny_isNot_plain (by cases g<;>cases d<;>rfl) ⟨.aB<|!(g==d),j,A,?_,p⟩;cases g<;>cases d<;>rfl
def D_:fQ b (eS .Is) (pC au):=by
 refine (Xy.or Rf).imp λf H j B h=>?_;let⟨Y2,Y8,@u,d,e,c,p⟩:=h;unfold pC at c;split at c
 ·rename_i g;cases c;refine .inl ⟨e.i,?_⟩;rw[Jw d.i];refine ck.i p ?_;show _=_;rw[JM]
 ·cases c;refine .inr ⟨_,_,d.i,e.i,ck.i p ?_⟩;show _=_;rw[JM]
 ·cases c
def Vg:fQ b (eS .IsNot) (pC aa):=by
 refine (NV.or L9).imp λf H j B h=>?_;let⟨Y2,Y8,@u,d,e,c,p⟩:=h;unfold pC at c;split at c
 ·rename_i g;cases c;refine .inl ⟨e.i,?_⟩;rw[Jw d.i];refine ck.i p ?_;show _=_;rw[IA]
 ·cases c;refine .inr ⟨_,_,d.i,e.i,ck.i p ?_⟩;show _=_;rw[IA]
 ·cases c
def fS{YQ:Type}[DecidableEq YQ](YE:List (YQ×V))(o:YQ):Option V:=((YE.find? λq=>decide (q.1=o)).map (·.2))
theorem qX{YQ:Type}[DecidableEq YQ]{j:ay}{o:YQ}:∀{YE:List (YQ×V)}{T:List (YQ×av)},ff j YE T->(∀u,fS YE o=Z u->∃v,h9 T o=Z v/\cH j u v)/\(fS YE o=Y->h9 T o=Y)
 |_,_,.nil=>⟨(λu c=>by cases c),(λ_=>rfl)⟩
 |_,_,.cons (a:=q) (b:=p) e i=>by
  let@⟨z,E⟩:=qX (o:=o) i;by_cases c:q.1=o
  ·have a:p.1=o:=e.1.symm.trans c;refine⟨λu hd=>?_,λb=>?_⟩
   ·have:∀s,fS (q::s) o=Z q.2:=λs=>by simp[fS,jd,c]
    rw[this]at hd;cases hd;exact⟨p.2,xo a,e.2⟩
   ·have:∀s,fS (q::s) o=Z q.2:=λs=>by simp[fS,jd,c]
    rw[this]at b;cases b
  ·have a:¬ p.1=o:=λD=>c (e.1.trans D);have:∀s,fS (q::s) o=fS s o:=λs=>by simp[fS,jd,c]
   rw[this,wC a];exact⟨z,E⟩
@[simp] def bx:gi:=λg d=>match g,d with
 |.im (.tup I),.im (.int a)=>(dN I a).map .im
 |.lst I,.im (.int a)=>(dN I a).map .im
 |.dv I,.im (.int a)=>(dN I a).map .im
 |.bN YE,.im (.tup o)=>if V.keys 7 o=aa then (fS YE o).map .im else Y
 |.dU YE,.im (.int a)=>(fS YE<|.inl a).map .im
 |.dU YE,.im (.str a)=>(fS YE<|.inr a).map .im
 |_,_=>Y
def Um(a:b.A.units+20<bQ):ib b (λf H j B=>∃g v,f=.ref g/\hp j g H (Z v)/\B v j):=by
 intro k m M h C j f H v L B A d e ⟨g,D,c,J,p⟩ Ys;subst c;cases d;exact BN (UQ A J) G3.lookup (Se a A J e λn o i l=>⟨D,j,i,l,p⟩) Ys
def t_{a:Int}{u:V}(e:bb j I x)(c:dN I a=Z u):∃v,dN x a=Z v/\cH j u v:=by
 unfold dN at c ⊢;rw[<-e.length];let⟨@r,b,d⟩:=bC.mp c;let⟨@v,f,g⟩:=e.get d;exact⟨v,by rw[b];exact f,g⟩
def Fq(y:b.A.units+20<bQ):ib b (λf H j B=>∃Y2 Y8 u,gn j Y2 f/\gn j Y8 H/\bx Y2 Y8=Z u/\∀v P Ym,bZ j P->cP P u v Ym->Ym.Nodup->(∀g∈Ym,j g=Y)->B v P):=by
 refine (SQ.or<|HE.or<|Um y).imp λf H j B C=>?_;let⟨Y2,Y8,@u,s,w,c,p⟩:=C;unfold bx at c;split at c
 ·let⟨@r,e,h⟩:=cB.mp c;cases h;let⟨q,@x,rfl,z,E⟩:=s.i;let⟨@v,l,n⟩:=t_ E e;exact .inr (.inl ⟨q,x,_,v,rfl,w.i,cL.of z,l,ck.i p n⟩)
 ·let⟨@r,e,h⟩:=cB.mp c;cases h;let⟨W,q,@x,rfl,z,E,W⟩:=s;let⟨@v,l,n⟩:=t_ E e;exact .inl ⟨q,x,_,v,rfl,w.i,de.of z,l,ck.i p n⟩
 ·let⟨@r,e,h⟩:=cB.mp c;cases h;let⟨W,q,x,@m,rfl,z,E,W⟩:=s;let⟨@v,l,n⟩:=t_ E e;exact .inl ⟨q,x,_,v,rfl,w.i,.inl<|.inr ⟨m,z⟩,l,ck.i p n⟩
 ·rename_i YE o;split at c
  ·rename_i D;let⟨@r,e,h⟩:=cB.mp c;cases h;let⟨W,q,@T,rfl,z,E,W⟩:=s;let⟨@v,l,n⟩:=(qX E).1 r e;let⟨d,@x,rfl,YK,YR⟩:=w.i;exact .inr (.inr ⟨q,v,rfl,by rw[<-l];exact hp.t z ⟨D,d,x,rfl,YK,YR⟩,ck.i p n⟩)
  ·cases c
 ·rename_i YE a;let⟨@r,e,h⟩:=cB.mp c;cases h;let⟨W,q,@T,rfl,z,E,W⟩:=s;let⟨@v,l,n⟩:=(qX E).1 r e;refine .inr (.inr ⟨q,v,rfl,?_,ck.i p n⟩);rw[show H=cK (.inl a) from w.i,<-l];exact hp.k z
 ·rename_i YE a;let⟨@r,e,h⟩:=cB.mp c;cases h;let⟨W,q,@T,rfl,z,E,W⟩:=s;let⟨@v,l,n⟩:=(qX E).1 r e;refine .inr (.inr ⟨q,v,rfl,?_,ck.i p n⟩);rw[show H=cK (.inr a) from w.i,<-l];exact hp.k z
 ·cases c
end
end L2
namespace dk
open Spec PyProof.Rows
section
variable{Yw:bO}{l:bh}{O:bA}{Yq:ab->ai->Prop}{h:ai}
def PX{i aZ:ag}{Yy:Array ab}{cp D:ab}{G T:Option Int}{B:ab->ai->Prop}(q:pj h.heap i Yy)(Ys:h.heap.IsSliceOf aZ cp D .none)(bo:lG cp G)(a:lG D T)(b:cz Yy.size 0 G=0)(z:cz Yy.size Yy.size T=Yy.size)(p:B (.ref i) h):wpAny (aN Yw l) O (nN (.ref i)<|.ref aZ) B Yq h:=by
 let⟨@YG,c,d,hd⟩:=id Ys;have ty:h.TypeIs (.ref aZ) "slice" := ⟨YG,c,d⟩;unfold nN;try with_reducible refine fM ?_
 first|refine ao (aM ?_)|skip
 refine ao (Kx q.typeIs ∅ ?_);refine ao (lA (name:=aG.ofString "__getitem__") q.typeIs rh<|hP rh q.typeIs JV ?_<|Hh _ _);show wpAny _ _ (aY.Tuple.tupleItemsOf (.ref i) >>= _) _ _ h;refine ao (Kj q ?_);refine ao (wpAny_typeOf ty ?_);rw[aE ∅];refine ao (CY Ys bo a ?_);rw[b,z];show wpAny _ _ (if (((0:Nat):Int)==0&&(1:Int)==1&&(Yy.size-0)==Yy.size)=aa then _ else _) _ _ h;rw[aE ↥0];refine ao (m:=aY.Tuple.tupleIsExact _) (ao<|wpAny_typeOf q.typeIs<|aM ?_);show wpAny _ _ (if (ab.type "tuple" == ab.type "tuple")=aa then _ else _) _ _ h;rw[aE ∅];exact ao (iJ<|aM ⟨_,rfl,aM p⟩)
end
end dk
namespace L2
open Spec PyProof.Rows
section
variable{b:aO}
@[simp] def hn(J:az aj):az aj:=λy=>(J y).bind λq=>match q.1 with
 |.im (.int a)=>Z (.im<|.int<|-a,q.2)
 |_=>Y
variable{J:az aj}{YD:Pos}
def lS{g:bz}(e:cI b g J):cI b (.UnaryOp .USub g YD) (hn J):=by
 refine eW (UO S0 e) λC j B c=>?_;let⟨y,N,s,@YN,X,ah,d,p⟩:=c;let⟨@⟨f,Yv⟩,z,E⟩:=bC.mp d;refine⟨y,N,f,Yv,X,ah,z,λv Yx YI Ym h YV i=>?_⟩;dsimp only at E;split at E
 ·rename_i a;cases E;exact⟨a,YV.1,p _ Yx YI [] h ⟨rfl,rfl⟩ (by rw[cA];exact i.both)⟩
 ·cases E
def Wd(J:az (Option Int)):bF:=(λC j B=>∃y N t YN,bE j y C N/\N.Nodup/\J y=Z (t,YN)/\∀P Y5,bE P YN C Y5->br j N P Y5->B t P)
def wj(b:aO)(c:Option bz)(J:az (Option Int)):Prop:=(∀ ⦃q⦄,Fh b c (Wd J) q)
def Gs{c:Option bz}{i YU:bF}(e:qB b c i)(a:∀C j B,YU C j B->i C j B):qB b c YU:=λM h C j B A d=>e M h C j B A (a C j B d)
def jA:az (Option Int):=(λy=>Z (Y,y))
@[simp] def j3(J:az aj):az (Option Int):=λy=>(J y).bind λq=>match q.1 with
 |.im (.int a)=>Z (Z a,q.2)
 |_=>Y
def pD:wj b Y jA:=by
 refine Gs T7 λC j B a=>?_;let⟨y,N,s,@YN,X,ah,c,p⟩:=a;cases c;exact p j N X (br.perm ah<|List.Perm.refl _)
variable{c:bz}
def pe(e:cI b c J):wj b (Z c) (j3 J):=by
 refine Gs (S9 e) λC j B d=>?_;let⟨y,N,s,@YN,X,ah,g,p⟩:=d;let⟨@⟨f,Yv⟩,z,E⟩:=bC.mp g;refine⟨y,N,f,Yv,X,ah,z,λv Yx YI Ym h YV i=>?_⟩;dsimp only at E;split at E
 ·rename_i a;cases E;exact⟨a,YV.1,p Yx YI h i.both⟩
 ·cases E
def e6{YH:Type}(x:List YH)(G T:Option Int):List YH:=((x.drop<|dk.cz x.length 0 G).take (dk.cz x.length x.length T-dk.cz x.length 0 G))
variable{j:ay}
theorem bb.drop:∀{I:List V}{x:List av} (w:Nat),bb j I x->bb j (I.drop w) (x.drop w)
 |I,x,0,e=>e
 |[],x,w+1,e=>by cases (show x=[] from e);exact rfl
 |u::I,x,w+1,e=>by
  let⟨v,@s,rfl,z,E⟩:=e;exact E.drop w
theorem bb.take:∀{I:List V}{x:List av} (w:Nat),bb j I x->bb j (I.take w) (x.take w)
 |I,x,0,e=>rfl
 |[],x,w+1,e=>by cases (show x=[] from e);exact rfl
 |u::I,x,w+1,e=>by
  let⟨v,@s,rfl,z,E⟩:=e;exact⟨v,_,rfl,z,E.take w⟩
def bb.cut{I:List V}{x:List av}(G T:Option Int)(e:bb j I x):bb j (e6 I G T) (nG x G T):=by
 unfold e6 nG;rw[e.length];exact (e.drop _).take _
@[simp] def kO(u:aj)(G T:Option Int):Option aj:=match u with
 |.im (.tup I)=>Z (.im<|.tup<|e6 I G T)
 |.lst I=>Z (.lst<|e6 I G T)
 |.dv I=>Z (.lst<|e6 I G T)
 |_=>Y
def S7(Yo:Φ):av->Option Int->Option Int->ay->cS->Prop:=(λf G T j B=>∃g x,f=.ref g/\cL Yo j g x/\dk.cz x.length 0 G=0/\dk.cz x.length x.length T=x.length/\B (.ref g) j)
def OQ:tR b (λf G T j B=>∃u s,gn j u f/\kO u G T=Z s/\ck j s B):=by
 have all:tR b (S7 b.K):=by
  intro M h C j f v cp D G T aZ B A d Ys bo k e;let⟨g,@x,rfl,F,H,z,p⟩:=e;cases d;let⟨@Yy,s,bG,L⟩:=A.tuple F;have y:Yy.toArray.size=x.length:=by rw[cv];exact s.length.symm
  exact⟨"tuple",_,rh.lookup,bG.typeIs,dk.PX bG Ys bo k (by rw[y];exact H) (by rw[y];exact z) ⟨.ref g,j,A,rfl,p⟩⟩
 intro M h C j f v cp D G T aZ B A d Ys bo k J;let⟨u,@s,r,c,p⟩:=J;unfold kO at c;split at c
 ·rename_i I;cases c;let⟨q,@x,rfl,z,E⟩:=r.i;by_cases n:dk.cz x.length 0 G=0/\dk.cz x.length x.length T=x.length
  ·refine all M h C j _ v cp D G T aZ B A d Ys bo k ⟨q,x,rfl,cL.of z,n.1,n.2,ck.i p ⟨q,x,rfl,z,?_⟩⟩;have:e6 I G T=I:=by
    unfold e6;rw[E.length,n.1,n.2,lx,uX,<-E.length,q5]
   rw[this];exact E
  ·exact Rv M h C j _ v cp D G T aZ B A d Ys bo k ⟨q,x,rfl,cL.of z,n,λw o=>ck.t p o<|E.cut G T⟩
 ·cases c;let⟨W,q,@x,rfl,z,E,W⟩:=r;exact Hx M h C j _ v cp D G T aZ B A d Ys bo k ⟨q,x,rfl,de.of z,λw o=>ck.l p o<|E.cut G T⟩
 ·cases c;let⟨W,q,x,@m,rfl,z,E,W⟩:=r;exact Hx M h C j _ v cp D G T aZ B A d Ys bo k ⟨q,x,rfl,.inl<|.inr ⟨m,z⟩,λw o=>ck.l p o<|E.cut G T⟩
 ·cases c
@[simp] def ie(J:az bw)(t e:az (Option Int)):az aj:=λy=>(J y).bind λq=>(t q.2).bind λp=>(e p.2).bind λs=>(eY s.2 q.1).bind λu=>(kO u p.1 s.1).map λa=>(a,s.2)
def oX{G T:Option bz}{J:az bw}{k n:az (Option Int)}{Y6:Pos}(q:dZ b c J)(r:wj b G k)(w:wj b T n):cI b (.Subscript c (.Slice G T Y Y6) YD) (ie J k n):=by
 refine eW (Qy OQ q r w) λC j B x=>?_;let⟨y,N,s,@YN,X,ah,D,p⟩:=x;let⟨@⟨f,Yv⟩,z,E⟩:=bC.mp D;let⟨@⟨t,M⟩,F,H⟩:=bC.mp E;let⟨@⟨L,R⟩,I,O⟩:=bC.mp H;let⟨@u,P,Q⟩:=bC.mp O;let⟨@bn,S,U⟩:=cB.mp Q;cases U;refine⟨y,N,f,Yv,X,ah,z,λv Yx YI Ym al A a=>⟨Yv,YI,t,M,al,(d0.mp a.ah).1,F,λYO YY am o=>⟨M,YY,L,R,am,o.ah,I,λan ap d as=>?_⟩⟩⟩;have h:=o.seq as;have Zf:j2 an C f v Ym:=A.mono h.tup λg a1 m c=>h.keep g m c λe=>(d0.mp a.ah).2.2 g e g a1 rfl;have a2:=a.trans h A.chg;exact⟨u,_,Zf.read d P,S,λl bd be i YV bi bm=>p l bd ap be (d.mono i.tupS λg W m c=>i g m c) YV<|a2.new i bi bm d.chg⟩
abbrev hS:=List aj->Option aj
@[simp] def e7:hS:=λI=>match I with
 |[.im (.tup f)]=>Z (.im<|.int f.length)
 |[.lst f]=>Z (.im<|.int f.length)
 |[.dv f]=>Z (.im<|.int f.length)
 |[.hC f]=>Z (.im<|.int f.length)
 |[.dU f]=>Z (.im<|.int f.length)
 |[.im (.str f)]=>if f.length<=100000 then Z (.im<|.int f.length) else Y
 |_=>Y
variable{Yl:List av}
def hx{u:aj}(e:mY j [u] Yl):∃v,Yl=[v]/\gn j u v:=by
 let⟨v,@s,rfl,z,E⟩:=e;cases (show s=[] from E);exact⟨v,rfl,z⟩
def Bn{u c:aj}(e:mY j [u,c] Yl):∃v L,Yl=[v,L]/\gn j u v/\gn j c L:=by
 let⟨v,@s,rfl,z,E⟩:=e;let⟨@L,rfl,a⟩:=hx E;exact⟨v,L,rfl,z,a⟩
def ff.length{YQ:Type}{t:List (YQ×V)}{k:List (YQ×av)}(e:ff j t k):t.length=k.length:=es.length e
def ia:hJ b (.builtin "len") e7:=by
 refine (VQ.or<|V_.or W0).imp λx j B f=>?_;let⟨I,@u,d,c,p⟩:=f;unfold e7 at c;split at c
 ·cases c;let⟨@v,rfl,e⟩:=hx d;let⟨q,@x,rfl,z,E⟩:=e.i;exact .inl ⟨q,x,rfl,.inr<|cL.of z,by rw[<-E.length];exact ck.i p rfl⟩
 ·cases c;let⟨@v,rfl,⟨W,q,@x,rfl,z,E,W⟩⟩:=hx d;exact .inl ⟨q,x,rfl,.inl<|de.of z,by rw[<-E.length];exact ck.i p rfl⟩
 ·cases c;let⟨@v,rfl,⟨W,q,x,@m,rfl,z,E,W⟩⟩:=hx d;exact .inl ⟨q,x,rfl,.inl<|.inl<|.inr ⟨m,z⟩,by rw[<-E.length];exact ck.i p rfl⟩
 ·cases c;let⟨@v,rfl,⟨W,q,x,@S,rfl,z,E,W⟩⟩:=hx d;exact .inl ⟨q,x,rfl,.inl<|de.of z,by rw[<-E.length];exact ck.i p rfl⟩
 ·cases c;let⟨@v,rfl,⟨W,q,@T,rfl,z,E,W⟩⟩:=hx d;exact .inr (.inr ⟨q,T,rfl,z,by rw[<-E.length];exact ck.i p rfl⟩)
 ·split at c
  ·rename_i g;cases c;let⟨@v,rfl,e⟩:=hx d;cases (show v=_ from e.i);exact .inr (.inl ⟨_,rfl,l8 g,ck.i p rfl⟩)
  ·cases c
 ·cases c
@[simp] def iy:hS:=λI=>match I with
 |[u]=>(gI u).map λf=>.im (.tup f)
 |_=>Y
@[simp] def wR:hS:=λI=>match I with
 |[u]=>(gI u).map .lst
 |_=>Y
def lM:hJ b (.type "tuple") iy:=by
 refine Wi.imp λx j B h=>?_;let⟨I,@u,k,c,p⟩:=h;unfold iy at c;split at c
 ·let⟨@f,d,l⟩:=cB.mp c;cases l;let⟨@v,rfl,e⟩:=hx k;unfold gI at d;split at d
  ·cases d;let⟨q,@x,rfl,z,E⟩:=e.i;exact⟨q,x,rfl,.inr ⟨cL.of z,ck.i p ⟨q,x,rfl,z,E⟩⟩⟩
  ·cases d;let⟨W,q,@x,rfl,z,E,W⟩:=e;exact⟨q,x,rfl,.inl ⟨de.of z,λt g=>ck.t p g E⟩⟩
  ·cases d;let⟨W,q,x,@m,rfl,z,E,W⟩:=e;exact⟨q,x,rfl,.inl ⟨.inl<|.inr ⟨m,z⟩,λt g=>ck.t p g E⟩⟩
  ·cases d
 ·cases c
def Fi:hJ b (.type "list") wR:=by
 refine Qw.imp λx j B h=>?_;let⟨I,@u,k,c,p⟩:=h;unfold wR at c;split at c
 ·let⟨@f,d,n⟩:=cB.mp c;cases n;let⟨@v,rfl,e⟩:=hx k;unfold gI at d;split at d
  ·cases d;let⟨q,@x,rfl,z,E⟩:=e.i;exact⟨q,x,rfl,.inr<|cL.of z,λt g=>ck.l p g E⟩
  ·cases d;let⟨W,q,@x,rfl,z,E,W⟩:=e;exact⟨q,x,rfl,.inl<|de.of z,λt g=>ck.l p g E⟩
  ·cases d;let⟨W,q,x,@m,rfl,z,E,W⟩:=e;exact⟨q,x,rfl,.inl<|.inl<|.inr ⟨m,z⟩,λt g=>ck.l p g E⟩
  ·cases d
 ·cases c
@[simp] def vInt:hS:=λI=>match I with
 |[.im (.int a)]=>Z (.im<|.int a)
 |[.im (.aB d)]=>Z (.im<|.int<|if d then 1 else 0)
 |_=>Y
def LN:hJ b (.type "int") vInt:=by
 refine Xh.imp λx j B f=>?_;let⟨I,@u,d,c,p⟩:=f;unfold vInt at c;split at c
 ·cases c;let⟨@v,rfl,e⟩:=hx d;cases (show v=_ from e.i);exact .inl ⟨_,rfl,ck.i p rfl⟩
 ·cases c;let⟨@v,rfl,e⟩:=hx d;cases (show v=_ from e.i);exact .inr ⟨_,rfl,ck.i p rfl⟩
 ·cases c
@[simp] def nk:hS:=λI=>match I with
 |[.im (.int a),.im<|.int r]=>Z (.im<|.int<|if r>a then r else a)
 |_=>Y
@[simp] def qG:hS:=λI=>match I with
 |[.im (.int a),.im<|.int r]=>Z (.im<|.int<|if r<a then r else a)
 |_=>Y
def vC(d:b.calm=aa):hJ b (.builtin "max") nk:=by
 refine (VU d).imp λx j B f=>?_;let⟨I,@u,g,c,p⟩:=f;unfold nk at c;split at c
 ·cases c;let⟨v,@L,rfl,e,o⟩:=Bn g;cases (show v=_ from e.i);cases (show L=_ from o.i);exact⟨_,_,rfl,ck.i p rfl⟩
 ·cases c
def AB(d:b.calm=aa):hJ b (.builtin "min") qG:=by
 refine (N0 d).imp λx j B f=>?_;let⟨I,@u,g,c,p⟩:=f;unfold qG at c;split at c
 ·cases c;let⟨v,@L,rfl,e,o⟩:=Bn g;cases (show v=_ from e.i);cases (show L=_ from o.i);exact⟨_,_,rfl,ck.i p rfl⟩
 ·cases c
@[simp] def ox:List V->Option (List Bool)
 |[]=>Z []
 |.aB d::I=>(ox I).map λs=>d::s
 |_::_=>Y
theorem F4{j:ay}:∀{I:List V}{x:List av}{Yr:List Bool},bb j I x->ox I=Z Yr->x=Yr.map av.aB
 |[],x,Yr,e,c=>by cases c;exact e
 |.aB d::I,x,Yr,e,c=>by
  let⟨v,@s,rfl,z,E⟩:=e;rw[ox]at c;let⟨@q,a,b⟩:=cB.mp c;cases b;cases (show v=.aB d from z);rw[F4 E a];rfl
 |.aV::_,_,_,_,c=>by cases c
 |.int _::_,_,_,_,c=>by cases c
 |.str _::_,_,_,_,c=>by cases c
 |.tup _::_,_,_,_,c=>by cases c
 |.fn _::_,_,_,_,c=>by cases c
 |.aR _::_,_,_,_,c=>by cases c
 |.fd::_,_,_,_,c=>by cases c
@[simp] def rS:hS:=λI=>match I with
 |[.lst f]=>(ox f).map λYr=>.im (.aB<|Yr.all id)
 |_=>Y
def Ma(d:b.calm=aa):hJ b (.builtin "all") rS:=by
 refine (V5 d).imp λx j B e=>?_;let⟨I,@u,g,c,p⟩:=e;unfold rS at c;split at c
 ·let⟨@f,h,k⟩:=cB.mp c;cases k;let⟨@v,rfl,⟨W,q,@x,rfl,z,E,W⟩⟩:=hx g;rw[F4 E h]at z;exact⟨q,f,rfl,z,ck.i p rfl⟩
 ·cases c
end
section
variable{b:aO}
def yQ:aj->Option Nat
 |.im (.int _)=>Z 0
 |.im (.aB _)=>Z 1
 |.im (.str _)=>Z 2
 |.im (.tup _)=>Z 3
 |.im .aV=>Z 4
 |.lst _=>Z 4
 |.im (.aR _)=>Z 4
 |.im .fd=>Z 4
 |.bN _=>Z 4
 |.dU _=>Z 4
 |_=>Y
@[simp] def zW(U:String)(u:aj):Option Bool:=
 (yQ u).bind λo=>if U = "int" then Z (o==0 || o==1) else if U = "bool" then Z (o==1) else if U = "str" then Z (o==2) else if U = "tuple" then Z (o==3) else Y
variable{U:String}{d:Bool}
def QI{u:aj}(e:zW U u=Z d):∃o,yQ u=Z o/\((U = "int" /\ d=(o==0 || o==1))\/(U = "bool" /\ d=(o==1))\/(U = "str" /\ d=(o==2))\/(U = "tuple" /\ d=(o==3))):=by
 let⟨@o,c,e⟩:=bC.mp e;refine⟨o,c,?_⟩;by_cases z:U = "int"
 ·rw[aE z]at e;cases e;exact .inl ⟨z,rfl⟩
 rw[aH z]at e;by_cases E:U = "bool"
 ·rw[aE E]at e;cases e;exact .inr (.inl ⟨E,rfl⟩)
 rw[aH E]at e;by_cases a:U = "str"
 ·rw[aE a]at e;cases e;exact .inr (.inr<|.inl ⟨a,rfl⟩)
 rw[aH a]at e;by_cases b:U = "tuple"
 ·rw[aE b]at e;cases e;exact .inr (.inr<|.inr ⟨b,rfl⟩)
 rw[aH b]at e;cases e
def pA{O Zb aP y YC:Prop}(e:O\/Zb\/aP\/y)(g:O->YC)(d:Zb->YC)(n:aP->YC)(u:y->YC):YC:=e.elim g λe=>e.elim d λe=>e.elim n u
variable{M:List (ag×a3)}{j:ay}{h:ai}
def J0{C:a5}(A:aF b M C j h){g:ag}(e:(∃o,j g=Z (.bN o))\/∃o,j g=Z (.dU o)):∃m,h.heap.get? g=Z m/\m.cls=.type "dict" := by
 rcases e with ⟨o,e⟩|⟨o,e⟩
 ·let@⟨_,_,⟨@x,_,⟨m,Q,@YW,z,E,_⟩⟩⟩:=(show fi b.prog b.w j h.heap g (.bN o) from A.a4 g _ e);exact⟨m,z,E.1⟩
 ·let@⟨_,_,⟨@Yl,_,⟨m,Q,@YW,z,E,_⟩⟩⟩:=(show fi b.prog b.w j h.heap g (.dU o) from A.a4 g _ e);exact⟨m,z,E.1⟩
def Vb{C:a5}(A:aF b M C j h){g:ag}{q:a3}(e:j g=Z (.dF q<|.bN [])):∃m,h.heap.get? g=Z m/\m.cls=.type "dict" := by
 let@⟨_,_,_,⟨@x,_,⟨m,Q,@YW,z,E,_⟩⟩⟩:=(show fi b.prog b.w j h.heap g (.dF q<|.bN []) from A.a4 g _ e);exact⟨m,z,E.1⟩
def Vs:eZ b (.builtin "isinstance") (λx j B=>∃f U u d,x=[f,.ty U]/\gn j u f/\zW U u=Z d/\B (.aB d) j):=by
 intro M h C j x YM B A s e;let⟨f,U,u,@d,rfl,n,T,p⟩:=e;have L:=s;cases s with
 |cons s H=>
  cases H with
  |cons Zd H=>
   cases H;cases Zd;have q:∀{d:Bool},B (.aB d) j->ez b M C B (.bool d) {h with toks:=h.toks+1}:=λ{d} p=>⟨.aB d,j,A.tok _,rfl,p⟩;let⟨@o,k,t⟩:=QI T;have r:d=au->B (.aB au) j:=λc=>c ▸ p;have I:∀{g:ag},o=4->(∃m,h.heap.get? g=Z m/\m.cls=.type "dict")->wpAny (aN b.prog b.w) b.A (call (.builtin "isinstance") [.ref g,.type U]) (ez b M C B) b.c1 h:=by
    rintro g rfl ⟨m,y,G⟩;refine pA t (λ⟨c,F⟩=>c ▸ IsiPair.dict_int y G (q<|r F)) (λ⟨c,F⟩=>c ▸ IsiPair.dict_bool y G (q<|r F)) (λ⟨c,F⟩=>c ▸ IsiPair.dict_str y G (q<|r F)) λJ=>?_;let@⟨c,F⟩:=J;exact c ▸ IsiPair.dict_tuple y G (q<|r F)
   have v:CK b.K j f U d->wpAny (aN b.prog b.w) b.A (call (.builtin "isinstance") [_,.type U]) (ez b M C B) b.c1 h:=λN=>UJ M h C j _ _ B A L ⟨f,U,d,rfl,N,p⟩;have bU:∀{g:ag}{x:List av},o=4->f=.ref g->de b.K j g x->wpAny (aN b.prog b.w) b.A (call (.builtin "isinstance") [_,.type U]) (ez b M C B) b.c1 h:=λ{g x} k c D=>by
    subst k;exact v (.inr<|.inr<|.inr<|.inr ⟨g,x,c,D,pA t (λe=>.inr<|.inl e) (λe=>.inr<|.inr<|.inr<|.inl e) (λe=>.inr<|.inr<|.inl e) λe=>.inr<|.inr<|.inr<|.inr e⟩)
   unfold yQ at k;split at k
   ·cases k;exact v (.inl ⟨_,n.i,pA t .inl (λe=>.inr<|.inr<|.inr<|.inl e) (λe=>.inr<|.inr<|.inl e) λe=>.inr<|.inl e⟩)
   ·cases k;exact v (.inr<|.inl ⟨_,n.i,pA t (λe=>.inr<|.inl e) .inl (λe=>.inr<|.inr<|.inr<|.inl e) λe=>.inr<|.inr<|.inl e⟩)
   ·cases k;exact v (.inr<|.inr<|.inl ⟨_,n.i,pA t (λe=>.inr<|.inl e) (λe=>.inr<|.inr<|.inr<|.inl e) .inl λe=>.inr<|.inr<|.inl e⟩)
   ·cases k;let⟨g,@x,c,z,E⟩:=n.i;exact v (.inr<|.inr<|.inr<|.inl ⟨g,x,c,cL.of z,pA t (λe=>.inr<|.inl e) (λe=>.inr<|.inr<|.inr<|.inl e) (λe=>.inr<|.inr<|.inl e) .inl⟩)
   ·cases k;cases (show f=.aV from n.i);cases s;refine pA t (λ⟨c,F⟩=>c ▸ IsiPair.NoneType_int (q<|r F)) (λ⟨c,F⟩=>c ▸ IsiPair.NoneType_bool (q<|r F)) (λ⟨c,F⟩=>c ▸ IsiPair.NoneType_str (q<|r F)) λJ=>?_;let@⟨c,F⟩:=J;exact c ▸ IsiPair.NoneType_tuple (q<|r F)
   ·cases k;let⟨W,g,@x,c,z,E,W⟩:=n;exact bU rfl c (de.of z)
   ·cases k;let⟨g,x,@m,c,z,E⟩:=n.i;exact bU rfl c (.inl<|.inr ⟨m,z⟩)
   ·cases k;let⟨g,@m,rfl,z⟩:=n.i;cases s;exact I rfl (Vb A z)
   ·cases k;let⟨W,g,@x,rfl,z,E,W⟩:=n;cases s;exact I rfl (J0 A<|.inl ⟨_,z⟩)
   ·cases k;let⟨W,g,@x,rfl,z,E,W⟩:=n;cases s;exact I rfl (J0 A<|.inr ⟨_,z⟩)
   ·cases k
@[simp] def Bq(U:String)(J:az bw):az aj:=λy=>(J y).bind λq=>(eY q.2 q.1).bind λu=>(zW U u).map λd=>(.im<|.aB d,q.2)
variable{f:aG}{c:bz}{J:az bw}{YD:Pos}
def J_{q Y6:Pos}(h:dE b "isinstance")(i:b.aI "isinstance" = Y)(k:e4 "isinstance" = Z (.builtin "isinstance"))(l:dE b f)(n:b.aI f=Y)(o:e4 f=Z (.type U))(e:dZ b c J)(r:f ≠ "__name__" := by decide)(hd:(f==("__debug__" : aG))=au:=by decide)(a:bH [c,.Name f Y6] b.env=(au,b0 c b.env)::bH [.Name f Y6] b.env:=by rfl)(t:bH [.Name f Y6] b.env=(au,b0 (.Name f Y6) b.env)::bH [] b.env:=by rfl)(w:(gp YD<|bH [.Name f Y6] b.env).any (·.1)=au:=by rfl):cI b (.Call (.Name "isinstance" q) [c,.Name f Y6] [] YD) (Bq U J):=by
 refine eW (En Vs h i k (A8 e (A8 (T5 (v:=.ty U) l n o rfl r hd) Jx t) a) ∅ ∅ a w) λC j B x=>?_;let⟨y,N,s,@YN,X,ah,D,p⟩:=x;let⟨@⟨m,Yv⟩,z,E⟩:=bC.mp D;let⟨@u,F,G⟩:=bC.mp E;let⟨@d,H,I⟩:=cB.mp G;cases I;exact⟨y,N,m,Yv,X,ah,z,λv Yx YI Ym g A L=>⟨v,U,u,d,rfl,A.read g F,H,p _ Yx YI [] g ⟨rfl,rfl⟩ (by rw[cA];exact L.both)⟩⟩
@[simp] def pW:aj->Option Bool
 |.im .aV=>Z au
 |.im (.aB d)=>Z d
 |.im (.int a)=>Z (a != 0)
 |.im (.str f)=>if f.length<=100000 then Z ((f.length:Int) != 0) else Y
 |.im (.tup I)=>Z (!I.isEmpty)
 |.lst I=>Z (!I.isEmpty)
 |.dv I=>Z (!I.isEmpty)
 |.dU YE=>Z (!YE.isEmpty)
 |_=>Y
def bb.emp{I:List V}{x:List av}(e:bb j I x):(!x.isEmpty)=!I.isEmpty:=by
 cases I with
 |nil=>cases (show x=[] from e);rfl
 |cons u I=>let⟨v,@s,rfl,W⟩:=e;rfl
def WQ{u:aj}{v:av}(e:gn j u v)(c:pW u=Z d):z9 b.K v j d:=by
 unfold pW at c;split at c
 ·cases c;cases (show v=_ from e.i);rfl
 ·cases c;cases (show v=_ from e.i);rfl
 ·cases c;cases (show v=_ from e.i);rfl
 ·split at c
  ·rename_i f;cases c;cases (show v=_ from e.i);exact⟨l8 f,rfl⟩
  ·cases c
 ·cases c;let⟨q,@x,rfl,z,E⟩:=e.i;exact .inr (.inl ⟨x,cL.of z,E.emp.symm⟩)
 ·cases c;let⟨W,q,@x,rfl,z,E,W⟩:=e;exact .inl ⟨x,de.of z,E.emp.symm⟩
 ·cases c;let⟨W,q,x,@m,rfl,z,E,W⟩:=e;exact .inl ⟨x,.inl<|.inr ⟨m,z⟩,E.emp.symm⟩
 ·cases c;let⟨W,q,@T,rfl,z,E,W⟩:=e;refine .inr (.inr ⟨T,z,?_⟩);cases E<;>rfl
 ·cases c
@[simp] def kG(J:az bw):az Bool:=λy=>(J y).bind λq=>(eY q.2 q.1).bind λu=>(pW u).map λd=>(d,q.2)
def q1(e:dZ b c J)(g:∀a,ro c b.env a=(do let v <-a;standAt c.pos;holding [v] (truthy v)):=by intro W;rfl):ji b c (kG J):=by
 refine yi (W9 e g) λC j B h=>?_;let⟨y,N,d,@YN,X,ah,i,p⟩:=h;let⟨@⟨m,Yv⟩,z,E⟩:=bC.mp i;let⟨@u,k,l⟩:=bC.mp E;let⟨@r,n,o⟩:=cB.mp l;cases o;exact⟨y,N,m,Yv,X,ah,z,λv Yx YI Ym f A q=>⟨_,WQ (A.read f k) n,p Yx YI f q.both⟩⟩
def ta{a:Int}{i:hY}(c:dE b f)(d:b.aI f=Z (.int a i))(hd:(f==("__debug__" : aG))=au:=by decide):cI b (.Name f YD) (aA<|.int a):=sy (C9 (v:=.int a) c d ⟨i,rfl⟩ hd) λ_=>rfl
def Wx{F:ag}(a:dE b f)(c:b.aI f=Z (.ref F))(hd:(f==("__debug__" : aG))=au:=by decide):cI b (.Name f YD) (aA<|.fn F):=sy (C9 (v:=.ref F) a c rfl hd) λ_=>rfl
end
variable{m:bz}{J:az (List bw)}{a:Nat}{ty:aj->Bool}{Yo:Φ}{Y7:gu}{g:ag}{U:String}{j:ay}
def br.chg{N YI:List ag}(b:g∈N)(n:gX j g)(ah:YI.Nodup)(cY:∀f∈YI,f∈N):br j N (upd j g Y7) YI:=by
 let⟨@m,c,bG,d⟩:=n;refine⟨λf L I a=>?_,λf a=>.inl<|cY f a,ah,fx.of (λf x I=>?_)<|λf q L I=>?_,λf L I=>?_⟩
 ·rw[dr (λD=>a (by rw[D];exact b))];exact I
 ·rw[dr]
  ·exact I
  ·rintro rfl;rw[c]at I;exact bG x (Option.some.inj I)
 ·rw[dr]
  ·exact I
  ·rintro rfl;rw[c]at I;exact d q L (Option.some.inj I)
 ·by_cases a:f=g
  ·subst a;exact⟨Y7,e8⟩
  ·exact⟨L,(dr a).trans I⟩
theorem cH.nA(n:gX j g):p_ j (upd j g Y7):=(br.chg (N:=[g]) (YI:=[]) (.head _) n kR<|λf a=>nomatch a).tup.tup
def rF(b:aO)(id:String)(ir:aj->List aj->Option (aj×aj)):Prop:=(
 uz b id λf Yl j B=>∃n I s a Ym YB,cP j n f Ym/\ey j I Yl YB/\(Ym++YB).Nodup/\ir n I=Z (s,a)/\∀v P c b9,cP P s v c->cP P a f b9->br j (Ym++YB) P (c++b9)->B v P)
@[simp] def hD:aj->Bool
 |.lst _=>aa
 |.hC _=>aa
 |_=>au
@[simp] def gG(ty:aj->Bool)(a:Nat)(ir:aj->List aj->Option (aj×aj))(J:az (List bw)):az aj:=λy=>match y[a]? with
 |some (Z b)=>if ty b=aa then (J y).bind λq=>(eu q.1 q.2).bind λp=>match p.2[a]? with
   |some (Z n)=>(ir n p.1).map λs=>(s.1,p.2.set a<|Z s.2)
   |_=>Y
  else Y
 |_=>Y
def Ut{ir:aj->List aj->Option (aj×aj)}{C:a5}{B:cS}(D:∀j n f Ym,cP j n f Ym->ty n=aa->p8 Yo U f j)(e:oh (gG ty a ir J) C j B):∃f,C[a]?=Z (Z f)/\p8 Yo U f j/\hH J C j λYl YO=>∃n I s d Ym YB,cP YO n f Ym/\ey YO I Yl YB/\(Ym++YB).Nodup/\ir n I=Z (s,d)/\∀v P i b9,cP P s v i->cP P d f b9->br YO (Ym++YB) P (i++b9)->B v P:=by
 let⟨y,N,s,@YN,X,ah,b,p⟩:=e;unfold gG at b;split at b
 ·rename_i F G;split at b
  ·rename_i bG;let⟨f,a2,@bd,k,jV,W,W⟩:=X.out G;refine⟨f,k,D j F f _ jV bG,?_⟩;let⟨@⟨YG,Yv⟩,z,E⟩:=bC.mp b;let⟨@⟨I,M⟩,H,h⟩:=bC.mp E;refine⟨y,N,YG,Yv,X,ah,z,λYl Yx YI i L A Q=>?_⟩;let⟨YY,@YB,R,YV,YZ⟩:=mZ L A H;dsimp only at h;split at h
   ·rename_i n T;let⟨@⟨Zd,d⟩,al,am⟩:=cB.mp h;cases am;let⟨be,Ym,@o,q,dB,r,an⟩:=R.out T;rw[k]at q;cases q;have t:br j N Yx ((Ym++YB)++o):=Q.kJ (YZ.symm.trans ((fI YB an.symm).trans (by
     rw[bq];exact dy)))
    have u:=d0.mp t.ah;refine⟨n,I,_,d,Ym,YB,dB,YV,u.1,al,λv P O Zb fU gQ l=>?_⟩;have ap:bE P (M.set a<|Z .ek) C o:=r.mono l.tup λg as m c=>l.keep g m c λe=>u.2.2 g e g as rfl;let⟨w,@S,x,a1⟩:=ap.back gQ k;rw[zQ]at x;refine p v P w O x fU ((t.trans l r.chg).less (aP:=S) ?_);rw[bq];refine (d1 w dy).trans ?_;rw[<-bq];refine (fI O a1).trans ?_;rw[bq];refine dy.trans ?_;rw[bq];refine dy.trans ?_;rw[bq,bq];refine (d1 O ?_);exact dy
   ·cases h
  ·cases b
 ·cases b
section
variable{b:aO}
def ki:∀(j:ay) (n:aj) (f:av) (Ym:List ag),cP j n f Ym->hD n=aa->p8 Yo "list" f j:=by
 intro j n f Ym e c;cases n with
 |lst I=>let⟨g,@x,rfl,z,W⟩:=e;exact .inl ⟨rfl,x,de.of z⟩
 |hC I=>let⟨g,x,@S,rfl,z,W⟩:=e;exact .inl ⟨rfl,x,de.of z⟩
 |_=>cases c
def ka{name:aG}{id:String}{ir:aj->List aj->Option (aj×aj)}{c:bz}{Q:List bz}{G o:Pos}(d:∀j n f Ym,cP j n f Ym->ty n=aa->p8 b.K U f j)(bL:PlainAttrs U)(Zx:Slot U name id)(bG:ug (.builtin id)=pure (.type "method_descriptor"))(g:rF b id ir)(h:cj b m (pS a))(i:fJ b (c::Q) J)(k:ue m name b.env (b0 m b.env)=b0 m b.env:=by rfl)(l:((gp o<|bH (c::Q) b.env).all (λf=>!f.1)&&(wu o<|vB [] b.env).all (λf=>f.1.isSome)
   && decide ((c::Q).length+([]:List mB).length+(if ([]:List mB).isEmpty then 0 else 1)<30))=aa:=by rfl)(p:(G.endLine==o.line)=aa:=by rfl)(Ys:bH (c::Q) b.env=(au,b0 c b.env)::bH Q b.env:=by rfl)(q:(gp o<|bH Q b.env).any (·.1)=au:=by rfl):
  cI b (.Call (.Attribute m name G) (c::Q) [] o) (gG ty a ir J):=
 eW (TM bL Zx bG g h i k l p Ys q) λC j B e=>by
  let⟨@f,r,z,E⟩:=Ut d e;exact⟨f,r,z,E⟩
@[simp] def hu:aj->List aj->Option (aj×aj):=λn I=>match n,I with
 |.lst x,[.im u]=>if x.length<100000 then Z (.im .aV,.lst<|x++[u]) else Y
 |_,_=>Y
def z7{w:Nat}(e:w<100000):w<sizeLine:=fP e ∅
def oz:rF b "list.append" hu:=by
 intro M h C j f Yl v YM B A a d e;let⟨n,I,s,r,Ym,@YB,k,l,ah,c,p⟩:=e;unfold hu at c;split at c
 ·split at c
  ·rename_i m;cases c;let⟨g,@YA,rfl,z,E,rfl⟩:=k;let⟨H,i,t,@u,rfl,@⟨o,rfl⟩,@⟨rfl,rfl⟩,rfl⟩:=l;have n:gX j g:=⟨_,z,(λ_ c=>by cases c),(λ_ W c=>by cases c)⟩;refine Mf M h C j _ _ v YM B A a d ⟨g,YA,H,rfl,rfl,z,z7 (by rw[<-E.length];exact m),p .aV _ [] [g] ⟨rfl,rfl⟩ ?_ (br.chg (.head _) n (f9 _ _) λf q=>by simpa using q)⟩;exact⟨g,_,rfl,e8,(E.snoc o).mono<|cH.nA n,rfl⟩
  ·cases c
 ·cases c
@[simp] def nq:aj->List aj->Option (aj×aj):=λn I=>match n,I with
 |.lst x,[.im (.int a)]=>if 0<=a/\a<x.length then (x[a.toNat]?).map λu=>(.im u,.lst<|x.eraseIdx a.toNat) else Y
 |_,_=>Y
theorem bb.erase:∀{I:List V}{x:List av} (w:Nat),bb j I x->bb j (I.eraseIdx w) (x.eraseIdx w)
 |[],x,w,e=>by cases (show x=[] from e);exact rfl
 |u::I,x,0,e=>by let⟨v,@s,rfl,z,E⟩:=e;exact E
 |u::I,x,w+1,e=>by let⟨v,@s,rfl,z,E⟩:=e;exact⟨v,_,rfl,z,E.erase w⟩
def JQ:rF b "list.pop" nq:=by
 intro M h C j f Yl v YM B A d e k;let⟨n,I,s,y,Ym,@YB,l,m,ah,c,p⟩:=k;unfold nq at c;split at c
 ·rename_i a;split at c
  ·rename_i T;let⟨@u,o,q⟩:=cB.mp c;cases q;let⟨g,@YA,rfl,z,E,rfl⟩:=l;let⟨H,i,D,@F,rfl,@⟨r,rfl⟩,@⟨rfl,rfl⟩,rfl⟩:=m;cases (show H=.int a from r);let⟨@H,t,w⟩:=E.get o;have n:gX j g:=⟨_,z,(λ_ c=>by cases c),(λ_ W c=>by cases c)⟩;have G:YA.length<=sizeLine:=(A.a4 g _ z).1;have J:=oH;refine MQ M h C j _ _ v YM B A d e ⟨g,YA,a,a.toNat,H,rfl,rfl,z,⋯,by have:=E.length;lia,uP T.1 (by rw[<-E.length];exact T.2),t,p H _ [] [g] ⟨w.mono<|cH.nA n,rfl⟩ ?_ (br.chg (.head _) n (f9 _ _) λf x=>by simpa using x)⟩;exact⟨g,_,rfl,e8,(E.erase _).mono<|cH.nA n,rfl⟩
  ·cases c
 ·cases c
@[simp] def sP:aj->List aj->Option (aj×aj):=λn I=>match n,I with
 |.lst x,[.lst YA]=>if x.length+YA.length<=100000 then Z (.im .aV,.lst<|x++YA) else Y
 |_,_=>Y
def I7:rF b "list.extend" sP:=by
 intro M h C j f Yl v YM B A k l m;let⟨n,I,s,u,Ym,@YB,o,q,ah,c,p⟩:=m;unfold sP at c;split at c
 ·split at c
  ·rename_i r;cases c;let⟨g,@YA,rfl,z,E,rfl⟩:=o;let⟨H,i,w,@x,rfl,⟨d,@S,rfl,t,a,rfl⟩,@⟨rfl,rfl⟩,rfl⟩:=q;have n:gX j g:=⟨_,z,(λ_ c=>by cases c),(λ_ W c=>by cases c)⟩;refine QX M h C j _ _ v YM B A k l ⟨g,d,YA,S,rfl,rfl,z,t,l8 (by rw[<-E.length,<-a.length];exact r),p .aV _ [] [g] ⟨rfl,rfl⟩ ?_ (br.chg (.head _) n (f9 _ _) λf e=>by
    rw[ih]at e;exact gd _ e)⟩
   exact⟨g,_,rfl,e8,(E.app a).mono<|cH.nA n,rfl⟩
  ·cases c
 ·cases c
def xa(b:aO)(pt:aj->aj->aj->Option aj):Prop:=(
 ye b λm a v j B=>∃n o u c Ym YB,cP j n m Ym/\cP j o a []/\cP j u v YB/\(Ym++YB).Nodup/\pt n o u=Z c/\∀P d,cP P c m d->br j (Ym++YB) P d->B P)
@[simp] def nK(n o u:aj):Option aj:=match n,o,u with
 |.lst x,.im<|.int a,.im u=>(mG x.length a).map λr=>.lst (x.set r u)
 |_,_,_=>Y
theorem bb.set{j:ay}{u:V}{v:av}(l:cH j u v):∀{I:List V}{x:List av} (w:Nat),bb j I x->bb j (I.set w u) (x.set w v)
 |[],x,w,e=>by cases (show x=[] from e);exact rfl
 |c::I,x,0,e=>by let⟨L,@s,rfl,z,E⟩:=e;exact⟨v,s,rfl,l,E⟩
 |c::I,x,w+1,e=>by let⟨L,@s,rfl,z,E⟩:=e;exact⟨L,_,rfl,z,bb.set l w E⟩
def CB:xa b nK:=by
 intro M h C j m a v d e L B A k i l q;let⟨n,o,u,D,Ym,@YB,s,d4,t,ah,c,p⟩:=q;unfold nK at c;split at c
 ·let⟨@r,w,x⟩:=cB.mp c;cases x;let⟨g,@YA,rfl,z,E,rfl⟩:=s;let@⟨hd,rfl⟩:=t;have n:gX j g:=⟨_,z,(λ_ c=>by cases c),(λ_ W c=>by cases c)⟩;refine N_ M h C j _ _ _ d e L B A k i l ⟨g,YA,_,r,rfl,d4.1,z,by rw[<-E.length];exact w,p _ [g] ?_ (br.chg (.head _) n (f9 _ _) λf y=>by simpa using y)⟩;exact⟨g,_,rfl,e8,(bb.set hd r E).mono<|cH.nA n,rfl⟩
 ·cases c
@[simp] def kN(a:Nat)(b:az aj)(pt:aj->aj->aj->Option aj):fk:=λu y=>match y[a]? with
 |some (Z _)=>(b y).bind λq=>if q.1.d8=aa then match q.2[a]? with
   |some (Z n)=>(pt n q.1 u).map λc=>q.2.set a (Z c)
   |_=>Y
  else Y
 |_=>Y
def u6{Y3:List Nat}{o:bz}{s:az aj}{pt:aj->aj->aj->Option aj}{YD:Pos}(H:cj b m (pS a))(I:cI b o s)(J:xa b pt)(d:∀v,ju (.Subscript m o YD) b.env v=(do
   let h <-holding [v] (b0 m b.env)
   let l <-holding [v,h] (b0 o b.env)
   standAt YD
   holding [v,h,l] (wB h l v)
   release [v,h,l] []):=by intro W;rfl):hZ b Y3 (.Subscript m o YD) (kN a s pt):=by
 refine AR (V7 H I J d) λv C j B L=>?_;let⟨y,N,u,Ym,@YN,X,YV,ah,i,p⟩:=L;unfold kN at i;split at i
 ·rename_i bi M;let⟨f,bm,@bn,q,jV,W,W⟩:=X.out M;let⟨@⟨cT,Yv⟩,z,E⟩:=bC.mp i;split at E
  ·rename_i O;refine⟨f,q,y,N,cT,Yv,X,(d0.mp ah).1,z,λbs Yx YI bv Q d4 k=>?_⟩;obtain rfl:=d4.d8 O;rw[cA]at k;have R:=d0.mp ah;dsimp only at E;split at E
   ·rename_i n T;let⟨@U,al,am⟩:=cB.mp E;cases am;let⟨ca,t,@w,x,dB,A,an⟩:=Q.out T;rw[q]at x;cases x;have ap:cP Yx u v Ym:=YV.mono k.tup λg d m c=>k.keep g m c λe=>R.2.2 g e g d rfl;have D:br j (N++Ym) Yx ((t++Ym)++w):=by
     have as:br j (N++Ym) j (N++Ym):=br.perm ah (List.Perm.refl _);have:=br.trans (YI:=N) (Ym:=Ym) as k YV.chg;refine this.kJ ((fI Ym an.symm).trans ?_);rw[bq];exact dy
    have F:=d0.mp D.ah;refine⟨n,cT,u,U,t,Ym,dB,d4,ap,F.1,al,λP cd a1 r=>?_⟩;have a2:bE P (Yv.set a<|Z .ek) C w:=A.mono r.tup λg d m c=>r.keep g m c λe=>F.2.2 g e g d rfl;let⟨bd,@S,G,be⟩:=a2.back a1 q;rw[zQ]at G;exact p C P bd dm.refl G ((D.trans r A.chg).less<|be.trans dy)
   ·cases E
  ·cases E
 ·cases i
end
end L2
namespace L2
open Spec PyProof.Rows PySem.W
variable{YP:List Int}{q:Array Nat}{YH:Type}
def Ph(t:List YH)(u:YH):(range t.length).map (λa=>t.getD a u)=t:=by
 apply BR
 ·simp
 ·intro a z E;simp[List.getD,E]
def xl{t:List YH}{u:YH}(e:bY t.length q):(q.toList.map λa=>t.getD a u).Perm t:=by
 have:=uj (λa=>t.getD a u) e;rw[Ph]at this;exact this
theorem rE{YH Zh:Type}{N:YH->Zh->Prop}:∀{b:List YH}{c:List Zh},b.length=c.length->(∀(a:Nat) g d,b[a]?=Z g->c[a]?=Z d->N g d)->es N b c
 |[],[],_,_=>.nil
 |g::t,d::k,e,F=>.cons (F 0 g d rfl rfl) (rE ⇑e λa f H z E=>F (a+1) f H ⇑z ⇑E)
 |[],_::_,e,_=>by simp at e
 |_::_,[],e,_=>by simp at e
section
variable{Yw:bO}{l:bh}{O:bA}{Yq:ab->ai->Prop}{h:ai}{Yl:List ab}
def Aa{Zb:ag}{o:Nat}{YC:PySem.Fin->ai->Prop}(S:Nat->Int)(YQ:hq)(f:h.heap.get? Zb=Z (gc "list" Yl.toArray o))(C:2<=Yl.length->∀b:aX,(∀d m,d≠Zb->h.heap.get? d=Z m->b.get? d=Z m)->∀B:hq->ai->Prop,B YQ {h with heap:=b}->wpAny (aN Yw l) O (yx Yl.toArray) B Yq {h with heap:=b})(D:∀b:aX,(∀d m,d≠Zb->h.heap.get? d=Z m->b.get? d=Z m)->gH Yl.length S (fX Yw l O YQ<|Yl.toArray.zip Yl.toArray) {h with heap:=b})(F:Yl.length<1001\/∀r,1<=r->r<Yl.length->S (r-1)<=S r)(G:Yl.length<=1000)(e:∀(q:Array Nat) (R:aX),bY Yl.length q->iS S q Yl.length->(∀d m,d≠Zb->h.heap.get? d=Z m->R.get? d=Z m)->(∃c,R.get? Zb=Z (gc "list" (q.toList.map λa=>Yl.getD a ab.none).toArray c))->
   YC (.done<|.ret .none) {h with heap:=R}):wpAny (aN Yw l) O (aY.«list.sort» ⟨[.ref Zb],[]⟩) YC Yq h:=by
 have y:Yl.length<=sizeLine:=fa G ∅;rw[list_sort_plain];have Q:Zb<h.heap.objs.size:=bM f;refine ao (listItems_at f rfl (ao (Jp f rfl ?_ (hsz:=by rw[cv];exact y) (hsz2:=by show 0<=_;exact g0 _))));have p:=He f (λ_=>#[]);generalize T:(if (#[]:Array ab).size==Yl.toArray.size then o else o+1)=z at p;refine ao (seqEpoch_at p rfl (ao (yN (ao<|uF<|fM ?_) ⇑y)));have i:∀d m,d≠Zb->h.heap.get? d=Z m->(((h.heap.update Zb<|a3.mapSeq λ_=>#[]).push<|gc "tuple" Yl.toArray.toList.toArray 0).push<|gc "list" ([]:List ab).toArray 0).get? d=Z m:=λd m j c=>
  bJ _ (bJ _<|(g4 _ _<|eQ j).trans c);have Zv:(((h.heap.update Zb<|a3.mapSeq λ_=>#[]).push<|gc "tuple" Yl.toArray.toList.toArray 0).push<|gc "list" ([]:List ab).toArray 0).get? Zb=Z (gc "list" #[] z):=
  bJ _ (bJ _ p);show wpAny (aN Yw l) O _ YC Yq {h with heap:=((h.heap.update Zb<|a3.mapSeq λ_=>#[]).push<|gc "tuple" Yl.toArray.toList.toArray 0).push (gc "list" ([]:List ab).toArray 0)};generalize ((h.heap.update Zb<|a3.mapSeq λ_=>#[]).push<|gc "tuple" Yl.toArray.toList.toArray 0).push (gc "list" ([]:List ab).toArray 0)=b at i Zv ⊢;have A:∀(X:bD) (q:Array Nat),bY Yl.length q->iS S q Yl.length->arrOf X=q.map (bg<|Yl.toArray.zip Yl.toArray)->iC X=Y->
   wpAny (aN Yw l) O (do
    let J:=(<-seqEpoch Zb) != z
    aY.List.listUpdate (.ref Zb) λ_=>(arrOf X).map (·.2)
    if let Z c:=iC X then rule "list.sort.comparison-raised";throw c
    if J then rule "list.sort.modified";raiseError "ValueError" "list modified during sort"
    ret .none) YC Yq {h with heap:=b}:=λX q k t v w=>by
  have out:=kat_snds (ks:=Yl) (vs:=Yl) rfl v;rw[out,w];refine ao (seqEpoch_at (s:={h with heap:=b}) Zv rfl (ao (Jp (s:={h with heap:=b}) Zv rfl ?_ (hsz:=g0 _) (hsz2:=by
   show (List.toArray<|q.toList.map λa=>Yl.getD a ab.none).size<=_;rw[cv,ba,dq,k.size];lia))))
  simp only[bne_self_eq_false,g_,f5];refine aM (e q _ k t (λd m j c=>(g4 _ _<|eQ j).trans<|i d m j c) ⟨_,He Zv λ_=>_⟩)
 dsimp only;by_cases E:Yl.toArray.size<2
 ·rw[aE E,aE E];refine ao (aM ?_);rw[StateT.run_pure];apply ao;apply aM;have x:Yl.length<2:=by simpa using E
  refine A (bD.mk' general' (Yl.toArray.zip Yl.toArray) #[] 7 Y) (range Yl.length).toArray (List.Perm.refl _) (λa r U al=>?_) ?_ rfl
  ·have:a=r:=⋯
   subst this;exact hl _
  ·have:=kas_range (Yl.toArray.zip Yl.toArray);rw[show (Yl.toArray.zip Yl.toArray).size=Yl.length by simp]at this;exact this.symm
 ·rw[aH E,aH E];have x:2<=Yl.length:=by simpa using E
  refine ao (C x b i _ ?_)
  ·have M:=D b i;have i4:=kas_range (Yl.toArray.zip Yl.toArray);rw[show (Yl.toArray.zip Yl.toArray).size=Yl.length by simp]at i4;have run:=Uz (Yq:=Yq) (B:=λ_ X Yn=>Yn={h with heap:=b}/\∃q,bY Yl.length q/\iS S q Yl.length/\arrOf X=q.map (bg<|Yl.toArray.zip Yl.toArray)/\iC X=Y) M
    x F λN am g d n u=>⟨rfl,N,g,d,n,u⟩;unfold wy at run;rw[i4]at run;refine ao (g7 run (λs Yn P=>?_) λ_ W c=>c);let⟨L,X⟩:=s;let@⟨rfl,⟨@q,k,t,v,w⟩⟩:=P;exact A X q k t v w
end
section
variable{b:aO}{M:List (ag×a3)}{C:L2.a5}{j:ay}{h:ai}
def F0(bi:b.calm=aa){g:ag}{YA:List av}{Yy:List ab}{w:Nat}{U:String}{m:a3}{B:cS}(S:Nat->Int)(YQ:hq)(A:aF b M C j h)(F:bS YA Yy)(P:U = "list" \/ U = "tuple")(c:h.heap.get? g=Z m)(aA:m.cls=.type U)(Q:m.data=.seq Yy.toArray w)(bm:YA.length<=1000)(T:2<=Yy.length->∀(e:aX) (YX:Nat),(∀d m,h.heap.get? d=Z m->e.get? d=Z m)->∀(O:bA) (Yq:ab->ai->Prop) (B:hq->ai->Prop),B YQ {h with heap:=e,toks:=YX}->wpAny (aN b.prog b.w) O (yx Yy.toArray) B Yq {h with heap:=e,toks:=YX})(al:∀(e:aX) (YX:Nat),(∀d m,h.heap.get? d=Z m->e.get? d=Z m)->gH Yy.length S (fX b.prog b.w b.A.in1.in1 YQ<|Yy.toArray.zip Yy.toArray) {h with heap:=e,toks:=YX})(am:Yy.length<1001\/∀r,1<=r->r<Yy.length->S (r-1)<=S r)(p:∀(q:Array Nat) t,bY Yy.length q->iS S q Yy.length->j t=Y->B (.ref t) (upd j t<|.lst<|q.toList.map λa=>YA.getD a .aV)):
  wpAny (aN b.prog b.w) b.A (call (.builtin "sorted") [.ref g]) (ez b M C B) b.c1 h:=by
 have bn:YA.length=Yy.length:=F.length;have G:Yy.length<=sizeLine:=fa ⋯ (show 1000<=sizeLine by decide);refine Bl y7 zA xI (A1 _) ?D
 case D=>
  unfold aY.«sorted»;refine ao (m:=yb "sorted" 1 1 _) (aM (ao (wpAny_collect_seq g P c aA Q (λR s=>?_) (by rw[cv];exact G))));show wpAny _ _ (pB Yy >>= _) _ _ _;refine ao (uF ?_ G);have Zj:(R.push<|gc "list" Yy.toArray 0).get? R.objs.size=Z (gc "list" Yy.toArray 0):=cO _ rfl;have cb:∀d m,h.heap.get? d=Z m->(R.push<|gc "list" Yy.toArray 0).get? d=Z m:=λd m c=>bJ _ (s d m c);have I:aF b M C j {h with heap:=R}:=A.kept (YU:=h.toks) s;have J:∀d m,h.heap.get? d=Z m->d≠R.objs.size:=λd m c=>cZ (bM<|s d m c);refine ao (fM<|hP xR ⟨_,Zj,rfl⟩ AO ?H<|yK _)
  case H=>
   refine Aa (h:={h with heap:=R.push (gc "list" Yy.toArray 0)}) S YQ Zj (λE e u B an=>T E e h.toks (λd m i=>u d m (J d m i)<|cb d m i) _ _ B an) (λe u=>al e h.toks λd m i=>u d m (J d m i)<|cb d m i) am ⋯ λq E x ap YR ⟨as,a1⟩=>⟨_,rfl,aM ⟨_,rfl,?_⟩⟩;have a2:j R.objs.size=Y:=I.a4.fresh (bp _);have bd:∀d m,R.get? d=Z m->d≠R.objs.size:=λd m c=>cZ (bM c);refine⟨.ref R.objs.size,upd j R.objs.size<|.lst<|q.toList.map λa=>YA.getD a .aV,?_,rfl,p q _ x ap a2⟩;refine I.laid (YU:=h.toks) (λd L c=>YR d L (bd d L c)<|bJ _ c) (bp _) ⟨?_,_,as,?_,a1⟩
   ·rw[ba,dq,x.size];lia
   ·refine rE ↥0 λa v L z E=>?_;rw[ea]at z E;cases y:q.toList[a]? with
    |none=>rw[y]at z;cases z
    |some o=>
     rw[y]at z E;cases z;cases E;have N:o<Yy.length:=eT.mp (x.mem_iff.mp<|fL y);let⟨@L,n,be⟩:=F.get (a:=o) (f:=YA[o]'⋯) (by simp[show o<YA.length by lia]);rw[dz N]at n;have n:=Option.some.inj n;simp only[List.getD,dz N,dz (show o<YA.length by lia),tw];rw[n];exact be
end
def qZ(YP:List Int)(a:Nat):Int:=(YP.getD a 0)
def RO(ah:YP.Nodup):∀a r,a<YP.length->r<YP.length->qZ YP a=qZ YP r->a=r:=λa r T b c=>by
 unfold qZ at c;rw[cG,cG,dz T,dz b]at c;have d:YP[a]=YP[r]:=c;rcases te a r with e|e|e
 ·exact absurd d ((nT.mp ah) a r T b e)
 ·exact e
 ·exact absurd d.symm ((nT.mp ah) r a b T e)
def W5(b:bY YP.length q)(f:iS (qZ YP) q YP.length)(ah:YP.Nodup):(q.toList.map λa=>YP.getD a 0).Pairwise (· < ·):=by
 rw[nT];intro a r T c g;have Ys:=b.size;have i:a<YP.length:=by simpa [Ys] using T
 have d:r<YP.length:=by simpa [Ys] using c
 have ne:=b.ne (RO ah) g d;have le:=f a r ⋯ d;have J:∀o (e:o<(q.toList.map λa=>YP.getD a 0).length),(q.toList.map λa=>YP.getD a 0)[o]=bc (qZ YP) q o:=λo e=>by
  have h:o<q.size:=by simpa using e
  rw[GQ,KV];show _=YP.getD (q.getD o 0) 0;simp[Array.getD,h]
 rw[J a T,J r c];lia
section
variable{b:aO}
theorem xd{j:ay}:∀{YP:List Int}{Yy:List ab},bS (YP.map av.int) Yy->∀(a:Nat),a<YP.length->∃i,Yy[a]?=Z (.int (YP.getD a 0) i)
 |w::s,_,.cons g d,0,e=>by let⟨@i,rfl⟩:=g;exact⟨i,rfl⟩
 |w::s,_,.cons g d,a+1,e=>by
  let⟨@i,c⟩:=xd (j:=j) d a ⇑e;exact⟨i,by simpa using c⟩
def UX(n:b.calm=aa):eZ b (.builtin "sorted") (λx j B=>∃(g:ag) (YP:List Int),x=[.ref g]/\j g=Z (.lst<|YP.map av.int)/\YP.Nodup/\YP.length<=1000/\
  ∀t (k:List Int),j t=Y->k.Perm YP->k.Pairwise (· < ·)->B (.ref t) (upd j t<|.lst<|k.map av.int)):=by
 intro M h C j x YM B A s e;let⟨g,@YP,rfl,u,ah,y,p⟩:=e;let⟨@L,rfl,F⟩:=hF s;cases F;let@⟨D,⟨Yy,@w,d,c⟩⟩:=A.a4 g _ u;have l:Yy.length=YP.length:=by rw[<-d.length,ba]
 refine F0 n (qZ YP) oneType' A d (.inl rfl) c rfl rfl (by rw[ba];exact y) (λE G YX o O Yq B H=>?_) (λG YX o=>?_) (.inl ⋯) λq t f m aR=>?_
 ·refine kas_kind (T:=ab.type "int") E (λv I=>?_) ∅ ∅ H;let⟨@a,T⟩:=v5 I;let⟨@i,bG⟩:=xd (j:=j) d a (by rw[<-l];exact (eA.mp T).1);rw[T]at bG;cases bG;exact Lm rfl
 ·intro a r aP T Q p;let⟨@i,z⟩:=xd (j:=j) d a ⋯;let⟨@L,E⟩:=xd (j:=j) d r ⋯;unfold fX;rw[ve rfl,ve rfl,cG,cG,z,E];show wpAny _ _ (keyLt' oneType' (.int _ i)<|.int _ L) _ _ _;rw[keyLt'_oneType];exact oneLt_int p
 ·rw[l]at f m;have J:(q.toList.map λa=>(YP.map av.int).getD a .aV)=(q.toList.map λa=>YP.getD a 0).map av.int:=by
   rw[eP];refine kH λo N=>?_;have P:o<YP.length:=eT.mp (f.mem_iff.mp N);show (YP.map av.int).getD o .aV=av.int (YP.getD o 0);simp[List.getD,P]
  rw[J];exact p t _ aR (xl f) (W5 f m ah)
end
end L2
namespace L2
open Spec PyProof.Rows
variable{J:az (List bw)}{Yz q YD:Pos}{G YR YK a:Nat}{Q:List bz}{Yo:Φ}{aS aQ d:Bool}{B:ab->ai->Prop}{f:ab}{YJ YA x:Array ab}{Yu i g:ag}{h:ai}{j:ay}{C:a5}{M:List (ag×a3)}{b:aO}{R e:aX}
def fB(d:Bool)(e:aX)(Yu g:ag)(a:Nat):Prop:=(if d=aa then e.IsListIter Yu g a else e.IsTupleIter Yu g a)
def gK(d:Bool)(e:aX)(g:ag)(x:Array ab):Prop:=(if d=aa then e.IsList g x else e.IsTuple g x)
def ft(d:Bool)(Yo:Φ)(j:ay)(g:ag)(x:List av):Prop:=(if d=aa then de Yo j g x else cL Yo j g x)
def fu(d:Bool):String:=(if d=aa then "list_iterator" else "tuple_iterator")
def fw(f:fB d e g i a)(o:∀m,e.get? g=Z m->R.get? g=Z m):fB d R g i a:=by
 cases d with
 |true=>let⟨@m,c,s⟩:=f;exact⟨m,o m c,s⟩
 |false=>let⟨@m,c,s⟩:=f;exact⟨m,o m c,s⟩
def kq(f:gK d e g x)(o:∀m,e.get? g=Z m->R.get? g=Z m):gK d R g x:=by
 cases d with
 |true=>let⟨@m,c,s⟩:=f;exact⟨m,o m c,s⟩
 |false=>let⟨@m,c,s⟩:=f;exact⟨m,o m c,s⟩
def lj(f:fB d e g i a):∃m,e.get? g=Z m/\∀v,m.data≠.cell v:=by
 cases d with
 |true=>let⟨@m,c,W,u⟩:=f;exact⟨m,c,λv D=>by rw[u]at D;cases D⟩
 |false=>let⟨@m,c,W,u⟩:=f;exact⟨m,c,λv D=>by rw[u]at D;cases D⟩
def qD(f:gK d e g x):∃m,e.get? g=Z m:=by
 cases d with
 |true=>let⟨@m,c,W⟩:=f;exact⟨m,c⟩
 |false=>let⟨@m,c,W⟩:=f;exact⟨m,c⟩
def uK(c:e.get? g=Z {cls:=.type (fu d),data:=.fields #[.ref i,.int 0 0]}):fB d e g i 0:=by
 cases d with
 |true=>exact⟨_,c,rfl,rfl⟩
 |false=>exact⟨_,c,rfl,rfl⟩
def aF.iw{x:List av}(A:aF b M C j h)(e:ft d b.K j g x):∃Yy:List ab,bS x Yy/\gK d h.heap g Yy.toArray/\x.length<=sizeLine:=by
 cases d with
 |true=>
  let⟨@Yy,s,q,D⟩:=A.list e;exact⟨Yy,s,q.isList,D⟩
 |false=>
  let⟨@Yy,s,q,D⟩:=A.tuple e;exact⟨Yy,s,q,D⟩
def aF.CA{x YA:List av}(A:aF b M C j h)(e:ft d b.K j g x)(R:ft d b.K j g YA):x=YA:=by
 cases d with
 |true=>exact A.Jf e R
 |false=>exact A.ER e R
section
variable{Yw:bO}{l:bh}{O:bA}{Yq:ab->ai->Prop}{h:ai}
def rf(b:fB d h.heap Yu i a)(bG:gK d h.heap i YJ)(c:YJ[a]?=Z f)(p:∀R,fB d R Yu i (a+1)->aX.SameBut Yu h.heap R->B f {h with heap:=R}):wpAny (aN Yw l) O (aY.SmallTypes.nextOf<|.ref Yu) B Yq h:=by
 cases d with
 |true=>exact wpAny_nextOf_list_item b bG c p
 |false=>exact NQ b bG c p
def u0(b:O.handled=Y)(e:fB d h.heap Yu i a)(bG:gK d h.heap i YJ)(f:YJ[a]?=Y)(p:∀R c,aX.ExtBut Yu h.heap R->(∃m,R.get? c=Z m/\m.cls=.type "StopIteration")->Yq (.ref c) {h with heap:=R}):wpAny (aN Yw l) O (aY.SmallTypes.nextOf<|.ref Yu) B Yq h:=by
 cases d with
 |true=>exact wpAny_nextOf_list_end b e bG f p
 |false=>exact Sy b e bG f p
variable{d g:ab}
def Jv{D bI bF b e p q:ag}{H:ab}(y:l2 D bI bF b e p q)(r:jL h.heap D bI bF .none)(an:gE h.heap bI (.ref b) (.ref e))(ap:gE h.heap bF g d)(z:fB aQ h.heap b p YK)(E:fB aS h.heap e q YR)(as:gK aQ h.heap p x)(a1:gK aS h.heap q YA)(a2:x[YK]?=Z f)(bd:YA[YR]?=Z H)(be:∀R,jL R D bI bF (eD h.heap.objs.size)->gE R bF f H->fB aQ R b p (YK+1)->fB aS R e q (YR+1)->gE R h.heap.objs.size f H->
   (∀n m,n≠D->n≠bF->n≠b->n≠e->h.heap.get? n=Z m->R.get? n=Z m)->B (.ref h.heap.objs.size) {h with heap:=R}):
  wpAny (aN Yw l) O (aY.«zip.__next__» ⟨[.ref D],[]⟩) (λbi Yn=>∃v,bi=.done (.ret v)/\B v Yn) Yq h:=by
 show wpAny _ _ (jn (.ref D) 2 >>= _) _ _ _;refine ao (gJ r rfl (x:=.bool au) rfl ?_);show wpAny _ _ (jn (.ref D) 3 >>= _) _ _ _;refine ao (gJ r rfl (x:=.ref bI) rfl<|ao<|gT an rfl ?_);show wpAny _ _ (aY.SmallTypes.ownedTupleIsFree (.ref D) >>= _) _ _ _;apply ao;unfold aY.SmallTypes.ownedTupleIsFree;refine ao (gJ r rfl (x:=.none) rfl<|aM ?_);simp only[h7];refine ao (iJ (ao (gJ r rfl (x:=.ref bF) rfl (ao (n9 r ↥0 λN F i=>?_)))));replace F:jL N D bI bF .ellipsis:=F;apply ao;simp only[yV,HX,sg,vf];refine ao (ao<|v3 ?_);show wpAny _ _ (aY.SmallTypes.nextOf (.ref b) >>= _) _ _ _;refine ao (rf (h:={h with heap:=N}) (fw z λm c=>i.extBut _ m y.i1z c) (kq as λm c=>i.extBut _ m y.l1z c) a2 λG Zi k=>aM ?_);have Y4:gE G bF g d:=k.extBut _ _ y.TOi1 (i.extBut _ _ y.TOz ap);refine ao (gT (s:={h with heap:=G}) Y4 rfl<|ao<|z5 (s:={h with heap:=G}) Y4 λP Zf o=>?_);replace Zf:gE P bF f d:=Zf;refine ao (nQ<|aM<|ao<|ao<|v3 ?_);show wpAny _ _ (aY.SmallTypes.nextOf (.ref e) >>= _) _ _ _;refine ao (rf (h:={h with heap:=P}) (fw E λm c=>o.extBut _ m y.TOi2.symm<|k.extBut _ m y.i12.symm<|i.extBut _ m y.i2z c) (kq a1 λm c=>o.extBut _ m y.l2TO<|k.extBut _ m y.l2i1<|i.extBut _ m y.l2z c) bd λI bm s=>aM ?_);have Y9:gE I bF f d:=s.extBut _ _ y.TOi2 Zf;refine ao (gT (s:={h with heap:=I}) Y9 rfl<|ao<|z5 (s:={h with heap:=I}) Y9 λa Y_ t=>?_);replace Y_:gE a bF f H:=Y_;refine ao (nQ<|aM<|aM<|ao<|gT (s:={h with heap:=a}) Y_ rfl<|ao<|yN ?_);have Q:a.objs.size=h.heap.objs.size:=by rw[t.1,s.1,o.1,k.1,i.1]
 have S:jL a D bI bF .ellipsis:=t.extBut _ _ y.TOz.symm (s.extBut _ _ y.i2z.symm<|o.extBut _ _ y.TOz.symm<|k.extBut _ _ y.i1z.symm F);have bn:∀n m,n≠D->n≠bF->n≠b->n≠e->h.heap.get? n=Z m->a.get? n=Z m:=λn m j u J L c=>t.extBut _ _ u (s.extBut _ _ L<|o.extBut _ _ u<|k.extBut _ _ J<|i.extBut _ _ j c);have aQ:fB aQ a b p (YK+1):=fw Zi λm c=>t.extBut _ m y.TOi1.symm (s.extBut _ m y.i12<|o.extBut _ m y.TOi1.symm c);have aS:fB aS a e q (YR+1):=fw bm λm c=>t.extBut _ m y.TOi2.symm c;have T:D<a.objs.size:=bM S;show wpAny _ _ (aY.SmallTypes.ownedTupleHandOut (.ref D) (.ref a.objs.size) >>= _) _ _ _;apply ao;unfold aY.SmallTypes.ownedTupleHandOut;have bs:jL (a.push {cls:=.type "tuple",data:=.seq #[f,H]}) D bI bF .ellipsis:=bJ _ S;refine ao (n9 bs ↥0 λbv M U=>?_);replace M:jL bv D bI bF (eD a.objs.size):=M;refine n9 M ↥0 λw A al=>?_;replace A:jL w D bI bF (eD a.objs.size):=A;have C:∀n m,n≠D->a.get? n=Z m->w.get? n=Z m:=λn m j c=>al.extBut _ _ j (U.extBut _ _ j<|bJ _ c);have am:gE w a.objs.size f H:=al.extBut _ _ (iQ T) (U.extBut _ _ (iQ T)<|cO _ rfl);rw[Q]at A am;refine aM ⟨_,rfl,?_⟩;show B (.ref a.objs.size) _;rw[Q];exact be w A (C _ _ y.TOz Y_) (fw aQ λm c=>C _ m y.i1z c) (fw aS λm c=>C _ m y.i2z c) am λn m j u J L c=>C n m j (bn n m j u J L c)
def Ex{D bI bF k o v w:ag}{B:PySem.Fin->ai->Prop}(L:O.handled=Y)(y:l2 D bI bF k o v w)(q:jL h.heap D bI bF .none)(U:gE h.heap bI (.ref k) (.ref o))(al:gE h.heap bF g d)(z:fB aQ h.heap k v YK)(E:fB aS h.heap o w YR)(M:gK aQ h.heap v x)(am:gK aS h.heap w YA)(an:x[YK]?=Y\/YA[YR]?=Y)(N:∀R c,(∀n m,n≠D->n≠bF->n≠k->n≠o->h.heap.get? n=Z m->R.get? n=Z m)->(∃m,R.get? c=Z m/\m.cls=.type "StopIteration")->Yq (.ref c) {h with heap:=R}):
  wpAny (aN Yw l) O (aY.«zip.__next__» ⟨[.ref D],[]⟩) B Yq h:=by
 show wpAny _ _ (jn (.ref D) 2 >>= _) _ _ _;refine ao (gJ q rfl (x:=.bool au) rfl ?_);show wpAny _ _ (jn (.ref D) 3 >>= _) _ _ _;refine ao (gJ q rfl (x:=.ref bI) rfl<|ao<|gT U rfl ?_);show wpAny _ _ (aY.SmallTypes.ownedTupleIsFree (.ref D) >>= _) _ _ _;apply ao;unfold aY.SmallTypes.ownedTupleIsFree;refine ao (gJ q rfl (x:=.none) rfl<|aM ?_);simp only[h7];refine ao (iJ (ao (gJ q rfl (x:=.ref bF) rfl (ao (n9 q ↥0 λA u a=>?_)))));replace u:jL A D bI bF .ellipsis:=u;apply ao;simp only[yV,HX,sg,vf];refine ao (ao<|v3 ?_);show wpAny _ _ (aY.SmallTypes.nextOf (.ref k) >>= _) _ _ _;cases C:x[YK]? with
 |none=>
  refine ao (u0 (h:={h with heap:=A}) L (fw z λm c=>a.extBut _ m y.i1z c) (kq M λm c=>a.extBut _ m y.l1z c) C λr c b F=>?_);let⟨@G,i,s⟩:=F;have P:jL r D bI bF .ellipsis:=b _ _ y.i1z.symm u;have H:c≠D:=λp=>by subst p;rw[P]at i;cases i;simp at s
  refine n9 P ↥0 λI W j=>N I c (λn m t W J W p=>j.extBut _ _ t<|b _ _ J<|a.extBut _ _ t p) ⟨G,j.extBut _ _ H i,s⟩
 |some f=>
  have ap:YA[YR]?=Y:=by
   rcases an with e|e
   ·rw[C]at e;cases e
   ·exact e
  refine ao (rf (h:={h with heap:=A}) (fw z λm c=>a.extBut _ m y.i1z c) (kq M λm c=>a.extBut _ m y.l1z c) C λr Zi b=>aM ?_);have Y4:gE r bF g d:=b.extBut _ _ y.TOi1 (a.extBut _ _ y.TOz al);refine ao (gT (s:={h with heap:=r}) Y4 rfl<|ao<|z5 (s:={h with heap:=r}) Y4 λI Zf j=>?_);refine ao (nQ<|aM<|ao<|ao<|v3 ?_);show wpAny _ _ (aY.SmallTypes.nextOf (.ref o) >>= _) _ _ _;refine ao (u0 (h:={h with heap:=I}) L (fw E λm c=>j.extBut _ m y.TOi2.symm<|b.extBut _ m y.i12.symm<|a.extBut _ m y.i2z c) (kq am λm c=>j.extBut _ m y.l2TO<|b.extBut _ m y.l2i1<|a.extBut _ m y.l2z c) ap λas c Q F=>?_);let⟨@G,i,s⟩:=F;have S:jL as D bI bF .ellipsis:=Q _ _ y.i2z.symm (j.extBut _ _ y.TOz.symm<|b.extBut _ _ y.i1z.symm u);have H:c≠D:=λp=>by subst p;rw[S]at i;cases i;simp at s
  refine n9 S ↥0 λa1 W T=>N a1 c (λn m t a2 J bd p=>T.extBut _ _ t<|Q _ _ bd<|j.extBut _ _ a2<|b.extBut _ _ J<|a.extBut _ _ t p) ⟨G,T.extBut _ _ H i,s⟩
end
def gV(aQ aS:Bool)(e:aX)(a b:ag):aX:=(((((e.push {cls:=.type (fu aQ),data:=.fields #[.ref a,.int 0 0]}).push {cls:=.type (fu aS),data:=.fields #[.ref b,.int 0 0]}).push {cls:=.type "tuple",data:=.seq #[.ref e.objs.size,.ref (e.push {cls:=.type (fu aQ),data:=.fields #[.ref a,.int 0 0]}).objs.size]}).push {cls:=.type "tuple",data:=.seq #[.none,.none]}))
def D9(aQ aS:Bool)(a b:ag)(x YA:Array ab):
    Meets (aY.«zip.__new__» ⟨[.type "zip", .ref a,.ref b],[]⟩) (λ_ Ym h => gK aQ h.heap a x /\ gK aS h.heap b YA /\
      Ym (.ok<|.ret<|.ref (gV aQ aS h.heap a b).objs.size) {h with heap:=(gV aQ aS h.heap a b).push {cls:=.type "zip", data:=.fields #[.none,.bool au,.bool au,.ref ((h.heap.push {cls:=.type (fu aQ),data:=.fields #[.ref a,.int 0 0]}).push {cls:=.type (fu aS),data:=.fields #[.ref b,.int 0 0]}).objs.size,
        .ref (((h.heap.push {cls:=.type (fu aQ),data:=.fields #[.ref a,.int 0 0]}).push {cls:=.type (fu aS),data:=.fields #[.ref b,.int 0 0]}).push {cls:=.type "tuple", data:=.seq #[.ref h.heap.objs.size,.ref (h.heap.push {cls:=.type (fu aQ),data:=.fields #[.ref a,.int 0 0]}).objs.size]}).objs.size]} }) :=
  .of_wp λYw l O Ym h e => by
    let⟨d,J,u,YX,YG⟩:=h;let@⟨g,j,e⟩:=e;have k:=sub_zip;have i:gK aS (d.push {cls:=.type (fu aQ),data:=.fields #[.ref a,.int 0 0]}) b YA:=kq j λm c => bJ _ c;cases aQ <;> cases aS
    · have cm:aX.IsTuple (ai.heap ⟨d,J,u,YX,YG⟩) a x:=g
      have f:aX.IsTuple (ai.heap ⟨d.push {cls:=.type "tuple_iterator", data:=.fields #[.ref a,.int 0 0]}, J,u,YX,YG⟩) b YA:=i
      wp_walk using wpAny_pyIter_tuple cm,wpAny_pyIter_tuple f
      exact ⟨_,rfl,e⟩
    · have cm:aX.IsTuple (ai.heap ⟨d,J,u,YX,YG⟩) a x:=g
      have f:aX.IsList (ai.heap ⟨d.push {cls:=.type "tuple_iterator", data:=.fields #[.ref a,.int 0 0]}, J,u,YX,YG⟩) b YA:=i
      wp_walk using wpAny_pyIter_tuple cm,wpAny_pyIter_list f
      exact ⟨_,rfl,e⟩
    · have cm:aX.IsList (ai.heap ⟨d,J,u,YX,YG⟩) a x:=g
      have f:aX.IsTuple (ai.heap ⟨d.push {cls:=.type "list_iterator", data:=.fields #[.ref a,.int 0 0]}, J,u,YX,YG⟩) b YA:=i
      wp_walk using wpAny_pyIter_list cm,wpAny_pyIter_tuple f
      exact ⟨_,rfl,e⟩
    · have cm:aX.IsList (ai.heap ⟨d,J,u,YX,YG⟩) a x:=g
      have f:aX.IsList (ai.heap ⟨d.push {cls:=.type "list_iterator", data:=.fields #[.ref a,.int 0 0]}, J,u,YX,YG⟩) b YA:=i
      wp_walk using wpAny_pyIter_list cm,wpAny_pyIter_list f
      exact ⟨_,rfl,e⟩
def rA(aQ aS:Bool)(Yo:Φ)(g d:ag):fY:=(
 ⟨λa j=>∃x YA f H,ft aQ Yo j g x/\ft aS Yo j d YA/\x[a]?=Z f/\YA[a]?=Z H,
  λa j v P=>∃U f H,j U=Y/\v=.ref U/\P=upd j U (.tup [f,H])/\(∀x,ft aQ Yo j g x->x[a]?=Z f)/\(∀YA,ft aS Yo j d YA->YA[a]?=Z H),
  λa j=>∃x YA,ft aQ Yo j g x/\ft aS Yo j d YA/\(x.length<=a\/YA.length<=a)⟩)
def rx(aQ aS:Bool)(g d D bI bF b c:ag)(a:Nat)(e:aX):Prop:=(jL e D bI bF .none/\gE e bI (.ref b) (.ref c)/\(∃q p,gE e bF q p)/\fB aQ e b g a/\fB aS e c d a)
theorem Oh{YC:bO}{l:bh}(g d D bI bF u F:ag)(y:l2 D bI bF u F g d):
  sF YC l Yo (.Tuple Q G YD) (rA aQ aS Yo g d) [D,bI,bF,u,F] D (rx aQ aS g d D bI bF u F) where
 mem:=by simp
 obj:=λa e X n i=>by
  let@⟨z,E,⟨q,@p,k⟩,r,t⟩:=X;simp only[bW,jf,e9]at i;rcases i with rfl|rfl|rfl|rfl|rfl
  ·exact⟨_,z,λv c=>by cases c⟩
  ·exact⟨_,E,λv c=>by cases c⟩
  ·exact⟨_,k,λv c=>by cases c⟩
  ·exact lj r
  ·exact lj t
 keep:=λa e R X o=>by
  let@⟨z,E,⟨q,@p,k⟩,r,t⟩:=X;exact⟨o D ↥0 _ z,o bI ↥0 _ E,⟨q,p,o bF ↥0 _ k⟩,fw r λm c=>o u ↥0 m c,fw t λm c=>o F ↥0 m c⟩
 item:=by
  intro b am an ap i a M h C j Yq A N X as;subst am an ap;let⟨x,YA,f,@H,T,al,be,bi⟩:=as;let⟨@Yy,a1,q,I⟩:=A.iw T;let⟨@a2,bd,Y6,bs⟩:=A.iw al;let⟨@L,bv,ca⟩:=a1.get be;let⟨@bm,cd,ce⟩:=bd.get bi;have ch:=X;let@⟨z,E,⟨bL,@hB,k⟩,r,t⟩:=X;have J:h.TypeIs (.ref D) "zip" := ⟨_,z,rfl⟩;unfold fv;refine ao (ov (lA (name:=aG.ofString "__next__") J pR (hP pR J Ae
   (Jv (B:=λv Yn=>wpAny (aN b.prog b.w) b.A (pure<|Z v) (λs ci=>∃L,s=Z L/\wpAny (aN b.prog b.w) b.A (ts (.Tuple Q G YD) (.ref D) L) (λ_ bn=>∃f P,aF b M C P bn/\cw f L/\(rA aQ aS b.K g d).rU a j f P/\rx aQ aS g d D bI bF u F (a+1) bn.heap/\∀d∈[D,bI,bF,u,F],P d=Y) Yq ci) Yq Yn)
    y z E k r t (show gK aQ h.heap g Yy.toArray from q) (show gK aS h.heap d a2.toArray from Y6) (f:=L) (H:=bm) ⇑bv ⇑cd λR cl co cr cs db cE=>aM ⟨_,rfl,?_⟩) (yl _))));refine wpAny_letOwnedTupleGo_zip cl λds dL cY=>?_;have lt:∀n∈[D,bI,bF,u,F],n<h.heap.objs.size:=λn i=>by
   let@⟨z,E,⟨q,@p,k⟩,r,t⟩:=ch;simp only[bW,jf,e9]at i;rcases i with rfl|rfl|rfl|rfl|rfl
   ·exact bM z
   ·exact bM E
   ·exact bM k
   ·let⟨@m,c,W⟩:=lj r;exact bM c
   ·let⟨@m,c,W⟩:=lj t;exact bM c
  have da:∀n m,n∉[D,bI,bF,u,F]->h.heap.get? n=Z m->ds.get? n=Z m:=λn m i c=>by
   simp only[bW,jf,e9,ob]at i;exact cY.extBut _ _ i.1 (cE n m i.1 i.2.2.1 i.2.2.2.1 i.2.2.2.2 c)
  have eq:h.heap.objs.size≠D:=iQ (lt D ↥0);have ev:j h.heap.objs.size=Y:=A.a4.fresh (bp _);refine⟨.ref h.heap.objs.size,upd j h.heap.objs.size<|.tup [f,H],A.F9 (YU:=h.toks) N da (bp _) ⟨by show 2<=sizeLine;decide,[L,bm],.cons ca<|.cons ce .nil,?_⟩,rfl,⟨_,f,H,ev,rfl,rfl,λS I=>?_,λS I=>?_⟩,?_,λn i=>?_⟩
  ·exact⟨_,cY.extBut _ _ eq db,rfl,0,rfl⟩
  ·rw[A.CA I T];exact be
  ·rw[A.CA I al];exact bi
  ·exact⟨dL,cY.extBut _ _ y.TIz<|cE _ _ y.TIz y.TITO y.TIi1 y.TIi2 E,⟨_,_,cY.extBut _ _ y.TOz co⟩,fw cr λm c=>cY.extBut _ m y.i1z c,fw cs λm c=>cY.extBut _ m y.i2z c⟩
  ·rw[dr (cZ<|lt n i)];exact (N n i).1
 done:=by
  intro b am an ap i a M h C j Yq A N X as;subst am an ap;let⟨x,@YA,T,al,ex⟩:=as;let⟨@Yy,a1,q,I⟩:=A.iw T;let⟨@a2,bd,Y6,bs⟩:=A.iw al;let@⟨z,E,⟨bL,@hB,k⟩,r,t⟩:=X;have J:h.TypeIs (.ref D) "zip" := ⟨_,z,rfl⟩;have fr:=a1.length;have f0:=bd.length;unfold fv;refine ao (ov (lA (name:=aG.ofString "__next__") J pR (hP pR J Ae
   (Ex (A.ok.hd i) y z E k r t (show gK aQ h.heap g Yy.toArray from q) (show gK aS h.heap d a2.toArray from Y6) (by
    rcases ex with e|e
    ·exact .inl (by simp;lia)
    ·exact .inr (by simp;lia)) λR c cE ⟨m,fd,fn⟩=>?_) (yl _))))
  refine ao (oe (T := "StopIteration") (b:=aa) ⟨m,fd,fn⟩ wZ<|aM ⟨rfl,A.De (YU:=h.toks) N λn m i c=>?_⟩);simp only[bW,jf,e9,ob]at i;exact cE n m i.1 i.2.2.1 i.2.2.2.1 i.2.2.2.2 c
 self:=λ_ W W W W X e=>x5 X.1 e
section
variable{b:aO}
def Wu(Yo:Φ)(Za:ei):bI:=(λC j Ym=>Za C j λYl Yx=>∃aQ aS g d,Yl=[.ref g,.ref d]/\(∃x,ft aQ Yo Yx g x)/\(∃YA,ft aS Yo Yx d YA)/\Ym (rA aQ aS Yo g d) Yx)
def Gw{g d:bz}{Za:ei}(H:dE b "zip")(I:b.aI "zip" = Y)(J:gR b [g,d] Za)(Ys:bH [g,d] b.env=[(au,b0 g b.env),(au,b0 d b.env)]:=by rfl)(u:bH [d] b.env=[(au,b0 d b.env)]:=by rfl):
  kp b (.Tuple Q G Yz) (.Call (.Name "zip" q) [g,d] [] YD) (Wu b.K Za):=by
 intro M h C j Ym A e;refine o5 (iV A H I boot_zip (lX (cn (J YD M h C j _ A e) λYM a ⟨Yl,Yx,k,L,N⟩=>?_) (by rw[Ys,u]) (by rw[u];rfl)));let⟨aQ,aS,f,@i,c,⟨@x,O⟩,⟨@YA,P⟩,p⟩:=N;subst c;cases L with
 |cons s r=>
  cases r with
  |cons Zd r=>
   cases r;cases s;cases Zd;let⟨@Yy,al,q,am⟩:=k.iw O;let⟨@R,an,Y6,ap⟩:=k.iw P;have S:f<a.heap.objs.size:=by let⟨@m,c⟩:=qD q;exact bM c
   have T:i<a.heap.objs.size:=by let⟨@m,c⟩:=qD Y6;exact bM c
   refine Gy Jh ∅ (HA _ _) (Cx _ _) (λU=>Ig U _ _) KC (D9 aQ aS f i Yy.toArray R.toArray) ⟨q,Y6,?_⟩;have t:(a.heap.push {cls:=.type (fu aQ),data:=.fields #[.ref f,.int 0 0]}).objs.size=a.heap.objs.size+1:=hb ..;have l:((a.heap.push {cls:=.type (fu aQ),data:=.fields #[.ref f,.int 0 0]}).push {cls:=.type (fu aS),data:=.fields #[.ref i,.int 0 0]}).objs.size=a.heap.objs.size+2:=by rw[hb,t]
   have o:(((a.heap.push {cls:=.type (fu aQ),data:=.fields #[.ref f,.int 0 0]}).push {cls:=.type (fu aS),data:=.fields #[.ref i,.int 0 0]}).push
    {cls:=.type "tuple",data:=.seq #[.ref a.heap.objs.size,.ref (a.heap.push {cls:=.type (fu aQ),data:=.fields #[.ref f,.int 0 0]}).objs.size]}).objs.size=a.heap.objs.size+3:=by rw[hb,l]
   have v:(gV aQ aS a.heap f i).objs.size=a.heap.objs.size+4:=by unfold gV;rw[hb,o]
   show _/\_;refine⟨⟨_,cO _ rfl,rfl⟩,x5 (TI:=a.heap.objs.size+2) (TO:=a.heap.objs.size+3) (f0:=.none) ?_ ?_⟩
   ·rw[l,o];exact cO _ rfl
   ·rw[l,o,v];have w:((gV aQ aS a.heap f i).push {cls:=.type "zip",data:=.fields #[.none,.bool au,.bool au,.ref<|a.heap.objs.size+2,.ref<|a.heap.objs.size+3]}).get? (a.heap.objs.size+4)=Z {cls:=.type "zip",data:=.fields #[.none,.bool au,.bool au,.ref<|a.heap.objs.size+2,.ref<|a.heap.objs.size+3]}:=by rw[<-v];exact cO _ rfl
    have z:((gV aQ aS a.heap f i).push {cls:=.type "zip",data:=.fields #[.none,.bool au,.bool au,.ref<|a.heap.objs.size+2,.ref<|a.heap.objs.size+3]}).get? (a.heap.objs.size+3)=Z {cls:=.type "tuple",data:=.seq #[.none,.none]}:=by
     rw[<-o];exact bJ _ (cO _ rfl)
    have B:((gV aQ aS a.heap f i).push {cls:=.type "zip",data:=.fields #[.none,.bool au,.bool au,.ref<|a.heap.objs.size+2,.ref<|a.heap.objs.size+3]}).get? (a.heap.objs.size+2)=Z {cls:=.type "tuple",data:=.seq #[.ref a.heap.objs.size,.ref<|a.heap.objs.size+1]}:=by
     rw[<-l,<-t];exact bJ _ (bJ _<|cO _ rfl)
    have D:((gV aQ aS a.heap f i).push {cls:=.type "zip",data:=.fields #[.none,.bool au,.bool au,.ref<|a.heap.objs.size+2,.ref<|a.heap.objs.size+3]}).get? (a.heap.objs.size+1)=Z {cls:=.type (fu aS),data:=.fields #[.ref i,.int 0 0]}:=by
     rw[<-t];exact bJ _ (bJ _<|bJ _<|cO _ rfl)
    have E:((gV aQ aS a.heap f i).push {cls:=.type "zip",data:=.fields #[.none,.bool au,.bool au,.ref<|a.heap.objs.size+2,.ref<|a.heap.objs.size+3]}).get? a.heap.objs.size=Z {cls:=.type (fu aQ),data:=.fields #[.ref f,.int 0 0]}:=
     bJ _ (bJ _<|bJ _<|bJ _<|cO _ rfl);have da:∀n m,a.heap.get? n=Z m->((gV aQ aS a.heap f i).push {cls:=.type "zip",data:=.fields #[.none,.bool au,.bool au,.ref<|a.heap.objs.size+2,.ref<|a.heap.objs.size+3]}).get? n=Z m:=λn m c=>
     bJ _ (bJ _<|bJ _<|bJ _<|bJ _ c);generalize ((gV aQ aS a.heap f i).push {cls:=.type "zip",data:=.fields #[.none,.bool au,.bool au,.ref<|a.heap.objs.size+2,.ref<|a.heap.objs.size+3]})=as at E D B z w da ⊢;have y:l2 (a.heap.objs.size+4) (a.heap.objs.size+2) (a.heap.objs.size+3) a.heap.objs.size (a.heap.objs.size+1) f i:=Kd _ _ _ S T;refine⟨_,_,_,_,Yx,rfl,k.kept (YU:=a.toks) da,Oh f i _ _ _ _ _ y,⟨w,B,⟨_,_,z⟩,uK E,uK D⟩,λn F=>?_,p⟩;have:a.heap.objs.size<=n:=by
     simp only[bW,jf,e9]at F;rcases F with rfl|rfl|rfl|rfl|rfl
     ·exact jW _ _
     ·exact jW _ _
     ·exact jW _ _
     ·exact bp _
     ·exact jW _ _
    exact k.rg this (k.a4.fresh this)
def eg:List V->List V->List V
 |f::x,H::YA=>.tup [f,H]::eg x YA
 |_,_=>[]
theorem yE:∀(x YA:List V),(eg x YA).length=min x.length YA.length
 |[],YA=>by simp[eg]
 |f::x,[]=>by simp[eg]
 |f::x,H::YA=>by simp[eg,yE x YA]
theorem y2:∀(x YA:List V) (a:Nat) (u:V),(eg x YA)[a]?=Z u->∃f H,x[a]?=Z f/\YA[a]?=Z H/\u=.tup [f,H]
 |[],YA,a,u,e=>by simp[eg]at e
 |f::x,[],a,u,e=>by simp[eg]at e
 |f::x,H::YA,0,u,e=>by simp[eg]at e;exact⟨f,H,rfl,rfl,e.symm⟩
 |f::x,H::YA,a+1,u,e=>by
  let⟨g,@d,z,E,b⟩:=y2 x YA a u (by simpa [eg] using e);exact⟨g,d,by simpa using z,by simpa using E,b⟩
@[simp] def nh(J:az (List bw)):jb:=λy=>(J y).bind λq=>(eF q.2 q.1).bind λI=>match I with
 |[.im (.tup f),.im<|.tup H]=>Z ((eg f H,Y),q.2)
 |_=>Y
theorem L3{d:ag}{x YA:List av}{I Q:List V}(e:j g=Z (.tup x))(hd:bb j I x)(R:j d=Z (.tup YA))(b:bb j Q YA):kU (rA au au Yo g d) j [] (eg I Q) where
 go:=λP i o a u c=>by
  let⟨f,@H,q,r,rfl⟩:=y2 I Q a u c;let⟨@v,k,s⟩:=hd.get q;let⟨@L,YK,YR⟩:=b.get r;have l:=cL.of (Yo:=Yo) (i.tup g _ e);have m:=cL.of (Yo:=Yo) (i.tup d _ R);refine⟨⟨x,YA,v,L,l,m,k,YK⟩,λD A ⟨U,B,C,F,t,w,y,z⟩=>?_⟩;subst t w;have n:=y x l;have p:=z YA m;rw[k]at n;rw[YK]at p;cases n;cases p;have h:bZ P (upd P U<|.tup [v,L]):=(bZ.refl P).upd F;exact⟨h,U,[v,L],rfl,e8,⟨v,[L],rfl,(s.mono i.tup).mono h.tupS.tup,L,[],rfl,(YR.mono i.tup).mono h.tupS.tup,rfl⟩⟩
 stop:=λP i o=>⟨x,YA,cL.of<|i.tup g _ e,cL.of<|i.tup d _ R,by rw[yE,<-hd.length,<-b.length];lia⟩
def vi{g d:bz}(i:dE b "zip")(k:b.aI "zip" = Y)(a:fJ b [g,d] J)(Ys:bH [g,d] b.env=[(au,b0 g b.env),(au,b0 d b.env)]:=by rfl)(l:bH [d] b.env=[(au,b0 d b.env)]:=by rfl):
  l6 b (.Tuple Q G Yz) (.Call (.Name "zip" q) [g,d] [] YD) (nh J):=by
 refine tr (Gw i k a Ys l) λC j B m=>?_;let⟨y,N,s,@YN,X,ah,n,p⟩:=m;let⟨@⟨YG,Yv⟩,z,E⟩:=bC.mp n;let⟨@I,o,e⟩:=bC.mp E;refine⟨y,N,YG,Yv,X,ah,z,λYl Yx YI D f A r=>?_⟩;have t:=A.read f o;split at e
 ·cases e;let⟨v,@L,rfl,c,u⟩:=uu t;let⟨g,@x,rfl,YK,YR⟩:=c;let⟨d,@YA,rfl,h,w⟩:=u;exact⟨au,au,g,d,rfl,⟨x,cL.of YK⟩,⟨YA,cL.of h⟩,p _ Yx YI [] f (L3 YK YR h w) trivial (λg a=>nomatch a) (by rw[cA];exact r.both)⟩
 ·cases e
def ys{Zg:List Nat}:∀y s YN,nh J y=Z (s,YN)->nO Zg s.2:=by
 intro y s YN e;let⟨@⟨YG,Yv⟩,z,E⟩:=bC.mp e;let⟨@I,b,a⟩:=bC.mp E;split at a
 ·cases a;trivial
 ·cases a
@[simp] def Yb:hS:=λI=>match I with
 |[.im (.int a),.im<|.int r,.im<|.int o]=>Z (.im<|.int<|min (min a r) o)
 |_=>Y
def lD(lt:V->V->Bool)(f:V):List V->List V
 |[]=>[f]
 |H::s=>if lt f H=aa then f::H::s else H::lD lt f s
def gC(lt:V->V->Bool):List V->List V
 |[]=>[]
 |f::s=>lD lt f (gC lt s)
def xx:V->V->Bool
 |.int a,.int r=>decide (a<r)
 |_,_=>au
def k5:List V->Option (List Int)
 |[]=>Z []
 |.int a::s=>(k5 s).map λh=>a::h
 |_::_=>Y
@[simp] def oU:hS:=λI=>match I with
 |[.lst f]=>(k5 f).bind λYP=>if YP.Nodup/\YP.length<=1000 then Z (.lst<|gC xx f) else Y
 |_=>Y
def ES(YP:List Int):k5 (YP.map .int)=Z YP:=by
 induction YP with
 |nil=>rfl
 |cons w s a=>rw[cy,k5,a];rfl
def nz(f:Int):List Int->List Int
 |[]=>[f]
 |H::s=>if f<H then f::H::s else H::nz f s
def fc:List Int->List Int
 |[]=>[]
 |f::s=>nz f (fc s)
theorem F_(f:Int):∀t:List Int,lD xx (.int f) (t.map .int)=(nz f t).map .int
 |[]=>rfl
 |H::s=>by
  rw[cy,lD,nz,xx];by_cases e:f<H
  ·rw[aE ⇑e,aE e];rfl
  ·rw[aH ⇑e,aH e,F_ f s];rfl
theorem xn:∀t:List Int,gC xx (t.map .int)=(fc t).map .int
 |[]=>rfl
 |f::s=>by rw[cy,gC,xn s,F_];rfl
theorem zR(f:Int):∀t:List Int,(nz f t).Perm (f::t)
 |[]=>List.Perm.refl _
 |H::s=>by
  rw[nz];split
  ·exact List.Perm.refl _
  ·exact ((zR f s).cons H).trans (List.Perm.swap f H s)
theorem wq:∀t:List Int,(fc t).Perm t
 |[]=>List.Perm.refl _
 |f::s=>(zR f _).trans ((wq s).cons f)
theorem JD(f:Int):∀t:List Int,t.Pairwise (·<=·)->(nz f t).Pairwise (·<=·)
 |[],_=>f9 _ _
 |H::s,e=>by
  let@⟨z,E⟩:=gN.mp e;rw[nz];split
  ·rename_i b;refine gN.mpr ⟨λD a=>?_,e⟩;rcases bW.mp a with rfl|a
   ·lia
   ·have:=z D a;lia
  ·rename_i b;refine gN.mpr ⟨λD a=>?_,JD f s E⟩;rcases bW.mp ((zR f s).mem_iff.mp a) with rfl|a
   ·lia
   ·exact z D a
theorem Dj:∀t:List Int,(fc t).Pairwise (·<=·)
 |[]=>List.Pairwise.nil
 |f::s=>JD f _ (Dj s)
def Fd{t:List Int}(e:t.Nodup):(fc t).Pairwise (· < ·):=by
 have z:=Dj t;have E:(fc t).Nodup:=(wq t).nodup_iff.mpr e;exact Mr (λg d f H=>⋯) z E
theorem K6:∀{t k:List Int},t.Perm k->t.Pairwise (· < ·)->k.Pairwise (· < ·)->t=k
 |[],k,e,_,_=>e.nil_eq
 |g::t,[],e,_,_=>absurd e.length_eq ↥0
 |g::t,d::k,e,f,h=>by
  have a:=gN.mp f;have b:=gN.mp h;have c:g=d:=by
   rcases bW.mp (e.mem_iff.mp<|.head _) with D|D
   ·exact D
   ·rcases bW.mp (e.mem_iff.mpr<|.head _) with H|H
    ·exact H.symm
    ·have z:=a.1 d H;have E:=b.1 g D;omega
  subst c;rw[K6 e.cons_inv a.2 b.2]
theorem HI:∀{f:List V}{YP:List Int},k5 f=Z YP->f=YP.map .int
 |[],YP,e=>by cases e;rfl
 |.int a::s,YP,e=>by
  rw[k5]at e;let⟨@h,z,rfl⟩:=cB.mp e;rw[HI z];rfl
 |.aV::_,_,e=>by cases e
 |.aB _::_,_,e=>by cases e
 |.str _::_,_,e=>by cases e
 |.tup _::_,_,e=>by cases e
 |.fn _::_,_,e=>by cases e
 |.aR _::_,_,e=>by cases e
 |.fd::_,_,e=>by cases e
theorem uw{j:ay}:∀{YP:List Int}{Yl:List av},bb j (YP.map .int) Yl->Yl=YP.map av.int
 |[],Yl,e=>e
 |w::s,Yl,e=>by
  let⟨v,@i,rfl,z,E⟩:=e;cases (show v=.int w from z);rw[uw E];rfl
theorem Iy{j:ay}:∀YP:List Int,bb j (YP.map .int) (YP.map av.int)
 |[]=>rfl
 |w::s=>⟨.int w,_,rfl,rfl,Iy s⟩
def BL(e:b.calm=aa)(m:b.A.units+20<bQ):hJ b (.builtin "sorted") oU:=by
 refine (UX e).imp λx j B g=>?_;let⟨I,@u,h,c,p⟩:=g;unfold oU at c;split at c
 ·rename_i f;let⟨@YP,i,a⟩:=bC.mp c;split at a
  ·rename_i d;cases a;let⟨@v,rfl,⟨W,q,@x,rfl,z,E,W⟩⟩:=hx h;cases HI i;cases uw E;refine⟨q,YP,rfl,z,d.1,d.2,λt n aR YZ k=>?_⟩;rw[xn]at p;rw[K6 (YZ.trans (wq YP).symm) k (Fd d.1)];exact ck.l p aR (Iy _)
  ·cases a
 ·cases c
def D3(a:b.A.units+20<bQ):xa b nK:=CB
end
end L2
namespace L2
variable{g e J d:bB}{c:az aj}{own k w:Nat}{I:List aj}{Y3:List Nat}{m:Option (Nat×aj)}{x:List V}{u:aj}{Yv y:a6}{n:az Bool}{YT:fk}{YH:Type}{r a:Int}
@[simp] theorem Yk(u:V)(y:a6):aA u y=Z (.im u,y):=rfl
@[simp] theorem vA(y:a6):aD y=Z ([],y):=rfl
@[simp] theorem X3(y:a6):eM y=Z (.aU,y):=rfl
@[simp] theorem X1(y:a6):jA y=Z (Y,y):=rfl
@[simp] theorem Lt(y:a6):fD y=Z (aa,y):=rfl
@[simp] theorem X9(u:V):(aj.im u).d8=aa:=rfl
@[simp] theorem X7(u:List V):(aj.dv u).d8=aa:=rfl
@[simp] theorem Yd(u:List V):(aj.lst u).d8=au:=rfl
@[simp] theorem XQ(u:List (List V×V)):(aj.bN u).d8=au:=rfl
@[simp] theorem X5(u:List (eO×V)):(aj.dU u).d8=au:=rfl
@[simp] theorem Lx(y:a6)(u:aj):eY y (.cp u)=Z u:=rfl
@[simp] theorem Cr(y:a6)(a:Nat):eY y (.aZ a)=(y[a]?).getD Y:=rfl
@[simp] theorem wU(y:a6):eF y []=Z []:=rfl
@[simp] theorem wM(y:a6)(m:bw)(YG:List bw):eF y (m::YG)=(eY y m).bind λu=>(eF y YG).map λI=>u::I:=rfl
@[simp] theorem XX(y:a6):eu [] y=Z ([],y):=rfl
@[simp] theorem Yf(u:aj)(YG:List bw)(y:a6):eu (.cp u::YG) y=(eu YG y).map λq=>(u::q.1,q.2):=rfl
@[simp] theorem XR(a:Nat)(YG:List bw)(y:a6):eu (.aZ a::YG) y=(f3 a y).bind λq=>(eu YG q.2).map λp=>(q.1::p.1,p.2):=rfl
@[simp] theorem XT:h6 []=Z []:=rfl
@[simp] theorem X0(u:V)(I:List aj):h6 (.im u::I)=(h6 I).map λs=>u::s:=rfl
@[simp] theorem XW(d:Bool):q7 (.im<|.aB d)=Z d:=rfl
def oI(z : -(2^64)<r)(E:r<2^64):iM a r=aa:=by
 have:aY.Int.intBits r<=64:=GH z E;have R:¬ (aY.Int.intBits r>wG):=rr.mpr this;unfold iM;rw[dC R];simp
def nc(z : -(2^64)<a)(E:a<2^64):iM a r=aa:=by
 have:aY.Int.intBits a<=64:=GH z E;have R:¬ (aY.Int.intBits a>wG):=rr.mpr this;unfold iM;rw[dC R];simp
def Ft{x:List YH}(e:x.length<=w):x.take w=x:=vv e
def B6(x:List YH)(o:Nat):e6 x (Z (o:Int)) Y=x.drop o:=by
 unfold e6;rw[dk.J3,dk.Ld];by_cases e:o<=x.length
 ·rw[qF e,Ft (by rw[fg];lia)]
 ·rw[CS ⋯,Bo,uY,m_ ⋯]
def EE(x:List YH)(o:Nat):e6 x Y (Z (o:Int))=x.take o:=by
 unfold e6;rw[dk.J3,dk.Ld,lx,uX];by_cases e:o<=x.length
 ·rw[qF e]
 ·rw[CS ⋯,q5,Ft ⋯]
def J2(x:List YH):e6 x Y (Z<|-1)=x.dropLast:=by
 unfold e6 dk.cz;simp only[lx,uX];rw[aE ∅,List.dropLast_eq_take];congr 1;lia
def m4{x:List YH}{u:YH}(b:0<=a)(e:x[a.toNat]?=Z u):dN x a=Z u:=by
 unfold dN mG;have T:a.toNat<x.length:=(eA.mp e).1;rw[aE b,aE ⋯];exact e
def BA{x:List YH}{u:YH}(e:x.getLast?=Z u):dN x (-1)=Z u:=by
 rw[List.getLast?_eq_getElem?]at e;have T:x.length-1<x.length:=(eA.mp e).1;unfold dN mG;rw[aH ∅,aE ⋯];show x[(-1+(x.length:Int)).toNat]?=Z u;rw[show (-1+(x.length:Int)).toNat=x.length-1 by lia];exact e
def Ob(A:Nat->a6->Prop)(Ym:aj->a6->Prop):∀{x:List V}{y:a6},A 0 y->
  (∀(a:Nat) (f:V) (y:a6),x[a]?=Z f->A a y->∃Yv aR M,YT (.im f) y=Z Yv/\d Yv=Z (aR,M)/\(((aR=.aU\/aR=.cx)/\A (a+1) M)\/∃u,aR=.dD u/\Ym u M))->
  (∃YN,dX YT d x y=Z (.aU,YN)/\A x.length YN)\/∃u YN,dX YT d x y=Z (.dD u,YN)/\Ym u YN:=by
 intro x;induction x generalizing A with
 |nil=>intro y b W;exact .inl ⟨y,rfl,b⟩
 |cons f s g=>
  intro y b e;let⟨Yv,aR,@M,z,E,h⟩:=e 0 f y rfl b;rcases h with ⟨i,j⟩|⟨u,rfl,k⟩
  ·have:=g (λa=>A<|a+1) (y:=M) j λa H YN l m=>e (a+1) H YN ⇑l m;have c:dX YT d (f::s) y=dX YT d s M:=by
    rw[dX];dsimp only;rw[z];show (d Yv).bind _=_;rw[E];rcases i with rfl|rfl<;>rfl
   rw[c];exact this
  ·refine .inr ⟨u,M,?_,k⟩;rw[dX];dsimp only;rw[z];show (d Yv).bind _=_;rw[E];rfl
def B9(A:Nat->a6->Prop){x:List V}{y:a6}(b:A 0 y)(e:∀(a:Nat) (f:V) (y:a6),x[a]?=Z f->A a y->∃Yv aR M,YT (.im f) y=Z Yv/\d Yv=Z (aR,M)/\(aR=.aU\/aR=.cx)/\A (a+1) M):
  ∃YN,dX YT d x y=Z (.aU,YN)/\A x.length YN:=by
 rcases Ob A (λ_ W=>False) b (λa f y c g=>by
  let⟨Yv,aR,@M,z,E,h,i⟩:=e a f y c g;exact⟨Yv,aR,M,z,E,.inl ⟨h,i⟩⟩) with e|⟨_,_,_,e⟩
 ·exact e
 ·exact e.elim
def x7(A:Nat->a6->Prop)(b:a6->Prop)(step:∀k y,A k y->∃i Yv,n y=Z (i,Yv)/\(i=aa->∃aR M,d Yv=Z (aR,M)/\(aR=.aU\/aR=.cx)/\∃a,a<k/\A a M)/\(i=au->b Yv)):
  ∀(w k:Nat) (y:a6),A k y->k<w->∃YN,kA n d w y=Z (.aU,YN)/\b YN:=by
 intro w;induction w with
 |zero=>intro k y W e;lia
 |succ w c=>
  intro k y f o;let⟨i,@Yv,z,E,g⟩:=step k y f;rw[kA];dsimp only;rw[z];cases i with
  |false=>exact⟨Yv,rfl,g rfl⟩
  |true=>
   let⟨aR,@M,h,hf,⟨@a,p,j⟩⟩:=E rfl;let⟨@YN,l,m⟩:=c a M j ⋯;refine⟨YN,?_,m⟩;simp only[rQ,h7,h];rcases hf with rfl|rfl<;>exact l
def Uq(x:List YH):x.filter (λ_=>aa)=x:=List.filter_eq_self.mpr λ_ W=>rfl
def nR(c:J y=Z (.aU,Yv)):a_ J e y=e Yv:=by unfold a_;rw[c];rfl
def oB(c:J y=Z (.dD u,Yv)):a_ J e y=Z (.dD u,Yv):=by unfold a_;rw[c];rfl
def RL{J:jb}{M:a6}{aR:nB}(c:J y=Z ((x,m),Yv))(e:dX YT d x Yv=Z (aR,M)):hz J YT d y=Z (aR,mA m M):=by
 unfold hz;rw[c];show (dX YT d x Yv).map _=_;rw[e];rfl
def UK{s:aj}(a:I.length=w)(c:J (I.map Z++List.replicate (k-w) Y)=Z (.dD s,y)):dG w k Y3 J I=Z (s,i6 Y3 I y 0):=by
 unfold dG;rw[aE a,c]
def RI{Y1:List Nat}{l:jb}{a:a6}{I:List V}(z:l y=Z ((x,m),Yv))(E:hU own YT n c x [] (lB Y1 Yv)=Z (I,a)):fN own Y1 l YT n c y=Z (.lst I,mA m<|jr Y1 a Yv):=by
 unfold fN;rw[z];show (hU own YT n c x []<|lB Y1 Yv).map _=_;rw[E];rfl
def eE{J:az aj}(c:J y=Z (u,Yv)):cV J y=Z (.dD u,Yv):=by unfold cV;rw[c];rfl
def Ms{a:Nat}{J:az aj}(c:J y=Z (u,Yv))(e:a<Yv.length):bP a J y=Z (.aU,Yv.set a<|Z u):=by unfold bP;rw[c];show (if a<Yv.length then _ else _)=_;rw[aE e]
def yc(c:n y=Z (aa,Yv)):dT n g d y=g Yv:=by unfold dT;rw[c];rfl
def Cd(c:n y=Z (au,Yv)):dT n g d y=d Yv:=by unfold dT;rw[c];rfl
def qJ(y:a6){s:aj}{i:List aj}(a:I.length=w)(c:J (I.map Z++List.replicate (k-w) Y)=Z (.dD s,y))(b:i6 Y3 I y 0=i):dG w k Y3 J I=Z (s,i):=by
 rw[UK a c,b]
theorem ud{YH:Type}{own:Nat}{YT:fk}{n:az Bool}{c:az aj}{aP:a6}(b:YH->V)(q:YH->Bool)(F:YH->V):∀(x:List YH) (a:List V),(∀f∈x,∃Yv M,YT (.im<|b f) (List.replicate own Y++aP)=Z Yv/\n Yv=Z (q f,M)/\(q f=au->M.drop own=aP)/\(q f=aa->∃R,c M=Z (.im<|F f,R)/\R.drop own=aP))->
  a.length+x.length<=100000->hU own YT n c (x.map b) a aP=Z (a++(x.filter q).map F,aP)
 |[],a,_,_=>by simp[hU]
 |f::s,a,e,h=>by
  let⟨Yv,@M,z,E,i,j⟩:=e f (.head _);rw[c8]at h;rw[cy,hU,z];show (n Yv).bind _=_;rw[E];show (if q f=aa then _ else _)=_;cases d:q f with
  |false=>
   rw[aH dj];show hU own YT n c (s.map b) a (M.drop own)=_;rw[i d,ud b q F s a (λH g=>e H<|.tail _ g) ⋯,A7,d];rfl
  |true=>
   let⟨@R,k,l⟩:=j d;rw[aE rfl];show (c M).bind _=_;rw[k];show (if a.length<100000 then hU own YT n c (s.map b) (a++[F f]) (R.drop own) else Y)=_;rw[aE ⋯,l,ud b q F s (a++[F f]) (λH g=>e H<|.tail _ g) (by rw[c6,mw];lia),A7,d];simp
def l4{aP:a6}(a:YH->V)(F:YH->V)(x:List YH)(e:∀f∈x,∃Yv M R,YT (.im<|a f) (List.replicate own Y++aP)=Z Yv/\n Yv=Z (aa,M)/\c M=Z (.im<|F f,R)/\R.drop own=aP)(h:x.length<=100000):hU own YT n c (x.map a) [] aP=Z (x.map F,aP):=by
 have:=ud (own:=own) (YT:=YT) (n:=n) (c:=c) (aP:=aP) a (λ_=>aa) F x [] (λf b=>by
  let⟨Yv,M,@R,z,E,d,g⟩:=e f b;exact⟨Yv,M,z,E,(λD=>by cases D),(λ_=>⟨R,d,g⟩)⟩) (by rw[ik];lia)
 rw[Uq]at this;exact this
theorem uA{YH Zh:Type}(a:YH->V)(b:Zh->V):∀(x:List YH) (YA:List Zh),eg (x.map a) (YA.map b)=(x.zip YA).map λq=>.tup [a q.1,b q.2]
 |[],YA=>by simp[eg]
 |f::x,[]=>by simp[eg]
 |f::x,H::YA=>by simp[eg,uA a b x YA]
def tl{Zh:Type}(F:YH->Zh)(x:List YH)(G T:Option Int):e6 (x.map F) G T=(e6 x G T).map F:=by
 unfold e6;rw[ba,jO,kc]
end L2
namespace G
open L2
abbrev ar(a:Int):aj:=.im (.int a)
end G
namespace L2
open Spec PyProof.Rows
section
variable{b:aO}
def r7:V->Option eO
 |.int a=>Z (.inl a)
 |.str f=>Z (.inr f)
 |_=>Y
@[simp] theorem Ya(a:Int):r7 (.int a)=Z (.inl a):=rfl
@[simp] theorem XU(f:aG):r7 (.str f)=Z (.inr f):=rfl
def K3:eO->V
 |.inl a=>.int a
 |.inr f=>.str f
@[simp] theorem XZ(a:Int):K3 (.inl a)=.int a:=rfl
@[simp] theorem X_(f:aG):K3 (.inr f)=.str f:=rfl
def Ot{j:ay}{u:V}{v:av}{o:eO}(e:cH j u v)(c:r7 u=Z o):v=cK o:=by
 cases u with
 |int a=>cases c;exact e
 |str f=>cases c;exact e
 |_=>cases c
def j1{YQ:Type}[DecidableEq YQ](YE:List (YQ×V))(o:YQ)(u:V):List (YQ×V):=(
 if (YE.any λa=>decide (a.1=o))=aa then YE.map (λa=>if a.1=o then (a.1,u) else a) else YE++[(o,u)])
variable{YQ:Type}
def ff.any[DecidableEq YQ]{j:ay}{o:YQ}{t:List (YQ×V)}{k:List (YQ×av)}(e:ff j t k):(t.any λa=>decide (a.1=o))=(k.any λa=>decide (a.1=o)):=by
 unfold ff at e;induction e with
 |nil=>rfl
 |cons s _ b=>rw[nI,nI,b,s.1]
def ff.upd[DecidableEq YQ]{j:ay}{o:YQ}{u:V}{v:av}(l:cH j u v){t:List (YQ×V)}{k:List (YQ×av)}(e:ff j t k):ff j (t.map λa=>if a.1=o then (a.1,u) else a) (k.map λa=>if a.1=o then (a.1,v) else a):=by
 unfold ff at e;induction e with
 |nil=>exact .nil
 |@cons q p _ _ s _ d=>
  rw[cy,cy];refine .cons ?_ d;by_cases c:q.1=o
  ·have b:p.1=o:=s.1.symm.trans c;rw[aE c,aE b];exact⟨s.1,l⟩
  ·have b:¬ p.1=o:=λD=>c (s.1.trans D);rw[aH c,aH b];exact s
def XB{YH Zh:Type}{N:YH->Zh->Prop}{t:List YH}{k:List Zh}{g:YH}{d:Zh}(e:es N t k)(f:N g d):es N (t++[g]) (k++[d]):=by
 induction e with
 |nil=>exact .cons f .nil
 |cons s _ a=>exact .cons s a
def ff.put[DecidableEq YQ]{j:ay}{o:YQ}{u:V}{v:av}(l:cH j u v){t:List (YQ×V)}{k:List (YQ×av)}(e:ff j t k):ff j (j1 t o u) (hR k o v):=by
 unfold j1 hR;rw[e.any];split
 ·exact e.upd l
 ·exact XB e ⟨rfl,l⟩
@[simp] def DX:az aj:=λy=>Z (.bN [],y)
def Mb{YD:Pos}:cI b (.Dict [] [] YD) DX:=by
 refine eW V8 λC j B ⟨y,N,s,YN,X,ah,d,p⟩ q a=>?_;cases d;have h:bZ j (L2.upd j q<|.bN []):=(bZ.refl j).upd a;have e:br j N j (N++[]):=by rw[cA];exact br.perm ah (List.Perm.refl _)
 exact p _ _ N [q] (X.mono h.tupS λg W m c=>h g m c) ⟨q,[],rfl,e8,.nil,rfl⟩ (e.new h (f9 _ _) (λg f=>by rw[cX.mp f];exact a) X.chg)
@[simp] def X4(a b:az aj):az aj:=λy=>(a y).bind λq=>(b q.2).bind λp=>match q.1,p.1 with
 |.im o,.im u=>(r7 o).map λc=>(.dU [(c,u)],p.2)
 |_,_=>Y
@[simp] def pz(n o u:aj):Option aj:=match n,o,u with
 |.lst x,.im<|.int a,.im u=>(mG x.length a).map λr=>.lst (x.set r u)
 |.dU YE,.im o,.im u=>(r7 o).bind λb=>if YE.length<100000 then Z (.dU<|j1 YE b u) else Y
 |.bN YE,.im<|.tup o,.im u=>if V.keys 7 o=aa/\YE.length<100000 then Z (.bN<|j1 YE o u) else Y
 |_,_,_=>Y
def Kl(F:b.A.units+20<bQ):xa b pz:=by
 intro M h C j m a v G H L B A k l q I;let⟨n,o,u,J,Ym,@YB,r,d4,s,ah,c,p⟩:=I;unfold pz at c;split at c
 ·exact CB M h C j m a v G H L B A k l q ⟨_,_,_,J,Ym,YB,r,d4,s,ah,c,p⟩
 ·let⟨@Q,N,w⟩:=bC.mp c;split at w
  ·rename_i e;cases w;let⟨g,@YA,rfl,z,E,rfl⟩:=r;let@⟨hd,rfl⟩:=s;have n:gX j g:=⟨_,z,(λ_ c=>by cases c),(λ_ W c=>by cases c)⟩;cases k;have P:=Ot d4.1 N;subst P;refine E2 F A (oC.k z (by rw[<-E.length];exact z7 e)) l q λYn y=>⟨_,y,p _ [g] ?_ (br.chg (.head _) n (f9 _ _) λf D=>by simpa using D)⟩;exact⟨g,_,rfl,e8,(ff.put hd E).mono<|cH.nA n,rfl⟩
  ·cases w
 ·split at c
  ·rename_i e;cases c;let⟨g,@YA,rfl,z,E,rfl⟩:=r;let@⟨hd,rfl⟩:=s;have n:gX j g:=⟨_,z,(λ_ c=>by cases c),(λ_ W c=>by cases c)⟩;cases k;let⟨d,@x,rfl,YK,YR⟩:=d4.1;refine E2 F A (oC.t z ⟨e.1,d,x,rfl,YK,YR⟩ (by rw[<-E.length];exact z7 e.2)) l q λYn y=>⟨_,y,p _ [g] ?_ (br.chg (.head _) n (f9 _ _) λf D=>by simpa using D)⟩;exact⟨g,_,rfl,e8,(ff.put hd E).mono<|cH.nA n,rfl⟩
  ·cases c
 ·cases c
end
section
variable{b:aO}
def r4:bw->aj->Option (Nat×aj)
 |.aZ a,u=>Z (a,u)
 |.cp _,_=>Y
@[simp] theorem Yj(a:Nat)(u:aj):r4 (.aZ a) u=Z (a,u):=rfl
@[simp] theorem Yg(n u:aj):r4 (.cp n) u=Y:=rfl
@[simp] def sd(J:az (List bw)):jb:=λy=>(J y).bind λq=>(eu q.1 q.2).bind λp=>match q.1,p.1 with
 |[A,Y4],[Y2,Y8]=>(gI Y2).bind λf=>(gI Y8).bind λH=>
   if Y8.d8=aa then Z ((eg f H,if Y2.d8=aa then Y else r4 A Y2),p.2)
   else if Y2.d8=aa then Z ((eg f H,r4 Y4 Y8),p.2) else Y
 |_,_=>Y
variable{Yo:Φ}{j:ay}{Ym:List ag}{I:List V}
def xk{u:aj}{v:av}(l:cP j u v Ym)(c:gI u=Z I):
  ∃d g x,v=.ref g/\bb j I x/\∀P,fx j P->(∀g∈Ym,∀m,j g=Z m->P g=Z m)->ft d Yo P g x:=by
 unfold gI at c;split at c
 ·cases c;let@⟨⟨g,@x,rfl,z,E⟩,rfl⟩:=l;exact⟨au,g,x,rfl,E,λP i o=>cL.of<|i.tup g _ z⟩
 ·cases c;let⟨g,@x,rfl,z,E,rfl⟩:=l;exact⟨aa,g,x,rfl,E,λP i o=>de.of<|o g (.head _) _ z⟩
 ·cases c;let⟨g,x,@m,rfl,z,E,rfl⟩:=l;exact⟨aa,g,x,rfl,E,λP i o=>.inl<|.inr ⟨m,i.dF _ _ _ z⟩⟩
 ·cases c
variable{g:ag}{x:List av}
def Jg{d:Bool}{a:Nat}{f H:av}(e:∀S,ft d Yo j g S->S[a]?=Z f)(z:ft d Yo j g x)(E:x[a]?=Z H):f=H:=by
 have:=e x z;rw[E]at this;exact (Option.some.inj this).symm
theorem Q8{aQ aS:Bool}{d:ag}{YA:List av}{Q:List V}(hd:bb j I x)(b:bb j Q YA)(e:∀P,fx j P->(∀g∈Ym,∀m,j g=Z m->P g=Z m)->ft aQ Yo P g x)(R:∀P,fx j P->(∀g∈Ym,∀m,j g=Z m->P g=Z m)->ft aS Yo P d YA):kU (rA aQ aS Yo g d) j Ym (eg I Q) where
 go:=λP i o a u c=>by
  let⟨f,@H,p,q,rfl⟩:=y2 I Q a u c;let⟨@v,k,r⟩:=hd.get p;let⟨@L,YK,YR⟩:=b.get q;have l:=e P i o;have n:=R P i o;refine⟨⟨x,YA,v,L,l,n,k,YK⟩,λD z ⟨U,A,B,F,s,t,w,y⟩=>?_⟩;subst s t;cases Jg w l k;cases Jg y n YK;have h:bZ P (L2.upd P U<|.tup [v,L]):=(bZ.refl P).upd F;exact⟨h,U,[v,L],rfl,e8,⟨v,[L],rfl,(r.mono i.tup).mono h.tupS.tup,L,[],rfl,(YR.mono i.tup).mono h.tupS.tup,rfl⟩⟩
 stop:=λP i o=>⟨x,YA,e P i o,R P i o,by rw[yE,<-hd.length,<-b.length];lia⟩
def QF{g d:bz}{J:az (List bw)}{q YD:Pos}{Q:List bz}{G:Nat}{Yz:Pos}(R:dE b "zip")(S:b.aI "zip" = Y)(e:fJ b [g,d] J)(Ys:bH [g,d] b.env=[(au,b0 g b.env),(au,b0 d b.env)]:=by rfl)(T:bH [d] b.env=[(au,b0 d b.env)]:=by rfl):
  l6 b (.Tuple Q G Yz) (.Call (.Name "zip" q) [g,d] [] YD) (sd J):=by
 refine tr (Gw R S e Ys T) λC j co U=>?_;let⟨y,N,s,@YN,X,ah,al,p⟩:=U;let⟨@⟨YG,Yv⟩,z,E⟩:=bC.mp al;let⟨@⟨I,M⟩,am,l⟩:=bC.mp E;refine⟨y,N,YG,Yv,X,ah,z,λYl Yx YI cr an A ap=>?_⟩;let⟨YY,@YB,B,YV,YZ⟩:=mZ an A am;have h:=ap.kJ YZ.symm;dsimp only at l;split at l
 ·rename_i as a1 cs db;let⟨@f,a2,bd⟩:=bC.mp l;let⟨@H,be,k⟩:=bC.mp bd;let⟨v,W,m,@W,rfl,fU,⟨L,W,r,@W,rfl,gQ,@⟨rfl,rfl⟩,rfl⟩,rfl⟩:=YV;rw[cA]at h;let⟨ds,W,dL,@W,l1,bi,⟨eq,W,ev,@W,bm,bn,@⟨rfl,rfl⟩,rfl⟩,rfl⟩:=A;cases l1;cases bm;let⟨t,u,@x,rfl,bs,F⟩:=xk (Yo:=b.K) fU a2;let⟨w,Zi,@YA,rfl,bv,O⟩:=xk (Yo:=b.K) gQ be;have ca:ft t b.K Yx u x:=F Yx (yM Yx) λ_ W W c=>c;have cd:ft w b.K Yx Zi YA:=O Yx (yM Yx) λ_ W W c=>c;have Yu:kU (rA t w b.K u Zi) Yx (m++r) (eg f H):=Q8 bs bv (λP i o=>F P i λg e=>o g<|gd _ e) (λP i o=>O P i λg e=>o g<|fE _ e);have Zw:∀g∈m++r,gX Yx g:=λg e=>(eh.mp e).elim (λD=>fU.chg g D) λD=>gQ.chg g D;refine⟨t,w,u,Zi,rfl,⟨x,ca⟩,⟨YA,cd⟩,?_⟩;split at k
  ·rename_i ce;cases k;have ch:=gQ.d8 ce;subst ch;rw[cA]at h Yu Zw;refine p _ Yx YY m B Yu ?_ Zw h;dsimp only;split
   ·trivial
   ·cases as with
    |aZ a=>exact⟨_,bi.1,fU⟩
    |cp n=>trivial
  ·split at k
   ·rename_i ci;cases k;have cl:=fU.d8 ci;subst cl;rw[ih]at h Yu Zw;refine p _ Yx YY r B Yu ?_ Zw h;cases a1 with
    |aZ a=>exact⟨_,bn.1,gQ⟩
    |cp n=>trivial
   ·cases k
 ·cases l
end
section
variable{b:aO}
def vX{YP:List Int}{YM:List ab}(s:bS (YP.map av.int) YM)(a:Nat)(v:ab)(e:YM[a]?=Z v):∃i,v=.int ((YP[a]?).getD 0) i:=by
 have b:=s.length;rw[ba]at b;have T:a<YP.length:=by rw[b];exact (eA.mp e).1
 let⟨@L,d,⟨@i,c⟩⟩:=s.get (a:=a) (f:=av.int YP[a]) (by simp[T]);rw[e]at d;cases d;exact⟨i,by rw[c];simp[T]⟩
def UN:List Int->Option Int
 |[]=>Y
 |f::s=>Z (s.foldl max f)
@[simp] def Yh:hS:=λI=>match I with
 |[.lst f]=>(k5 f).bind λYP=>(UN YP).map λk=>.im (.int k)
 |_=>Y
@[simp] def Hw(J:az (List bw)):az aj:=λy=>(J y).bind λq=>(eF q.2 q.1).bind λI=>match I with
 |[Y2,Y8]=>(gI Y2).bind λf=>(gI Y8).map λH=>(.im<|.tup<|eg f H,q.2)
 |_=>Y
end
variable{Y1:List Nat}{own:List aG}{YS:hO}{Zz:List bz}{ZA Zl YT d:bz}{ZN i r Y6 q YD:Pos}{Zm:aG}{Yq B:ab->ai->Prop}{h:ai}{O:bA}{C:a5}{M:List (ag×a3)}{YA x:Array ab}{YR YK:Nat}{ZJ:a3}{n aS aQ:Bool}{g:ag}{j:ay}
abbrev qu(e:aX)(D bI bF U:ag)(n:Bool):Prop:=e.get? D=Z {cls:=.type "zip",dict:=Y,data:=.fields #[eD U,.bool n,.bool au,.ref bI,.ref bF],slots:=#[]}
section
variable{Yw:bO}{l:bh}{O:bA}{Yq:ab->ai->Prop}{h:ai}
def NB{az:gW}{B:Option a3->ai->Prop}(e:B (h.heap.get? g) h):wpAny az O (loadIfAlive g) B Yq h:=λa q b=>by
 show dA.wp az a (.loadIfAlive g .pure) _ _ q h;rw[dA.wp,dA.wp];exact e
def GU{D bI bF U:ag}{B:Bool->ai->Prop}(a:qu h.heap D bI bF U n)(b:h.heap.get? U=Z ZJ)(p:∀R,qu R D bI bF U aa->aX.SameBut D h.heap R->B au {h with heap:=R}):wpAny (aN Yw l) O (aY.SmallTypes.ownedTupleIsFree<|.ref D) B Yq h:=by
 unfold aY.SmallTypes.ownedTupleIsFree;refine ao (gJ a rfl (x:=eD U) rfl ?_);show wpAny _ _ (loadIfAlive ((U:Int).toNat) >>= _) _ _ _;refine ao (NB ?_);rw[kY,b];show wpAny _ _ (jn (.ref D) 1 >>= _) _ _ _;refine ao (gJ a rfl (x:=.bool n) rfl ?_);cases n with
 |true=>
  show wpAny _ _ (pure au) _ _ _;exact aM (p h.heap a ⟨rfl,λ_ W=>rfl⟩)
 |false=>
  show wpAny _ _ (vo (.ref D) 1 (.bool aa) >>= _) _ _ _;refine ao (n9 a ↥0 λR c Yn=>aM<|p R c Yn)
def UE{D bI bF U b d i j:ag}{f H:ab}(y:l2 D bI bF b d i j)(q:qu h.heap D bI bF U n)(t:h.heap.get? U=Z ZJ)(u:gE h.heap bI (.ref b) (.ref d))(z:fB aQ h.heap b i YK)(E:fB aS h.heap d j YR)(w:gK aQ h.heap i x)(A:gK aS h.heap j YA)(C:x[YK]?=Z f)(F:YA[YR]?=Z H)(G:∀R,qu R D bI bF U aa->fB aQ R b i (YK+1)->fB aS R d j (YR+1)->gE R h.heap.objs.size f H->R.objs.size=h.heap.objs.size+1->
   (∀n m,n≠D->n≠b->n≠d->h.heap.get? n=Z m->R.get? n=Z m)->B (.ref h.heap.objs.size) {h with heap:=R}):
  wpAny (aN Yw l) O (aY.«zip.__next__» ⟨[.ref D],[]⟩) (λI Yn=>∃v,I=.done (.ret v)/\B v Yn) Yq h:=by
 refine ao (m:=jn (.ref D) 2) (gJ q rfl (x:=.bool au) rfl ?_);refine ao (m:=jn (.ref D) 3) (gJ q rfl (x:=.ref bI) rfl<|ao<|gT u rfl ?_);refine ao (m:=aY.SmallTypes.ownedTupleIsFree (.ref D)) (GU q t λJ L e=>?_);simp only[g_,f5];rw[<-qU];simp only[sg,vf];refine ao (ao<|ao<|fM ?_);show wpAny _ _ (aY.SmallTypes.nextOf (.ref b) >>= _) _ _ _;refine ao (rf (h:={h with heap:=J}) (fw z λm c=>e.extBut _ m y.i1z c) (kq w λm c=>e.extBut _ m y.l1z c) C λM Zi g=>aM<|aM ?_);refine ao (ao<|fM ?_);show wpAny _ _ (aY.SmallTypes.nextOf (.ref d) >>= _) _ _ _;refine ao (rf (h:={h with heap:=M}) (fw E λm c=>g.extBut _ m y.i12.symm<|e.extBut _ m y.i2z c) (kq A λm c=>g.extBut _ m y.l2i1<|e.extBut _ m y.l2z c) F λa N o=>aM<|aM<|aM ?_);refine ao (m:=tv [f,H]) (yN<|aM ⟨_,rfl,?_⟩);have P:a.objs.size=h.heap.objs.size:=by rw[o.1,g.1,e.1]
 show B (.ref a.objs.size) _;have r:gE (a.push {cls:=.type "tuple",data:=.seq #[f,H]}) a.objs.size f H:=cO _ rfl;have s:(a.push {cls:=.type "tuple",data:=.seq #[f,H]}).objs.size=a.objs.size+1:=hb ..;have p:∀n m,a.get? n=Z m->(a.push {cls:=.type "tuple",data:=.seq #[f,H]}).get? n=Z m:=λn m c=>bJ _ c;rw[P]at r s ⊢;refine G _ (p _ _<|o.extBut _ _ y.i2z.symm<|g.extBut _ _ y.i1z.symm L) (fw Zi λm c=>p _ _<|o.extBut _ _ y.i12 c) (fw N λm c=>p _ _ c) r s λn m Q S T c=>p _ _ (o.extBut _ _ T<|g.extBut _ _ S<|e.extBut _ _ Q c)
def QM{D bI bF U b d i j:ag}{B:PySem.Fin->ai->Prop}(v:O.handled=Y)(y:l2 D bI bF b d i j)(o:qu h.heap D bI bF U n)(F:h.heap.get? U=Z ZJ)(G:gE h.heap bI (.ref b) (.ref d))(z:fB aQ h.heap b i YK)(E:fB aS h.heap d j YR)(w:gK aQ h.heap i x)(H:gK aS h.heap j YA)(I:x[YK]?=Y\/YA[YR]?=Y)(A:∀R c,(∀n m,n≠D->n≠b->n≠d->h.heap.get? n=Z m->R.get? n=Z m)->(∃m,R.get? c=Z m/\m.cls=.type "StopIteration")->Yq (.ref c) {h with heap:=R}):
  wpAny (aN Yw l) O (aY.«zip.__next__» ⟨[.ref D],[]⟩) B Yq h:=by
 refine ao (m:=jn (.ref D) 2) (gJ o rfl (x:=.bool au) rfl ?_);refine ao (m:=jn (.ref D) 3) (gJ o rfl (x:=.ref bI) rfl<|ao<|gT G rfl ?_);refine ao (m:=aY.SmallTypes.ownedTupleIsFree (.ref D)) (GU o F λC P a=>?_);simp only[g_,f5];rw[<-qU];simp only[sg,vf];refine ao (ao<|ao<|fM ?_);show wpAny _ _ (aY.SmallTypes.nextOf (.ref b) >>= _) _ _ _;cases q:x[YK]? with
 |none=>
  refine ao (u0 (h:={h with heap:=C}) v (fw z λm c=>a.extBut _ m y.i1z c) (kq w λm c=>a.extBut _ m y.l1z c) q λr c g s=>?_);exact A r c (λn m t u W p=>g _ _ u<|a.extBut _ _ t p) s
 |some f=>
  have J:YA[YR]?=Y:=I.resolve_left λe=>by rw[q]at e;cases e
  refine ao (rf (h:={h with heap:=C}) (fw z λm c=>a.extBut _ m y.i1z c) (kq w λm c=>a.extBut _ m y.l1z c) q λr Zi g=>aM<|aM ?_);refine ao (ao<|fM ?_);show wpAny _ _ (aY.SmallTypes.nextOf (.ref d) >>= _) _ _ _;refine ao (u0 (h:={h with heap:=r}) v (fw E λm c=>g.extBut _ m y.i12.symm<|a.extBut _ m y.i2z c) (kq H λm c=>g.extBut _ m y.l2i1<|a.extBut _ m y.l2z c) J λL c M s=>?_);exact A L c (λn m t N u p=>M _ _ u<|g.extBut _ _ N<|a.extBut _ _ t p) s
def vn{D:ag}{B:Option ab->ai->Prop}(a:h.TypeIs (.ref D) "zip")(e:wpAny (aN Yw l) O.in1 (aY.«zip.__next__» ⟨[.ref D],[]⟩) (λb Yn=>∃v,b=.done (.ret v)/\B (Z v) Yn) (λc Yn=>∃g,c=.ref g/\(∃m,Yn.heap.get? g=Z m/\m.cls=.type "StopIteration")/\B Y Yn) h):
  wpAny (aN Yw l) O (fv<|.ref D) B Yq h:=by
 unfold fv;refine ao (ov<|lA (name:=aG.ofString "__next__") a pR<|hP pR a Ae (g7 e (λb Yn ⟨v,c,p⟩=>⟨v,c,?_⟩)<|λc Yn ⟨g,f,i,p⟩=>?_)<|yl _)
 ·exact aM p
 ·subst f;let⟨@m,j,k⟩:=i;exact ao (oe (T := "StopIteration") (b:=aa) ⟨m,j,k⟩ wZ<|aM p)
end
def ha.upd{b:aO}{M:List (ag×a3)}{j:ay}{d U:ag}{m:gu}(e:ha b M j d)(w:d≠U):ha b M (upd j U m) d:=⟨by rw[dr w];exact e.1,e.2⟩
def mz(j:ay)(x YA S:List av):Prop:=(∀(a:Nat) (v:av),S[a]?=Z v->∃U f H,v=.ref U/\j U=Z (.tup [f,H])/\x[a]?=Z f/\YA[a]?=Z H)
def mz.push{P:ay}{x YA S:List av}{U:ag}{f H:av}(e:mz j x YA S)(b:bZ j P)(d:P U=Z (.tup [f,H]))(g:x[S.length]?=Z f)(h:YA[S.length]?=Z H):mz P x YA (S++[.ref U]):=by
 intro a v c;by_cases T:a<S.length
 ·rw[kL T]at c;let⟨i,k,@l,m,n,o⟩:=e a v c;exact⟨i,k,l,m,b _ _ n,o⟩
 ·rw[j6 ⋯]at c;have q:a-S.length=0:=by
   cases p:a-S.length with
   |zero=>rfl
   |succ w=>rw[p]at c;simp at c
  rw[q]at c;cases c;have:a=S.length:=⋯
  subst this;exact⟨U,f,H,rfl,d,g,h⟩
abbrev ze(e:aX)(YB:ag)(a:Array ab)(n:Nat):Prop:=e.get? YB=Z {cls:=.type "list",dict:=Y,data:=.seq a n,slots:=#[]}
def H6(aQ aS:Bool)(g d D bI bF b c YB:ag)(a:Nat)(e:aX):Prop:=(∃U n ZJ,qu e D bI bF U n/\e.get? U=Z ZJ/\U∉[YB,D,bI,bF,b,c]/\gE e bI (.ref b) (.ref c)/\(∃q p,gE e bF q p)/\fB aQ e b g a/\fB aS e c d a)
section
variable{b:aO}
def TY{g d D bI bF o p YB:ag}(ds:O.handled=Y)(y:l2 D bI bF o p g d)(ge:YB∉[D,bI,bF,o,p])(jp:YB≠g)(kt:YB≠d){x YA:List av}{al:ay}(dL:∀P,bZ al P->ft aQ b.K P g x)(eq:∀P,bZ al P->ft aS b.K P d YA)(kw:min x.length YA.length<=sizeLine)(am:ab){Ym:pG->ai->Prop}(gl:∀Yn P bv ev B,bZ al P->aF b M C P Yn->(∀n∈[YB,D,bI,bF,o,p],ha b M P n)->ze Yn.heap YB ev B->bS bv ev.toList->bv.length=min x.length YA.length->mz P x YA bv->Ym (.ok<|.ret am) Yn):
  ∀(k a:Nat) (h:ai) (j:ay) (S:List av) (v:Array ab) (n:Nat),min x.length YA.length-a=k->a<=min x.length YA.length->bZ al j->aF b M C j h->(∀n∈[YB,D,bI,bF,o,p],ha b M j n)->
   (rx aQ aS g d D bI bF o p a h.heap\/H6 aQ aS g d D bI bF o p YB a h.heap)->ze h.heap YB v n->bS S v.toList->S.length=a->mz j x YA S->
   codeAny (aN b.prog b.w) O (.builtin "list.extend.loop" ⟨[.ref YB,.ref D,am],[]⟩) Ym h:=by
 intro k;have gt:YB≠D/\YB≠bI/\YB≠bF/\YB≠o/\YB≠p:=by simpa [ob] using ge
 let@⟨an,ex,ap,as,a1⟩:=gt;induction k with
 |zero=>
  intro a h j S v n ca T E A G X a2 bd be cd;let⟨@Yy,ce,I,W⟩:=A.iw (dL j E);let⟨@fd,ch,Y6,W⟩:=A.iw (eq j E);have lc:=ce.length;have lf:=ch.length;have fn:Yy.toArray[a]?=Y\/fd.toArray[a]?=Y:=by
   rcases gS a x.length with e|e
   ·exact .inr (by simp;omega)
   ·exact .inl (by simp;omega)
  refine h2 JZ ?_;rw[ig sf _];show wpAny _ O.in1 (fv (.ref D) >>= _) _ _ h;have bi:∀R c,(∀n m,n≠D->n≠bF->n≠o->n≠p->h.heap.get? n=Z m->R.get? n=Z m)->(∃m,R.get? c=Z m/\m.cls=.type "StopIteration")->Ym (.ok<|.ret am) {h with heap:=R}:=λR c cE W=>by
   refine gl {h with heap:=R} j S v n E (A.De (YU:=h.toks) G λu m hd c=>?_) G (cE _ _ an ap as a1 a2) bd (by omega) cd;simp only[bW,jf,e9,ob]at hd;exact cE u m hd.2.1 hd.2.2.2.1 hd.2.2.2.2.1 hd.2.2.2.2.2 c
  rcases X with ⟨i,q,⟨bL,hB,t⟩,r,s⟩|⟨U,B,ZJ,i,fl,bm,q,t,r,s⟩
  ·exact ao (vn ⟨_,i,rfl⟩<|Ex (O:=O.in1.in1) ds y i q t r s I Y6 fn λR c cE J=>⟨c,rfl,J,aM<|bi R c cE J⟩)
  ·exact ao (vn ⟨_,i,rfl⟩<|QM (O:=O.in1.in1) ds y i fl q r s I Y6 fn λR c cE J=>⟨c,rfl,J,aM<|bi R c (λn m ci W cl co=>cE n m ci cl co) J⟩)
 |succ k g1=>
  intro a h j S v n ca T E A G X a2 bd be cd;let⟨@Yy,ce,I,W⟩:=A.iw (dL j E);let⟨@fd,ch,Y6,W⟩:=A.iw (eq j E);have fr:x[a]?=Z x[a]:=dz (by omega);have f0:YA[a]?=Z YA[a]:=dz (by omega);let⟨@L,f1,g2⟩:=ce.get fr;let⟨@bn,f2,g3⟩:=ch.get f0;refine h2 JZ ?_;rw[ig sf _];show wpAny _ O.in1 (fv (.ref D) >>= _) _ _ h;have lt:∀n∈[YB,D,bI,bF,o,p],n<h.heap.objs.size:=λn z=>by
   have he:(∃m,h.heap.get? D=Z m)/\(∃m,h.heap.get? bI=Z m)/\(∃m,h.heap.get? bF=Z m)/\(∃m,h.heap.get? o=Z m)/\(∃m,h.heap.get? p=Z m):=by
    rcases X with ⟨i,q,⟨bL,hB,t⟩,r,s⟩|⟨U,B,ZJ,i,fl,bm,q,⟨bL,hB,t⟩,r,s⟩
    ·exact⟨⟨_,i⟩,⟨_,q⟩,⟨_,t⟩,let ⟨m,c,_⟩:=lj r;⟨m,c⟩,let ⟨m,c,_⟩:=lj s;⟨m,c⟩⟩
    ·exact⟨⟨_,i⟩,⟨_,q⟩,⟨_,t⟩,let ⟨m,c,_⟩:=lj r;⟨m,c⟩,let ⟨m,c,_⟩:=lj s;⟨m,c⟩⟩
   let@⟨⟨@_,hf⟩,⟨@_,hm⟩,⟨@_,hw⟩,⟨@_,h0⟩,⟨@_,ii⟩⟩:=he;simp only[bW,jf,e9]at z;rcases z with rfl|rfl|rfl|rfl|rfl|rfl
   ·exact bM a2
   ·exact bM hf
   ·exact bM hm
   ·exact bM hw
   ·exact bM h0
   ·exact bM ii
  have neT:∀n∈[YB,D,bI,bF,o,p],n≠h.heap.objs.size:=λn z=>cZ (lt n z);have im:j h.heap.objs.size=Y:=A.a4.fresh (bp _);have f4:bZ j (upd j h.heap.objs.size<|.tup [x[a],YA[a]]):=(bZ.refl j).upd im;have f8:v.size=a:=by rw[<-be,<-dq];exact (es.length bd).symm
  have go:∀R,gE R h.heap.objs.size L bn->(∀n m,n≠D->n≠bF->n≠o->n≠p->h.heap.get? n=Z m->R.get? n=Z m)->(∀N,(∀n m,n≠YB->R.get? n=Z m->N.get? n=Z m)->rx aQ aS g d D bI bF o p (a+1) N\/H6 aQ aS g d D bI bF o p YB (a+1) N)->
    wpAny (aN b.prog b.w) O.in1 (nE YB (·.push (.ref h.heap.objs.size)) >>= λ_=>again<|.builtin "list.extend.loop" ⟨[.ref YB,.ref D,am],[]⟩) (λbi Yn=>match bi with | .done F=>Ym (.ok F) Yn | .again B=>B.quiet=aa/\codeAny (aN b.prog b.w) O B Ym Yn) (λc Yn=>Ym (.error c) Yn) {h with heap:=R}:=by
   intro R oL cE io;have ga:ze R YB v n:=cE _ _ an ap as a1 a2;refine ao (mU (s:={h with heap:=R}) ga rfl (aM ⟨hV sf _,g1 (a+1) _ (upd j h.heap.objs.size<|.tup [x[a],YA[a]]) (S++[.ref h.heap.objs.size]) (v.push<|.ref h.heap.objs.size) _ (by omega) (by omega) (E.trans f4) ?_ (λn z=>(G n z).upd<|neT n z) (io _ λn m z c=>(g4 _ _<|eQ z).trans c) (jh _ ga rfl) ?_ (by simp;omega) ?_⟩)
    (by rw[f8];omega) (by show (v.push _).size<=sizeLine+1;rw[JH,f8];omega))
   ·refine A.F9 (YU:=h.toks) G (λu m hd c=>?_) (bp _) ⟨by show 2<=sizeLine;decide,[L,bn],.cons g2<|.cons g3 .nil,?_⟩
    ·simp only[bW,jf,e9,ob]at hd;exact (g4 _ _<|eQ hd.1).trans (cE u m hd.2.1 hd.2.2.2.1 hd.2.2.2.2.1 hd.2.2.2.2.2 c)
    ·exact⟨_,(g4 _ _<|neT YB<|.head _).trans oL,rfl,0,rfl⟩
   ·rw[vT];exact bd.append (.cons rfl .nil)
   ·exact cd.push f4 e8 (by rw[be];exact fr) (by rw[be];exact f0)
  rcases X with ⟨i,q,⟨bL,hB,t⟩,r,s⟩|⟨U,B,ZJ,i,fl,bm,q,⟨bL,hB,t⟩,r,s⟩
  ·refine ao (vn ⟨_,i,rfl⟩ (Jv (O:=O.in1.in1) y i q t r s I Y6 (f:=L) (H:=bn) ⇑f1 ⇑f2 λR cr it cs db bs cE=>go R bs cE λN YR=>.inr ?_));exact⟨_,_,_,YR _ _ an.symm cr,YR _ _ (neT YB<|.head _).symm bs,λca=>absurd rfl<|neT _ ca,YR _ _ ex.symm<|cE _ _ y.TIz y.TITO y.TIi1 y.TIi2 q,⟨_,_,YR _ _ ap.symm it⟩,fw cs λm c=>YR _ _ as.symm c,fw db λm c=>YR _ _ a1.symm c⟩
  ·have Q:=bm;simp only[bW,jf,e9,ob]at Q;refine ao (vn ⟨_,i,rfl⟩ (UE (O:=O.in1.in1) y i fl q r s I Y6 (f:=L) (H:=bn) ⇑f1 ⇑f2 λR cr cs db bs W cE=>go R bs (λn m ci W cl co=>cE n m ci cl co) λN YR=>.inr ?_));exact⟨U,aa,ZJ,YR _ _ an.symm cr,YR _ _ Q.1<|cE _ _ Q.2.1 Q.2.2.2.2.1 Q.2.2.2.2.2 fl,bm,YR _ _ ex.symm<|cE _ _ y.TIz y.TIi1 y.TIi2 q,⟨bL,hB,YR _ _ ap.symm<|cE _ _ y.TOz y.TOi1 y.TOi2 t⟩,fw cs λm c=>YR _ _ as.symm c,fw db λm c=>YR _ _ a1.symm c⟩
end
def Us:oM (.type "zip") "__len__" = pure Y:=by rw[oj,oA];kernel_rfl
def N7:oM (.type "zip") "__length_hint__" = pure Y:=by rw[oj,oA];kernel_rfl
section
variable{b:aO}
def QC{g d D bI bF i k:ag}{B:List ab->ai->Prop}(T:O.handled=Y)(y:l2 D bI bF i k g d){x YA:List av}(H:∀P,bZ j P->ft aQ b.K P g x)(I:∀P,bZ j P->ft aS b.K P d YA)(A:aF b M C j h)(U:∀n∈[D,bI,bF,i,k],ha b M j n)(X:rx aQ aS g d D bI bF i k 0 h.heap)(al:∀Yn P S J,bZ j P->aF b M C P Yn->bS S J->S.length=min x.length YA.length->mz P x YA S->B J Yn):wpAny (aN b.prog b.w) O (uc<|.ref D) B Yq h:=by
 let⟨@Yy,cd,am,ce⟩:=A.iw (H j<|bZ.refl j);let⟨@ch,ci,Y6,cl⟩:=A.iw (I j<|bZ.refl j);let⟨@co,an⟩:=qD am;let⟨@cr,ap⟩:=qD Y6;have lt:∀n∈[D,bI,bF,i,k],n<h.heap.objs.size:=λn f=>by
  let@⟨z,E,⟨q,@p,o⟩,r,s⟩:=X;simp only[bW,jf,e9]at f;rcases f with rfl|rfl|rfl|rfl|rfl
  ·exact bM z
  ·exact bM E
  ·exact bM o
  ·let⟨@m,c,W⟩:=lj r;exact bM c
  ·let⟨@m,c,W⟩:=lj s;exact bM c
 have as:h.heap.objs.size∉[D,bI,bF,i,k]:=λe=>j9 _ (lt _ e);have a1:h.heap.objs.size≠D:=iQ (lt D ↥0);unfold uc;refine ao (Ad<|h2 F.entry_proto_collect ?_);rw[ig F.plain_proto_collect _];show wpAny _ O.in1 (pB [] >>= λt=>again<|.builtin "list.__iadd__" ⟨[t,.ref D],[]⟩) _ _ h;refine ao (gz<|aM ⟨hV EC _,h2 F.entry_list_iadd ?_⟩);rw[ig EC _];have u:∀n m,h.heap.get? n=Z m->(h.heap.push {cls:=.type "list",data:=.seq ([]:List ab).toArray}).get? n=Z m:=λn m c=>bJ _ c;have L:(h.heap.push {cls:=.type "list",data:=.seq ([]:List ab).toArray}).get? h.heap.objs.size=Z {cls:=.type "list",data:=.seq ([]:List ab).toArray}:=cO _ rfl;have a2:ha b M j h.heap.objs.size:=A.rg (bp _) (A.a4.fresh<|bp _);have G:ai.TypeIs ({h with heap:=h.heap.push {cls:=.type "list",data:=.seq ([]:List ab).toArray} }:ai) (.ref D) "zip" := ⟨_,u _ _ X.1,rfl⟩;show wpAny _ O.in1 (aY.List.listExtendWith (.ref h.heap.objs.size) (.ref D)<|.ref h.heap.objs.size) _ _ _;unfold aY.List.listExtendWith;refine ao (wpAny_typeOf G ?_);have bd:aY.List.listSameRef (.ref h.heap.objs.size) (.ref D)=au:=by simp[aY.List.listSameRef,a1]
 rw[aH (by rw[bd];decide)];refine ao (x5 (u _ _ X.1)<|ao<|fM ?_);unfold aY.List.listLengthHint;refine ao (mx G Us ?_);show wpAny _ O.in1 (specialOf (.ref D) (aG.ofString "__length_hint__") >>= _) _ _ _;refine ao (mx G N7<|aM ?_);show wpAny _ O.in1 (rule "list.extend.makes-room" >>= λ_=>aY.List.listTouch (.ref h.heap.objs.size) >>= λ_=>again<|.builtin "list.extend.loop" ⟨[.ref h.heap.objs.size,.ref D,.ref h.heap.objs.size],[]⟩) _ _ _;refine ao (iJ<|ao ?_);show wpAny _ O.in1 (nE h.heap.objs.size (·.push .none) >>= λ_=>nE h.heap.objs.size (·.pop)) _ _ _;refine ao (mU L rfl ?_);have Q:=jh (a3.mapSeq (·.push ab.none)) L rfl;refine mU Q rfl ?_;have be:=jh (a3.mapSeq (·.pop)) Q rfl;have R:∀n m,n≠h.heap.objs.size->h.heap.get? n=Z m->
   (((h.heap.push {cls:=.type "list",data:=.seq ([]:List ab).toArray}).update h.heap.objs.size (a3.mapSeq (·.push ab.none))).update h.heap.objs.size (a3.mapSeq (·.pop))).get? n=Z m:=
  λn m f c=>(g4 _ _<|eQ f).trans ((g4 _ _<|eQ f).trans<|u n m c);refine aM ⟨hV sf _,TY (b:=b) (M:=M) (C:=C) (O:=O) T y as (iQ<|bM an) (iQ<|bM ap) H I (by rw[Jn];split<;>omega) _ (λYn P S cs db bi bm W bn bs bv ca=>?_) _ 0 _ j [] #[] _ rfl (g0 _) (bZ.refl j) ?_ ?_ (.inl ?_) be .nil rfl (λa v c=>by simp at c)⟩
 ·show wpAny _ O (load h.heap.objs.size >>= _) _ _ Yn;exact ao (u1 bn<|aM<|al Yn P S _ bi bm bs bv ca)
 ·exact A.kept (YU:=h.toks) λn m c=>R n m (cZ<|bM c) c
 ·intro n f;rcases bW.mp f with rfl|f
  ·exact a2
  ·exact U n f
 ·let@⟨z,E,⟨q,@p,o⟩,r,s⟩:=X;have Y4:∀n∈[D,bI,bF,i,k],∀m,h.heap.get? n=Z m->_:=λn f m c=>R n m (cZ<|lt n f) c;exact⟨Y4 D ↥0 _ z,Y4 bI ↥0 _ E,⟨q,p,Y4 bF ↥0 _ o⟩,fw r λm c=>Y4 i ↥0 m c,fw s λm c=>Y4 k ↥0 m c⟩
def TC{g d D bI bF i k:ag}(u:O.handled=Y)(y:l2 D bI bF i k g d){x YA:List av}(r:∀P,bZ j P->ft aQ b.K P g x)(z:∀P,bZ j P->ft aS b.K P d YA)(A:aF b M C j h)(E:∀n∈[D,bI,bF,i,k],ha b M j n)(X:rx aQ aS g d D bI bF i k 0 h.heap)(G:∀Yn P S U,bZ j P->aF b M C (upd P U<|.tup S) Yn->P U=Y->S.length=min x.length YA.length->mz P x YA S->B (.ref U) Yn):
  wpAny (aN b.prog b.w) O (call (.type "tuple") [.ref D]) B Yq h:=by
 refine yB (Q₁:=λa e=>e.TypeIs a "tuple" /\ B a e) zD (F.typeCall_tuple_1 _) F.entry_object_init (zS ?_) λa e o=>⟨o.1,F.args_object_init_2 a _,object_init_meets zD.init.lookup zD.made ∅ b.prog b.w O.in1 _ e ⟨o.1,rfl,o.2⟩⟩;show wpAny _ _ (do HG "tuple.__new__" ⟨[.type "tuple",.ref D],[]⟩;again (.builtin "tuple.__new__" ⟨[.type "tuple",.ref D],[]⟩)) _ _ h;refine ao (og (F.newCall_tuple_1 _)<|aM ⟨hV Gj _,h2 F.entry_tuple_new ?_⟩);rw[ig Gj _];have Q:=sub_tuple_self;have R:=init_tuple_lookup;have T:=madeHere_tuple;have H:h.TypeIs (.ref D) "zip" := ⟨_,X.1,rfl⟩
 wp_walk using wpAny_typeOf H,QC (O:=O.in1.in1) u y r z A E X
 intro Yn P S f I s p q J;have t:f.length<=sizeLine:=by
  let⟨@W,W,W,al⟩:=A.iw (r j<|bZ.refl j);have:=p.length;rw[Jn]at q;split at q<;>lia
 show wpAny _ _ (aY.Tuple.tupleExact f.toArray >>= λv=>ret v) _ _ _;unfold aY.Tuple.tupleExact;refine ao (gz (aM ?_) (by show f.toArray.size<=sizeLine;simpa using t));refine⟨⟨_,cO _ rfl,rfl⟩,G _ P S _ I (s.laid (YU:=Yn.toks) (λn m c=>bJ _ c) (bp _) ⟨by rw[p.length];exact t,f,p,?_⟩) (s.a4.fresh<|bp _) q J⟩;exact⟨_,cO _ rfl,rfl,0,rfl⟩
def LC(Yo:Φ)(Za:ei):cC:=(λC j B=>Za C j λYl Yx=>∃aQ aS g d x YA,Yl=[.ref g,.ref d]/\(∀P,bZ Yx P->ft aQ Yo P g x)/\(∀P,bZ Yx P->ft aS Yo P d YA)/\
 ∀P S U,bZ Yx P->P U=Y->S.length=min x.length YA.length->mz P x YA S->B (.ref U) (upd P U<|.tup S))
variable{g:bz}
def SR{Za:ei}(l:b.calm=aa)(J:dE b "tuple")(L:b.aI "tuple" = Y)(N:dE b "zip")(O:b.aI "zip" = Y)(Q:gR b [g,d] Za)(Ys:bH [g,d] b.env=[(au,b0 g b.env),(au,b0 d b.env)]:=by rfl)(u:bH [d] b.env=[(au,b0 d b.env)]:=by rfl):
  cj b (.Call (.Name "tuple" Y6) [.Call (.Name "zip" q) [g,d] [] YD] [] r) (LC b.K Za):=by
 intro M h C j B A e;refine oT (iV A J L (show e4 "tuple" = Z (.type "tuple") by decide +kernel) (lX ?_ rfl rfl) ∅ ∅);refine sJ ?_;refine o5 (iV A N O boot_zip (lX (cn (Q YD M h C j _ A e) λYM a ⟨Yl,Yx,k,R,T⟩=>?_) (by rw[Ys,u]) (by rw[u];rfl)));let⟨aQ,aS,f,i,x,@YA,c,v,w,p⟩:=T;subst c;let⟨W,@W,rfl,al,am⟩:=rj R;cases al;cases am;let⟨@Yy,bm,q,z⟩:=k.iw (v Yx<|bZ.refl Yx);let⟨@an,bn,Y6,bs⟩:=k.iw (w Yx<|bZ.refl Yx);have ap:f<a.heap.objs.size:=by let⟨@m,c⟩:=qD q;exact bM c
 have as:i<a.heap.objs.size:=by let⟨@m,c⟩:=qD Y6;exact bM c
 refine Gy Jh ∅ (HA _ _) (Cx _ _) (λa1=>Ig a1 _ _) KC (D9 aQ aS f i Yy.toArray an.toArray) ⟨q,Y6,?_⟩;have o:(a.heap.push {cls:=.type (fu aQ),data:=.fields #[.ref f,.int 0 0]}).objs.size=a.heap.objs.size+1:=hb ..;have s:((a.heap.push {cls:=.type (fu aQ),data:=.fields #[.ref f,.int 0 0]}).push {cls:=.type (fu aS),data:=.fields #[.ref i,.int 0 0]}).objs.size=a.heap.objs.size+2:=by rw[hb,o]
 have t:(((a.heap.push {cls:=.type (fu aQ),data:=.fields #[.ref f,.int 0 0]}).push {cls:=.type (fu aS),data:=.fields #[.ref i,.int 0 0]}).push
  {cls:=.type "tuple",data:=.seq #[.ref a.heap.objs.size,.ref (a.heap.push {cls:=.type (fu aQ),data:=.fields #[.ref f,.int 0 0]}).objs.size]}).objs.size=a.heap.objs.size+3:=by rw[hb,s]
 have D:(gV aQ aS a.heap f i).objs.size=a.heap.objs.size+4:=by unfold gV;rw[hb,t]
 show _/\_;refine⟨⟨_,cO _ rfl,rfl⟩,sC ?_⟩;rw[s,t,D];have E:((gV aQ aS a.heap f i).push {cls:=.type "zip",data:=.fields #[.none,.bool au,.bool au,.ref<|a.heap.objs.size+2,.ref<|a.heap.objs.size+3]}).get? (a.heap.objs.size+4)=Z {cls:=.type "zip",data:=.fields #[.none,.bool au,.bool au,.ref<|a.heap.objs.size+2,.ref<|a.heap.objs.size+3]}:=by rw[<-D];exact cO _ rfl
 have F:((gV aQ aS a.heap f i).push {cls:=.type "zip",data:=.fields #[.none,.bool au,.bool au,.ref<|a.heap.objs.size+2,.ref<|a.heap.objs.size+3]}).get? (a.heap.objs.size+3)=Z {cls:=.type "tuple",data:=.seq #[.none,.none]}:=by
  rw[<-t];exact bJ _ (cO _ rfl)
 have G:((gV aQ aS a.heap f i).push {cls:=.type "zip",data:=.fields #[.none,.bool au,.bool au,.ref<|a.heap.objs.size+2,.ref<|a.heap.objs.size+3]}).get? (a.heap.objs.size+2)=Z {cls:=.type "tuple",data:=.seq #[.ref a.heap.objs.size,.ref<|a.heap.objs.size+1]}:=by
  rw[<-s,<-o];exact bJ _ (bJ _<|cO _ rfl)
 have H:((gV aQ aS a.heap f i).push {cls:=.type "zip",data:=.fields #[.none,.bool au,.bool au,.ref<|a.heap.objs.size+2,.ref<|a.heap.objs.size+3]}).get? (a.heap.objs.size+1)=Z {cls:=.type (fu aS),data:=.fields #[.ref i,.int 0 0]}:=by
  rw[<-o];exact bJ _ (bJ _<|bJ _<|cO _ rfl)
 have I:((gV aQ aS a.heap f i).push {cls:=.type "zip",data:=.fields #[.none,.bool au,.bool au,.ref<|a.heap.objs.size+2,.ref<|a.heap.objs.size+3]}).get? a.heap.objs.size=Z {cls:=.type (fu aQ),data:=.fields #[.ref f,.int 0 0]}:=
  bJ _ (bJ _<|bJ _<|bJ _<|cO _ rfl);have da:∀n m,a.heap.get? n=Z m->((gV aQ aS a.heap f i).push {cls:=.type "zip",data:=.fields #[.none,.bool au,.bool au,.ref<|a.heap.objs.size+2,.ref<|a.heap.objs.size+3]}).get? n=Z m:=λn m c=>
  bJ _ (bJ _<|bJ _<|bJ _<|bJ _ c);generalize ((gV aQ aS a.heap f i).push {cls:=.type "zip",data:=.fields #[.none,.bool au,.bool au,.ref<|a.heap.objs.size+2,.ref<|a.heap.objs.size+3]})=bv at I H G F E da ⊢;have y:l2 (a.heap.objs.size+4) (a.heap.objs.size+2) (a.heap.objs.size+3) a.heap.objs.size (a.heap.objs.size+1) f i:=Kd _ _ _ ap as;refine TC (b:=b) (M:=M) (C:=C) (k.ok.hd l) y v w (k.kept (YU:=a.toks) da) (λn l=>?_) ⟨E,G,⟨_,_,F⟩,uK I,uK H⟩ λYn P S U a2 bd be z bi=>⟨.ref U,_,bd,rfl,p P S U a2 be z bi⟩;have:a.heap.objs.size<=n:=by
  simp only[bW,jf,e9]at l;rcases l with rfl|rfl|rfl|rfl|rfl
  ·exact jW _ _
  ·exact jW _ _
  ·exact jW _ _
  ·exact bp _
  ·exact jW _ _
 exact k.rg this (k.a4.fresh this)
def Si:∀{I Q:List V}{x YA S:List av},bb j I x->bb j Q YA->S.length=min x.length YA.length->mz j x YA S->bb j (eg I Q) S:=by
 intro I;induction I with
 |nil=>
  intro Q x YA S z E b d;have:=z.length;cases S with
  |nil=>rfl
  |cons D s=>simp at this b;lia
 |cons u I e=>
  intro Q x YA S z E b d;cases Q with
  |nil=>
   have:=E.length;cases S with
   |nil=>rfl
   |cons D s=>simp at this b;lia
  |cons c Q=>
   let⟨f,@m,rfl,YK,YR⟩:=z;let⟨H,@n,rfl,g,h⟩:=E;cases S with
   |nil=>simp at b
   |cons D s=>
    let⟨U,o,@q,rfl,i,k,l⟩:=d 0 D rfl;cases k;cases l;refine⟨.ref U,s,rfl,⟨U,[f,H],rfl,i,⟨f,[H],rfl,YK,H,[],rfl,g,rfl⟩⟩,e YR h (by simp at b ⊢;lia) λa v p=>?_⟩;exact d (a+1) v p
def Mu{J:az (List bw)}(n:dE b "tuple")(o:b.aI "tuple" = Y)(t:dE b "zip")(u:b.aI "zip" = Y)(e:fJ b [g,d] J)(Ys:bH [g,d] b.env=[(au,b0 g b.env),(au,b0 d b.env)]:=by rfl)(w:bH [d] b.env=[(au,b0 d b.env)]:=by rfl)(D:b.calm=aa:=by rfl):
  cI b (.Call (.Name "tuple" Y6) [.Call (.Name "zip" q) [g,d] [] YD] [] r) (Hw J):=by
 refine eW (SR D n o t u e Ys w) λC j B F=>?_;let⟨y,N,s,@YN,X,ah,G,p⟩:=F;let⟨@⟨YG,Yv⟩,z,E⟩:=bC.mp G;let⟨@I,M,h⟩:=bC.mp E;refine⟨y,N,YG,Yv,X,ah,z,λYl Yx YI bv i A O=>?_⟩;have Q:=A.read i M;split at h
 ·rename_i Y2 Y8;let⟨@f,R,T⟩:=bC.mp h;let⟨@H,al,am⟩:=cB.mp T;cases am;let⟨v,@L,rfl,⟨@ca,fU⟩,⟨@cd,gQ⟩⟩:=Bn Q;let⟨an,ap,@x,rfl,as,a1⟩:=xk (Yo:=b.K) fU R;let⟨a2,Zi,@YA,rfl,bd,be⟩:=xk (Yo:=b.K) gQ al;refine⟨an,a2,ap,Zi,x,YA,rfl,λP a=>a1 P a.tupS λg W m c=>a g m c,λP a=>be P a.tupS λg W m c=>a g m c,λP S U a bi bm bn=>?_⟩;have l:bZ P (upd P U<|.tup S):=(bZ.refl P).upd bi;have k:=a.trans l;have bs:bb P (eg f H) S:=Si (as.mono a.tupS.tup) (bd.mono a.tupS.tup) bm bn;exact p _ _ YI [] (i.mono k.tupS λg W m c=>k g m c) ⟨⟨U,S,rfl,e8,bs.mono l.tupS.tup⟩,rfl⟩ (O.new k kR (λg e=>nomatch e) i.chg)
 ·cases h
end
section
variable{b:aO}
def NF{n:Nat}{ZG:bI}{J:ku->hy}{ZI:ku->eH}{Zs:ku->cC}(s:b.N.Nodup)(t:b.N[n]?=Z Zm)(u:ks b.env.scope Zm)(w:b.calm=aa)(YB:j4 b YS own Y1)(T:kp b YT Zl ZG)(x:∀a,ky (b.df (gB b own Y1) YS a) YT<|J a)(bG:∀a,sh (b.df (gB b own Y1) YS a) Zz<|ZI a)(z:∀a,cj (b.df (gB b own Y1) YS a) ZA<|Zs a)(Ys:∀f,me Zl b.env f=pure f:=by intro W;rfl)(B:oQ (.ListComp ZA [⟨YT,Zl,Zz,0⟩] YS YD) (Z<|.Name Zm i) ZN.line b.env=pure aa:=by rfl)(E:b.fn Zm=aa\/b.env.scope.names.lookup Zm=Z .local:=by first|exact .inl rfl|exact .inr rfl|assumption):
  iT b (.Assign [.Name Zm i] (.ListComp ZA [⟨YT,Zl,Zz,0⟩] YS YD) ZN) (y_ (w4 own Y1 ZG J ZI Zs)<|xK n):=by
 intro M h C j G A e;rw[exec_Assign_Name_used _ _ _ _ B];refine ao (wO<|ao ?_);show wpAny _ b.A (do let _ <-Ah (.ListComp ZA [⟨YT,Zl,Zz,0⟩] YS YD) YS b.env _ (pB []) au (b0 Zl b.env) (Z<|ju (.Name Zm i) b.env)) _ _ h;refine ao (g7 (Kt (use:=Z (ju (.Name Zm i) b.env)) (fr:=λ_ Yn=>ew b M G .next Yn) w YB T x bG z Ys A e λy aP as H k I L F o r D q p=>?_) (λ_ Yn P=>aM<|aM P) λ_ W c=>c);show wpAny _ b.A (ju (.Name Zm i) b.env<|.ref y) _ _ H;refine Hi (FI I s t u (v:=.ref y) rfl (λQ S U=>?_) E);let⟨@g,al,l⟩:=U;have am:aP≠g:=by
  rcases l with rfl|l
  ·exact eQ o
  ·exact eQ (r _ _ l)
 exact⟨k,L.sameBut al am,λR cY=>⟨_,_,S.turned (Yu:=aP) (YU:=Q.toks) (λd m an c=>(cY.2 d an).trans c) F (eQ o) (.inr D) r q,p⟩⟩
def H9{Y3:List Nat}{a:Nat}{l:jb}{H:fk}{ZE:az Bool}{ZF:az aj}(d:b.N.Nodup)(e:b.N[a]?=Z Zm)(g:ks b.env.scope Zm)(h:b.calm=aa)(YB:j4 b YS own Y1)(ah:Y1.Nodup)(T:l6 b YT Zl l)(k:∀c,hZ (b.df (gB b own Y1) YS c) (qx own.length Y1.length) YT H)(bG:∀c,w6 (b.df (gB b own Y1) YS c) Zz ZE)(m:∀c,cI (b.df (gB b own Y1) YS c) ZA ZF)(n:a∉Y3)(Ys:∀f,me Zl b.env f=pure f:=by intro W;rfl)(o:oQ (.ListComp ZA [⟨YT,Zl,Zz,0⟩] YS YD) (Z<|.Name Zm i) ZN.line b.env=pure aa:=by rfl)(q:b.fn Zm=aa\/b.env.scope.names.lookup Zm=Z .local:=by first|exact .inl rfl|exact .inr rfl|assumption):
  iN b Y3 (.Assign [.Name Zm i] (.ListComp ZA [⟨YT,Zl,Zz,0⟩] YS YD) ZN) (bP a<|fN own.length Y1 l H ZE ZF):=by
 refine kV (NF d e g h YB T k bG m Ys o q) λYq C j r=>?_;let⟨y,N,aR,@YN,X,t,u,p⟩:=r;let⟨@⟨s,Yv⟩,z,E⟩:=bC.mp u;split at E
 ·rename_i w;cases E;refine IT ah ⟨y,N,s,_,X,t,z,λv Yx YI Ym x YV A=>?_⟩;let⟨YY,@b9,B,YZ⟩:=x.put (a:=a) YV w;exact p _ Yx YY (dm.set n) B (A.less YZ)
 ·cases E
def ua:aj->aj
 |.lst f=>.im (.aR f)
 |.bN []=>.im .fd
 |u=>u
@[simp] theorem X2(f:List V):ua (.lst f)=.im (.aR f):=rfl
@[simp] theorem Ye(u:V):ua (.im u)=.im u:=rfl
@[simp] def tY(J:az aj):az aj:=λy=>(J y).map λq=>(ua q.1,q.2)
def Nb{L:gu}{a:a3}(YK:j g=Z L)(b:∀x,L≠.tup x)(Zq:∀q v,L≠.dF q v):fx j (upd j g<|.dF a L):=fx.of (λd x c=>by
  have:d≠g:=λD=>by subst D;rw[YK]at c;cases c;exact b _ rfl
  rw[dr this];exact c) λd m L c=>by
  have:d≠g:=λD=>by subst D;rw[YK]at c;cases c;exact Zq _ _ rfl
  rw[dr this];exact c
def XA{c:bz}{J:az aj}(e:cI b c J):cI b c (tY J):=by
 intro M h C j B A O;let⟨y,N,s,@YN,X,ah,as,p⟩:=O;let⟨@⟨S,Yv⟩,z,E⟩:=cB.mp as;cases E;refine cn (@e M h C j (λv Yx=>∃YI Ym,bE Yx Yv C YI/\cP Yx S v Ym/\br j N Yx (YI++Ym)) A ⟨y,N,S,Yv,X,ah,z,λv Yx YI Ym g d n=>⟨YI,Ym,g,d,n⟩⟩) λL k O=>?_;let⟨v,@Yx,r,I,⟨YI,@Ym,U,YV,a⟩⟩:=O;have am:∀{g:ag}{t:a3}{L:gu}{u:V},Yx g=Z L->(∀x,L≠.tup x)->(∀q l,L≠.dF q l)->Ym=[g]->aF b M C (upd Yx g<|.dF t L) k->(fx Yx (upd Yx g<|.dF t L)->cH (upd Yx g<|.dF t L) u (.ref g))->(∀v P Y5 an,bE P Yv C Y5->cP P (.im u) v an->br j N P (Y5++an)->B v P)->ez b M C B (.ref g) k:=by
  intro g t L u YK a1 Zq H a2 hd p;subst H;have ap:=d0.mp a.ah;have bd:g∉YI:=λD=>ap.2.2 g D g (.head _) rfl;have g9:=Nb (a:=t) YK a1 Zq;refine⟨.ref g,_,a2,rfl,p _ _ YI [] (U.mono g9 λd F m c=>by
    have ne:d≠g:=λD=>by subst D;exact bd F
    rw[dr ne];exact c) ⟨hd g9,rfl⟩ ?_⟩
  rw[cA];refine⟨λd m c F=>?_,λd F=>a.sub d<|gd _ F,ap.1,a.tup.trans g9,λd m c=>?_⟩
  ·have:d≠g:=λD=>by
    subst D;rcases a.sub d (fE _<|.head _) with e|e
    ·exact F e
    ·rw[c]at e;cases e
   rw[dr this];exact a.keep d m c F
  ·by_cases D:d=g
   ·exact⟨_,by rw[D];exact e8⟩
   ·let⟨@Y7,be⟩:=a.grow d m c;exact⟨Y7,by rw[dr D];exact be⟩
 cases S with
 |lst f=>
  let⟨g,@x,rfl,YK,YR,H⟩:=YV;cases I;let@⟨D,⟨Yy,@w,al,i⟩⟩:=r.a4 g _ YK;exact am (u:=.aR f) YK (λ_ c=>by cases c) (λ_ W c=>by cases c) H (r.write (R:=k.heap) (YU:=k.toks) (c:=g) (by rw[YK];trivial) (.inl rfl) (λd L W c=>c) ⟨_,i⟩ ⟨i,D,Yy,w,al,i⟩) (λg9=>⟨g,x,_,rfl,e8,YR.mono g9.tup⟩) p
 |bN YE=>
  cases YE with
  |nil=>
   let⟨g,@T,rfl,YK,YR,H⟩:=YV;cases YR;cases I;let@⟨D,G,⟨@x,al,⟨m,Q,@YW,i,bi,bm,bn,bs⟩⟩⟩:=r.a4 g _ YK;cases al;exact am (u:=.fd) YK (λ_ c=>by cases c) (λ_ W c=>by cases c) H (r.write (R:=k.heap) (YU:=k.toks) (c:=g) (by rw[YK];trivial) (.inl rfl) (λd L W c=>c) ⟨_,i⟩ ⟨i,D,G,[],.nil,m,Q,YW,i,bi,bm,bn,bs⟩) (λ_=>⟨g,_,rfl,e8⟩) p
  |cons o s=>exact⟨v,Yx,r,I,p v Yx YI Ym U YV a⟩
 |_=>exact⟨v,Yx,r,I,p v Yx YI Ym U YV a⟩
end
end L2
namespace dk
open Spec PyProof.Rows
end dk
namespace L2
open Spec PyProof.Rows
section
variable{b:aO}
theorem bb.rev{j:ay}:∀{I:List V}{x:List av},bb j I x->bb j I.reverse x.reverse
 |[],x,e=>by cases (show x=[] from e);rfl
 |u::I,x,e=>by
  let⟨v,@s,rfl,z,E⟩:=e;rw[IY,IY];exact E.rev.app ⟨v,[],rfl,z,rfl⟩
end
variable{B:ab->ai->Prop}{d:Bool}{Y8:aj}{L v:ab}{H f:av}{h:ai}{C:a5}{M:List (ag×a3)}{u:V}{j:ay}
theorem K0{e:aX}:∀(w:Nat) {f H:V}{v:ab},V.bo w f=aa->V.bo w H=aa->dS e f v->dS e H v->f=H
 |w,.aV,H,v,_,a7,h,b=>by
  cases (show v=.none from h);cases H with
  |aV=>rfl
  |aB d=>cases b
  |int r=>let⟨@L,c⟩:=b;cases c
  |str D=>let⟨@L,c⟩:=b;cases c
  |tup I=>let⟨W,W,W,@W,c,W⟩:=b;cases c
  |fn g=>cases w<;>cases a7
  |aR g=>cases w<;>cases a7
  |fd=>cases w<;>cases a7
 |w,.aB d,H,v,_,a7,h,b=>by
  cases (show v=.bool d from h);cases H with
  |aV=>cases b
  |aB n=>cases b;rfl
  |int r=>let⟨@L,c⟩:=b;cases c
  |str D=>let⟨@L,c⟩:=b;cases c
  |tup I=>let⟨W,W,W,@W,c,W⟩:=b;cases c
  |fn g=>cases w<;>cases a7
  |aR g=>cases w<;>cases a7
  |fd=>cases w<;>cases a7
 |w,.int a,H,v,_,a7,h,b=>by
  let⟨@i,rfl⟩:=h;cases H with
  |aV=>cases b
  |aB n=>cases b
  |int r=>let⟨@L,c⟩:=b;injection c with c;rw[c]
  |str D=>let⟨@L,c⟩:=b;cases c
  |tup I=>let⟨W,W,W,@W,c,W⟩:=b;cases c
  |fn g=>cases w<;>cases a7
  |aR g=>cases w<;>cases a7
  |fd=>cases w<;>cases a7
 |w,.str a,H,v,_,a7,h,b=>by
  let⟨@i,rfl⟩:=h;cases H with
  |aV=>cases b
  |aB n=>cases b
  |int r=>let⟨@L,c⟩:=b;cases c
  |str D=>let⟨@L,c⟩:=b;injection c with c;rw[c]
  |tup I=>let⟨W,W,W,@W,c,W⟩:=b;cases c
  |fn g=>cases w<;>cases a7
  |aR g=>cases w<;>cases a7
  |fd=>cases w<;>cases a7
 |w+1,.tup I,H,v,q,a7,h,b=>by
  let⟨g,m,YJ,@k,rfl,z,E,t,x⟩:=h;cases H with
  |aV=>cases b
  |aB n=>cases b
  |int r=>let⟨@L,c⟩:=b;cases c
  |str D=>let⟨@L,c⟩:=b;cases c
  |fn g=>cases a7
  |aR g=>cases a7
  |fd=>cases a7
  |tup Q=>
   let⟨C,Y7,F,@G,c,l,J,j,y⟩:=b;cases c;rw[z]at l;cases l;rw[t]at j;injection j with j _;subst j;have all:∀(I Q:List V) (Yl:List ab),V.cQ w I=aa->V.cQ w Q=aa->dM e I Yl->dM e Q Yl->I=Q:=by
    intro I;induction I with
    |nil=>
     intro Q Yl W W g d;cases Q with
     |nil=>rfl
     |cons c Q=>let⟨W,@W,p,W⟩:=d;rw[show Yl=[] from g]at p;cases p
    |cons u I A=>
     intro Q Yl YK YR g d;let⟨v,@s,rfl,B,Zi⟩:=g;cases Q with
     |nil=>cases (show v::s=[] from d)
     |cons c Q=>
      let⟨M,@Zd,p,aQ,aS⟩:=d;cases p;rw[V.cQ,cU]at YK YR;rw[K0 w YK.1 YR.1 B aQ,A Q s YK.2 YR.2 Zi aS]
   rw[all I Q _ q a7 x y]
 |0,.tup _,_,_,o,_,_,_=>by cases o
 |w,.fn _,_,_,o,_,_,_=>by cases w<;>cases o
 |w,.aR _,_,_,o,_,_,_=>by cases w<;>cases o
 |w,.fd,_,_,o,_,_,_=>by cases w<;>cases o
open Classical in
def kS(e:aX)(u:V)(v:ab):Bool:=(if D:∃f,V.bo 8 f=aa/\dS e f v then ct D.choose u else au)
def nP{e:aX}{f:V}(o:V.bo 8 f=aa)(a:dS e f v):kS e u v=ct f u:=by
 unfold kS;have D:∃f,V.bo 8 f=aa/\dS e f v:=⟨f,o,a⟩;rw[dif_pos D,K0 8 D.choose_spec.1 o D.choose_spec.2 a]
theorem rD{e:aX}{u:V}:∀{I:List V}{Yl:List ab},V.cQ 8 I=aa->dM e I Yl->Yl.any (kS e u)=I.any λf=>ct f u
 |[],Yl,_,c=>by rw[show Yl=[] from c];rfl
 |f::I,Yl,o,c=>by
  let⟨v,@s,rfl,z,E⟩:=c;rw[V.cQ,cU]at o;rw[nI,nI,nP o.1 z,rD o.2 E]
theorem p7{e:aX}:∀{I:List V}{Yl:List ab}{v:ab},V.cQ 8 I=aa->dM e I Yl->v∈Yl->∃f,V.bo 8 f=aa/\dS e f v
 |[],Yl,v,_,c,k=>by rw[show Yl=[] from c]at k;cases k
 |f::I,Yl,v,o,c,k=>by
  let⟨L,@s,rfl,z,E⟩:=c;rw[V.cQ,cU]at o;rcases bW.mp k with rfl|k
  ·exact⟨f,o.1,z⟩
  ·exact p7 o.2 E k
section
variable{b:aO}
def h1(u:V):aj->Option Bool
 |.im (.tup I)=>if (V.bo 8 u&&V.cQ 8 I)=aa then Z (I.any λf=>ct f u) else Y
 |.lst I=>if (V.bo 8 u&&V.cQ 8 I)=aa then Z (I.any λf=>ct f u) else Y
 |.bN YE=>match u with
  |.tup o=>if V.keys 7 o=aa then Z (fS YE o).isSome else Y
  |_=>Y
 |.dU YE=>match u with
  |.int a=>Z (fS YE<|.inl a).isSome
  |.str f=>Z (fS YE<|.inr f).isSome
  |_=>Y
 |_=>Y
@[simp] theorem Ii(u:V)(I:List V):h1 u (.im<|.tup I)=if (V.bo 8 u&&V.cQ 8 I)=aa then Z (I.any λf=>ct f u) else Y:=rfl
@[simp] theorem O6(u:V)(I:List V):h1 u (.lst I)=if (V.bo 8 u&&V.cQ 8 I)=aa then Z (I.any λf=>ct f u) else Y:=rfl
@[simp] theorem XY(o:List V)(YE:List (List V×V)):h1 (.tup o) (.bN YE)=if V.keys 7 o=aa then Z (fS YE o).isSome else Y:=rfl
@[simp] def k8:gi:=λg d=>match g with
 |.im u=>(h1 u d).map λs=>.im (.aB s)
 |_=>Y
@[simp] def lP:gi:=λg d=>match g with
 |.im u=>(h1 u d).map λs=>.im (.aB<|!s)
 |_=>Y
def p6{YQ:Type}[DecidableEq YQ]{j:ay}{o:YQ}{YE:List (YQ×V)}{T:List (YQ×av)}(e:ff j YE T):(h9 T o).isSome=(fS YE o).isSome:=by
 cases c:fS YE o with
 |none=>rw[(qX e).2 c];rfl
 |some u=>let⟨@v,z,W⟩:=(qX e).1 u c;rw[z];rfl
def LX(J:b.A.units+20<bQ)(A:aF b M C j h)(m:cw f v)(n:cw H L)(r:cH j u f)(s:gn j Y8 H)(c:h1 u Y8=Z d)(p:∀Yn,aF b M C j Yn->B (.bool d) Yn):wpAny (aN b.prog b.w) b.A (eS .In v L) B b.c1 h:=by
 unfold h1 at c;split at c
 ·rename_i I;split at c
  ·rename_i e;cases c;rw[cU]at e;let⟨g,@x,rfl,z,E⟩:=s.i;cases n;let⟨@Yy,P,q,W⟩:=A.tuple (cL.of z);have y:=E.fb A.a4 P;refine SeqAt.in_tupleAt (kS h.heap u) (show h.heap.IsTuple g Yy.toArray from q) (λl N=>?_) ?_
   ·let⟨@D,F,G⟩:=p7 e.2 y ⇑N;rw[nP F G];exact ic 8 F e.1 (by show b.A.units+1+8+1<bQ;lia) G (r.fb A.a4 m)
   ·rw[uU,rD e.2 y];exact p h A
  ·cases c
 ·rename_i I;split at c
  ·rename_i e;cases c;rw[cU]at e;let⟨W,g,@x,rfl,z,E,W⟩:=s;cases n;let⟨@Yy,q,y,W⟩:=oE A z E;refine SeqAt.in_listAt (kS h.heap u) q (λl N=>?_) ?_
   ·let⟨@D,F,G⟩:=p7 e.2 y ⇑N;rw[nP F G];exact ic 8 F e.1 (by show b.A.units+1+8+1<bQ;lia) G (r.fb A.a4 m)
   ·rw[uU,rD e.2 y];exact p h A
  ·cases c
 ·rename_i YE;split at c
  ·rename_i o;split at c
   ·rename_i Q;cases c;let⟨W,g,@T,rfl,z,E,W⟩:=s;cases n;let⟨d,@YA,rfl,R,S⟩:=r;rw[<-p6 E]at p;exact yA J A (hp.t z ⟨Q,d,YA,rfl,R,S⟩) m p
   ·cases c
  ·cases c
 ·rename_i YE;split at c
  ·rename_i a;cases c;let⟨W,g,@T,rfl,z,E,W⟩:=s;cases n;rw[<-p6 E]at p;cases (show f=cK (.inl a) from r);exact yA J A (hp.k z) m p
  ·rename_i a;cases c;let⟨W,g,@T,rfl,z,E,W⟩:=s;cases n;rw[<-p6 E]at p;cases (show f=cK (.inr a) from r);exact yA J A (hp.k z) m p
  ·cases c
 ·cases c
def Bd(e:b.A.units+20<bQ):fQ b (eS .In) k8:=by
 intro M h C j f H v L B A g k l;let⟨Y2,Y8,@u,m,n,c,p⟩:=l;unfold k8 at c;split at c
 ·let⟨@d,o,q⟩:=cB.mp c;cases q;exact LX e A g k m.i n o λYn r=>⟨.aB d,j,r,rfl,ck.i p rfl⟩
 ·cases c
def Np(J:b.A.units+20<bQ)(A:aF b M C j h)(m:cw f v)(n:cw H L)(r:cH j u f)(s:gn j Y8 H)(c:h1 u Y8=Z d)(p:∀Yn,aF b M C j Yn->B (.bool<|!d) Yn):wpAny (aN b.prog b.w) b.A (eS .NotIn v L) B b.c1 h:=by
 unfold h1 at c;split at c
 ·rename_i I;split at c
  ·rename_i e;cases c;rw[cU]at e;let⟨g,@x,rfl,z,E⟩:=s.i;cases n;let⟨@Yy,P,q,W⟩:=A.tuple (cL.of z);have y:=E.fb A.a4 P;refine SeqAt.notIn_tupleAt (kS h.heap u) (show h.heap.IsTuple g Yy.toArray from q) (λl N=>?_) ?_
   ·let⟨@D,F,G⟩:=p7 e.2 y ⇑N;rw[nP F G];exact ic 8 F e.1 (by show b.A.units+1+8+1<bQ;lia) G (r.fb A.a4 m)
   ·rw[uU,rD e.2 y];exact p h A
  ·cases c
 ·rename_i I;split at c
  ·rename_i e;cases c;rw[cU]at e;let⟨W,g,@x,rfl,z,E,W⟩:=s;cases n;let⟨@Yy,q,y,W⟩:=oE A z E;refine SeqAt.notIn_listAt (kS h.heap u) q (λl N=>?_) ?_
   ·let⟨@D,F,G⟩:=p7 e.2 y ⇑N;rw[nP F G];exact ic 8 F e.1 (by show b.A.units+1+8+1<bQ;lia) G (r.fb A.a4 m)
   ·rw[uU,rD e.2 y];exact p h A
  ·cases c
 ·rename_i YE;split at c
  ·rename_i o;split at c
   ·rename_i Q;cases c;let⟨W,g,@T,rfl,z,E,W⟩:=s;cases n;let⟨d,@YA,rfl,R,S⟩:=r;rw[<-p6 E]at p;exact yJ J A (hp.t z ⟨Q,d,YA,rfl,R,S⟩) m p
   ·cases c
  ·cases c
 ·rename_i YE;split at c
  ·rename_i a;cases c;let⟨W,g,@T,rfl,z,E,W⟩:=s;cases n;rw[<-p6 E]at p;cases (show f=cK (.inl a) from r);exact yJ J A (hp.k z) m p
  ·rename_i a;cases c;let⟨W,g,@T,rfl,z,E,W⟩:=s;cases n;rw[<-p6 E]at p;cases (show f=cK (.inr a) from r);exact yJ J A (hp.k z) m p
  ·cases c
 ·cases c
def E4(e:b.A.units+20<bQ):fQ b (eS .NotIn) lP:=by
 intro M h C j f H v L B A g k l;let⟨Y2,Y8,@u,m,n,c,p⟩:=l;unfold lP at c;split at c
 ·let⟨@d,o,q⟩:=cB.mp c;cases q;exact Np e A g k m.i n o λYn r=>⟨.aB<|!d,j,r,rfl,ck.i p rfl⟩
 ·cases c
@[simp] def Iw(F a:gi)(Zp Zk ZE:az bw):az aj:=λy=>(Zp y).bind λq=>(Zk q.2).bind λp=>(eY p.2 q.1).bind λY2=>(eY p.2 p.1).bind λY8=>(F Y2 Y8).bind λu=>(q7 u).bind λo=>
 if o=aa then (ZE p.2).bind λs=>(eY s.2 p.1).bind λb=>(eY s.2 s.1).bind λc=>(a b c).bind λD=>(q7 D).map λd=>(.im<|.aB d,s.2) else Z (.im<|.aB au,p.2)
end
mutual
def bu:V->V->Bool
 |.int a,.int r=>decide (a<r)
 |.tup g,.tup d=>gZ g d
 |_,_=>au
def gZ:List V->List V->Bool
 |[],[]=>au
 |[],_::_=>aa
 |_::_,[]=>au
 |g::s,d::i=>if V.beq g d=aa then gZ s i else bu g d
end
mutual
def eN:Nat->V->V->Bool
 |_,.int _,.int _=>aa
 |w+1,.tup g,.tup d=>gj w g d
 |_,_,_=>au
def gj:Nat->List V->List V->Bool
 |_,[],[]=>aa
 |w,g::s,d::i=>eN w g d&&gj w s i
 |_,_,_=>au
end
theorem vN:∀{w:Nat}{g d:List V},gj w g d=aa->g.length=d.length
 |_,[],[],_=>rfl
 |w,g::s,d::i,e=>by
  rw[gj,cU]at e;rw[c8,c8,vN e.2]
 |_,[],_::_,e=>by cases e
 |_,_::_,[],e=>by cases e
mutual
theorem qi:∀{w:Nat}{g d:V},eN w g d=aa->V.bo w g=aa/\V.bo w d=aa/\ct g d=V.beq g d
 |w,.int a,.int r,_=>by
  refine⟨by cases w<;>rfl,by cases w<;>rfl,?_⟩;rw[ct,V.beq];by_cases e:a=r<;>simp[e]
 |w+1,.tup g,.tup d,e=>by
  rw[eN]at e;let@⟨z,E,b⟩:=EI e;exact⟨z,E,by rw[ct,V.beq];exact b⟩
theorem EI:∀{w:Nat}{g d:List V},gj w g d=aa->V.cQ w g=aa/\V.cQ w d=aa/\eU g d=V.mh g d
 |w,[],[],_=>⟨by cases w<;>rfl,by cases w<;>rfl,rfl⟩
 |w,g::s,d::i,e=>by
  rw[gj,cU]at e;let@⟨z,E,a⟩:=qi e.1;let@⟨b,c,f⟩:=EI e.2;exact⟨by rw[V.cQ,z,b];rfl,by rw[V.cQ,E,c];rfl,by rw[eU,V.mh,a,f]⟩
end
def o4{g d:V}(e:¬ g=d):V.beq g d=au:=by
 cases c:V.beq g d with
 |false=>rfl
 |true=>exact absurd ((V.beq_iff g d).mp c) e
mutual
theorem xm:∀g:V,bu g g=au
 |.int a=>by simp[bu]
 |.tup g=>by rw[bu];exact FD g
 |.aV=>rfl
 |.aB _=>rfl
 |.str _=>rfl
 |.fn _=>rfl
 |.aR _=>rfl
 |.fd=>rfl
theorem FD:∀g:List V,gZ g g=au
 |[]=>rfl
 |g::s=>by rw[gZ,aE<|(V.beq_iff g g).mpr rfl];exact FD s
end
mutual
theorem q4:∀{w:Nat}{g d:V},eN w g d=aa->g≠d->bu g d=!(bu d g)
 |w,.int a,.int r,_,e=>by
  have:a≠r:=λc=>e (by rw[c]);rw[bu,bu];rcases Int.lt_or_gt_of_ne this with J|J
  ·simp[J];lia
  ·simp[J];lia
 |w+1,.tup g,.tup d,e,c=>by
  rw[eN]at e;rw[bu,bu];exact CO e λD=>c (by rw[D])
theorem CO:∀{w:Nat}{g d:List V},gj w g d=aa->g≠d->gZ g d=!(gZ d g)
 |w,[],[],_,e=>absurd rfl e
 |w,g::s,d::i,e,c=>by
  rw[gj,cU]at e;rw[gZ,gZ];by_cases D:g=d
  ·subst D;rw[aE ((V.beq_iff g g).mpr rfl),aE<|(V.beq_iff g g).mpr rfl];exact CO e.2 λl=>c (by rw[l])
  ·rw[o4 D,o4<|λl=>D l.symm,aH dj,aH dj];exact q4 e.1 D
end
mutual
theorem se:∀{w:Nat}{g d n:V},eN w g d=aa->eN w d n=aa->bu g d=aa->bu d n=aa->bu g n=aa
 |w,.int a,.int r,.int o,_,_,z,E=>by
  rw[bu]at z E ⊢;have:=gf z;have:=gf E;exact dx (by omega)
 |w+1,.tup g,.tup d,.tup n,b,c,z,E=>by
  rw[eN]at b c;rw[bu]at z E ⊢;exact Il b c z E
theorem Il:∀{w:Nat}{g d n:List V},gj w g d=aa->gj w d n=aa->gZ g d=aa->gZ d n=aa->gZ g n=aa
 |w,[],[],[],_,_,e,_=>e
 |w,g::s,d::i,n::L,c,b,z,E=>by
  rw[gj,cU]at c b;rw[gZ]at z E ⊢;by_cases f:g=d
  ·subst f;rw[aE ((V.beq_iff g g).mpr rfl)]at z;by_cases a:g=n
   ·subst a;rw[aE ((V.beq_iff g g).mpr rfl)]at E ⊢;exact Il c.2 b.2 z E
   ·rw[o4 a,aH dj]at E ⊢;exact E
  ·rw[o4 f,aH dj]at z;by_cases a:d=n
   ·subst a;rw[o4 f,aH dj];exact z
   ·rw[o4 a,aH dj]at E;have h:=se c.1 b.1 z E;have j:¬ g=n:=λl=>by
     subst l;have:=q4 b.1 a;rw[z,E]at this;cases this
    rw[o4 j,aH dj];exact h
end
def Aj(O:bA)(h:ai)(H f:ab)(o:Bool):Prop:=(∀(Yw:bO) (l:bh) (Yq:ab->ai->Prop) (B:ab->ai->Prop),B (.bool o) h->wpAny (aN Yw l) O (oW .Lt H f) B Yq h)
def h8(F:Bool):List (Bool×Bool)->Bool
 |[]=>F
 | (c,o)::s=>if c=aa then h8 F s else o
section
open SeqAt
open AutoSeq1 (wpAny_loadPart')
open MeetsSeq MeetsSeq2 MeetsSeq3
def W7(t d:ag)(YJ b:Array ab)(w Zq:Nat)(y A:Option ag)(aZ B:Array (Option ab))(Yz:List (Bool×Bool))(P:Yz.length=min YJ.size b.size):
  Meets (aY.«tuple.__lt__» ⟨[.ref t,.ref d],[]⟩)
   (λO Ym h=>h.heap.get? t=Z {cls:=.type "tuple",dict:=y,data:=.seq YJ w,slots:=aZ}/\h.heap.get? d=Z {cls:=.type "tuple",dict:=A,data:=.seq b Zq,slots:=B}/\
    (∀r (z:r<YJ.size) (E:r<b.size) (m:r<Yz.length),EqAt O.in1 h YJ[r] b[r] (Yz[r]).1/\((Yz[r]).1=au->Aj O.in1 h YJ[r] b[r] (Yz[r]).2))/\
    Ym (.ok<|.ret<|.bool<|h8 (decide (YJ.size<b.size)) Yz) h):=
 .of_wp λYw l O Ym h e=>by
  let⟨j,J,u,YX,YG⟩:=h;let@⟨C,D,F,e⟩:=e;have Q:=HZ;have p:(YJ.toList.zip b.toList).length=min YJ.size b.size:=by simp
  wp_walk using wpAny_loadPart' C,wpAny_loadPart' D,nF _ (λc_ d Yn=>d.1=Y/\Yn=⟨j,J,u,YX,YG⟩/\∃a,c_=(YJ.toList.zip b.toList).drop a/\
   Ym (.ok<|.ret<|.bool<|h8 (decide (YJ.size<b.size))<|Yz.drop a) ⟨j,J,u,YX,YG⟩) _
  case turn=>
   rintro⟨H,f⟩ c_ d Yn ⟨n,rfl,a,g,i⟩;have q:a<(YJ.toList.zip b.toList).length:=by
    rcases gS a (YJ.toList.zip b.toList).length with R|R
    ·exact R
    ·rw[m_ R]at g;cases g
   have S:a<min YJ.size b.size:=p ▸ q;have z:a<YJ.size:=⋯
   have E:a<b.size:=⋯
   have m:a<Yz.length:=⋯
   rw[jF q]at g;injection g with s G;have I:H=YJ[a]:=by have:=congrArg Prod.fst s;simpa using this
   have L:f=b[a]:=by have:=congrArg Prod.snd s;simpa using this
   subst I L;rw[jF m]at i;let@⟨v,x⟩:=F a z E m;generalize Yz[a]=M at i v x;let⟨c,o⟩:=M;refine ao (v Yw l _ _ ?_);cases c with
   |true=>
    have k:Ym (.ok<|.ret<|.bool<|h8 (decide (YJ.size<b.size))<|Yz.drop<|a+1) ⟨j,J,u,YX,YG⟩:=i
    wp_walk
    exact⟨rfl,rfl,a+1,G,k⟩
   |false=>
    have k:Ym (.ok<|.ret<|.bool o) ⟨j,J,u,YX,YG⟩:=i;have N:=x rfl Yw l
    wp_walk using N
    exact⟨_,rfl,by simpa using k⟩
  case fin=>
   rintro⟨aQ,aS⟩ Yn ⟨n,rfl,a,g,i⟩;simp only at n;subst n;have T:min YJ.size b.size<=a:=by
    rcases gS a (YJ.toList.zip b.toList).length with R|R
    ·rw[jF R]at g;cases g
    ·exact p ▸ R
   rw[m_ ⋯]at i;have k:Ym (.ok<|.ret<|.bool<|decide (YJ.size<b.size)) ⟨j,J,u,YX,YG⟩:=i
   wp_walk
   exact⟨_,rfl,by simpa [aY.Tuple.tupleCompareSizes] using k⟩
  case h=>
   exact⟨rfl,rfl,0,rfl,by simpa using e⟩
end
def lr(I Q:List V):List (Bool×Bool):=((I.zip Q).map λq=>(ct q.1 q.2,bu q.1 q.2))
theorem Dk:∀{w:Nat}{I Q:List V},gj w I Q=aa->h8 au (lr I Q)=gZ I Q
 |_,[],[],_=>rfl
 |w,g::s,d::i,e=>by
  rw[gj,cU]at e;show (if ct g d=aa then h8 au (lr s i) else bu g d)=gZ (g::s) (d::i);rw[gZ,(qi e.1).2.2,Dk e.2]
 |_,[],_::_,e=>by cases e
 |_,_::_,[],e=>by cases e
theorem Cf{w:Nat}:∀{I Q:List V}{r:Nat}{g d:V},gj w I Q=aa->I[r]?=Z g->Q[r]?=Z d->eN w g d=aa
 |[],Q,r,g,d,_,e,_=>by simp at e
 |u::I,[],r,g,d,e,_,_=>by cases e
 |u::I,c::Q,0,g,d,e,z,E=>by
  rw[gj,cU]at e;cases z;cases E;exact e.1
 |u::I,c::Q,r+1,g,d,e,z,E=>by
  rw[gj,cU]at e;exact Cf (r:=r) e.2 ⇑z ⇑E
def D4{O:bA}{a r:Int}(b:dS h.heap (.int a) L)(c:dS h.heap (.int r) v):Aj O h L v (bu (.int a)<|.int r):=by
 let⟨@i,rfl⟩:=b;let⟨@YU,rfl⟩:=c;intro Yw l Yq B p;rw[bu]at p;exact dk.S4 O h a i r YU Yw l Yq B p
def tW:∀{w:Nat}{f H:V},eN w f H=aa->(∃a r,f=.int a/\H=.int r)\/∃k g d,w=k+1/\f=.tup g/\H=.tup d/\gj k g d=aa:=by
 intro w f H e;unfold eN at e;split at e
 ·exact .inl ⟨_,_,rfl,rfl⟩
 ·exact .inr ⟨_,_,_,rfl,rfl,rfl,e⟩
 ·cases e
def IX(w:Nat):∀{O:bA}{f H:V}{L v:ab},eN w f H=aa->O.units+w+2<bQ->dS h.heap f L->dS h.heap H v->Aj O h L v (bu f H):=by
 induction w with
 |zero=>
  intro O f H L v e J b i;rcases tW e with ⟨a,r,rfl,rfl⟩|⟨k,_,_,c,_⟩
  ·exact D4 b i
  ·cases c
 |succ w M=>
  intro O f H L v e J b i;rcases tW e with ⟨a,r,rfl,rfl⟩|⟨k,I,Q,c,rfl,rfl,e⟩
  ·exact D4 b i
  cases c;let⟨g,m,Yy,@k,rfl,z,E,j,n⟩:=b;let⟨d,Y7,y,@P,rfl,o,q,s,t⟩:=i;let⟨cls,R,data,aZ⟩:=m;let⟨a2,S,bd,T⟩:=Y7;simp only at E j q s;subst E j q s;have be:=vN e;have U:I.length=Yy.size:=by rw[n.length,dq]
  have al:Q.length=y.size:=by rw[t.length,dq]
  intro Yw l Yq B p;rw[bu,<-Dk e]at p;have am:(lr I Q).length=min Yy.size y.size:=by rw[lr,ba,ll,U,al]
  have hd:decide (Yy.size<y.size)=au:=dC ⋯;refine EO (op:=.Lt) ⟨_,z,rfl⟩ ⟨_,o,rfl⟩ PySem.F.slot_tuple_lt PySem.F.entry_tuple_lt (PySem.F.args_tuple_lt_2 _ _) (W7 g d Yy y k P R S aZ T (lr I Q) am)
   ⟨z,o,λr an ap as=>?_,show ab.bool (h8 (decide (Yy.size<y.size))<|lr I Q)≠ab.notImplemented/\B (.bool<|h8 (decide (Yy.size<y.size))<|lr I Q) h from ⟨(λf=>nomatch f),by rw[hd];exact p⟩⟩ ⋯;let⟨@Y2,u,x⟩:=n.get (r:=r) (v:=Yy[r]) (by rw[e0];simp[an]);let⟨@Y8,A,C⟩:=t.get (r:=r) (v:=y[r]) (by rw[e0];simp[ap]);have lk:=Cf e u A;have G:=qi lk;have a1:(lr I Q)[r]=(ct Y2 Y8,bu Y2 Y8):=by
   have:(lr I Q)[r]?=Z (ct Y2 Y8,bu Y2 Y8):=by
    rw[lr,ea,(mC (z:=(Y2,Y8))).mpr ⟨u,A⟩];rfl
   rw[dz as]at this;exact Option.some.inj this
  rw[a1];exact⟨ic w G.1 G.2.1 (by show O.units+1+w+1<bQ;lia) x C,λ_=>M lk (by show O.units+1+w+2<bQ;lia) x C⟩
end L2
namespace L2
open Spec PyProof.Rows PySem.W
variable{Yy:List ab}{t I:List V}
theorem Fx{YH:Type}{q p:YH->Bool}:∀{t:List YH},(∀f∈t,q f=aa->p f=aa)->(∃f∈t,p f=aa/\q f=au)->t.countP q<t.countP p
 |[],_,e=>by let⟨@f,a,W⟩:=e;cases a
 |g::t,e,⟨f,a,z,E⟩=>by
  rw[I6,I6];have le:t.countP q<=t.countP p:=List.countP_mono_left λH b=>e H (.tail _ b);rcases bW.mp a with rfl|a
  ·rw[z,E];simp;omega
  ·have:=Fx (λH b=>e H<|.tail _ b) ⟨f,a,z,E⟩;have c:=e g (.head _);cases d:q g<;>cases h:p g<;>rw[d,h]at c<;>simp at c ⊢<;>omega
structure pd(I:List V):Prop where
 i0:I.length<=1000
 ke:∀g∈I,∀d∈I,eN 6 g d=aa
structure wV(I:List V):Prop where
 i0:I.length<=1000
 ke:∀g∈I,∀d∈I,eN 6 g d=aa
 ah:I.Nodup
def wV.w{I:List V}(m:wV I):pd I:=⟨m.i0,m.ke⟩
def ql(I:List V)(f:V):Nat:=(I.countP λu=>bu u f)
def DM(m:pd I){f H:V}(a:f∈I)(b:H∈I)(e:bu f H=aa):ql I f<ql I H:=
 Fx (λD d c=>se (m.ke D d f a) (m.ke f a H b) c e) ⟨f,a,e,xm f⟩
def HW(m:pd I){f H:V}(a:f∈I)(b:H∈I):decide ((ql I f:Int)<(ql I H:Int))=bu f H:=by
 cases c:bu f H with
 |true=>exact dx (by have:=DM m a b c;lia)
 |false=>
  refine dC λD=>?_;by_cases e:f=H
  ·subst e;lia
  ·have i:=q4 (m.ke f a H b) e;rw[c]at i;have YU:bu H f=aa:=by cases p:bu H f<;>rw[p]at i<;>simp at i ⊢
   have:=DM m b a YU;lia
def oJ(I:List V)(a:Nat):Int:=(ql I (I.getD a .aV))
def u_{a:Nat}(e:a<I.length):I.getD a .aV∈I:=by
 rw[cG,dz e];exact sN e
def BK(m:pd I){q:Array Nat}(b:bY I.length q)(i:iS (oJ I) q I.length):(q.toList.map λa=>I.getD a .aV).Pairwise (λg d=>bu d g=au):=by
 rw[nT];intro a r T e l;have Ys:=b.size;have j:a<I.length:=by simpa [Ys] using T
 have f:r<I.length:=by simpa [Ys] using e
 have le:=i a r ⋯ f;have J:∀o (h:o<(q.toList.map λa=>I.getD a .aV).length),(q.toList.map λa=>I.getD a .aV)[o]=I.getD (q.getD o 0) .aV:=λo h=>by
  have k:o<q.size:=by simpa using h
  rw[GQ,KV];simp[Array.getD,k]
 rw[J a T,J r e];rw[<-HW m (u_<|b.lt f) (u_<|b.lt j)];refine dC ?_;have c:∀o,(ql I (I.getD (q.getD o 0) .aV):Int)=bc (oJ I) q o:=λ_=>rfl;rw[c a,c r];lia
theorem EX:∀{t k:List V},t.Perm k->t.Pairwise (λg d=>bu g d=aa)->k.Pairwise (λg d=>bu g d=aa)->(∀g∈t,∀d∈t,bu g d=aa->bu d g=au)->t=k
 |[],k,q,_,_,_=>(List.nil_perm.mp q).symm
 |g::t,k,q,z,E,a=>by
  cases k with
  |nil=>exact absurd q.length_eq ↥0
  |cons d k=>
   have c:g=d:=by
    by_cases c:g=d
    ·exact c
    ·have h:g∈k:=by
      rcases bW.mp (q.mem_iff.mp<|.head _) with D|D
      ·exact absurd D c
      ·exact D
     have b:d∈t:=by
      rcases bW.mp (q.mem_iff.mpr<|.head _) with D|D
      ·exact absurd D.symm c
      ·exact D
     have i:=(gN.mp z).1 d b;have e:=(gN.mp E).1 g h;rw[a g (.head _) d (.tail _ b) i]at e;cases e
   subst c;rw[EX (Pq q) (gN.mp z).2 (gN.mp E).2 λf j H l=>a f (.tail _ j) H<|.tail _ l]
theorem wN(f:V):∀t:List V,(lD bu f t).Perm (f::t)
 |[]=>List.Perm.refl _
 |H::s=>by
  rw[lD];split
  ·exact List.Perm.refl _
  ·exact (List.Perm.cons H<|wN f s).trans (List.Perm.swap f H s)
theorem kf:∀t:List V,(gC bu t).Perm t
 |[]=>List.Perm.refl _
 |f::s=>(wN f _).trans (List.Perm.cons f<|kf s)
theorem Kz{f:V}:∀{t:List V},t.Pairwise (λg d=>bu g d=aa)->(∀H∈t,f≠H)->(∀g∈f::t,∀d∈f::t,eN 6 g d=aa)->(lD bu f t).Pairwise (λg d=>bu g d=aa)
 |[],_,_,_=>f9 _ _
 |H::s,e,w,lk=>by
  have R:=gN.mp e;rw[lD];split
  ·rename_i c;refine gN.mpr ⟨λD a=>?_,e⟩;rcases bW.mp a with rfl|a
   ·exact c
   ·exact se (lk f (.head _) H<|.tail _<|.head _) (lk H (.tail _<|.head _) D<|.tail _<|.tail _ a) c (R.1 D a)
  ·rename_i c;refine gN.mpr ⟨λD a=>?_,Kz R.2 (λD a=>w D<|.tail _ a) λg b d h=>lk g ?_ d ?_⟩
   ·rcases bW.mp ((wN f s).mem_iff.mp a) with rfl|a
    ·have i:=q4 (lk D (.head _) H<|.tail _<|.head _) (w H<|.head _);cases p:bu H D with
     |true=>rfl
     |false=>rw[p]at i;exact absurd i c
    ·exact R.1 D a
   ·rcases bW.mp b with rfl|b
    ·exact .head _
    ·exact .tail _ (.tail _ b)
   ·rcases bW.mp h with rfl|h
    ·exact .head _
    ·exact .tail _ (.tail _ h)
theorem tA:∀{t:List V},t.Nodup->(∀g∈t,∀d∈t,eN 6 g d=aa)->(gC bu t).Pairwise (λg d=>bu g d=aa)
 |[],_,_=>.nil
 |f::s,ah,lk=>by
  have e:=g5.mp ah;refine Kz (tA e.2 λg a d b=>lk g (.tail _ a) d<|.tail _ b) (λH h c=>e.1 (by rw[c];exact (kf s).mem_iff.mp h)) λg a d b=>lk g ?_ d ?_
  ·rcases bW.mp a with rfl|a
   ·exact .head _
   ·exact .tail _ ((kf s).mem_iff.mp a)
  ·rcases bW.mp b with rfl|b
   ·exact .head _
   ·exact .tail _ ((kf s).mem_iff.mp b)
def JF(m:wV I)(q:t.Perm I)(e:t.Pairwise (λg d=>bu g d=aa)):t=gC bu I:=by
 refine EX (q.trans (kf I).symm) e (tA m.ah m.ke) λg a d b c=>?_;have i:=q4 (m.ke g (q.mem_iff.mp a) d<|q.mem_iff.mp b) (λD=>by subst D;rw[xm]at c;cases c);rw[c]at i;cases p:bu d g with
 |false=>rfl
 |true=>rw[p]at i;cases i
theorem DU{f:V}:∀{t:List V},t.Pairwise (λg d=>bu d g=au)->(∀g∈f::t,∀d∈f::t,eN 6 g d=aa)->(lD bu f t).Pairwise (λg d=>bu d g=au)
 |[],_,_=>f9 _ _
 |H::s,e,lk=>by
  have R:=gN.mp e;unfold lD;split
  ·rename_i c;refine gN.mpr ⟨λD a=>?_,e⟩;cases p:bu D f with
   |false=>rfl
   |true=>
    have i:=se (lk D (.tail _ a) f<|.head _) (lk f (.head _) H<|.tail _<|.head _) p c;rcases bW.mp a with rfl|a
    ·rw[xm]at i;cases i
    ·rw[R.1 D a]at i;cases i
  ·rename_i c;refine gN.mpr ⟨λD a=>?_,DU R.2 λg b d h=>lk g ?_ d ?_⟩
   ·rcases bW.mp ((wN f s).mem_iff.mp a) with rfl|a
    ·cases p:bu D H with
     |false=>rfl
     |true=>exact absurd p c
    ·exact R.1 D a
   ·rcases bW.mp b with rfl|b
    ·exact .head _
    ·exact .tail _ (.tail _ b)
   ·rcases bW.mp h with rfl|h
    ·exact .head _
    ·exact .tail _ (.tail _ h)
theorem KA:∀{t:List V},(∀g∈t,∀d∈t,eN 6 g d=aa)->(gC bu t).Pairwise (λg d=>bu d g=au)
 |[],_=>.nil
 |f::s,lk=>by
  refine DU (KA λg a d b=>lk g (.tail _ a) d<|.tail _ b) λg a d b=>lk g ?_ d ?_
  ·rcases bW.mp a with rfl|a
   ·exact .head _
   ·exact .tail _ ((kf s).mem_iff.mp a)
  ·rcases bW.mp b with rfl|b
   ·exact .head _
   ·exact .tail _ ((kf s).mem_iff.mp b)
def Bc(m:pd I)(q:t.Perm I)(e:t.Pairwise (λg d=>bu d g=au)):t=gC bu I:=by
 refine Na (λg d a b f H=>?_) e (KA m.ke) (q.trans (kf I).symm);by_cases c:g=d
 ·exact c
 ·have i:=q4 (m.ke g (q.mem_iff.mp a) d<|(kf I).mem_iff.mp b) c;rw[f,H]at i;cases i
def iu:V->Bool
 |.tup (.int _::_)=>aa
 |_=>au
def nt:V->Bool
 |.tup (.tup _::_)=>aa
 |_=>au
section
variable{Yw:bO}{l:bh}{O:bA}{Yq:ab->ai->Prop}{h:ai}
theorem Ip{d:Bool}(w:Nat)(j:O.units+w+2<bQ){B:Bool->ai->Prop}:∀{I Q:List V}{Yl P:List ab}{a:Nat},gj w I Q=aa->dM h.heap I Yl->dM h.heap Q P->(d=aa->a=0->∃o s,I=.int o::s)->B (gZ I Q) h->KatLex Yw l O d au B (Yl.zip P) a h
 |[],[],Yl,P,a,_,z,E,_,p=>by
  rw[show Yl=[] from z];exact kat_nil p
 |u::I,c::Q,Yl,P,a,e,z,E,m,p=>by
  rw[gj,cU]at e;let⟨v,@Yl,rfl,f,Zi⟩:=z;let⟨L,@P,rfl,aQ,aS⟩:=E;rw[yL];let@⟨n,Y6,q⟩:=qi e.1;refine kat_cons (ic w n Y6 ⋯ f aQ Yw l _ _ ?_);rw[q];rw[gZ]at p;cases k:V.beq u c with
  |true=>
   rw[k,aE rfl]at p;exact kat_yes (Ip w j e.2 Zi aS (λ_ D=>⋯) p)
  |false=>
   rw[k,aH dj]at p;refine kat_no ?_;by_cases b:(d&&a==0)=aa
   ·rw[b];rw[cU]at b;let⟨o,@s,D⟩:=m b.1 ⇑(b.2);cases D;rcases tW e.1 with ⟨x,r,g,t⟩|⟨_,_,_,_,g,_⟩
    ·cases g;cases t;let⟨@i,rfl⟩:=f;let⟨@YU,rfl⟩:=aQ;rw[bu]at p;exact oneLt_int p
    ·cases g
   ·rw[show (d&&a==0)=au by simpa using b];exact kat_one _ _ (IX w e.1 j f aQ Yw l _ _ p)
 |[],_::_,_,_,_,e,_,_,_,_=>by cases e
 |_::_,[],_,_,_,e,_,_,_,_=>by cases e
def yg{d:Bool}(m:pd I)(i:dM h.heap I Yy)(bG:∀u∈I,∃s,u=.tup s)(w:d=aa->∀u∈I,iu u=aa)(M:O.units+9<bQ):
  gH Yy.length (oJ I) (fX Yw l O (qy d)<|Yy.toArray.zip Yy.toArray) h:=by
 intro a r aP T y p;have N:=i.length;have b:=u_ (I:=I) (a:=a) ⋯;have c:=u_ (I:=I) (a:=r) ⋯;unfold oJ at p;rw[HW m b c]at p;let⟨@Y2,k,z⟩:=i.get (r:=a) (v:=Yy[a]) ↥0;let⟨@Y8,n,A⟩:=i.get (r:=r) (v:=Yy[r]) ↥0;rw[cG,k,cG,n]at p;rw[cG,k]at b;rw[cG,n]at c;let⟨@g,B⟩:=bG Y2 b;let⟨@j,C⟩:=bG Y8 c;subst B C;have lk:gj 5 g j=aa:=m.ke _ b _ c;unfold fX;rw[ve rfl,ve rfl,cG,cG,dz T,dz y];show wpAny _ _ (keyLt' (qy d) Yy[a] Yy[r]) _ _ _;let⟨f,P,x,@Q,D,E,R,F,o⟩:=z;let⟨H,S,YA,@Zq,G,YK,YR,J,q⟩:=A;rw[D,G];refine kat_lt (b:=d) E F YK J ?_;have U:g.length=x.size:=by rw[o.length,dq]
 have al:j.length=YA.size:=by rw[q.length,dq]
 rw[show decide (x.size<YA.size)=au from dC (by have:=vN lk;lia)];refine Ip 5 ⋯ lk o q (λL W=>?_) (by have t:aP (bu (.tup g)<|.tup j) h:=p;rw[bu]at t;exact t);have:=w L _ b;unfold iu at this;split at this
 ·rename_i e;cases e;exact⟨_,_,rfl⟩
 ·cases this
theorem KJ:∀{I:List V}{Yy:List ab},dM h.heap I Yy->(∀u∈I,iu u=aa)\/(∀u∈I,nt u=aa)->∃aJ,KatTups h.heap Yy aJ/\aJ.length=Yy.length/\
  ((∀u∈I,iu u=aa)->∀v∈aJ,∃a i,v=ab.int a i)/\((∀u∈I,nt u=aa)->∀v∈aJ,∃g j,v=ab.ref g/\h.heap.get? g=Z j/\j.cls=.type "tuple")
 |[],Yy,e,_=>by
  rw[show Yy=[] from e];exact⟨[],trivial,rfl,(λ_ W e=>nomatch e),(λ_ W e=>nomatch e)⟩
 |u::I,Yy,e,k=>by
  let⟨v,@s,rfl,z,E⟩:=e;let⟨@aJ,o,q,r,t⟩:=KJ E (k.imp (λD f b=>D f<|.tail _ b) λD f b=>D f<|.tail _ b);have x:∃F Zd,u=.tup (F::Zd):=by
   rcases k with D|D
   ·have:=D u (.head _);unfold iu at this;split at this
    ·exact⟨_,_,rfl⟩
    ·cases this
   ·have:=D u (.head _);unfold nt at this;split at this
    ·exact⟨_,_,rfl⟩
    ·cases this
  let⟨F,@Zd,rfl⟩:=x;let⟨g,m,YJ,@w,rfl,y,A,B,C⟩:=z;let⟨l,@M,c,n,N⟩:=C;have G:YJ[0]?=Z l:=by
   rw[<-e0,c];rfl
  refine⟨l::aJ,KatTups.cons y A B G o,by simp[q],λD L d=>?_,λD L d=>?_⟩
  ·rcases bW.mp d with rfl|d
   ·have:=D _ (.head _);unfold iu at this;split at this
    ·rename_i p;cases p;exact⟨_,n⟩
    ·cases this
   ·exact r (λf b=>D f<|.tail _ b) L d
  ·rcases bW.mp d with rfl|d
   ·have:=D _ (.head _);unfold nt at this;split at this
    ·rename_i p;cases p;let⟨H,Y7,W,@W,J,YK,YR,W⟩:=n;exact⟨H,Y7,J,YK,YR⟩
    ·cases this
   ·exact t (λf b=>D f<|.tail _ b) L d
end
section
variable{b:aO}
theorem bb.pick{j:ay}{YA:List av}(e:bb j I YA):∀{q:List Nat},(∀o∈q,o<I.length)->bb j (q.map λa=>I.getD a .aV) (q.map λa=>YA.getD a .aV)
 |[],_=>rfl
 |o::q,b=>by
  let⟨@v,c,d⟩:=e.get (a:=o) (u:=I.getD o .aV) (by
   have:=b o (.head _);rw[cG,dz this];rfl)
  refine⟨v,_,?_,d,e.pick λr f=>b r<|.tail _ f⟩;rw[cy,cG,c];rfl
structure jG(I:List V):Prop where
 ord:wV I
 fst:(∀u∈I,iu u=aa)\/(∀u∈I,nt u=aa)
structure tg(I:List V):Prop where
 ord:pd I
 fst:(∀u∈I,iu u=aa)\/(∀u∈I,nt u=aa)
def jG.w{I:List V}(m:jG I):tg I:=⟨m.ord.w,m.fst⟩
def tg.tup(m:tg I):∀u∈I,∃s,u=.tup s:=λu hd=>by
 rcases m.fst with D|D
 ·have:=D u hd;unfold iu at this;split at this
  ·exact⟨_,rfl⟩
  ·cases this
 ·have:=D u hd;unfold nt at this;split at this
  ·exact⟨_,rfl⟩
  ·cases this
def dM.qv{e R:aX}(o:∀d m,e.get? d=Z m->R.get? d=Z m){I:List V}{Yl:List ab}(f:dM e I Yl):dM R I Yl:=f.keep λg m W W c W W=>o g m c
def z3{e:aX}{h:ai}(m:tg I)(E:2<=Yy.length)(j:dM h.heap I Yy)(O:bA)(Yq:ab->ai->Prop)(B:hq->ai->Prop)(c:B (qy<|decide (∀u∈I,iu u=aa)) h):
  wpAny (aN b.prog b.w) O (yx Yy.toArray) B Yq h:=by
 let⟨@aJ,k,t,n,o⟩:=KJ j m.fst;have x:=j.length;by_cases d:∀u∈I,iu u=aa
 ·rw[dx d]at c;refine kat_kind (T:=ab.type "int") k ⋯ (λv f=>?_) rfl ?_
  ·let⟨a,@i,rfl⟩:=n d v f;exact Lm rfl
  ·rw[show (ab.type "int" != ab.type "tuple")=aa by decide];exact c
 ·rw[dC d]at c;have p:=m.fst.resolve_left d;refine kat_kind (T:=ab.type "tuple") k ⋯ (λv f=>?_) rfl ?_
  ·let⟨g,@q,rfl,r,s⟩:=o p v f;have:Looks (aN b.prog b.w) h.heap (ug<|.ref g) q.cls:=(Looks.ld r).andThen .now;rw[s]at this;exact this
  ·rw[show (ab.type "tuple" != ab.type "tuple")=au by decide];exact c
def GG(y:b.calm=aa)(Q:b.A.units+20<bQ):eZ b (.builtin "sorted") (λx j B=>∃(g:ag) (I:List V) (YA:List av),x=[.ref g]/\(de b.K j g YA\/cL b.K j g YA)/\bb j I YA/\tg I/\
  ∀t S,j t=Y->bb j (gC bu I) S->B (.ref t) (upd j t<|.lst S)):=by
 intro M h C j x YM B A s e;let⟨g,I,@YA,rfl,Ys,T,m,p⟩:=e;let⟨@L,rfl,z⟩:=hF s;cases z;have D:YA.length<=1000:=by rw[<-T.length];exact m.ord.i0
 have go:∀{U:String}{Yy:List ab}{w:Nat}{d:a3},(U = "list" \/ U = "tuple")->bS YA Yy->h.heap.get? g=Z d->d.cls=.type U->d.data=.seq Yy.toArray w->wpAny (aN b.prog b.w) b.A (call (.builtin "sorted") [.ref g]) (ez b M C B) b.c1 h:=by
  intro U Yy w d F f c aA i;have n:=T.fb A.a4 f;have G:Yy.length=I.length:=n.length.symm;refine F0 y (oJ I) (qy<|decide (∀u∈I,iu u=aa)) A f F c aA i D (λE r YX o O Yq B H=>z3 (e:=r) m E (n.qv o) O Yq B H) (λr YX o=>?_) (.inl (by have:=m.ord.i0;lia)) λq t k v aR=>?_
  ·refine yg (h:={h with heap:=r,toks:=YX}) m.ord (n.qv o) m.tup (λJ=>?_) (by show b.A.units+1+1+9<bQ;lia);exact gf J
  ·rw[G]at k v;have N:(q.toList.map λa=>I.getD a .aV)=gC bu I:=Bc m.ord (xl k) (BK m.ord k v);refine p t _ aR ?_;rw[<-N];exact T.pick λo P=>eT.mp (k.mem_iff.mp P)
 rcases Ys with Ys|Ys
 ·let⟨@Yy,f,q,W⟩:=A.list Ys;let⟨@d,c,aA,⟨@w,i⟩⟩:=q.isList;exact go (.inl rfl) f c aA i
 ·let⟨@Yy,f,q,W⟩:=A.tuple Ys;let⟨@d,c,aA,⟨@w,i⟩⟩:=q;exact go (.inr rfl) f c aA i
theorem J5{j:ay}:∀{YE:List (List V×av)}{Q:List (List V×ag×ab)},es (λ(q:List V×av) (p:List V×ag×ab)=>q.1=p.1/\iB j q.1 p.2.1/\cw q.2 p.2.2) YE Q->
  bb j (YE.map λq=>.tup q.1) (Q.map λf=>av.ref f.2.1)/\bS (Q.map λf=>av.ref f.2.1) (Q.map λf=>ab.ref f.2.1)
 |_,_,.nil=>⟨rfl,.nil⟩
 |_,_,.cons s i=>by
  let@⟨z,E⟩:=J5 i;exact⟨⟨_,_,rfl,s.2.1.2,z⟩,.cons rfl E⟩
def XK(be:b.calm=aa)(cs:b.A.units+20<bQ):eZ b (.builtin "sorted") (λx j B=>∃(u:ag) (YE:List (List V×av)),x=[.ref u]/\j u=Z (.bN YE)/\jG (YE.map λq=>.tup q.1)/\
  ∀t S,j t=Y->bb j (gC bu<|YE.map λq=>.tup q.1) S->B (.ref t) (upd j t<|.lst S)):=by
 intro M h C j x YM B A s e;let⟨u,@YE,rfl,hd,el,p⟩:=e;let⟨@L,rfl,bi⟩:=hF s;cases bi;let@⟨D,G,⟨@Q,rel,⟨m,hT,@YW,bm,bn,bs,bv,ah⟩⟩⟩:=A.a4 u _ hd;let@⟨T,i⟩:=J5 rel;have am:jl h.heap u (Q.map λf=>ab.ref f.2.1) YW:=⟨m,hT,bm,bn,bs,by rw[bv,eP];rfl⟩;generalize (Q.map λf=>ab.ref f.2.1)=Yy at i am;generalize (Q.map λf=>av.ref f.2.1)=YA at T i;generalize db:(YE.map λq=>V.tup q.1)=I at T el p;have F:=T.fb A.a4 i;have an:Yy.length=I.length:=F.length.symm;have i0:=el.ord.i0;have ds:YA.length=Yy.length:=i.length;have ap:Yy.length<=sizeLine:=fa ⋯ (show 1000<=sizeLine by decide);refine Bl y7 zA xI (A1 _) ?D
 case D=>
  unfold aY.«sorted»;refine ao (m:=yb "sorted" 1 1 _) (aM<|ao<|kdu_collect (A:=b.A.in1) (Ue G) (A.ok.hd be) am ap λR YX J N as=>?_);have ca:J.toList=Yy:=by
   apply BR
   ·rw[dq];exact as.1
   ·intro a z E;have:=as.2 a J.toList[a] (by rw[<-e0];exact dz z);have this:Yy[a]?=Z J.toList[a]:=this;rw[dz E]at this;exact (Option.some.inj this).symm
  rw[ca];refine ao (uF ?_ ap);have Zj:(R.push<|gc "list" Yy.toArray 0).get? R.objs.size=Z (gc "list" Yy.toArray 0):=cO _ rfl;have cb:∀d m,h.heap.get? d=Z m->(R.push<|gc "list" Yy.toArray 0).get? d=Z m:=λd m c=>bJ _ (N d m c);have a1:aF b M C j {h with heap:=R,toks:=YX}:=A.kept N;have a2:∀d m,h.heap.get? d=Z m->d≠R.objs.size:=λd m c=>cZ (bM<|N d m c);refine ao (fM<|hP xR ⟨_,Zj,rfl⟩ AO ?H<|yK _)
  case H=>
   refine Aa (h:={h with heap:=R.push (gc "list" Yy.toArray 0),toks:=YX}) (oJ I) (qy<|decide (∀u∈I,iu u=aa)) Zj
    (λE P U B cd=>z3 (b:=b) (e:=P) el.w E (F.qv λd m n=>U d m (a2 d m n)<|cb d m n) _ _ B cd)
    (λP U=>yg (h:={h with heap:=P,toks:=YX}) el.w.ord (F.qv λd m n=>U d m (a2 d m n)<|cb d m n) el.w.tup (λce=>gf ce) (by show b.A.units+1+1+9<bQ;lia))
    (.inl ⋯) ⋯ λq E g bd YR ⟨ch,ci⟩=>⟨_,rfl,aM ⟨_,rfl,?_⟩⟩;have cl:j R.objs.size=Y:=a1.a4.fresh (bp _);have co:∀d m,R.get? d=Z m->d≠R.objs.size:=λd m c=>cZ (bM c);rw[an]at g bd;refine⟨.ref R.objs.size,upd j R.objs.size<|.lst<|q.toList.map λa=>YA.getD a .aV,?_,rfl,p _ _ cl ?_⟩
   ·refine a1.laid (YU:=YX) (λd L c=>YR d L (co d L c)<|bJ _ c) (bp _) ⟨?_,_,ch,?_,ci⟩
    ·rw[ba,dq,g.size];lia
    ·refine rE ↥0 λa v L z E=>?_;rw[ea]at z E;cases al:q.toList[a]? with
     |none=>rw[al]at z;cases z
     |some o=>
      rw[al]at z E;cases z;cases E;have r:o<Yy.length:=by rw[an];exact eT.mp (g.mem_iff.mp<|fL al)
      let⟨@L,y,cr⟩:=i.get (a:=o) (f:=YA[o]'⋯) (by simp[show o<YA.length by lia]);rw[dz r]at y;have y:=Option.some.inj y;simp only[List.getD,dz r,dz (show o<YA.length by lia),tw];rw[y];exact cr
   ·rw[<-Bc el.w.ord (xl g) (BK el.w.ord g bd)];exact T.pick λo r=>eT.mp (g.mem_iff.mp r)
def tq(I:List V):Bool:=(decide (I.length<=1000)&&I.all (λg=>I.all λd=>eN 6 g d)&&decide I.Nodup&&(I.all iu || I.all nt))
def qC:tq I=aa↔jG I:=by
 unfold tq;rw[cU,cU,cU,vz,g8,g8,k9,k9,k9];constructor
 ·rintro⟨⟨⟨z,E⟩,a⟩,b⟩;exact⟨⟨z,λg c d e=>k9.mp (E g c) d e,a⟩,b⟩
 ·rintro⟨⟨z,E,a⟩,b⟩;exact⟨⟨⟨z,λg c=>k9.mpr λd e=>E g c d e⟩,a⟩,b⟩
def j0(I:List V):Option aj:=(if tq I=aa then Z (.lst<|gC bu I) else Y)
def hA:hS:=(λI=>match I with
 |[.lst f]=>match k5 f with
  |some YP=>oU [.lst f]
  |none=>j0 f
 |[.im (.tup f)]=>j0 f
 |[.bN YE]=>j0 (YE.map λq=>.tup q.1)
 |_=>Y)
def xU{u:aj}(e:j0 I=Z u):jG I/\u=.lst (gC bu I):=by
 unfold j0 at e;split at e
 ·rename_i c;cases e;exact⟨qC.mp c,rfl⟩
 ·cases e
theorem IF{j:ay}:∀{YE:List (List V×V)}{T:List (List V×av)},ff j YE T->(YE.map λq=>V.tup q.1)=T.map λq=>V.tup q.1
 |_,_,.nil=>rfl
 |_,_,.cons s i=>by rw[cy,cy,IF i,s.1]
def qW(e:b.calm=aa)(g:b.A.units+20<bQ):hJ b (.builtin "sorted") hA:=by
 intro M h C j x YM B A s m;let⟨I,@u,k,c,p⟩:=m;unfold hA at c;split at c
 ·rename_i f;split at c
  ·exact BL e g M h C j x YM B A s ⟨_,u,k,c,p⟩
  ·let@⟨el,rfl⟩:=xU c;let⟨@v,rfl,⟨W,q,@YA,rfl,z,E,W⟩⟩:=hx k;exact GG e g M h C j _ YM B A s ⟨q,f,YA,rfl,.inl<|de.of z,E,el.w,λt S aR d=>ck.l p aR d⟩
 ·rename_i f;let@⟨el,rfl⟩:=xU c;let⟨@v,rfl,n⟩:=hx k;let⟨q,@YA,rfl,z,E⟩:=n.i;exact GG e g M h C j _ YM B A s ⟨q,f,YA,rfl,.inr<|cL.of z,E,el.w,λt S aR d=>ck.l p aR d⟩
 ·rename_i YE;let@⟨el,rfl⟩:=xU c;let⟨@v,rfl,⟨W,q,@T,rfl,z,E,W⟩⟩:=hx k;rw[IF E]at el p;exact XK e g M h C j _ YM B A s ⟨q,T,rfl,z,el,λt S aR d=>ck.l p aR d⟩
 ·cases c
end
end L2
namespace PySem
open PySem.Sem (wp)
def Uu:oM (.type "list") "keys" = pure Y:=by rw[oj,oA];kernel_rfl
def O4{Yw:bO}{l:bh}{O:bA}{Yq:ab->ai->Prop}{h:ai}{g:ag}{x:Array ab}{o:Nat}{B:Option ab->ai->Prop}(a:h.heap.get? g=Z {cls:=.type "list",data:=.seq x o})(j:O.handled=Y)(e:∀R YX,(∀d m,h.heap.get? d=Z m->R.get? d=Z m)->B Y {h with heap:=R,toks:=YX}):wpAny (aN Yw l) O (getAttr? (.ref g) "keys") B Yq h:=by
 let⟨k,J,u,YX,YG⟩:=h;have b:∀f,(⟨k,J,u,f,YG⟩:ai).TypeIs (.ref g) "list" := λ_=>⟨_,a,rfl⟩;have r:=sub_AttributeError;have s:=Ag.lookup;have t:=Ag.bind (.ref g);have v:=am_list_getattr_none;unfold getAttr? getAttrBy? getAttrBy;repeat (any_goals (first|assumption|exact b _|((with_reducible show wpAny _ _ (call (ab.builtin "list.__getattribute__") _ _) _ _ _);refine my Ag (b _) am_entry_list_getattribute (F.args_list_getattribute_2 _ _) (meets_getattribute_miss_list g x o _ "keys" _ Uu (by decide +kernel) ∅) ⟨a,j,λR f c i=>?_⟩)|wp_step))
 let⟨YU,@w,n⟩:=i.there;show wpAny _ _ (Ht _ _ _ _ _ _ _) _ _ _;unfold Ht;have p:∀q,(⟨R,J,u,q,YG⟩:ai).TypeIs (.ref c) "AttributeError" := λ_=>⟨_,n,rfl⟩;repeat (any_goals (first|assumption|exact p _|wp_step))
 exact e R _ i.keeps
end PySem
namespace PySem
namespace F
def Fj:q8 qM "dict.update.loop" = Z aY.«dict.update.loop»:=HQ (by kernel_rfl)
def xf:plainId "dict.update.loop" = aa:=by decide +kernel
end F
end PySem
namespace L2
open Spec PyProof.Rows PySem.W
variable{h:ai}
theorem AN{YH Zh:Type}{N:YH->Zh->Prop}:∀{b:List YH}{c:List Zh},es N b c->∀(a:Nat),a<b.length->∃g d,b[a]?=Z g/\c[a]?=Z d/\N g d
 |_,_,.nil,a,e=>by simp at e
 |_,_,.cons s i,0,e=>⟨_,_,rfl,rfl,s⟩
 |_,_,.cons s i,a+1,e=>by
  let⟨g,@d,f,H,D⟩:=AN i a ⇑e;exact⟨g,d,by simpa using f,by simpa using H,D⟩
def q9:List V->Option (List<|List V×V)
 |[]=>Z []
 |.tup [.tup o,u]::s=>(q9 s).map λh=>(o,u)::h
 |_=>Y
def NJ:∀{f:List V}{Yz:List (List V×V)},q9 f=Z Yz->f=Yz.map λq=>.tup [.tup q.1,q.2]:=by
 intro f;induction f with
 |nil=>intro Yz e;cases e;rfl
 |cons g f a=>
  intro Yz e;unfold q9 at e;split at e
  ·cases e;rename_i c;cases c
  ·rename_i o u s c;cases c;let⟨@h,b,d⟩:=cB.mp e;cases d;rw[cy,<-a b]
  ·cases e
def nf(Yz:List (List V×V)):List (List V×V):=(Yz.foldl (λg q=>j1 g q.1 q.2) [])
def ya(j:ay)(v:av)(q:List V×V):Prop:=(∃i g H,v=.ref i/\j i=Z (.tup [.ref g,H])/\iB j q.1 g/\cH j q.2 H)
theorem Ez{j:ay}:∀{Yz:List (List V×V)}{YA:List av},(∀q∈Yz,V.keys 7 q.1=aa)->bb j (Yz.map λq=>.tup [.tup q.1,q.2]) YA->es (ya j) YA Yz
 |[],YA,_,e=>by rw[show YA=[] from e];exact .nil
 |q::Yz,YA,a,e=>by
  let⟨v,@s,rfl,⟨i,@S,rfl,z,⟨v1,@n,rfl,E,⟨b,@c,rfl,d,f⟩⟩⟩,h⟩:=e;cases (show c=[] from f);let⟨g,@P,rfl,k,l⟩:=E;exact .cons ⟨i,g,b,rfl,z,⟨a q<|.head _,g,P,rfl,k,l⟩,d⟩ (Ez (λp m=>a p<|.tail _ m) h)
section
variable{b:aO}{M:List (ag×a3)}{C:L2.a5}{j:ay}{U:ai}
def di.is{YE:List (List V×av)}{x:List (List V×ag×ab)}(s:di j YE x):∀f∈x,iB j f.1 f.2.1:=by
 intro f b;let⟨a,T,rfl⟩:=kF.mp b;let⟨q,@p,z,E,c,d,W⟩:=AN s a (by rw[es.length s];exact T);rw[dz T]at E;have E:=Option.some.inj E;subst E;rw[<-c];exact d
def yo(a:aF b M C j U){y:ag}{e R:aX}{YE:List (List V×av)}{x:List (List V×ag×ab)}(c:e.DictOfH (eC b.prog b.w) y x)(Ze:di j YE x)(da:∀d m,U.heap.get? d=Z m->R.get? d=Z m)(g:∀m,e.get? y=Z m->R.get? y=Z m):R.DictOfH (eC b.prog b.w) y x:=by
 let⟨m,Q,@YW,z,E,h,i,W,k⟩:=c;have n:aF b M C j {U with heap:=R}:=a.kept (YU:=U.toks) da;exact⟨m,Q,YW,g m z,E,h,i,λf o=>nH (e:=R) n.a4<|Ze.is f o,k⟩
def Vt(s:aF b M C j U){O:bA}(a1:O.units+20<bQ){y fY t:ag}{Yl:List ab}{YA:List av}{Yz:List (List V×V)}{a5:Nat->aX->Prop}{Ym:pG->ai->Prop}(u:bS YA Yl)(P:es (ya j) YA Yz)(fr:Yz.length<=1000)(W:iD b.prog b.w O.in1 fY [fY,t] [fY] Yl.length (λa v=>Yl[a]?=Z v) a5)(a2:U.heap.get? y=Y)(z:U.heap.get? fY=Y)(A:y≠fY)(bd:y≠t)(be:∀(h:ai) (x:List (List V×ag×ab)) (YE:List (List V×av)),(∀d m,U.heap.get? d=Z m->h.heap.get? d=Z m)->h.heap.DictOfH (eC b.prog b.w) y x->di j YE x->ff j (nf Yz) YE->YE.length<=1000->
   h.gens=U.gens->h.drawn=U.drawn->h.os=U.os->Ym (.ok<|.ret .none) h):
  ∀(k a:Nat) (i:hY) (h:ai) (x:List (List V×ag×ab)) (YE:List (List V×av)),Yl.length-a=k->a<=Yl.length->a5 a h.heap->(∀d m,U.heap.get? d=Z m->h.heap.get? d=Z m)->
   h.heap.DictOfH (eC b.prog b.w) y x->di j YE x->ff j (nf<|Yz.take a) YE->YE.length<=a->h.gens=U.gens->h.drawn=U.drawn->h.os=U.os->
   codeAny (aN b.prog b.w) O (.builtin "dict.update.loop" ⟨[.ref y,.ref fY,.int a i,.none],[]⟩) Ym h:=by
 have f0:Yl.length=Yz.length:=by rw[<-u.length,es.length P]
 intro k;induction k with
 |zero=>
  intro a i h x YE bi T X da B Ze r bm E G I;have bn:a=Yl.length:=⋯
  refine h2 F.Fj ?_;rw[ig F.xf _];refine ao (m:=fv (.ref fY)) (W.done h _ _ (bn ▸ X) λR YX keep=>?_);refine ao (m:=aY.Dict.addKeywords y []) (aM<|aM ?_);have p:∀d m,d≠fY->h.heap.get? d=Z m->R.get? d=Z m:=λd m f c=>keep d m ⇑f c;refine be _ x YE (λd m c=>p d m (λD=>by rw[D,z]at c;cases c)<|da d m c) ?_ Ze (by rw[vv ⋯]at r;exact r) ⋯ E G I;exact yo s B Ze (λd m c=>p d m (λD=>by rw[D,z]at c;cases c)<|da d m c) λm c=>p y m A c
 |succ k bs=>
  intro a i h x YE bi T X da B Ze r bm E G I;have lt:a<Yl.length:=⋯
  refine h2 F.Fj ?_;rw[ig F.xf _];refine ao (m:=fv (.ref fY)) (W.item a h _ _ lt X λv R YX bv ca keep=>?_);have p:∀d m,d≠fY->h.heap.get? d=Z m->R.get? d=Z m:=λd m f c=>keep d m ⇑f c;let⟨H,@n,cd,ce,⟨q,g,@Q,rfl,ch,S,ci⟩⟩:=AN P a (by rw[u.length];exact lt);let⟨@L,al,cl⟩:=u.get cd;rw[bv]at al;cases al;cases cl;have J:∀d m,U.heap.get? d=Z m->R.get? d=Z m:=λd m c=>p d m (λD=>by rw[D,z]at c;cases c) (da d m c);have am:aF b M C j {U with heap:=R}:=s.kept (YU:=U.toks) J;have co:=yo s B Ze J λm c=>p y m A c;let@⟨_,⟨@Yy,cr,⟨@m,an,cs,⟨@w,db⟩⟩⟩⟩:=am.a4 _ _ ch;let⟨dB,@dg,rfl,ds,dL⟩:=rj cr;cases ds;show wpAny (aN b.prog b.w) O.in1 (holding [.ref q] _ >>= λ_=>again _) _ _ _;refine ao (fM<|ao<|s_ ?_);unfold aY.Dict.pairItems;refine ao (wpAny_typeOf (s:={h with heap:=R,toks:=YX}) (⟨m,an,(Prod.mk.inj cs).1⟩:ai.TypeIs {h with heap:=R,toks:=YX} (.ref q) "tuple") ?_);rw[aE ∅];refine ao (gT (s:={h with heap:=R,toks:=YX}) an db<|aM ?_);show wpAny (aN b.prog b.w) O.in1 (holding [.ref g,dg]<|dictSet y (.ref g) dg) _ _ _;refine fM (wpAny_dictSet_heap (s:={h with heap:=R,toks:=YX}) (k:=n.1) (knd:=eC b.prog b.w) (pN a1) (nH (e:=R) am.a4 S) co (λeq ev cY=>?_) (by
   have:=es.length Ze;exact fa (show x.length<=1000 by lia) ∅))
  have ap:∀d m,d≠y->R.get? d=Z m->eq.get? d=Z m:=λd m f c=>(cY.2 d f).trans c;have ex:=Ze.put n.1 (d:=g) (H:=Q) (L:=dg) S dL;have fd:Yz.take (a+1)=Yz.take a++[n]:=by
   have as:=(eA.mp ce);rw[DG as.1,as.2]
  have fn:ff j (nf<|Yz.take<|a+1) (hR YE n.1 Q):=by
   rw[fd];unfold nf;rw[B1];exact ff.put ci r
  refine aM ⟨hV F.xf _,bs (a+1) 0 _ _ _ ⋯ lt (W.frame _ _ _ ca λd f m c=>ap d m (λD=>by
    subst D;rcases bW.mp f with D|f
    ·exact A D
    ·exact bd (cX.mp f)) c) (λd m c=>ap d m (λD=>by rw[D,a2]at c;cases c)<|J d m c) ev ex fn ?_ E G I⟩
  unfold hR;split
  ·rw[ba];lia
  ·simp;lia
def MR(o:b.calm=aa)(cd:b.A.units+30<bQ):eZ b (.type "dict") (λx j B=>∃(t:ag) (YA:List av) (Yz:List (List V×V)),x=[.ref t]/\j t=Z (.lst YA)/\es (ya j) YA Yz/\Yz.length<=1000/\
  ∀(u:ag) (YE:List (List V×av)),j u=Y->ff j (nf Yz) YE->B (.ref u) (upd j u<|.bN YE)):=by
 intro M h C j x YM B A s e;let⟨t,YA,@Yz,rfl,I,J,P,p⟩:=e;let⟨@L,rfl,S⟩:=hF s;cases S;let@⟨D,⟨Yy,@w,T,c⟩⟩:=A.a4 t _ I;have q:t<h.heap.objs.size:=bM c;refine yB (Q₁:=λr E=>r=.ref h.heap.objs.size/\E={h with heap:=h.heap.push {cls:=.type "dict",data:=.dict #[]} }) PySem.F.kt_called_dict (PySem.F.kt_typeCall_dict_1 _) PySem.F.entry_dict_init (kt_code_dict_new _ ⟨rfl,rfl⟩) ?_;rintro r E ⟨rfl,rfl⟩;have U:(h.heap.push {cls:=.type "dict",data:=.dict #[]}).DictOfH (eC b.prog b.w) h.heap.objs.size []:=aX.DictOfH.new h.heap;have G:ai.TypeIs {h with heap:=h.heap.push {cls:=.type "dict",data:=.dict #[]} } (.ref h.heap.objs.size) "dict" := ⟨_,cO _ rfl,rfl⟩;have fz:(h.heap.push {cls:=.type "dict",data:=.dict #[]}).get? t=Z {cls:=.type "list",data:=.seq Yy.toArray w}:=bJ _ c;refine⟨G,PySem.F.args_dict_init_2 _ _,?_⟩;unfold aY.«dict.__init__»;refine ao ?_;unfold aY.Dict.selfAndRest;refine ao (II G ?_);show wpAny _ _ (pure (h.heap.objs.size,[ab.ref t])) _ _ _;refine aM ?_;show wpAny _ _ (aY.Dict.updateFrom "dict.__init__" h.heap.objs.size (.ref t) [] .none) _ _ _;unfold aY.Dict.updateFrom;refine ao (wpAny_typeOf (⟨_,fz,rfl⟩:ai.TypeIs {h with heap:=h.heap.push {cls:=.type "dict",data:=.dict #[]} } (.ref t) "list") ?_);rw[aE ∅];refine ao (O4 (h:={h with heap:=h.heap.push {cls:=.type "dict",data:=.dict #[]} }) fz (A.ok.hd o) λz YX YK=>?_);rw[aE (show (Y:Option ab).isNone=aa from rfl)];refine ao (m:=rule _) (iJ ?_);have H:z.IsList t Yy.toArray:=⟨_,YK _ _ fz,rfl,w,rfl⟩;refine ao (wpAny_pyIter_list (s:={h with heap:=z,toks:=YX}) H ?_);have e5:h.heap.objs.size<z.objs.size:=bM (YK _ _<|cO _ rfl);have da:∀d m,h.heap.get? d=Z m->(z.push {cls:=.type "list_iterator",data:=.fields #[.ref t,.int 0 0]}).get? d=Z m:=λd m f=>bJ _ (YK d m<|bJ _ f);refine aM ⟨hV PySem.F.xf _,?_⟩;have al:(z.push {cls:=.type "list_iterator",data:=.fields #[.ref t,.int 0 0]}).DictOfH (eC b.prog b.w) h.heap.objs.size []:=yo A (YE:=[]) U .nil da λm am=>bJ _ (YK _ _ am);have bU:t≠z.objs.size:=cZ (rk q e5);refine Vt A (O:=b.A.in1) (by show b.A.units+1+20<bQ;lia) (y:=h.heap.objs.size) (fY:=z.objs.size) (t:=t) (a5:=λa e=>e.IsListIter z.objs.size t a/\e.IsList t Yy.toArray) T J P ?_ (AJ<|bp _) (AJ<|m5 e5) (cZ e5) (iQ q)
  (λYn x YE an ap as a1 ch g i n=>?_) Yy.length 0 0 _ [] [] rfl (g0 _) ?_ da al .nil .nil (bp _) rfl rfl rfl
 ·have W:=iD.list (prog:=b.prog) (w:=b.w) (A:=b.A.in1.in1) (A.ok.hd o) z.objs.size t bU Yy.toArray;have a2:(λ(a:Nat) (v:ab)=>Yy.toArray[a]?=Z v)=λa v=>Yy[a]?=Z v:=by
   funext a v;rw[tS]
  rw[a2,cv]at W;exact W
 ·let⟨R,bd,be,YU,bi⟩:=Yn;have g:bd=h.gens:=g;have i:be=h.drawn:=i;have n:bi=h.os:=n;subst g i n;have Bt:j h.heap.objs.size=Y:=A.a4.fresh (bp _);let⟨m,Q,@YW,bm,bn,bs,bv,N,ca⟩:=ap;refine⟨rfl,.ref h.heap.objs.size,_,A.laid (m:=.bN YE) (R:=R) (YU:=YU) an (bp _) ⟨fa (show YE.length<=1000 by lia) ∅,u5.mpr<|eQ<|cZ A.big,x,as.keeps λd YA f=>Fu f Bt,m,Q,YW,bm,bn,bs,bv,ca⟩,rfl,p _ YE Bt a1⟩
 ·exact⟨⟨_,cO _ rfl,rfl,rfl⟩,H.push _⟩
@[simp] def tG:hS:=λI=>match I with
 |[.lst f]=>(q9 f).bind λYz=>if (Yz.all λq=>V.keys 7 q.1)=aa/\Yz.length<=1000 then Z (.bN<|nf Yz) else Y
 |_=>Y
def NK(e:b.calm=aa)(i:b.A.units+30<bQ):hJ b (.type "dict") tG:=by
 refine (MR e i).imp λx j B k=>?_;let⟨I,@u,l,c,p⟩:=k;unfold tG at c;split at c
 ·rename_i f;let⟨@Yz,m,a⟩:=bC.mp c;split at a
  ·rename_i d;cases a;let⟨@v,rfl,⟨W,q,@YA,rfl,z,E,W⟩⟩:=hx l;rw[NJ m]at E;refine⟨q,YA,Yz,rfl,z,Ez (λp n=>k9.mp d.1 p n) E,d.2,λu YE hd o=>?_⟩;have h:bZ j (upd j u<|.bN YE):=(bZ.refl j).upd hd;exact p _ _ [u] h ⟨u,YE,rfl,e8,o.mono h.tupS.tup,rfl⟩ (f9 _ _) λg r=>by rw[cX.mp r];exact hd
  ·cases a
 ·cases c
end
def XD:String->aY:=((⟨_,rfl⟩:{F:String->aY // F "max" = aY.«max» }).1)
def UD:String->n3->aY:=((⟨_,rfl⟩:{F:String->n3->aY // F "max" .Gt=aY.«max.loop» }).1)
section
variable{Yw:bO}{l:bh}{O:bA}{Yq:ab->ai->Prop}{h:ai}
def DE{t j:String}{Zc:n3}(k:(toString t++toString ".loop" : String)=j)(T:builtinKind t=Y)(U:plainId t=aa)(al:q8 qM t=Z (XD t))(am:∀g d:ab,sO t ⟨[g,d],[]⟩)(a:plainId j=aa)(q:q8 qM j=Z (UD t Zc)){g d:ab}{o:Bool}{B:ab->ai->Prop}(an:O.handled=Y)(ap:∀Yn:ai,(∀n m,h.heap.get? n=Z m->Yn.heap.get? n=Z m)->∀(B:ab->ai->Prop) (Yq:ab->ai->Prop),B (.bool o) Yn->wpAny (aN Yw l) O.in1 (oW Zc d g) B Yq Yn)(e:∀R YX,(∀n m,h.heap.get? n=Z m->R.get? n=Z m)->B (if o=aa then d else g) {h with heap:=R,toks:=YX}):wpAny (aN Yw l) O (call (.builtin t) [g,d]) B Yq h:=by
 refine call_function_tree T U al (am _ _) ?_;show wpAny _ O.in1 (aY.Builtins.bindParams t ["key","default"] 0 ⟨[],[]⟩ >>= _) _ _ h;refine ao (og (show aY.Builtins.bindParams t ["key","default"] 0 ⟨[],[]⟩=pure [Y,Y] from rfl) ?_);show wpAny _ O.in1 (tv [g,d] >>= _) _ _ h;refine ao (gz ?_);have A:(h.heap.push {cls:=.type "tuple",data:=.seq #[g,d]}).IsTuple h.heap.objs.size #[g,d]:=⟨_,cO _ rfl,rfl,0,rfl⟩;refine ao (wpAny_pyIter_tuple A<|ao<|gz ?_);have p:(h.heap.push {cls:=.type "tuple",data:=.seq #[g,d]}).objs.size=h.heap.objs.size+1:=hb ..;have W:=iD.tuple (prog:=Yw) (w:=l) (A:=O.in1) an (h.heap.push {cls:=.type "tuple",data:=.seq #[g,d]}).objs.size h.heap.objs.size (by rw[p];exact cZ (ko _)) #[g,d];rw[k];refine aM ⟨hV a _,?_⟩;have r:((h.heap.push {cls:=.type "tuple",data:=.seq #[g,d]}).push {cls:=.type "tuple_iterator",data:=.fields #[.ref h.heap.objs.size,.int 0 0]}).IsTupleIter (h.heap.push {cls:=.type "tuple",data:=.seq #[g,d]}).objs.size h.heap.objs.size 0:=⟨_,cO _ rfl,rfl,rfl⟩;have C:=A.push {cls:=.type "tuple_iterator",data:=.fields #[.ref h.heap.objs.size,.int 0 0]};have s:((h.heap.push {cls:=.type "tuple",data:=.seq #[g,d]}).push {cls:=.type "tuple_iterator",data:=.fields #[.ref h.heap.objs.size,.int 0 0]}).objs.size=h.heap.objs.size+2:=by rw[hb,p]
 have da:∀n m,h.heap.get? n=Z m->((h.heap.push {cls:=.type "tuple",data:=.seq #[g,d]}).push {cls:=.type "tuple_iterator",data:=.fields #[.ref h.heap.objs.size,.int 0 0]}).get? n=Z m:=λn m c=>bJ _ (bJ _ c);rw[p]at W r;rw[p,s];generalize bv:((h.heap.push {cls:=.type "tuple",data:=.seq #[g,d]}).push {cls:=.type "tuple_iterator",data:=.fields #[.ref h.heap.objs.size,.int 0 0]})=g2 at r C s da ⊢;have F:(g2.push {cls:=.type "list",data:=.seq ([]:List ab).toArray}).get? (h.heap.objs.size+2)=Z {cls:=.type "list",data:=.seq ([]:List ab).toArray}:=by rw[<-s];exact cO _ rfl
 have u:h.heap.objs.size+2∉[h.heap.objs.size+1]:=by simp
 have G:∀n∈[h.heap.objs.size+1,h.heap.objs.size],h.heap.objs.size+2≠n:=λn b D=>by
  simp only[bW,jf,e9]at b;rcases b with c|c
  ·rw[c]at D;exact absurd D (iQ<|ko _)
  ·rw[c]at D;exact absurd D (iQ (FP ∅))
 have f:∀n m,h.heap.get? n=Z m->n∉[h.heap.objs.size+1]/\n≠h.heap.objs.size+2:=λn m c=>by
  have lt:=bM c;refine⟨λD=>?_,cZ<|fP lt<|jW _ _⟩;rw[cX.mp D]at lt;exact j9 _ (Nat.lt_of_succ_lt lt)
 have H:∀(R:aX) (YX:Nat) (i:ab) (I:Nat),(∀n m,h.heap.get? n=Z m->R.get? n=Z m)->R.get? (h.heap.objs.size+2)=Z {cls:=.type "list",dict:=Y,data:=.seq #[i,i] I,slots:=#[]}->
   R.IsTupleIter (h.heap.objs.size+1) h.heap.objs.size 2/\R.IsTuple h.heap.objs.size #[g,d]->i=(if o=aa then d else g)->
   codeAny (aN Yw l) O (.builtin j ⟨[.ref (h.heap.objs.size+1),.none,.ref<|h.heap.objs.size+2],[]⟩) (wants B Yq) {h with heap:=R,toks:=YX}:=by
  intro R YX i I YK J X l1;refine h2 q ?_;rw[ig a _];show wpAny _ O.in1 (nj (.ref<|h.heap.objs.size+2) >>= _) _ _ _;refine ao (gT (s:={h with heap:=R,toks:=YX}) J rfl ?_);show wpAny _ O.in1 (tryCatch (fv<|.ref<|h.heap.objs.size+1) _ >>= _) _ _ _;refine ao (s_<|W.done {h with heap:=R,toks:=YX} _ _ X λE as cE=>?_);have a1:=cE _ _ u J;show wpAny _ O.in1 (nE (h.heap.objs.size+2) (λ_=>#[]) >>= _) _ _ _;refine ao (mU a1 rfl<|ao<|nQ<|aM ?_);show B i _;rw[l1];exact e _ as λn m c=>(g4 _ _<|eQ (f n m c).2).trans (cE n m (f n m c).1 (YK n m c))
 refine h2 q ?_;rw[ig a _];show wpAny _ O.in1 (nj (.ref<|h.heap.objs.size+2) >>= _) _ _ _;refine ao (gT (s:={h with heap:=g2.push {cls:=.type "list",data:=.seq ([]:List ab).toArray} }) F rfl ?_);show wpAny _ O.in1 (tryCatch (fv<|.ref<|h.heap.objs.size+1) _ >>= _) _ _ _;refine ao (s_ (W.item 0 {h with heap:=g2.push {cls:=.type "list",data:=.seq ([]:List ab).toArray} } _ _ ↥0 ⟨let ⟨m,a2,bd⟩:=r;⟨m,bJ _ a2,bd⟩,C.push _⟩ λv z ca w be YK=>?_));cases w;have L:=YK _ _ u F;show wpAny _ O.in1 (nE (h.heap.objs.size+2) (λ_=>#[g,g]) >>= _) _ _ _;refine ao (mU L rfl ?_);rw[k];refine aM ⟨hV a _,h2 q ?_⟩;have M:=jh (a3.mapSeq<|λ_=>(#[g,g]:Array ab)) L rfl;have bi:=W.frame _ _ (z.update (h.heap.objs.size+2)<|a3.mapSeq<|λ_=>(#[g,g]:Array ab)) be λn b m c=>(g4 _ _<|G n b).trans c;have bm:∀n m,h.heap.get? n=Z m->(z.update (h.heap.objs.size+2)<|a3.mapSeq<|λ_=>(#[g,g]:Array ab)).get? n=Z m:=λn m c=>(g4 _ _<|eQ (f n m c).2).trans (YK n m (f n m c).1 (bJ _<|da n m c));rw[ig a _];show wpAny _ O.in1 (nj (.ref<|h.heap.objs.size+2) >>= _) _ _ _;refine ao (gT M rfl ?_);show wpAny _ O.in1 (tryCatch (fv<|.ref<|h.heap.objs.size+1) _ >>= _) _ _ _;refine ao (s_ (W.item 1 _ _ _ ↥0 bi λv bn N w P Q=>?_));cases w;have x:=Q _ _ u M;have y:∀n m,h.heap.get? n=Z m->bn.get? n=Z m:=λn m c=>Q n m (f n m c).1 (bm n m c);show wpAny _ O.in1 (tryCatch (holding [d,d]<|oW Zc d g >>= _) _ >>= _) _ _ _;refine ao (s_<|fM<|ao<|ap _ y _ _ ?_);refine ao (fM<|tX ?_);refine ao (nQ<|aM ?_);cases S:o with
 |true=>
  simp only[h7];refine ao (mU x rfl<|ao<|nQ ?_);rw[k];have bs:=jh (a3.mapSeq<|λ_=>(#[d,d]:Array ab)) x rfl;refine aM ⟨hV a _,H _ N d _ (λn m c=>(g4 _ _<|eQ (f n m c).2).trans<|y n m c) bs (W.frame _ _ _ P λn b m c=>(g4 _ _<|G n b).trans c) (by rw[S];rfl)⟩
 |false=>
  simp only[g_,f5];refine ao (nQ ?_);rw[k];exact aM ⟨hV a _,H _ N g _ y x P (by rw[S];rfl)⟩
end
section
variable{Yw:bO}{l:bh}{O:bA}{Yq:ab->ai->Prop}{h:ai}{g d:ab}{o:Bool}{B:ab->ai->Prop}
def Qr(a:O.handled=Y)(b:∀Yn:ai,(∀n m,h.heap.get? n=Z m->Yn.heap.get? n=Z m)->∀(B:ab->ai->Prop) (Yq:ab->ai->Prop),B (.bool o) Yn->wpAny (aN Yw l) O.in1 (oW .Gt d g) B Yq Yn)(e:∀R YX,(∀n m,h.heap.get? n=Z m->R.get? n=Z m)->B (if o=aa then d else g) {h with heap:=R,toks:=YX}):wpAny (aN Yw l) O (call (.builtin "max") [g,d]) B Yq h:=
 DE ∅ F.kind_max F.plain_max F.entry_max F.args_max2 F.plain_max_loop F.entry_max_loop a b e
def RM(a:O.handled=Y)(b:∀Yn:ai,(∀n m,h.heap.get? n=Z m->Yn.heap.get? n=Z m)->∀(B:ab->ai->Prop) (Yq:ab->ai->Prop),B (.bool o) Yn->wpAny (aN Yw l) O.in1 (oW .Lt d g) B Yq Yn)(e:∀R YX,(∀n m,h.heap.get? n=Z m->R.get? n=Z m)->B (if o=aa then d else g) {h with heap:=R,toks:=YX}):wpAny (aN Yw l) O (call (.builtin "min") [g,d]) B Yq h:=
 DE ∅ F.kind_min F.plain_min F.entry_min F.args_min2 F.plain_min_loop F.entry_min_loop a b e
end
def Bk(O:bA)(h:ai)(H f:ab)(o:Bool):Prop:=(∀(Yw:bO) (l:bh) (Yq:ab->ai->Prop) (B:ab->ai->Prop),B (.bool o) h->wpAny (aN Yw l) O (oW .Gt H f) B Yq h)
section
open SeqAt
open AutoSeq1 (wpAny_loadPart')
open MeetsSeq MeetsSeq2 MeetsSeq3
def TF(t d:ag)(YJ b:Array ab)(w Zq:Nat)(y A:Option ag)(aZ B:Array (Option ab))(Yz:List (Bool×Bool))(P:Yz.length=min YJ.size b.size):
  Meets (aY.«tuple.__gt__» ⟨[.ref t,.ref d],[]⟩)
   (λO Ym h=>h.heap.get? t=Z {cls:=.type "tuple",dict:=y,data:=.seq YJ w,slots:=aZ}/\h.heap.get? d=Z {cls:=.type "tuple",dict:=A,data:=.seq b Zq,slots:=B}/\
    (∀r (z:r<YJ.size) (E:r<b.size) (m:r<Yz.length),EqAt O.in1 h YJ[r] b[r] (Yz[r]).1/\((Yz[r]).1=au->Bk O.in1 h YJ[r] b[r] (Yz[r]).2))/\
    Ym (.ok<|.ret<|.bool<|h8 (decide (b.size<YJ.size)) Yz) h):=
 .of_wp λYw l O Ym h e=>by
  let⟨j,J,u,YX,YG⟩:=h;let@⟨C,D,F,e⟩:=e;have Q:=HZ;have p:(YJ.toList.zip b.toList).length=min YJ.size b.size:=by simp
  wp_walk using wpAny_loadPart' C,wpAny_loadPart' D,nF _ (λc_ d Yn=>d.1=Y/\Yn=⟨j,J,u,YX,YG⟩/\∃a,c_=(YJ.toList.zip b.toList).drop a/\
   Ym (.ok<|.ret<|.bool<|h8 (decide (b.size<YJ.size))<|Yz.drop a) ⟨j,J,u,YX,YG⟩) _
  case turn=>
   rintro⟨H,f⟩ c_ d Yn ⟨n,rfl,a,g,i⟩;have q:a<(YJ.toList.zip b.toList).length:=by
    rcases gS a (YJ.toList.zip b.toList).length with R|R
    ·exact R
    ·rw[m_ R]at g;cases g
   have S:a<min YJ.size b.size:=p ▸ q;have z:a<YJ.size:=⋯
   have E:a<b.size:=⋯
   have m:a<Yz.length:=⋯
   rw[jF q]at g;injection g with s G;have I:H=YJ[a]:=by have:=congrArg Prod.fst s;simpa using this
   have L:f=b[a]:=by have:=congrArg Prod.snd s;simpa using this
   subst I L;rw[jF m]at i;let@⟨v,x⟩:=F a z E m;generalize Yz[a]=M at i v x;let⟨c,o⟩:=M;refine ao (v Yw l _ _ ?_);cases c with
   |true=>
    have k:Ym (.ok<|.ret<|.bool<|h8 (decide (b.size<YJ.size))<|Yz.drop<|a+1) ⟨j,J,u,YX,YG⟩:=i
    wp_walk
    exact⟨rfl,rfl,a+1,G,k⟩
   |false=>
    have k:Ym (.ok<|.ret<|.bool o) ⟨j,J,u,YX,YG⟩:=i;have N:=x rfl Yw l
    wp_walk using N
    exact⟨_,rfl,by simpa using k⟩
  case fin=>
   rintro⟨aQ,aS⟩ Yn ⟨n,rfl,a,g,i⟩;simp only at n;subst n;have T:min YJ.size b.size<=a:=by
    rcases gS a (YJ.toList.zip b.toList).length with R|R
    ·rw[jF R]at g;cases g
    ·exact p ▸ R
   rw[m_ ⋯]at i;have k:Ym (.ok<|.ret<|.bool<|decide (b.size<YJ.size)) ⟨j,J,u,YX,YG⟩:=i
   wp_walk
   exact⟨_,rfl,by simpa [aY.Tuple.tupleCompareSizes] using k⟩
  case h=>
   exact⟨rfl,rfl,0,rfl,by simpa using e⟩
end
def l3(I Q:List V):List (Bool×Bool):=((I.zip Q).map λq=>(ct q.1 q.2,bu q.2 q.1))
def Oi(g d:V):V.beq g d=V.beq d g:=by
 rw[mv,V.beq_iff,V.beq_iff];exact⟨λe=>e.symm,λe=>e.symm⟩
theorem Kq:∀{w:Nat}{I Q:List V},gj w I Q=aa->h8 au (l3 I Q)=gZ Q I
 |_,[],[],_=>rfl
 |w,g::s,d::i,e=>by
  rw[gj,cU]at e;show (if ct g d=aa then h8 au (l3 s i) else bu d g)=gZ (d::i) (g::s);rw[gZ,(qi e.1).2.2,Kq e.2,Oi]
 |_,[],_::_,e=>by cases e
 |_,_::_,[],e=>by cases e
def KZ{O:bA}{a r:Int}{L v:ab}(b:dS h.heap (.int a) L)(c:dS h.heap (.int r) v):Bk O h L v (bu (.int r)<|.int a):=by
 let⟨@i,rfl⟩:=b;let⟨@YU,rfl⟩:=c;intro Yw l Yq B p;rw[bu]at p;exact (Sb p:wpAny (aN Yw l) O (eS .Gt (.int a i)<|.int r YU) B Yq h)
def TQ(w:Nat):∀{O:bA}{f H:V}{L v:ab},eN w f H=aa->O.units+w+2<bQ->dS h.heap f L->dS h.heap H v->Bk O h L v (bu H f):=by
 induction w with
 |zero=>
  intro O f H L v e J b i;rcases tW e with ⟨a,r,rfl,rfl⟩|⟨k,_,_,c,_⟩
  ·exact KZ b i
  ·cases c
 |succ w M=>
  intro O f H L v e J b i;rcases tW e with ⟨a,r,rfl,rfl⟩|⟨k,I,Q,c,rfl,rfl,e⟩
  ·exact KZ b i
  cases c;let⟨g,m,Yy,@k,rfl,z,E,j,n⟩:=b;let⟨d,Y7,y,@P,rfl,o,q,s,t⟩:=i;let⟨cls,R,data,aZ⟩:=m;let⟨a2,S,bd,T⟩:=Y7;simp only at E j q s;subst E j q s;have be:=vN e;have U:I.length=Yy.size:=by rw[n.length,dq]
  have al:Q.length=y.size:=by rw[t.length,dq]
  intro Yw l Yq B p;rw[bu,<-Kq e]at p;have am:(l3 I Q).length=min Yy.size y.size:=by rw[l3,ba,ll,U,al]
  have hd:decide (y.size<Yy.size)=au:=dC ⋯;refine EO (op:=.Gt) ⟨_,z,rfl⟩ ⟨_,o,rfl⟩ PySem.F.slot_tuple_gt PySem.F.entry_tuple_gt (PySem.F.args_tuple_gt_2 _ _) (TF g d Yy y k P R S aZ T (l3 I Q) am)
   ⟨z,o,λr an ap as=>?_,show ab.bool (h8 (decide (y.size<Yy.size))<|l3 I Q)≠ab.notImplemented/\B (.bool<|h8 (decide (y.size<Yy.size))<|l3 I Q) h from ⟨(λf=>nomatch f),by rw[hd];exact p⟩⟩ ⋯;let⟨@Y2,u,x⟩:=n.get (r:=r) (v:=Yy[r]) (by rw[e0];simp[an]);let⟨@Y8,A,C⟩:=t.get (r:=r) (v:=y[r]) (by rw[e0];simp[ap]);have lk:=Cf e u A;have G:=qi lk;have a1:(l3 I Q)[r]=(ct Y2 Y8,bu Y8 Y2):=by
   have:(l3 I Q)[r]?=Z (ct Y2 Y8,bu Y8 Y2):=by
    rw[l3,ea,(mC (z:=(Y2,Y8))).mpr ⟨u,A⟩];rfl
   rw[dz as]at this;exact Option.some.inj this
  rw[a1];exact⟨ic w G.1 G.2.1 (by show O.units+1+w+1<bQ;lia) x C,λ_=>M lk (by show O.units+1+w+2<bQ;lia) x C⟩
section
variable{b:aO}
def VS(f:b.calm=aa)(k:b.A.units+20<bQ):eZ b (.builtin "max") (λx j B=>∃(u c:V) (v L:av),x=[v,L]/\eN 6 c u=aa/\cH j u v/\cH j c L/\B (if bu u c=aa then L else v) j):=by
 intro M h C j x YM B A s e;let⟨u,c,v,@L,rfl,lk,z,E,p⟩:=e;let⟨n,@q,rfl,a,d⟩:=rj s;refine Qr (o:=bu u c) (A.ok.hd f) (λYn o B Yq i=>?_) λR YX o=>⟨if bu u c=aa then L else v,j,A.kept o,?_,p⟩
 ·exact TQ 6 lk (by show b.A.units+1+6+2<bQ;lia) ((E.fb A.a4 d).keep λg m W W c W W=>o g m c) ((z.fb A.a4 a).keep λg m W W c W W=>o g m c) b.prog b.w Yq B i
 ·split
  ·exact d
  ·exact a
def TK(f:b.calm=aa)(k:b.A.units+20<bQ):eZ b (.builtin "min") (λx j B=>∃(u c:V) (v L:av),x=[v,L]/\eN 6 c u=aa/\cH j u v/\cH j c L/\B (if bu c u=aa then L else v) j):=by
 intro M h C j x YM B A s e;let⟨u,c,v,@L,rfl,lk,z,E,p⟩:=e;let⟨n,@q,rfl,a,d⟩:=rj s;refine RM (o:=bu c u) (A.ok.hd f) (λYn o B Yq i=>?_) λR YX o=>⟨if bu c u=aa then L else v,j,A.kept o,?_,p⟩
 ·exact IX 6 lk (by show b.A.units+1+6+2<bQ;lia) ((E.fb A.a4 d).keep λg m W W c W W=>o g m c) ((z.fb A.a4 a).keep λg m W W c W W=>o g m c) b.prog b.w Yq B i
 ·split
  ·exact d
  ·exact a
def vQ:hS:=(λI=>match I with
 |[.im (.int a),.im<|.int r]=>nk [.im (.int a),.im<|.int r]
 |[.im (.tup g),.im<|.tup d]=>if eN 6 (.tup d) (.tup g)=aa then Z (.im<|if bu (.tup g) (.tup d)=aa then .tup d else .tup g) else Y
 |_=>Y)
def wL:hS:=(λI=>match I with
 |[.im (.int a),.im<|.int r]=>qG [.im (.int a),.im<|.int r]
 |[.im (.tup g),.im<|.tup d]=>if eN 6 (.tup d) (.tup g)=aa then Z (.im<|if bu (.tup d) (.tup g)=aa then .tup d else .tup g) else Y
 |_=>Y)
def Mm(e:b.calm=aa)(k:b.A.units+20<bQ):hJ b (.builtin "max") vQ:=by
 intro M h C j x YM B A s l;let⟨I,@u,f,c,p⟩:=l;unfold vQ at c;split at c
 ·exact vC e M h C j x YM B A s ⟨_,u,f,c,p⟩
 ·split at c
  ·rename_i g d lk;cases c;let⟨v,@L,rfl,z,E⟩:=uu f;refine VS e k M h C j _ YM B A s ⟨_,_,v,L,rfl,lk,z,E,ck.i p ?_⟩;split
   ·exact E
   ·exact z
  ·cases c
 ·cases c
def S1(e:b.calm=aa)(k:b.A.units+20<bQ):hJ b (.builtin "min") wL:=by
 intro M h C j x YM B A s l;let⟨I,@u,f,c,p⟩:=l;unfold wL at c;split at c
 ·exact AB e M h C j x YM B A s ⟨_,u,f,c,p⟩
 ·split at c
  ·rename_i g d lk;cases c;let⟨v,@L,rfl,z,E⟩:=uu f;refine TK e k M h C j _ YM B A s ⟨_,_,v,L,rfl,lk,z,E,ck.i p ?_⟩;split
   ·exact E
   ·exact z
  ·cases c
 ·cases c
end
mutual
def xu:V->sk
 |.int a=>.int a
 |.aB d=>.bool d
 |.str f=>.str f
 |.tup I=>.tuple (rT I)
 |_=>.none
def rT:List V->List sk
 |[]=>[]
 |u::s=>xu u::rT s
end
mutual
theorem OK{e:aX}:∀{w:Nat}{u:V}{L:ab},V.bo w u=aa->dS e u L->Reads e L (xu u) []
 |_,.aV,L,_,c=>by cases (show L=.none from c);exact .none
 |_,.aB d,L,_,c=>by cases (show L=.bool d from c);exact .bool d
 |_,.int a,L,_,c=>by let⟨@i,rfl⟩:=c;exact .int a i
 |_,.str f,L,_,c=>by let⟨@i,rfl⟩:=c;exact .str f i
 |w+1,.tup I,L,o,c=>by
  let⟨g,m,YJ,@k,rfl,z,E,b,h⟩:=c;exact .tuple z E b (DP (w:=w) o h)
 |0,.tup I,L,o,c=>by cases o
 |w,.fn g,L,o,c=>by cases w<;>cases o
 |w,.aR g,L,o,c=>by cases w<;>cases o
 |w,.fd,L,o,c=>by cases w<;>cases o
theorem DP{e:aX}:∀{w:Nat}{I:List V}{YM:List ab},V.cQ w I=aa->dM e I YM->ReadsAll e YM (rT I) []
 |_,[],YM,_,c=>by rw[show YM=[] from c];exact .nil
 |w,u::I,YM,o,c=>by
  let⟨v,@s,rfl,z,E⟩:=c;rw[V.cQ,cU]at o;exact .cons (OK o.1 z) (DP o.2 E)
end
mutual
theorem Wn:∀u:V,sk.hasDict (xu u)=au
 |.aV=>rfl
 |.aB _=>rfl
 |.int _=>rfl
 |.str _=>rfl
 |.fn _=>rfl
 |.aR _=>rfl
 |.fd=>rfl
 |.tup I=>Jl I
theorem Jl:∀I:List V,sk.hasDictAll (rT I)=au
 |[]=>rfl
 |u::s=>by
  show (sk.hasDict (xu u) || PyData.hasDictAll (rT s))=au;rw[Wn u,Jl s];rfl
end
end L2
namespace G
open L2
variable{Yp:List (Int×Int)}{d g:Int×Int}
def Ia:bB:=((cV<|d6<|aq (ae<|b3 wL<|aq (af 0)<|aq (af 1) aD)<|aq (ae<|b3 vQ<|aq (af 0)<|aq (af 1) aD) aD))
def sT:dn:=(dG 2 2 [0,1] Ia)
def WN:bB:=((a_ (dT (cb<|aw oo (ae<|aw bx (af 0)<|ae<|aA<|.int 0)<|ae<|aA<|.int 0) (a_ (bP 2<|aw fT (ae<|aw bx (af 0)<|ae<|aA<|.int 0)<|af 1)<|a_ (i7 (aw kQ (ae<|aw bx (af 0)<|ae<|aA<|.int 0)<|af 1)<|kN 0 (aA<|.int 0) nK)<|cV<|f3 2) eM)<|a_ (i7 (aw cD (ae<|aw bx (af 0)<|ae<|aA<|.int 2)<|ae<|aA<|.int 1)<|kN 0 (aA<|.int 2) nK)<|a_ (bP 3<|aw fT (ae<|aw fR (ae<|aw cD (ae<|aw bx (af 0)<|ae<|aA<|.int 1)<|ae<|aw fR (ae<|aw bx (af 0)<|ae<|aA<|.int 2)<|ae<|aA<|.int 104729)<|ae<|aA<|.int 48271)<|ae<|aA<|.int 2305843009213693951)<|a_ (i7 (aw fT (ae<|aw fR (af 3)<|ae<|aw cD (ae<|aw fT (af 3)<|ae<|aA<|.int 1009)<|ae<|aA<|.int 69621)<|ae<|aA<|.int 2305843009213693951)<|kN 0 (aA<|.int 1) nK)<|cV<|aw fT (ae<|aw kQ (ae<|aw bx (af 0)<|ae<|aA<|.int 1)<|ae<|aA<|.int 1000003)<|af 1))
def tk:dn:=(dG 2 4 [0,1] WN)
def PR:bB:=((cV<|dO<|aq (ae<|d6<|aq (ae<|aw fy (ae<|aw bx (af 0)<|ae<|aA<|.int 0)<|ae<|aA<|.int 1)<|aq (ae<|aw bx (af 0)<|ae<|aA<|.int 1) aD)<|aq (ae<|d6<|aq (ae<|aw bx (af 0)<|ae<|aA<|.int 0)<|aq (ae<|aw fy (ae<|aw bx (af 0)<|ae<|aA<|.int 1)<|ae<|aA<|.int 1) aD)<|aq (ae<|d6<|aq (ae<|aw bx (af 0)<|ae<|aA<|.int 0)<|aq (ae<|aw cD (ae<|aw bx (af 0)<|ae<|aA<|.int 1)<|ae<|aA<|.int 1) aD)<|aq (ae<|d6<|aq (ae<|aw cD (ae<|aw bx (af 0)<|ae<|aA<|.int 0)<|ae<|aA<|.int 1)<|aq (ae<|aw bx (af 0)<|ae<|aA<|.int 1) aD) aD))
def P0:dn:=(dG 1 1 [0] PR)
def Ws:bB:=((a_ (bP 4<|aw bx (ae<|b_ 1 G.P0<|aq (ae<|aw bx (af 2)<|ae<|b_ 2 G.tk<|aq (af 0)<|aq (ae<|b3 e7<|aq (af 2) aD) aD) aD)<|ae<|b_ 2 G.tk<|aq (af 0)<|aq (ae<|aA<|.int 4) aD)<|dT (iH (cb<|aw lP (af 4)<|af 2)<|iH (cb<|Iw l0 l0 (ae<|aA<|.int 0) (ae<|aw bx (af 4)<|ae<|aA<|.int 0)<|ae<|aA<|.int 24)<|cb<|Iw l0 l0 (ae<|aA<|.int 0) (ae<|aw bx (af 4)<|ae<|aA<|.int 1)<|ae<|aA<|.int 24) (h4<|gG hD 2 hu<|aq (af 4) aD) eM))
def TN:bB:=((a_ (bP 2<|dO<|aq (ae<|d6<|aq (ae<|aA<|.int 12)<|aq (ae<|aA<|.int 12) aD) aD)<|a_ (hz (kd<|aq (ae<|b_ 2 G.tk<|aq (af 0)<|aq (af 1) aD) aD) (b5 3) G.Ws)<|cV<|f3 2))
def LY:dn:=(dG 2 5 [0,1] TN)
def O3:bB:=((h4<|gG hD 5 nq<|aq (ae<|b_ 2 G.tk<|aq (af 0)<|aq (ae<|b3 e7<|aq (af 5) aD) aD) aD))
def V1:az aj:=((f3 0))
def PB:az Bool:=((cb<|aw gP (ae<|aw fR (ae<|aw fT (ae<|aw bx (af 0)<|ae<|aA<|.int 0)<|ae<|aA<|.int 2)<|ae<|aw fT (ae<|aw fT (ae<|aw bx (af 0)<|ae<|aA<|.int 1)<|ae<|aA<|.int 3)<|ae<|aA<|.int 2)<|ae<|aA<|.int 0))
def ak(q:Int×Int):V:=(.tup [.int q.1,.int q.2])
abbrev aK(Yz:List (Int×Int)):aj:=.im (.tup<|Yz.map ak)
abbrev bj(Yz:List (Int×Int)):aj:=.lst (Yz.map ak)
abbrev ej(u h i:Int):aj:=.lst [.int u,.int h,.int i]
def c4(q:Int×Int):List V:=([.int q.1,.int q.2])
def Bp(q:Int×Int):ak q=.tup (c4 q):=rfl
def oc(e:c4 g=c4 d):g=d:=by
 unfold c4 at e;simp at e;exact fj e.1 e.2
def OA(e:ak g=ak d):g=d:=by
 rw[Bp,Bp]at e;exact oc (by injection e)
def zx(q:Int×Int):V.keys 7 (c4 q)=aa:=rfl
def n0:V->Int×Int
 |.tup [.int g,.int d]=>(g,d)
 |_=>(0,0)
def Jb(q:Int×Int):n0 (ak q)=q:=rfl
def rz(q:Int×Int):V.bo 8 (ak q)=aa:=rfl
theorem n6:∀Yz:List (Int×Int),V.cQ 8 (Yz.map ak)=aa
 |[]=>rfl
 |q::s=>by rw[cy,V.cQ,rz,n6 s];rfl
def kZ(g d:Int×Int):ct (ak g) (ak d)=decide (g=d):=by
 show ((g.1==d.1)&&((g.2==d.2)&&aa))=_;let⟨a,Zi⟩:=g;let⟨aQ,aS⟩:=d;by_cases z:a=aQ<;>by_cases E:Zi=aS<;>simp[z,E]
def Fl(Yz:List (Int×Int))(n:Int×Int):((Yz.map ak).any λf=>ct f<|ak n)=decide (n∈Yz):=by
 rw[Jj,mv,pa,g8];constructor
 ·rintro⟨f,a,c⟩;have:decide (f=n)=aa:=by rw[<-kZ];exact c
  rw[<-gf this];exact a
 ·intro e;refine⟨n,e,?_⟩;show ct (ak n) (ak n)=aa;rw[kZ];exact dx rfl
theorem HO:∀(t:List V) (Yp:List (Int×Int)),(∀f∈t,f∈Yp.map ak)->t=(t.map n0).map ak
 |[],_,_=>rfl
 |f::t,Yp,e=>by
  let⟨@q,W,c⟩:=cW.mp (e f<|.head _);rw[cy,cy,<-HO t Yp λH a=>e H<|.tail _ a,<-c,Jb]
def FO{t:List V}(e:t.Perm (Yp.map ak)):∃h:List (Int×Int),h.Perm Yp/\t=h.map ak:=by
 refine⟨t.map n0,?_,HO t Yp λf a=>e.mem_iff.mp a⟩;have:=uj n0 e;rw[eP]at this;have c:(n0 ∘ ak:Int×Int->Int×Int)=id:=funext Jb;rw[c,Kk]at this;exact this
def rM(ah:Yp.Nodup)(a:Yp.length<=1000):jG (Yp.map ak):=by
 refine⟨⟨by rw[ba];exact a,λg b d e=>?_,?_⟩,.inl λu hd=>?_⟩
 ·let⟨@f,W,rfl⟩:=cW.mp b;let⟨@H,W,rfl⟩:=cW.mp e;rfl
 ·exact Lu ak (λg d w c=>w<|OA c) ah
 ·let⟨@f,W,rfl⟩:=cW.mp hd;rfl
def ir(Yp:List (Int×Int)):List (List V×V):=(Yp.map λn=>(c4 n,.aB aa))
def KW{r:List (Int×Int)}{a:Int}{n:Int×Int}(b:0<=a)(e:r[a.toNat]?=Z n):dN (r.map ak) a=Z (ak n):=m4 b (by rw[ea,e];rfl)
def CR(Yz:List (Int×Int))(n:Int×Int):h1 (ak n) (bj Yz)=Z (decide (n∈Yz)):=by
 rw[O6,rz,n6,Fl];rfl
theorem Ao{YH Zh:Type}(F:YH->Zh):∀(t:List YH) (o:Nat),(t.map F).eraseIdx o=(t.eraseIdx o).map F
 |[],_=>rfl
 |_::_,0=>rfl
 |g::t,o+1=>by simp[Ao F t o]
def mid:bB:=((dT (mf (cb<|aw gP (af 2)<|ae<|aA<|.int 1)<|cb<|aw gP (af 2)<|ae<|aA<|.int 2) (hz (kd<|aq (ae<|b_ 2 G.tk<|aq (af 0)<|aq (ae<|aw cD (ae<|aA<|.int 1)<|ae<|aw kQ (ae<|b3 e7<|aq (af 5) aD)<|ae<|aA<|.int 2) aD) aD) (b5 6) G.O3)<|dT (cb<|aw gP (af 2)<|ae<|aA<|.int 3) (bP 5<|fN 1 [] (gO<|af 5) (b5 0) G.PB G.V1)<|dT (cb<|aw oo (af 2)<|ae<|aA<|.int 3) (bP 5<|b_ 2 G.LY<|aq (af 0)<|aq (af 1) aD) eM))
abbrev cF:=(Int×Int)×(Int×Int)
def i1(c:cF):List V:=([ak c.1,ak c.2])
def jC(g d:Int×Int):cF:=((if bu (ak d) (ak g)=aa then d else g,if bu (ak g) (ak d)=aa then d else g))
def Wm(g d:Int×Int):wL [.im (ak g),.im<|ak d]=Z (.im<|ak (jC g d).1):=by
 show (if eN 6 (ak d) (ak g)=aa then Z (aj.im<|if bu (ak d) (ak g)=aa then ak d else ak g) else Y)=Z (.im<|ak<|if bu (ak d) (ak g)=aa then d else g);rw[aE (show eN 6 (ak d) (ak g)=aa from rfl)];split<;>rfl
def Pf(g d:Int×Int):vQ [.im (ak g),.im<|ak d]=Z (.im<|ak (jC g d).2):=by
 show (if eN 6 (ak d) (ak g)=aa then Z (aj.im<|if bu (ak g) (ak d)=aa then ak d else ak g) else Y)=Z (.im<|ak<|if bu (ak g) (ak d)=aa then d else g);rw[aE (show eN 6 (ak d) (ak g)=aa from rfl)];split<;>rfl
def bump:List (cF×Int)->cF->List (cF×Int)
 |[],c=>[(c,1)]
 | (F,w)::s,c=>if F=c then (F,w+1)::s else (F,w)::bump s c
def Mj(g d:Int×Int):sT [.im (ak g),.im<|ak d]=Z (.im<|.tup<|i1<|jC g d,[.im (ak g),.im<|ak d]):=by
 have z:=Wm g d;have E:=Pf g d;simp -implicitDefEqProofs [sT,Ia,z,E,i1]
end G
namespace L2
open Spec PyProof.Rows PySem.W
variable{r a:Int}{g:ag}
def lE:List V->V->Option Nat
 |[],_=>Y
 |f::s,u=>if ct f u=aa then Z 0 else (lE s u).map (·+1)
theorem Cv{e:aX}{u:V}:∀{I:List V}{Yl:List ab}{r:Nat},V.cQ 8 I=aa->dM e I Yl->lE I u=Z r->
  ∃v,Yl[r]?=Z v/\kS e u v=aa/\∀k L,k<r->Yl[k]?=Z L->kS e u L=au
 |[],Yl,r,_,_,c=>by cases c
 |f::I,Yl,r,o,g,c=>by
  let⟨v,@s,rfl,z,E⟩:=g;rw[V.cQ,cU]at o;unfold lE at c;split at c
  ·rename_i D;cases c;exact⟨v,rfl,by rw[nP o.1 z];exact D,λk L b=>absurd b<|pO k⟩
  ·rename_i D;let⟨@a,h,rfl⟩:=cB.mp c;let⟨@l,i,j,m⟩:=Cv o.2 E h;refine⟨l,i,j,λk L b d=>?_⟩;cases k with
   |zero=>
    cases d;rw[nP o.1 z];exact Bool.eq_false_iff.mpr D
   |succ k=>exact m k L ⋯ d
structure lK(Yo:Φ)(YC:bO)(l:bh)(Ze:List (ag×List V))(cT:List (ag×List (List V×ag))):Prop where
 tup:∀q∈Ze,∃x,(∀j,cL Yo j q.1 x)/\∀j,bb j q.2 x
 Qs:∀q∈cT,∃x:List (List V×ag×ab),(∀e:aX,Yo.In e->e.DictOfH (eC YC l) q.1 x)/\(x.map λf=>(f.1,f.2.2))=q.2.map λp=>(p.1,ab.ref p.2)
structure dt where
 fU:ag
 kt:List (ag×List V)
 cT:List (ag×List (List V×ag))
@[simp] def we(cT:List (ag×List (List V×ag)))(g:ag)(o:List V):Option ag:=(cT.find? λq=>decide (q.1=g)).bind λq=>(q.2.find? λp=>decide (p.1=o)).map (·.2)
@[simp] def kP(Ze:List (ag×List V))(g:ag)(a:Int):Option V:=(Ze.find? λq=>decide (q.1=g)).bind λq=>dN q.2 a
@[simp] def ee(Ze:List (ag×List V))(cT:List (ag×List (List V×ag))):gi:=λg d=>match g,d with
 |.im (.fn g),.im (.int a)=>(kP Ze g a).map .im
 |.im (.fn g),.im (.tup o)=>if V.keys 7 o=aa then (we cT g o).map λu=>.im (.fn u) else Y
 |g,d=>bx g d
theorem Gf:∀{x:List (List V×ag×ab)}{YA:List (List V×ag)}{o:List V}{p:List V×ag},(x.map λf=>(f.1,f.2.2))=(YA.map λp=>(p.1,ab.ref p.2))->(YA.find? λp=>decide (p.1=o))=Z p->∃n,kK x o=Z (n,.ref p.2)
 |[],[],o,p,_,F=>by cases F
 |[],H::YA,o,p,c,F=>by cases c
 |f::x,[],o,p,c,F=>by cases c
 |f::x,H::YA,o,p,c,F=>by
  rw[cy,cy]at c;injection c with a b;injection a with d g;rw[jd]at F;unfold kK;rw[jd,d];split at F
  ·rename_i e;cases F;rw[e];exact⟨f.2.1,by rw[<-g];rfl⟩
  ·rename_i e;rw[e];exact Gf b F
section
variable{b:aO}{Ze:List (ag×List V)}{cT:List (ag×List (List V×ag))}
def TH(e:b.A.units+20<bQ)(U:lK b.K b.prog b.w Ze cT):ib b (λf H j B=>∃g o d u,f=.ref g/\H=.ref d/\iB j o d/\we cT g o=Z u/\B (.ref u) j):=by
 intro k G M h C j f H v L B A i m ⟨g,o,d,u,r,s,t,hd,p⟩ Ys;subst r s;cases i;cases m;let⟨@q,c,z⟩:=bC.mp hd;let⟨@x,y,I⟩:=U.Qs q (K1 c);have bL:=IC c;have bL:q.1=g:=gf bL;let⟨@D,E,rfl⟩:=cB.mp z;have a:=y h.heap A.o1;rw[bL]at a;let⟨@n,F⟩:=Gf I E;exact BN a.typeIs G3.lookup (Fs (pN e) (nH A.a4 t) a F ⟨.ref D.2,j,A.tok _,rfl,p⟩) Ys
def jQ(n:b.A.units+20<bQ)(U:lK b.K b.prog b.w Ze cT):ib b (λf H j B=>∃Y2 Y8 u,gn j Y2 f/\gn j Y8 H/\ee Ze cT Y2 Y8=Z u/\∀v P Ym,bZ j P->cP P u v Ym->Ym.Nodup->(∀g∈Ym,j g=Y)->B v P):=by
 refine ((Fq n).or<|HE.or<|TH n U).imp λf H j B s=>?_;let⟨Y2,Y8,@u,e,h,c,p⟩:=s;unfold ee at c;split at c
 ·let⟨@o,k,m⟩:=cB.mp c;cases m;let⟨@q,r,t⟩:=bC.mp k;let⟨@x,YB,Zo⟩:=U.tup q (K1 r);have bL:=IC r;have bL:=gf bL;let⟨@v,y,z⟩:=t_ (Zo j) t;exact .inr (.inl ⟨q.1,x,_,v,by rw[bL];exact e.i,h.i,YB j,y,ck.i p z⟩)
 ·split at c
  ·rename_i C;let⟨@o,k,m⟩:=cB.mp c;cases m;let⟨d,@x,rfl,YK,YR⟩:=h.i;exact .inr (.inr ⟨_,_,d,o,e.i,rfl,⟨C,d,x,rfl,YK,YR⟩,k,ck.i p rfl⟩)
  ·cases c
 ·exact .inl ⟨Y2,Y8,u,e,h,c,p⟩
end
def o2(a b Zm c A d e Y4 f g Zf h i:ag):dt:=(⟨a,[(b,[.fn Zm,.fn c]),(A,[.fn d,.fn e]),(Y4,[.fn f,.fn g]),(Zf,[.fn h,.fn i]),(Zm,[.int (-1),.int 0]),(c,[.int 0,.int 1]),(d,[.int 0,.int 1]),(e,[.int 1,.int 0]),(f,[.int 1,.int 0]),(g,[.int 0,.int<|-1]),(h,[.int 0,.int<|-1]),(i,[.int (-1),.int 0])],
 [(a,[([.int 0,.int 0],b),([.int 0,.int 1],A),([.int 1,.int 1],Y4),([.int 1,.int 0],Zf)])]⟩)
def hK(Yo:Φ)(g:ag)(a r:Int):Prop:=(∃u i L w h,Yo.lookup g=Z ⟨.type "tuple",u,.seq #[.int a i,.int r L] w,h⟩)
def o3(Yo:Φ)(g f H:ag):Prop:=(∃u w h,Yo.lookup g=Z ⟨.type "tuple",u,.seq #[.ref f,.ref H] w,h⟩)
variable{Yo:Φ}{YC:bO}{l:bh}
def hK.tup(e:hK Yo g a r):∃x,(∀j,cL Yo j g x)/\∀j,bb j [.int a,.int r] x:=by
 let⟨u,i,L,w,@h,c⟩:=e;refine⟨[.int a,.int r],λj=>.inr ⟨_,_,w,c,rfl,rfl,by show 2<=sizeLine;decide,.cons ⟨i,rfl⟩<|.cons ⟨L,rfl⟩ .nil⟩,λj=>⟨_,_,rfl,rfl,_,_,rfl,rfl,rfl⟩⟩
def o3.tup{f H:ag}(e:o3 Yo g f H):∃x,(∀j,cL Yo j g x)/\∀j,bb j [.fn f,.fn H] x:=by
 let⟨u,w,@h,c⟩:=e;refine⟨[.ref f,.ref H],λj=>.inr ⟨_,_,w,c,rfl,rfl,by show 2<=sizeLine;decide,.cons rfl<|.cons rfl .nil⟩,λj=>⟨_,_,rfl,rfl,_,_,rfl,rfl,rfl⟩⟩
def hK.is(e:hK Yo g a r){d:aX}(b:Yo.In d):(eC YC l).is d [.int a,.int r] g:=by
 let⟨u,i,L,w,@h,c⟩:=e;exact⟨rfl,g,_,_,w,rfl,b _ _ c,rfl,rfl,_,_,rfl,⟨i,rfl⟩,_,_,rfl,⟨L,rfl⟩,rfl⟩
def FS{n o a Zm d YK A g h YR Y4 i j p Zf k m:ag}{r z E s:Int}{w:Nat}(u:Yo.lookup n=Z ⟨.type "dict",Y,.dict #[⟨r,.ref o,.ref a⟩,⟨z,.ref YK,.ref A⟩,⟨E,.ref YR,.ref Y4⟩,⟨s,.ref p,.ref Zf⟩] w,#[]⟩)(v:r=du l (.tup [.int 0,.int 0]))(x:z=du l (.tup [.int 0,.int 1]))(y:E=du l (.tup [.int 1,.int 1]))(B:s=du l (.tup [.int 1,.int 0]))(ef:hK Yo o 0 0)(C:hK Yo YK 0 1)(D:hK Yo YR 1 1)(F:hK Yo p 1 0)(G:o3 Yo a Zm d)(H:o3 Yo A g h)(I:o3 Yo Y4 i j)(J:o3 Yo Zf k m)(U:hK Yo Zm (-1) 0)(L:hK Yo d 0 1)(M:hK Yo g 0 1)(N:hK Yo h 1 0)(O:hK Yo i 1 0)(P:hK Yo j 0 (-1))(Q:hK Yo k 0 (-1))(R:hK Yo m (-1) 0):
  lK Yo YC l (o2 n a Zm d A g h Y4 i j Zf k m).kt (o2 n a Zm d A g h Y4 i j Zf k m).cT:=by
 constructor
 ·intro q c;simp only[o2,bW,gq,e9]at c;rcases c with e|e|e|e|e|e|e|e|e|e|e|e<;>subst e
  ·exact G.tup
  ·exact H.tup
  ·exact I.tup
  ·exact J.tup
  ·exact U.tup
  ·exact L.tup
  ·exact M.tup
  ·exact N.tup
  ·exact O.tup
  ·exact P.tup
  ·exact Q.tup
  ·exact R.tup
 ·intro q c;simp only[o2,bW,gq,e9]at c;subst c;subst v x y B;refine⟨[([.int 0,.int 0],o,.ref a),([.int 0,.int 1],YK,.ref A),([.int 1,.int 1],YR,.ref Y4),([.int 1,.int 0],p,.ref Zf)],λe b=>⟨_,_,w,b _ _ u,⟨rfl,rfl,rfl⟩,rfl,rfl,λf t=>?_,?_⟩,rfl⟩
  ·simp only[bW,gq,e9]at t;rcases t with e|e|e|e<;>subst e
   ·exact ef.is b
   ·exact C.is b
   ·exact D.is b
   ·exact F.is b
  ·simp
end L2
namespace L2
open Spec PyProof.Rows PySem.W
variable{a:Nat}
def n8(y:a6)(a:Nat)(I:List V):Bool:=(match y[a]? with
 |some (Z<|.lst H)=>decide (H=I)
 |_=>au)
def lU(a:Nat)(I:List V)(YT:fk)(d:bB):List V->bB
 |[]=>λy=>if n8 y a I=aa then Z (.aU,y) else Y
 |f::s=>λy=>if n8 y a I=aa then (YT (.im f) y).bind λYv=>(d Yv).bind λp=>match p.1 with
  |.aU=>lU a I YT d s p.2
  |.cx=>lU a I YT d s p.2
  |.gv=>Z (.aU,p.2)
  |.dD u=>Z (.dD u,p.2) else Y
def zN(a:Nat)(YT:fk)(d:bB):bB:=(λy=>match y[a]? with
 |some (Z<|.lst I)=>lU a I YT d I y
 |_=>Y)
def F6{y:a6}{I:List V}(e:n8 y a I=aa):y[a]?=Z (Z<|.lst I):=by
 unfold n8 at e;split at e
 ·rename_i H c;rw[c,gf e]
 ·cases e
section
variable{b:aO}
def M7{Y3 Zg:List Nat}{YT Zl:bz}{ZD:List cf}{H:fk}{Zk:bB}{YD:Pos}(bv:ri (aN b.prog b.w) b.A b.env b.c1)(ca:b.calm=aa)(T:dZ b Zl (af a))(cd:hZ b Zg YT H)(ce:jm b Zg ZD Zk)(ch:∀a∈Y3,a∈Zg)(Ys:a∈Zg)(ci:∀f,me Zl b.env f=pure f:=by intro W;rfl):iN b Y3 (.For YT Zl ZD [] YD) (zN a H Zk):=by
 refine kV (KX bv ca (Hp T) cd ce ci) λYq C j cl=>?_;let⟨y,N,F,@M,X,ah,Q,p⟩:=cl;unfold zN at Q;split at Q
 ·rename_i I a1;refine⟨y,N,.aZ a,y,X,ah,by unfold af;rw[a1],λv Yx YI Ym a2 A bd=>?_⟩;let@⟨A,rfl⟩:=A;rw[cA]at bd;have al:∀{P:ay}{d:a6}{i:a5}{Y5:List ag},bE P d i Y5->i[a]?=Z (Z v)->d[a]?=Z (Z<|.lst I)->∃g x,v=.ref g/\P g=Z (.lst x)/\bb P I x:=λB co cr=>by
   let⟨f4,f8,@ga,be,cs,W⟩:=B.out cr;rw[co]at be;cases be;let⟨g,@x,c,z,E,W⟩:=cs;exact⟨g,x,c,z,E⟩
  let⟨g,@x,rfl,z,E⟩:=al a2 A a1;refine⟨g,rfl,.inl ⟨⟨x,de.of z⟩,?_⟩⟩;have am:∀{D:a5},dm Zg C D->dm Y3 C D:=λF=>⟨F.1,λa T=>F.2 a<|ch a T⟩;refine⟨λr k i P=>k+r=I.length/\∃d Y5,dm Zg C i/\bE P d i Y5/\br j N P Y5/\lU a I H Zk (I.drop r) d=Z (F,M),⟨I.length,rfl,y,YI,dm.refl,a2,bd,Q⟩,?_⟩;rintro r k i P ⟨ge,d,Y5,n,B,Yn,h⟩;by_cases bi:r<I.length
  ·rw[jF bi,lU]at h;dsimp only at h;split at h
   ·rename_i an;let⟨db,@ds,c,YK,YR⟩:=al B ((n.2 a Ys).trans A) (F6 an);cases c;let@⟨dL,eq⟩:=(yX (Yo:=b.K) YK YR).go P (fx.of (λ_ W c=>c)<|λ_ W W c=>c) (λ_ W W c=>c) r I[r] (by simp[bi]);let⟨@R,dB,dg⟩:=bC.mp h;let⟨@⟨bm,ap⟩,d_,S⟩:=bC.mp dg;refine .inr ⟨dL,λD YO=>(k-1)+(r+1)=I.length/\∃d Y5,dm Zg C D/\bE YO d D Y5/\br j N YO Y5/\lU a I H Zk (I.drop<|r+1) d=Z (F,M),λD YO e=>⟨k-1,⋯,e⟩,λf YO ev=>?_⟩;let@⟨as,ex⟩:=eq f YO ev;have fd:=B.mono as.tupS λg W m c=>as g m c;have bn:=Yn.same as;refine⟨d,Y5,.im I[r],[],R,fd,⟨ex,rfl⟩,by rw[cA];exact bn.ah,dB,λgl fn bs U fr cR=>?_⟩;have G:br j N fn bs:=bn.seq (by rw[cA]at cR;exact cR);refine⟨R,bs,bm,ap,fr,G.ah,d_,?_⟩;cases bm with
    |aU=>exact λJ L o q s t=>⟨⋯,ap,o,(n.trans U).trans q,s,G.seq t,S⟩
    |cx=>exact λJ L o q s t=>⟨⋯,ap,o,(n.trans U).trans q,s,G.seq t,S⟩
    |gv=>
     cases S;exact λJ L o q s t=>p J L o (am<|(n.trans U).trans q) s (G.seq t)
    |dD u=>
     cases S;exact λv J L o f0 q s f1 t=>p v J L o f0 (am<|(n.trans U).trans q) s f1 (G.seq t)
   ·cases h
  ·have f2:r=I.length:=⋯
   subst f2;rw[m_ (bp _),lU]at h;dsimp only at h;split at h
   ·rename_i an;cases h;let⟨db,@ds,c,YK,YR⟩:=al B ((n.2 a Ys).trans A) (F6 an);cases c;exact .inl ⟨(yX (Yo:=b.K) YK YR).stop P (fx.of (λ_ W c=>c)<|λ_ W W c=>c)<|λ_ W W c=>c,p i P Y5 (am n) B Yn⟩
   ·cases h
 ·cases Q
end
end L2
namespace G
open L2
def JG:bB:=((cV<|d6<|aq (ae<|aw fy (ae<|aw bx (af 1)<|ae<|aA<|.int 0)<|ae<|aw fT (ae<|aw fy (ae<|aw bx (af 1)<|ae<|aA<|.int 0)<|ae<|aw bx (ae<|aw bx (af 0)<|ae<|aA<|.int 0)<|ae<|aA<|.int 0)<|ae<|aA<|.int 2)<|aq (ae<|aw fy (ae<|aw bx (af 1)<|ae<|aA<|.int 1)<|ae<|aw fT (ae<|aw fy (ae<|aw bx (af 1)<|ae<|aA<|.int 1)<|ae<|aw bx (ae<|aw bx (af 0)<|ae<|aA<|.int 0)<|ae<|aA<|.int 1)<|ae<|aA<|.int 2) aD))
def sz:dn:=(dG 2 2 [0,1] JG)
def GZ(Yp:dt):bB:=((cV<|d6<|aq (ae<|aw cD (ae<|aw (ee Yp.kt Yp.cT) (af 0)<|ae<|aA<|.int 0)<|ae<|aw fR (ae<|aw (ee Yp.kt Yp.cT) (af 1)<|ae<|aA<|.int 0)<|af 2)<|aq (ae<|aw cD (ae<|aw (ee Yp.kt Yp.cT) (af 0)<|ae<|aA<|.int 1)<|ae<|aw fR (ae<|aw (ee Yp.kt Yp.cT) (af 1)<|ae<|aA<|.int 1)<|af 2) aD))
def mm(Yp:dt):dn:=(dG 3 3 [0,1,2] (GZ Yp))
def Ic(Yp:dt):bB:=((a_ (bP 3<|b_ 2 G.sz<|aq (af 0)<|aq (af 2) aD)<|a_ (bP 4<|aw (ee Yp.kt Yp.cT) (ae<|aA<|.fn Yp.fU)<|ae<|d6<|aq (ae<|aw fy (ae<|aw (ee Yp.kt Yp.cT) (af 2)<|ae<|aA<|.int 0)<|ae<|aw (ee Yp.kt Yp.cT) (af 3)<|ae<|aA<|.int 0)<|aq (ae<|aw fy (ae<|aw (ee Yp.kt Yp.cT) (af 2)<|ae<|aA<|.int 1)<|ae<|aw (ee Yp.kt Yp.cT) (af 3)<|ae<|aA<|.int 1) aD)<|a_ (dT (cb<|aw k8 (ae<|b_ 2 G.sT<|aq (af 3)<|aq (ae<|b_ 3 (G.mm Yp)<|aq (af 3)<|aq (ae<|aw (ee Yp.kt Yp.cT) (af 4)<|ae<|aA<|.int 0)<|aq (ae<|aA<|.int 2) aD) aD)<|af 1) (cV<|b_ 3 (G.mm Yp)<|aq (af 2)<|aq (ae<|aw (ee Yp.kt Yp.cT) (af 4)<|ae<|aA<|.int 0)<|aq (ae<|aA<|.int 1) aD) eM)<|cV<|b_ 3 (G.mm Yp)<|aq (af 2)<|aq (ae<|aw (ee Yp.kt Yp.cT) (af 4)<|ae<|aA<|.int 1)<|aq (ae<|aA<|.int 1) aD))
def qc(Yp:dt):dn:=(dG 3 5 [0,1,2] (Ic Yp))
end G
namespace L2
open Spec PyProof.Rows PySem.W
def vD:aj->aj
 |.im (.aR f)=>.dv f
 |u=>u
@[simp] theorem XS(f:List V):vD (.im<|.aR f)=.dv f:=rfl
@[simp] theorem X8(f:List V):vD (.im<|.tup f)=.im (.tup f):=rfl
@[simp] def tT(J:az aj):az aj:=λy=>(J y).map λq=>(vD q.1,q.2)
section
variable{b:aO}
def IL{c:bz}{J:az aj}(e:cI b c J):cI b c (tT J):=by
 refine eW e λC j B d=>?_;let⟨y,N,s,@YN,X,ah,h,p⟩:=d;let⟨@⟨a,Yv⟩,z,E⟩:=cB.mp h;cases E;refine⟨y,N,a,Yv,X,ah,z,λv Yx YI Ym i YV k=>p v Yx YI Ym i ?_ k⟩;cases a with
 |im u=>
  cases u with
  |aR f=>
   let@⟨⟨g,x,@m,rfl,YK,YR⟩,rfl⟩:=YV;exact⟨g,x,m,rfl,YK,YR,rfl⟩
  |_=>exact YV
 |_=>exact YV
end
end L2
namespace L2
section
variable{y Yv M:a6}
variable{u:aj}
def dP{J:az aj}(e:J y=Z (u,Yv)):ae J y=Z (.cp u,Yv):=by unfold ae;rw[e];rfl
variable{f:bw}
def c9{J:az bw}{e:az (List bw)}{x:List bw}(a:J y=Z (f,Yv))(b:e Yv=Z (x,M)):aq J e y=Z (f::x,M):=by unfold aq;rw[a];show (e Yv).map _=_;rw[b];rfl
variable{Y2 Y8:aj}
def ij{Zc:aj->aj->Option aj}{Zp Zk:az bw}{H:bw}(a:Zp y=Z (f,Yv))(b:Zk Yv=Z (H,M))(c:eY M f=Z Y2)(d:eY M H=Z Y8)(e:Zc Y2 Y8=Z u):aw Zc Zp Zk y=Z (u,M):=by
 unfold aw;rw[a];show (Zk Yv).bind _=_;rw[b];show (eY M f).bind _=_;rw[c];show (eY M H).bind _=_;rw[d];show (Zc Y2 Y8).map _=_;rw[e];rfl
variable{J:az (List bw)}{w:Nat}{YG:List bw}{I i:List aj}
def sj{S:dn}{s:aj}(a:J y=Z (YG,Yv))(b:YG.length=w)(c:eu YG Yv=Z (I,M))(d:S I=Z (s,i)):b_ w S J y=Z (s,gQ YG i M):=by
 unfold b_;rw[a];show (if YG.length=w then _ else _)=_;rw[aE b];show (eu YG Yv).bind _=_;rw[c];show (S I).map _=_;rw[d];rfl
def wi{Zc:List aj->Option aj}(a:J y=Z (YG,Yv))(b:eF Yv YG=Z I)(c:Zc I=Z u):b3 Zc J y=Z (u,Yv):=by
 unfold b3;rw[a];show (eF Yv YG).bind _=_;rw[b];show (Zc I).map _=_;rw[c];rfl
variable{d:Bool}
def Jr{J:az aj}(c:J y=Z (.im<|.aB d,Yv)):cb J y=Z (d,Yv):=by unfold cb;rw[c];rfl
def PS{J:az Bool}(c:J y=Z (d,Yv)):m1 J y=Z (!d,Yv):=by unfold m1;rw[c];rfl
def zH{J:az bw}(c:J y=Z (f,Yv))(a:eY Yv f=Z u)(b:pW u=Z d):kG J y=Z (d,Yv):=by
 unfold kG;rw[c];show (eY Yv f).bind _=_;rw[a];show (pW u).map _=_;rw[b];rfl
def oa{J:az aj}{e:fk}(c:J y=Z (u,Yv))(a:e u Yv=Z M):i7 J e y=Z (.aU,M):=by unfold i7;rw[c];show (e u Yv).map _=_;rw[a];rfl
def lL{J:az aj}(c:J y=Z (u,Yv)):h4 J y=Z (.aU,Yv):=by unfold h4;rw[c];rfl
variable{R:a6}
def j_{ty:aj->Bool}{a:Nat}{ir:aj->List aj->Option (aj×aj)}{b n s c:aj}(d:y[a]?=Z (Z b))(e:ty b=aa)(f:J y=Z (YG,Yv))(g:eu YG Yv=Z (I,M))(h:M[a]?=Z (Z n))(i:ir n I=Z (s,c))(o:M.set a (Z c)=R):gG ty a ir J y=Z (s,R):=by
 subst o;unfold gG;rw[d];show (if ty b=aa then _ else _)=_;rw[aE e,f];show (eu YG Yv).bind _=_;rw[g];show (match M[a]? with|some (Z n)=>_|_=>Y)=_;rw[h];show (ir n I).map _=_;rw[i];rfl
def Hn(a:J y=Z (YG,Yv))(b:eu YG Yv=Z (I,M))(c:I.length<=100000)(o:s9 I=u):d6 J y=Z (u,M):=by
 unfold d6;rw[a];show (eu YG Yv).bind _=_;rw[b];show (if _ then _ else _)=_;rw[aE c,o]
def Ik(a:J y=Z (YG,Yv))(b:eu YG Yv=Z (I,M))(c:I.length<=100000)(o:tn I=u):dO J y=Z (u,M):=by
 unfold dO;rw[a];show (eu YG Yv).bind _=_;rw[b];show (if _ then _ else _)=_;rw[aE c,o]
variable{a:Int}
def JR{J:az aj}(c:J y=Z (.im<|.int a,Yv)):hn J y=Z (.im<|.int<|-a,Yv):=by unfold hn;rw[c];rfl
variable{f:List V}
def wz{u:V}(e:f.length<100000):hu (.lst f) [.im u]=Z (.im .aV,.lst<|f++[u]):=aE e
def yk(a r:Int):gP (.im<|.int a) (.im<|.int r)=Z (.im<|.aB<|decide (a=r)):=by
 show Z (aj.im<|.aB<|a==r)=_;by_cases e:a=r<;>simp[e]
def QP(a r:Int):i3 (.im<|.int a) (.im<|.int r)=Z (.im<|.aB<|!decide (a=r)):=by
 show Z (aj.im<|.aB<|!(a==r))=_;by_cases e:a=r<;>simp[e]
variable{r:Int}
def hG(e:iM a r=aa):fR (.im<|.int a) (.im<|.int r)=Z (.im<|.int<|a*r):=aE e
def jj(e:0<r):fT (.im<|.int a) (.im<|.int r)=Z (.im<|.int<|a%r):=aE (dx e)
def s6(e:0<r)(E:r<1073741824):kQ (.im<|.int a) (.im<|.int r)=Z (.im<|.int<|a/r):=aE (dx (⟨e,E⟩:0<r/\r<1073741824))
def Er(e:decide (0<=r/\r<=1000000/\a.natAbs<2^64)=aa):nW (.im<|.int a) (.im<|.int r)=Z (.im<|.int<|a^r.toNat):=aE e
variable{s:Option (nB×a6)}{d:bB}{n:az Bool}
theorem kj{g:bB}(c:n y=Z (aa,Yv))(e:g Yv=s):dT n g d y=s:=(yc c).trans e
theorem gD{g:bB}(c:n y=Z (au,Yv))(e:d Yv=s):dT n g d y=s:=(Cd c).trans e
theorem bT{J e:bB}(c:J y=Z (.aU,Yv))(o:e Yv=s):a_ J e y=s:=(nR c).trans o
variable{a:Nat}
theorem jD{J:az aj}(c:J y=Z (u,Yv))(e:a<Yv.length)(o:Yv.set a (Z u)=M):bP a J y=Z (.aU,M):=(Ms c e).trans (by rw[o])
variable{x:List V}{YT:fk}{m:Option (Nat×aj)}
theorem kl{J:jb}{aR:nB}(c:J y=Z ((x,m),Yv))(e:dX YT d x Yv=Z (aR,M))(o:mA m M=R):hz J YT d y=Z (aR,R):=(RL c e).trans (by rw[o])
theorem kM{own:Nat}{Y1:List Nat}{l:jb}{c:az aj}{a:a6}{I:List V}(z:l y=Z ((x,m),Yv))(E:hU own YT n c x [] (lB Y1 Yv)=Z (I,a))(o:mA m (jr Y1 a Yv)=R):fN own Y1 l YT n c y=Z (.lst I,R):=(RI z E).trans (by rw[o])
variable{s:Option (Bool×a6)}{d g:az Bool}
def wY(c:g y=Z (au,Yv))(e:d Yv=s):mf g d y=s:=by unfold mf;rw[c];exact e
def oq(c:g y=Z (aa,Yv))(e:d Yv=s):iH g d y=s:=by unfold iH;rw[c];exact e
def yr(c:g y=Z (au,Yv)):iH g d y=Z (au,Yv):=by unfold iH;rw[c];rfl
variable{s:Option (aj×a6)}{d g:az aj}
def F7(c:n y=Z (aa,Yv))(e:g Yv=s):ou n g d y=s:=by unfold ou;rw[c];exact e
def JY(c:n y=Z (au,Yv))(e:d Yv=s):ou n g d y=s:=by unfold ou;rw[c];exact e
def xO{r:Nat}(b:J y=Z (YG,Yv))(c:eu YG Yv=Z ([Y2,Y8],M))(T:a<M.length)(d:r<M.length)(o:(M.set a<|Z Y2).set r (Z Y8)=R):n5 a r J y=Z (.aU,R):=by
 unfold n5;rw[b];show (eu YG Yv).bind _=_;rw[c];show (if a<M.length/\r<M.length then _ else _)=_;rw[aE ⟨T,d⟩,o]
def AK{J:az Bool}{d:Bool}(c:J y=Z (d,Yv)):kE J y=Z (.im<|.aB d,Yv):=by unfold kE;rw[c];rfl
variable{s:aj}
def dp{S:dn}(a:J y=Z (YG,Yv))(b:YG.length=w)(c:eu YG Yv=Z (I,M))(d:S I=Z (s,i))(o:gQ YG i M=R):b_ w S J y=Z (s,R):=by rw[<-o];exact sj a b c d
def vW{J:az Bool}(c:J y=Z (aa,Yv)):m1 J y=Z (au,Yv):=PS c
variable{H:List V}
def uG(a:J y=Z (YG,Yv))(b:eF Yv YG=Z [.im (.tup f),.im<|.tup H]):nh J y=Z ((eg f H,Y),Yv):=by
 unfold nh;rw[a];show (eF Yv YG).bind _=_;rw[b];rfl
def RY{A Y4:bw}(a:J y=Z ([A,Y4],Yv))(b:eu [A,Y4] Yv=Z ([Y2,Y8],M))(c:gI Y2=Z f)(d:gI Y8=Z H)(e:Y8.d8=aa)(o:(if Y2.d8=aa then Y else r4 A Y2)=m):sd J y=Z ((eg f H,m),M):=by
 unfold sd;rw[a];show (eu [A,Y4] Yv).bind _=_;rw[b];show (gI Y2).bind _=_;rw[c];show (gI Y8).bind _=_;rw[d];show (if Y8.d8=aa then _ else _)=_;rw[aE e,o]
def B4{J:az bw}{t e:az (Option Int)}{f:bw}{G T:Option Int}{a:aj}(b:J y=Z (f,Yv))(c:t Yv=Z (G,M))(d:e M=Z (T,R))(g:eY R f=Z u)(h:kO u G T=Z a):ie J t e y=Z (a,R):=by
 unfold ie;rw[b];show (t Yv).bind _=_;rw[c];show (e M).bind _=_;rw[d];show (eY R f).bind _=_;rw[g];show (kO u G T).map _=_;rw[h];rfl
def O0{J:az aj}(c:J y=Z (u,Yv)):tY J y=Z (ua u,Yv):=by unfold tY;rw[c];rfl
def HJ{J:az aj}(c:J y=Z (u,Yv)):tT J y=Z (vD u,Yv):=by unfold tT;rw[c];rfl
def sG(a:J y=Z (YG,Yv))(b:eF Yv YG=Z [.im (.int r)])(e:small r):kd J y=Z ((fV 0 r.toNat,Y),Yv):=by
 unfold kd;rw[a];show (eF Yv YG).bind _=_;rw[b];show (if small r then _ else _)=_;rw[aE e]
def e3{k:Nat}{Y3:List Nat}{J:bB}(a:I.length=w)(c:J (I.map Z++List.replicate (k-w) Y)=Z (.dD s,y))(b:i6 Y3 I y 0=i):dG w k Y3 J I=Z (s,i):=qJ y a c b
end
end L2
namespace G
open L2
variable{U:List cF}
abbrev aC:=Int×Int
variable{Yr:List aC}{n d:aC}
def cu(d:aC):Nat->aC
 |0=>d
 |1=>(d.1,d.2+1)
 |2=>(d.1+1,d.2+1)
 |_=>(d.1+1,d.2)
def fh(d:aC):Nat->aC
 |0=>(d.1-2,d.2)
 |1=>(d.1,d.2+2)
 |2=>(d.1+2,d.2)
 |_=>(d.1,d.2-2)
def hX(d:aC):List aC:=([d,(d.1,d.2+1),(d.1+1,d.2+1),(d.1+1,d.2)])
def fG(U:List cF)(g d:aC):Bool:=(decide ((g,d)∈U\/(d,g)∈U))
def GC(U:List cF)(g d:aC):fG U g d=fG U d g:=by
 unfold fG;rw[mv,g8,g8];exact Or.comm
def aU(U:List cF)(q:aC×Nat):aC×Nat:=(if fG U q.1 (fh q.1 q.2)=aa then (fh q.1 q.2,(q.2+3)%4) else (q.1,(q.2+1)%4))
def kr(U:List cF)(q:aC×Nat):aC×Nat:=(if fG U q.1 (fh q.1<|(q.2+3)%4)=aa then (fh q.1<|(q.2+3)%4,(q.2+1)%4) else (q.1,(q.2+3)%4))
def Ly(U:List cF)(d:aC){o:Nat}(a:o<4):kr U (aU U (d,o))=(d,o):=by
 unfold aU;by_cases e:fG U d (fh d o)=aa
 ·rw[aE e];rw[GC]at e;have c:fh (fh d o) (((o+3)%4+3)%4)=d:=by
   match o,a with
   |0,_=>simp[fh]
   |1,_=>simp[fh]
   |2,_=>simp[fh]
   |3,_=>simp[fh]
  unfold kr;dsimp only;rw[c,aE e];exact fj rfl (by show ((o+3)%4+1)%4=o;omega)
 ·rw[aH e];have c:((o+1)%4+3)%4=o:=by omega
  unfold kr;dsimp only;rw[c,aH e]
def Qn(U:List cF)(q:aC×Nat):(aU U q).2<4:=by
 unfold aU;split<;>exact rd _ ∅
structure jz(Yr:List aC):Prop where
 ne:Yr≠[]
 ah:Yr.Nodup
 len:Yr.length<=40
 pn:∀d∈Yr,0<=d.1/\d.1<=29/\0<=d.2/\d.2<=29
 par:∀g∈Yr,∀d∈Yr,(g.1-d.1)%2=0/\(g.2-d.2)%2=0
 con:∀q:aC->aC,(∀g∈Yr,∀d∈Yr,(d=(g.1,g.2+2)\/d=(g.1+2,g.2))->q g=q d)->∀g∈Yr,∀d∈Yr,q g=q d
def K5:n∈hX d↔(n.1=d.1\/n.1=d.1+1)/\(n.2=d.2\/n.2=d.2+1):=by
 let⟨f,H⟩:=n;let⟨L,v⟩:=d;simp only[hX,bW,gq,e9,zd];constructor
 ·lia
 ·lia
def EU(d:aC){o:Nat}(a:o<4):cu d o∈hX d:=by
 match o,a with
 |0,_=>simp[cu,hX]
 |1,_=>simp[cu,hX]
 |2,_=>simp[cu,hX]
 |3,_=>simp[cu,hX]
def Q7(e:n∈hX d):∃o,o<4/\n=cu d o:=by
 simp only[hX,bW,gq,e9]at e;rcases e with e|e|e|e
 ·exact⟨0,by decide,e⟩
 ·exact⟨1,by decide,e⟩
 ·exact⟨2,by decide,e⟩
 ·exact⟨3,by decide,e⟩
def jz.one(Zb:jz Yr){g d n:aC}(a:g∈Yr)(b:d∈Yr)(z:n∈hX g)(E:n∈hX d):g=d:=by
 have q:=Zb.par g a d b;rw[K5]at z E;exact fj (by omega) (by omega)
def aB(m n:aC):aC:=((n.1-(n.1-m.1)%2,n.2-(n.2-m.2)%2))
def cE(m n:aC):Nat:=(if (n.1-m.1)%2=0 then (if (n.2-m.2)%2=0 then 0 else 1) else (if (n.2-m.2)%2=0 then 3 else 2))
def LQ{m:aC}(z:(d.1-m.1)%2=0)(E:(d.2-m.2)%2=0){o:Nat}(a:o<4):aB m (cu d o)=d/\cE m (cu d o)=o:=by
 match o,a with
 |0,_=>
  refine⟨fj ?_ ?_,?_⟩
  ·simp only[aB,cu];lia
  ·simp only[aB,cu];lia
  ·simp only[cE,cu];rw[aE z,aE E]
 |1,_=>
  refine⟨fj ?_ ?_,?_⟩
  ·simp only[aB,cu];lia
  ·simp only[aB,cu];lia
  ·simp only[cE,cu];rw[aE z,aH ⋯]
 |2,_=>
  refine⟨fj ?_ ?_,?_⟩
  ·simp only[aB,cu];lia
  ·simp only[aB,cu];lia
  ·simp only[cE,cu];rw[aH ⋯,aH ⋯]
 |3,_=>
  refine⟨fj ?_ ?_,?_⟩
  ·simp only[aB,cu];lia
  ·simp only[aB,cu];lia
  ·simp only[cE,cu];rw[aH ⋯,aE E]
def hQ(q:aC×Nat):aC:=(cu q.1 q.2)
def h_(Yr:List aC)(c:cF):Prop:=(c.1∈Yr/\c.2∈Yr/\(c.2=(c.1.1,c.1.2+2)\/c.2=(c.1.1+2,c.1.2)))
def WR(a:∀c∈U,h_ Yr c){g d:aC}(e:fG U g d=aa):g∈Yr/\d∈Yr:=by
 rcases gf e with e|e
 ·exact⟨(a _ e).1,(a _ e).2.1⟩
 ·exact⟨(a _ e).2.1,(a _ e).1⟩
def NS(a:∀c∈U,h_ Yr c){d:aC}(b:d∈Yr)(o:Nat):(aU U (d,o)).1∈Yr:=by
 unfold aU;split
 ·rename_i e;exact (WR a e).2
 ·exact b
theorem vR{YH:Type}[DecidableEq YH]:∀{t k:List YH},t.Nodup->(∀f∈t,f∈k)->k.length<=t.length->t.Perm k
 |[],k,_,_,e=>by rw[E3.mp (Nat.le_zero.mp e)]
 |f::t,k,ah,h,e=>by
  have b:=h f (.head _);let@⟨d,Zq⟩:=g5.mp ah;have q:=C6 b;refine .trans (.cons f (vR Zq (λH a=>(xv (λc=>d (by rw[<-c];exact a))).mpr<|h H<|.tail _ a) ?_)) q.symm;have:=q.length_eq;simp at this e;lia
def cells(Yr:List aC):List aC:=(Yr.flatMap hX)
def Jk:n∈cells Yr↔∃d∈Yr,∃o,o<4/\n=cu d o:=by
 unfold cells;rw[vq];constructor
 ·rintro⟨d,a,e⟩;exact⟨d,a,Q7 e⟩
 ·rintro⟨d,a,o,b,rfl⟩;exact⟨d,a,EU d b⟩
def U2(d:aC):(hX d).Nodup:=by
 let⟨f,H⟩:=d;simp[hX,g5];lia
theorem wF{YH Zh:Type}{F:YH->List Zh}:∀{t:List YH},t.Nodup->(∀g∈t,(F g).Nodup)->(∀g∈t,∀d∈t,∀f,f∈F g->f∈F d->g=d)->(t.flatMap F).Nodup
 |[],_,_,_=>by simp
 |g::t,ah,z,E=>by
  let@⟨e,Zq⟩:=g5.mp ah;rw[jE,d0];refine⟨z g<|.head _,wF Zq (λd a=>z d<|.tail _ a)<|λd a n h=>E d (.tail _ a) n<|.tail _ h,λf i H b c=>?_⟩;let⟨@d,a,b⟩:=vq.mp b;subst c;have:=E g (.head _) d (.tail _ a) f i b;subst this;exact e a
def jz.zM(Zb:jz Yr):(cells Yr).Nodup:=wF Zb.ah (λd W=>U2 d) λg a d b f z E=>Zb.one a b z E
theorem sl:∀Yr:List aC,(cells Yr).length=4*Yr.length
 |[]=>rfl
 |d::Yr=>by
  have:=sl Yr;unfold cells at *;rw[jE,c6,this];simp[hX];lia
def nv{YH Zh:Type}{F:YH->Zh}{t:List YH}(ah:t.Nodup)(e:∀g∈t,∀d∈t,F g=F d->g=d):(t.map F).Nodup:=by
 unfold List.Nodup;rw[qS];exact Gd (λa b w c=>w<|e _ a _ b c) ah
end G
namespace L2
section
variable{y Yv:a6}
variable{u:aj}
def aW{J:az aj}(e:J y=Z (u,y)):ae J y=Z (.cp u,y):=dP e
variable{f:bw}
def bt{J:az bw}{e:az (List bw)}{x:List bw}(a:J y=Z (f,y))(b:e y=Z (x,y)):aq J e y=Z (f::x,y):=c9 a b
variable{Zc:aj->aj->Option aj}{Zp Zk:az bw}{H:bw}{Y2 Y8:aj}
def bR(a:Zp y=Z (f,y))(b:Zk y=Z (H,y))(c:eY y f=Z Y2)(d:eY y H=Z Y8)(e:Zc Y2 Y8=Z u):aw Zc Zp Zk y=Z (u,y):=ij a b c d e
def cc(a:Zc Y2 Y8=Z u)(b:Zp y=Z (f,y):=by rfl)(c:Zk y=Z (H,y):=by rfl)(d:eY y f=Z Y2:=by rfl)(e:eY y H=Z Y8:=by rfl):aw Zc Zp Zk y=Z (u,y):=ij b c d e a
variable{J:az (List bw)}{YG:List bw}{I:List aj}
def fe{Zc:List aj->Option aj}(a:J y=Z (YG,y))(b:eF y YG=Z I)(c:Zc I=Z u):b3 Zc J y=Z (u,y):=wi a b c
variable{d:Bool}
def fK{J:az aj}(c:J y=Z (.im<|.aB d,y)):cb J y=Z (d,y):=Jr c
def wW{J:az bw}(c:J y=Z (f,y))(a:eY y f=Z u)(b:pW u=Z d):kG J y=Z (d,y):=zH c a b
def sM(a:J y=Z (YG,y))(b:eu YG y=Z (I,y))(c:I.length<=100000)(o:s9 I=u):d6 J y=Z (u,y):=Hn a b c o
def yG(a:J y=Z (YG,y))(b:eu YG y=Z (I,y))(c:I.length<=100000)(o:tn I=u):dO J y=Z (u,y):=Ik a b c o
def uD{J:az bw}{t e:az (Option Int)}{G T:Option Int}{a:aj}(b:J y=Z (f,y))(c:t y=Z (G,y))(d:e y=Z (T,y))(g:eY y f=Z u)(h:kO u G T=Z a):ie J t e y=Z (a,y):=B4 b c d g h
def d9{a:Nat}{J:az aj}(c:J y=Z (u,y))(e:a<y.length)(o:y.set a (Z u)=Yv):bP a J y=Z (.aU,Yv):=jD c e o
end
end L2
namespace G
open L2
variable{U N I Yp:List cF}{aJ h Yr:List aC}{Y2 j:Int}{n d m:aC}{q:aC->aC}{J:az aj}{Yv y:a6}{a:Nat}
structure nU(k:Int)(Yr:List aC):Prop where
 ne:Yr≠[]
 ah:Yr.Nodup
 len:(Yr.length:Int)<=k
 pn:∀d∈Yr,0<=d.1/\d.1<=29/\0<=d.2/\d.2<=29
 par:∀g∈Yr,∀d∈Yr,(g.1-d.1)%2=0/\(g.2-d.2)%2=0
 con:∀q:aC->aC,(∀g∈Yr,∀d∈Yr,(d=(g.1,g.2+2)\/d=(g.1+2,g.2))->q g=q d)->∀g∈Yr,∀d∈Yr,q g=q d
def sZ:List aC:=([(0,2),(2,0),(0,-2),(-2,0)])
def nU.add{k:Int}{Yr:List aC}(J:nU k Yr){n u:aC}(m:n∈Yr)(hd:u∈sZ)(p:(n.1+u.1,n.2+u.2)∉Yr)(v:(Yr.length:Int)<k)(r:0<=n.1+u.1/\n.1+u.1<=29/\0<=n.2+u.2/\n.2+u.2<=29):nU k (Yr++[(n.1+u.1,n.2+u.2)]):=by
 have Y8:u.1%2=0/\u.2%2=0:=by
  simp only[sZ,bW,gq,e9]at hd;rcases hd with e|e|e|e<;>subst e<;>exact⟨by decide,by decide⟩
 refine⟨by simp,d0.mpr ⟨J.ah,f9 _ _,λf b H s c=>p (by rw[cX.mp s]at c;rw[<-c];exact b)⟩,by simp;lia,λd a=>?_,λg h d a=>?_,λq i g h d a=>?_⟩
 ·rcases eh.mp a with e|e
  ·exact J.pn d e
  ·rw[cX.mp e];exact r
 ·have S:∀f∈Yr,(f.1-(n.1+u.1))%2=0/\(f.2-(n.2+u.2))%2=0:=λf b=>by
   have:=J.par f b n m;exact⟨⋯,⋯⟩
  rcases eh.mp h with z|z<;>rcases eh.mp a with E|E
  ·exact J.par g z d E
  ·rw[cX.mp E];exact S g z
  ·rw[cX.mp z];have:=S d E;exact⟨by show ((n.1+u.1)-d.1)%2=0;lia,by show ((n.2+u.2)-d.2)%2=0;lia⟩
  ·rw[cX.mp z,cX.mp E];exact⟨by simp,by simp⟩
 ·have ef:=J.con q λg h d a=>i g (gd _ h) d (gd _ a);have j:n∈Yr++[(n.1+u.1,n.2+u.2)]:=gd _ m;have l:(n.1+u.1,n.2+u.2)∈Yr++[(n.1+u.1,n.2+u.2)]:=fE _ (.head _);have t:q n=q (n.1+u.1,n.2+u.2):=by
   simp only[sZ,bW,gq,e9]at hd;rcases hd with e|e|e|e
   ·subst e;exact i _ j _ l (.inl (fj ↥0 ↥0))
   ·subst e;exact i _ j _ l (.inr (fj ↥0 ↥0))
   ·subst e;exact (i _ l _ j (.inl (fj ↥0 (by simp;lia)))).symm
   ·subst e;exact (i _ l _ j (.inr (fj (by simp;lia) ↥0))).symm
  have o:∀f∈Yr++[(n.1+u.1,n.2+u.2)],q f=q n:=λf b=>by
   rcases eh.mp b with e|e
   ·exact ef f e n m
   ·rw[cX.mp e];exact t.symm
  rw[o g h,o d a]
def A9(e:Yr.length<100000):hu (bj Yr) [.im (ak m)]=Z (.im .aV,bj<|Yr++[m]):=by
 have:hu (bj Yr) [.im (ak m)]=Z (.im .aV,.lst<|Yr.map ak++[ak m]):=wz (by rw[ba];exact e);rw[this];simp
def EB(Yr:List aC):e7 [bj Yr]=Z (ar (Yr.length:Int)):=by
 show Z (ar ((Yr.map ak).length:Int))=_;rw[ba]
def lO(Yr:List aC):e7 [aK Yr]=Z (ar (Yr.length:Int)):=by
 show Z (ar ((Yr.map ak).length:Int))=_;rw[ba]
def rq{g:aC}:bu (ak g) (ak d)=aa↔g.1<d.1\/(g.1=d.1/\g.2<d.2):=by
 let⟨f,H⟩:=g;let⟨L,v⟩:=d;show (if V.beq (.int f) (.int L)=aa then (if V.beq (.int H) (.int v)=aa then au else decide (H<v)) else decide (f<L))=aa↔_;have c:∀a r:Int,V.beq (.int a) (.int r)=decide (a=r):=λa r=>by
  show (a==r)=_;by_cases e:a=r<;>simp[e]
 rw[c,c];by_cases z:f=L<;>by_cases E:H=v<;>simp[z,E]
def eL(t:List aC):Prop:=((t.map ak).Pairwise (λg d=>bu g d=aa))
def Bx{Yp:List aC}(ah:Yp.Nodup)(b:Yp.length<=1000):∃h:List aC,h.Perm Yp/\j0 (Yp.map ak)=Z (bj h)/\eL h:=by
 have el:=rM ah b;let⟨@h,YZ,a⟩:=FO (kf<|Yp.map ak);refine⟨h,YZ,?_,?_⟩
 ·unfold j0;rw[aE (qC.mpr el),a]
 ·unfold eL;rw[<-a];exact tA el.1.3 el.1.2
def Gh{Yp:List aC}(q:h.Perm Yp)(s:eL h)(a:Yp.length<=1000)(ah:Yp.Nodup):j0 (Yp.map ak)=Z (bj h):=by
 have el:=rM ah a;unfold j0;rw[aE (qC.mpr el),<-JF el.1 (q.map ak) s]
theorem vm:∀{f:List V},(∀u∈f,∃s,u=.tup s)->hA [.lst f]=j0 f
 |[],_=>rfl
 |u::f,e=>by
  let⟨@s,rfl⟩:=e u (.head _);rfl
def yj{Yp:List aC}(b:y[a]?=Z (Z<|bj Yp))(e:j0 (Yp.map ak)=Z (bj h)):b3 hA (aq (af a) aD) y=Z (bj h,y):=by
 have c:hA [bj Yp]=Z (bj h):=by
  rw[vm,e];intro u hd;let⟨@n,W,rfl⟩:=cW.mp hd;exact⟨_,rfl⟩
 simp -implicitDefEqProofs only[b3,aq,af,vA,b,rQ,r1,wM,wU,Cr,tw,c]
def pl{f:List V}(e:J y=Z (.lst f,Yv)):b3 iy (aq (ae J) aD) y=Z (.im<|.tup f,Yv):=by
 simp -implicitDefEqProofs only[b3,aq,ae,vA,e,rQ,r1,wM,wU,Lx,iy,gI]
def cN(c:cF):V:=(.tup (i1 c))
abbrev dY(Q:List cF):aj:=.lst (Q.map cN)
def rW:V->cF
 |.tup [g,d]=>(n0 g,n0 d)
 |_=>((0,0),(0,0))
def vl(c:cF):rW (cN c)=c:=rfl
def MI{g d:cF}(e:cN g=cN d):g=d:=by rw[<-vl g,e,vl]
theorem HN:∀(t:List V) (Yp:List cF),(∀f∈t,f∈Yp.map cN)->t=(t.map rW).map cN
 |[],_,_=>rfl
 |f::t,Yp,e=>by
  let⟨@q,W,c⟩:=cW.mp (e f<|.head _);rw[cy,cy,<-HN t Yp λH a=>e H<|.tail _ a,<-c,vl]
def Nn{t:List V}(e:t.Perm (Yp.map cN)):∃h:List cF,h.Perm Yp/\t=h.map cN:=by
 refine⟨t.map rW,?_,HN t Yp λf a=>e.mem_iff.mp a⟩;have:=uj rW e;rw[eP]at this;have c:(rW ∘ cN:cF->cF)=id:=funext vl;rw[c,Kk]at this;exact this
def NR(ah:Yp.Nodup)(a:Yp.length<=1000):jG (Yp.map cN):=by
 refine⟨⟨by rw[ba];exact a,λg b d e=>?_,?_⟩,.inr λu hd=>?_⟩
 ·let⟨@f,W,rfl⟩:=cW.mp b;let⟨@H,W,rfl⟩:=cW.mp e;rfl
 ·exact Lu cN (λg d w c=>w<|MI c) ah
 ·let⟨@f,W,rfl⟩:=cW.mp hd;rfl
def My(ah:Yp.Nodup)(c:Yp.length<=1000)(e:y[a]?=Z (Z<|dY Yp)):∃h:List cF,h.Perm Yp/\b3 hA (aq (af a) aD) y=Z (dY h,y)/\(h.map cN).Pairwise (λg d=>bu g d=aa):=by
 have el:=NR ah c;let⟨@h,YZ,b⟩:=Nn (kf<|Yp.map cN);refine⟨h,YZ,?_,by rw[<-b];exact tA el.1.3 el.1.2⟩;have f:hA [dY Yp]=Z (dY h):=by
  rw[vm]
  ·unfold j0;rw[aE (qC.mpr el),b]
  ·intro u hd;let⟨@n,W,rfl⟩:=cW.mp hd;exact⟨_,rfl⟩
 simp -implicitDefEqProofs only[b3,aq,af,vA,e,rQ,r1,wM,wU,Cr,tw,f]
def RP(ah:Yp.Nodup)(b:Yp.length<=1000)(c:y[a]?=Z (Z<|dY Yp)):∃h:List cF,h.Perm Yp/\b3 hA (aq (af a) aD) y=Z (dY h,y):=by
 let⟨@h,z,E,W⟩:=My ah b c;exact⟨h,z,E⟩
def jM(Yr:List aC)(d:aC):List cF:=(([(d.1,d.2+2),(d.1+2,d.2)].filter λm=>decide (m∈Yr)).map λm=>(d,m))
def jY(Yr:List aC):List cF:=(Yr.flatMap (jM Yr))
def CG{c:cF}:c∈jY Yr↔h_ Yr c:=by
 unfold jY jM h_;simp only[vq,cW,uH,bW,gq,e9,wI];constructor
 ·rintro⟨d,a,m,⟨b,E⟩,rfl⟩;exact⟨a,E,b⟩
 ·rintro⟨z,E,e⟩;exact⟨c.1,z,c.2,⟨e,E⟩,rfl⟩
def Eu(Yr:List aC)(d:aC):(jM Yr d).length<=2:=by
 unfold jM;rw[ba];exact List.length_filter_le _ _
theorem Ee(Yr:List aC):∀t:List aC,(t.flatMap<|jM Yr).length<=2*t.length
 |[]=>bp _
 |d::t=>by
  rw[jE,c6,c8];have:=Ee Yr t;have:=Eu Yr d;lia
def Tp(ah:Yr.Nodup):(jY Yr).Nodup:=by
 refine wF ah (λd W=>?_) λg W d W f z E=>?_
 ·unfold jM;refine nv (Vc _ ?_) λg W d W c=>by injection c
  simp;lia
 ·unfold jM at z E;let⟨@m,W,rfl⟩:=cW.mp z;let⟨@Y7,W,c⟩:=cW.mp E;injection c with a b;exact a.symm
def dh(Yr:List aC)(q:aC->aC):List (List V×V):=(Yr.map λd=>(c4 d,ak<|q d))
theorem E0:∀(t a:List (List V×V)),((a++t).map (·.1)).Nodup->t.foldl (λg q=>j1 g q.1 q.2) a=a++t
 |[],a,_=>by simp
 |q::t,a,ah=>by
  have e:¬ (a.any λb=>decide (b.1=q.1))=aa:=λD=>by
   let⟨@p,d,c⟩:=pa.mp D;have c:=gf c;rw[eX,d0]at ah;exact ah.2.2 p.1 (rH d) q.1 ↥0 c
  rw[mj,show j1 a q.1 q.2=a++[q] by unfold j1;rw[aH e],E0 t (a++[q]) (by rw[bq];exact ah),bq];rfl
def QS(ah:Yr.Nodup)(q:aC->aC):nf (dh Yr q)=dh Yr q:=by
 unfold nf;rw[E0 _ [] ?_,ih];unfold dh;rw[ih,eP];exact nv ah λg W d W c=>oc c
def W3(q:aC->aC){n:aC}(e:n∈Yr):fS (dh Yr q) (c4 n)=Z (ak<|q n):=by
 induction Yr with
 |nil=>cases e
 |cons d Yr a=>
  unfold fS dh;rw[cy,jd];by_cases c:d=n
  ·subst c;simp
  ·rw[show decide (((c4 d,ak<|q d):List V×V).1=c4 n)=au from dC λD=>c<|oc D];exact a ((bW.mp e).resolve_left λD=>c D.symm)
def OR(Yr:List aC)(q:aC->aC):q9 (Yr.map λd=>.tup [ak d,ak<|q d])=Z (dh Yr q):=by
 unfold dh;induction Yr with
 |nil=>rfl
 |cons n s a=>
  rw[cy,Bp,q9,a];rfl
def WA(Yr:List aC)(q:aC->aC):((dh Yr q).all λp=>V.keys 7 p.1)=aa:=by
 unfold dh;rw[zC,k9];intro n W;rfl
def Qe(ah:Yr.Nodup)(a:Yr.length<=1000)(e:J y=Z (.lst<|Yr.map λd=>.tup [ak d,ak<|q d],Yv)):b3 tG (aq (ae J) aD) y=Z (.bN<|dh Yr q,Yv):=by
 have t:(dh Yr q).length<=1000:=by unfold dh;rw[ba];exact a
 have m:=WA Yr q;have F:=QS ah q;have s:=OR Yr q;simp -implicitDefEqProofs only[b3,aq,ae,e,vA,rQ,r1,wM,Lx,wU,tG,s,m,t,F,and_self,h7]
inductive kX (Yr:List aC):List cF->(aC->aC)->Prop where
 |nil:kX Yr [] λd=>d
 |add {I:List cF}{q:aC->aC}{c:cF}:kX Yr I q->h_ Yr c->q c.1≠q c.2->kX Yr (I++[c]) λd=>if q d=q c.1 then q c.2 else q d
def kX.Ba(o:kX Yr I q):∀c∈I,h_ Yr c:=by
 induction o with
 |nil=>intro c e;cases e
 |add o z E a=>
  intro c e;rcases eh.mp e with e|e
  ·exact a c e
  ·rw[cX.mp e];exact z
structure kB(Yr:List aC)(N I:List cF)(q:aC->aC):Prop where
 i4:kX Yr I q
 ah:(I++N).Nodup
 len:I.length+N.length<=80
 ni:∀c∈N,h_ Yr c
 Bu:∀c,h_ Yr c->c∈N\/q c.1=q c.2
def kB.drop(Yo:kB Yr N I q){r:Nat}{c:cF}(d:N[r]?=Z c)(g:q c.1=q c.2):kB Yr (N.eraseIdx r) I q:=by
 let⟨@h,i⟩:=eA.mp d;refine⟨Yo.i4,Yo.ah.sublist<|N9 (List.eraseIdx_sublist _ _) _,?_,λf b=>Yo.ni f<|Hm b,λf b=>?_⟩
 ·have:=Yo.len;rw[xj,aE h];lia
 ·rcases Yo.Bu f b with e|e
  ·by_cases D:f=c
   ·rw[D];exact .inr g
   ·left;rw[List.mem_eraseIdx_iff_getElem?];let⟨@a,T⟩:=List.mem_iff_getElem?.mp e;exact⟨a,λp=>D (by rw[p,d]at T;exact (Option.some.inj T).symm),T⟩
  ·exact .inr e
theorem pq{YH:Type}:∀{t:List YH}{r:Nat} (e:r<t.length),(t[r]::t.eraseIdx r).Perm t
 |g::t,0,_=>List.Perm.refl _
 |g::t,r+1,e=>(List.Perm.swap _ _ _).trans (.cons g<|pq<|AA e)
def kB.take(Yo:kB Yr N I q){r:Nat}{c:cF}(b:N[r]?=Z c)(i:q c.1≠q c.2):kB Yr (N.eraseIdx r) (I++[c]) (λd=>if q d=q c.1 then q c.2 else q d):=by
 let⟨@g,j⟩:=eA.mp b;have h:(c::N.eraseIdx r).Perm N:=by
  rw[<-j];exact pq g
 refine⟨.add Yo.i4 (Yo.ni c<|fL b) i,?_,?_,λf a=>Yo.ni f<|Hm a,λf a=>?_⟩
 ·rw[bq];exact (d1 I h).nodup_iff.mpr Yo.ah
 ·have:=Yo.len;rw[xj,aE g,c6,mw];omega
 ·by_cases D:f=c
  ·right;subst D;show (if q f.1=q f.1 then _ else _)=(if q f.2=q f.1 then _ else _);rw[aE rfl];split<;>rfl
  ·rcases Yo.Bu f a with e|e
   ·left;rcases bW.mp (h.mem_iff.mpr e) with e|e
    ·exact absurd e D
    ·exact e
   ·right;show (if q f.1=q c.1 then _ else _)=(if q f.2=q c.1 then _ else _);rw[e]
def QD(g d:aC):i3 (.im<|ak g) (.im<|ak d)=Z (.im<|.aB<|!decide (g=d)):=by
 have e:=kZ g d;show (if V.bo 8 (ak g)=aa then Z (aj.im<|.aB<|!ct (ak g) (ak d)) else Y)=_;rw[aE (rz g),e]
def OF(g d:aC):gP (.im<|ak g) (.im<|ak d)=Z (.im<|.aB<|decide (g=d)):=by
 have e:=kZ g d;show (if V.bo 8 (ak g)=aa then Z (aj.im<|.aB<|ct (ak g)<|ak d) else Y)=_;rw[aE (rz g),e]
def zm(q:aC->aC){n:aC}(e:n∈Yr):bx (.bN<|dh Yr q) (.im<|ak n)=Z (.im<|ak<|q n):=by
 have J:=W3 q e;show (if V.keys 7 (c4 n)=aa then (fS (dh Yr q)<|c4 n).map aj.im else Y)=_;rw[aE (zx n),J];rfl
def MG(Yr:List cF):e7 [dY Yr]=Z (ar (Yr.length:Int)):=by
 show Z (ar ((Yr.map cN).length:Int))=_;rw[ba]
def qO(Yp:dt)(a r j Y2 b c:Int):Prop:=(∃g f H,we Yp.cT Yp.fU [.int a,.int r]=Z g/\kP Yp.kt g 0=Z (.fn f)/\kP Yp.kt g 1=Z (.fn H)/\kP Yp.kt f 0=Z (.int j)/\kP Yp.kt f 1=Z (.int Y2)/\kP Yp.kt H 0=Z (.int b)/\kP Yp.kt H 1=Z (.int c))
structure qR(Yp:dt):Prop where
 jV:qO Yp 0 0 (-1) 0 0 1
 dB:qO Yp 0 1 0 1 1 0
 dg:qO Yp 1 1 1 0 0 (-1)
 d_:qO Yp 1 0 0 (-1) (-1) 0
def B2{Yp:dt}{f:ag}{k:Int}(a:kP Yp.kt f 0=Z (.int j))(z:kP Yp.kt f 1=Z (.int Y2))(g:0<=k)(cm:k<10):mm Yp [.im (ak n),.im<|.fn f,ar k]=Z (.im<|ak (n.1+j*k,n.2+Y2*k),[.im (ak n),.im<|.fn f,ar k]):=by
 have b:iM j k=aa:=oI ⋯ ⋯;have YK:iM Y2 k=aa:=oI ⋯ ⋯;have c:ee Yp.kt Yp.cT (.im<|ak n) (ar 0)=Z (ar n.1):=rfl;have d:ee Yp.kt Yp.cT (.im<|ak n) (ar 1)=Z (ar n.2):=rfl;have Zm:ee Yp.kt Yp.cT (.im<|.fn f) (ar 0)=Z (ar j):=congrArg (Option.map aj.im) a;have e:ee Yp.kt Yp.cT (.im<|.fn f) (ar 1)=Z (ar Y2):=congrArg (Option.map aj.im) z;unfold mm GZ;exact qJ [Z (.im<|ak n),Z<|.im<|.fn f,Z<|ar k] rfl (eE<|sM (bt (aW<|bR (aW<|cc c) (aW<|bR (aW<|cc Zm) rfl rfl rfl<|hG b) rfl rfl rfl)<|bt (aW<|bR (aW<|cc d) (aW<|bR (aW<|cc e) rfl rfl rfl<|hG YK) rfl rfl rfl) rfl) rfl (fC rfl) rfl) rfl
def Q5(c:aJ[0]?=Z m):sz [aK aJ,.im<|ak n]=Z (.im<|ak<|aB m n,[aK aJ,.im<|ak n]):=by
 have i:dN (aJ.map ak) 0=Z (ak m):=KW ∅ ⇑c;have a:bx (.im<|ak n) (ar 0)=Z (ar n.1):=rfl;have b:bx (.im<|ak n) (ar 1)=Z (ar n.2):=rfl;have d:bx (.im<|ak m) (ar 0)=Z (ar m.1):=rfl;have aQ:bx (.im<|ak m) (ar 1)=Z (ar m.2):=rfl;have YU:bx (aK aJ) (ar 0)=Z (.im<|ak m):=by
  show (dN (aJ.map ak) 0).map aj.im=_;rw[i];rfl
 unfold sz JG;exact qJ [Z (aK aJ),Z<|.im<|ak n] rfl (eE (sM (bt (aW (bR (aW<|cc a) (aW (bR (aW<|bR (aW<|cc a) (aW<|bR (aW<|cc YU) rfl rfl rfl d) rfl rfl rfl) rfl rfl rfl (jj ∅))) rfl rfl rfl)) (bt (aW (bR (aW<|cc b) (aW (bR (aW<|bR (aW<|cc b) (aW<|bR (aW<|cc YU) rfl rfl rfl aQ) rfl rfl rfl) rfl rfl rfl (jj ∅))) rfl rfl rfl)) rfl)) rfl (fC rfl) rfl)) rfl
def DJ(c:cF):V.bo 8 (cN c)=aa:=rfl
theorem Ab:∀Yz:List cF,V.cQ 8 (Yz.map cN)=aa
 |[]=>rfl
 |q::s=>by rw[cy,V.cQ,DJ,Ab s];rfl
def Ja(g d:cF):ct (cN g) (cN d)=decide (g=d):=by
 show (ct (ak g.1) (ak d.1)&&(ct (ak g.2) (ak d.2)&&aa))=_;rw[kZ,kZ];let⟨a,Zi⟩:=g;let⟨aQ,aS⟩:=d;by_cases z:a=aQ<;>by_cases E:Zi=aS<;>simp[z,E]
def Wt(Yz:List cF)(c:cF):h1 (cN c) (.im<|.tup<|Yz.map cN)=Z (decide (c∈Yz)):=by
 rw[Ii,DJ,Ab,Jj];show (if (aa&&aa)=aa then _ else _)=_;rw[aE (show (aa&&aa)=aa from rfl)];congr 1;rw[mv,pa,g8];constructor
 ·rintro⟨f,a,e⟩;have:decide (f=c)=aa:=by rw[<-Ja];exact e
  rw[<-gf this];exact a
 ·intro e;refine⟨c,e,?_⟩;show ct (cN c) (cN c)=aa;rw[Ja];exact dx rfl
def pE(U:List cF):Prop:=(∀c∈U,c.1.1<c.2.1\/(c.1.1=c.2.1/\c.1.2<c.2.2))
def pE.of(e:∀c∈U,h_ Yr c):pE U:=λc a=>by
 have:=(e c a).2.2;rcases this with e|e
 ·rw[e];exact .inr ⟨rfl,by show c.1.2<c.1.2+2;lia⟩
 ·rw[e];exact .inl (by show c.1.1<c.1.1+2;lia)
def N1(a:pE U)(g d:aC):decide (jC g d∈U)=fG U g d:=by
 unfold fG;rw[mv,g8,g8];by_cases z:bu (ak g) (ak d)=aa
 ·have b:=rq.mp z;have E:¬ bu (ak d) (ak g)=aa:=λD=>by have:=rq.mp D;lia
  have c:jC g d=(g,d):=by unfold jC;rw[aE z,aH E]
  rw[c];constructor
  ·exact .inl
  ·rintro (e|e)
   ·exact e
   ·have:=a _ e;simp only at this;lia
 ·by_cases E:bu (ak d) (ak g)=aa
  ·have f:=rq.mp E;have c:jC g d=(d,g):=by unfold jC;rw[aH z,aE E]
   rw[c];constructor
   ·exact .inr
   ·rintro (e|e)
    ·have:=a _ e;simp only at this;lia
    ·exact e
  ·have b:=λD=>z (rq.mpr D);have f:=λD=>E (rq.mpr D);have c:g=d:=fj ⋯ ⋯;subst c;have c:jC g g=(g,g):=by unfold jC;rw[aH z]
   rw[c];exact⟨.inl,λe=>e.elim id id⟩
def Te{Yp:dt}{a r c e:Int}(p:qO Yp a r j Y2 c e)(q:aJ[0]?=Z m)(t:aB m n=d)(z:n.1-d.1=a)(E:n.2-d.2=r)(v:pE U):
  qc Yp [aK aJ,.im<|.tup<|U.map cN,.im<|ak n]=Z (.im<|ak<|if fG U d (d.1+j*2,d.2+Y2*2)=aa then (n.1+j*1,n.2+Y2*1) else (n.1+c*1,n.2+e*1),[aK aJ,.im<|.tup<|U.map cN,.im<|ak n]):=by
 let⟨g,f,@H,jV,dB,dg,d_,h,w,x⟩:=p;have i:=Q5 (n:=n) q;rw[t]at i;have cm:=B2 (n:=d) (k:=2) d_ h ∅ ∅;have A:=B2 (n:=n) (k:=1) d_ h ∅ ∅;have B:=B2 (n:=n) (k:=1) w x ∅ ∅;have C:ee Yp.kt Yp.cT (.im<|ak n) (ar 0)=Z (ar n.1):=rfl;have F:ee Yp.kt Yp.cT (.im<|ak n) (ar 1)=Z (ar n.2):=rfl;have I:ee Yp.kt Yp.cT (.im<|ak d) (ar 0)=Z (ar d.1):=rfl;have aQ:ee Yp.kt Yp.cT (.im<|ak d) (ar 1)=Z (ar d.2):=rfl;have a7:ee Yp.kt Yp.cT (.im<|.fn Yp.fU) (.im<|.tup [.int a,.int r])=Z (.im<|.fn g):=by
  show (if V.keys 7 [.int a,.int r]=aa then (we Yp.cT Yp.fU [.int a,.int r]).map λu=>aj.im (.fn u) else Y)=_;rw[aE (show V.keys 7 [.int a,.int r]=aa from rfl),jV];rfl
 have l:ee Yp.kt Yp.cT (.im<|.fn g) (ar 0)=Z (.im<|.fn f):=by
  show (kP Yp.kt g 0).map aj.im=_;rw[dB];rfl
 have J:ee Yp.kt Yp.cT (.im<|.fn g) (ar 1)=Z (.im<|.fn H):=by
  show (kP Yp.kt g 1).map aj.im=_;rw[dg];rfl
 have le:=Mj d (d.1+j*2,d.2+Y2*2);have o:=Wt U (jC d (d.1+j*2,d.2+Y2*2));rw[N1 v]at o;have L:k8 (.im<|.tup<|i1<|jC d (d.1+j*2,d.2+Y2*2)) (.im<|.tup<|U.map cN)=Z (.im<|.aB<|fG U d (d.1+j*2,d.2+Y2*2)):=by
  show (h1 (cN<|jC d (d.1+j*2,d.2+Y2*2))<|.im<|.tup<|U.map cN).map (λs=>aj.im<|.aB s)=_;rw[o];rfl
 unfold qc Ic;obtain⟨y,b⟩:∃y:a6,y=[Z (aK aJ),Z<|.im<|.tup<|U.map cN,Z<|.im<|ak n,Z<|.im<|ak d,Z<|.im<|.fn g]:=⟨_,rfl⟩;have M:bP 3 (b_ 2 G.sz<|aq (af 0)<|aq (af 2) aD) [Z (aK aJ),Z<|.im<|.tup<|U.map cN,Z<|.im<|ak n,Y,Y]=Z (.aU,[Z (aK aJ),Z<|.im<|.tup<|U.map cN,Z<|.im<|ak n,Z<|.im<|ak d,Y]):=by
  exact jD (sj rfl rfl rfl i) (show 3<5 by decide) rfl
 have N:bP 4 (aw (ee Yp.kt Yp.cT) (ae<|aA<|.fn Yp.fU)<|ae<|d6<|aq (ae<|aw fy (ae<|aw (ee Yp.kt Yp.cT) (af 2)<|ae<|aA<|.int 0)<|ae<|aw (ee Yp.kt Yp.cT) (af 3)<|ae<|aA<|.int 0)<|aq (ae<|aw fy (ae<|aw (ee Yp.kt Yp.cT) (af 2)<|ae<|aA<|.int 1)<|ae<|aw (ee Yp.kt Yp.cT) (af 3)<|ae<|aA<|.int 1) aD) [Z (aK aJ),Z<|.im<|.tup<|U.map cN,Z<|.im<|ak n,Z<|.im<|ak d,Y]=Z (.aU,y):=by
  rw[b];subst z;subst E;exact d9 (bR rfl (aW<|sM (bt (aW<|bR (aW<|cc C) (aW<|cc I) rfl rfl rfl)<|bt (aW<|bR (aW<|cc F) (aW<|cc aQ) rfl rfl rfl) rfl) rfl (fC rfl) rfl) rfl rfl a7) (show 4<5 by decide) rfl
 have YK:cb (aw k8 (ae<|b_ 2 G.sT<|aq (af 3)<|aq (ae<|b_ 3 (G.mm Yp)<|aq (af 3)<|aq (ae<|aw (ee Yp.kt Yp.cT) (af 4)<|ae<|aA<|.int 0)<|aq (ae<|aA<|.int 2) aD) aD)<|af 1) y=Z (fG U d (d.1+j*2,d.2+Y2*2),y):=by
  rw[b];exact Jr (ij (dP<|sj (c9 rfl<|c9 (dP<|sj (c9 rfl<|c9 (dP<|ij rfl rfl rfl rfl l) rfl) rfl rfl cm) rfl) rfl rfl le) rfl rfl rfl L)
 have O:cV (b_ 3 (G.mm Yp)<|aq (af 2)<|aq (ae<|aw (ee Yp.kt Yp.cT) (af 4)<|ae<|aA<|.int 0)<|aq (ae<|aA<|.int 1) aD) y=Z (.dD<|.im<|ak (n.1+j*1,n.2+Y2*1),y):=by
  rw[b];exact eE (dp (bt rfl<|bt (aW<|cc l) rfl) rfl rfl A rfl)
 have P:cV (b_ 3 (G.mm Yp)<|aq (af 2)<|aq (ae<|aw (ee Yp.kt Yp.cT) (af 4)<|ae<|aA<|.int 1)<|aq (ae<|aA<|.int 1) aD) y=Z (.dD<|.im<|ak (n.1+c*1,n.2+e*1),y):=by
  rw[b];exact eE (dp (bt rfl<|bt (aW<|cc J) rfl) rfl rfl B rfl)
 refine qJ y rfl ((nR M).trans<|(nR N).trans ?_) (by rw[b];rfl);by_cases D:fG U d (d.1+j*2,d.2+Y2*2)=aa
 ·rw[aE D];rw[D]at YK;exact oB ((yc YK).trans O)
 ·rw[aH D];rw[Bool.not_eq_true]at D;rw[D]at YK;exact (nR<|Cd YK).trans P
def X(d:aC):Nat->aC
 |0=>(d.1-1,d.2)
 |1=>(d.1,d.2+1)
 |2=>(d.1+1,d.2)
 |_=>(d.1,d.2-1)
def RT(U:List cF)(d:aC){o:Nat}(a:o<4):hQ (aU U (d,o))=if fG U d (fh d o)=aa then X (cu d o) o else cu d ((o+1)%4):=by
 unfold aU;dsimp only;split
 ·match o,a with
  |0,_=>simp[hQ,cu,fh,X];lia
  |1,_=>simp[hQ,cu,fh,X];lia
  |2,_=>simp[hQ,cu,fh,X];lia
  |3,_=>simp[hQ,cu,fh,X];lia
 ·rfl
def V0{Yp:dt}(c:qR Yp){Yr aJ:List aC}{U:List cF}{d m:aC}{o:Nat}(Zb:jz Yr)(h:aJ[0]?=Z m)(i:m∈Yr)(k:d∈Yr)(f:o<4)(n:pE U):
  qc Yp [aK aJ,.im<|.tup<|U.map cN,.im<|ak<|cu d o]=Z (.im<|ak<|hQ<|aU U (d,o),[aK aJ,.im<|.tup<|U.map cN,.im<|ak<|cu d o]):=by
 have g:=Zb.par d k m i;have p:=(LQ g.1 g.2 f).1;rw[RT U d f];have e:∀{j Y2 a b:Int},qO Yp ((cu d o).1-d.1) ((cu d o).2-d.2) j Y2 a b->(d.1+j*2,d.2+Y2*2)=fh d o->((cu d o).1+j*1,(cu d o).2+Y2*1)=X (cu d o) o->((cu d o).1+a*1,(cu d o).2+b*1)=cu d ((o+1)%4)->
   qc Yp [aK aJ,.im<|.tup<|U.map cN,.im<|ak<|cu d o]=Z (.im<|ak<|if fG U d (fh d o)=aa then X (cu d o) o else cu d ((o+1)%4),[aK aJ,.im<|.tup<|U.map cN,.im<|ak<|cu d o]):=λl q r s=>by
  rw[Te l h p rfl rfl n,q,r,s]
 match o,f with
 |0,_=>
  refine e (j := -1) (Y2:=0) (a:=0) (b:=1) ?_ (fj ?_ ?_) (fj ?_ ?_) (fj ?_ ?_)
  ·rw[show (cu d 0).1-d.1=0 by simp[cu],show (cu d 0).2-d.2=0 by simp[cu]];exact c.jV
  all_goals (simp[cu,fh,X];try lia)
 |1,_=>
  refine e (j:=0) (Y2:=1) (a:=1) (b:=0) ?_ (fj ?_ ?_) (fj ?_ ?_) (fj ?_ ?_)
  ·rw[show (cu d 1).1-d.1=0 by simp[cu],show (cu d 1).2-d.2=1 by simp[cu];lia];exact c.dB
  all_goals (simp[cu,fh,X])
 |2,_=>
  refine e (j:=1) (Y2:=0) (a:=0) (b := -1) ?_ (fj ?_ ?_) (fj ?_ ?_) (fj ?_ ?_)
  ·rw[show (cu d 2).1-d.1=1 by simp[cu];lia,show (cu d 2).2-d.2=1 by simp[cu];lia];exact c.dg
  all_goals (simp[cu,fh,X];try lia)
 |3,_=>
  refine e (j:=0) (Y2 := -1) (a := -1) (b:=0) ?_ (fj ?_ ?_) (fj ?_ ?_) (fj ?_ ?_)
  ·rw[show (cu d 3).1-d.1=1 by simp[cu];lia,show (cu d 3).2-d.2=0 by simp[cu]];exact c.d_
  all_goals (simp[cu,fh,X];try lia)
def Gt(Zb:jz Yr)(YZ:aJ.Perm (cells Yr))(N:eL aJ):∃m,aJ[0]?=Z m/\m∈Yr:=by
 cases aJ with
 |nil=>
  have z:=YZ.length_eq;rw[sl]at z;have:=jg.mpr Zb.ne;simp at z;lia
 |cons m s=>
  refine⟨m,rfl,?_⟩;let⟨@d,a,⟨@o,b,c⟩⟩:=Jk.mp (YZ.mem_iff.mp<|.head _);have e:d∈m::s:=YZ.mem_iff.mpr (Jk.mpr ⟨d,a,0,by decide,rfl⟩);by_cases D:d=m
  ·rw[<-D];exact a
  ·have f:d∈s:=(bW.mp e).resolve_left D;unfold eL at N;rw[cy,gN]at N;have lt:=rq.mp (N.1 _<|rH f);have F:=K5.mp (EU d b);rw[<-c]at F;lia
def Rn(YP:List Int):e7 [.dv (YP.map .int)]=Z (ar (YP.length:Int)):=by
 show Z (ar ((YP.map V.int).length:Int))=_;rw[ba]
end G
namespace G
section
variable{YH:Type}[DecidableEq YH]
theorem BV:∀{t k:List YH},t.Nodup->(∀f∈t,f∈k)->t.length<=k.length
 |[],k,_,_=>g0 _
 |f::t,k,ah,h=>by
  have b:=h f (.head _);let@⟨d,Zq⟩:=g5.mp ah;have q:=C6 b;have:=BV Zq (k:=k.erase f) λH a=>(xv (λc=>d (by rw[<-c];exact a))).mpr (h H<|.tail _ a);have p:=q.length_eq;rw[c8]at p ⊢;lia
def c0(F:YH->YH)(h:YH):Nat->YH
 |0=>h
 |w+1=>F (c0 F h w)
theorem xQ(F:YH->YH)(h:YH)(k:Nat):∀w,c0 F h (k+w)=c0 F (c0 F h k) w
 |0=>rfl
 |w+1=>congrArg F (xQ F h k w)
structure j7(F:YH->YH)(b:List YH):Prop where
 nx:∀f∈b,F f∈b
 inj:∀f∈b,∀H∈b,F f=F H->f=H
variable{F J:YH->YH}{b:List YH}
theorem j7.c0(YC:j7 F b){f:YH}(e:f∈b):∀w,c0 F f w∈b
 |0=>e
 |w+1=>YC.nx _ (YC.c0 e w)
theorem j7.back(YC:j7 F b){f:YH}(e:f∈b):∀{a u:Nat},G.c0 F f (a+u)=G.c0 F f a->G.c0 F f u=f
 |0,u,c=>by rw[IZ]at c;exact c
 |a+1,u,c=>by
  rw[show a+1+u=(a+u)+1 by lia]at c;exact YC.back e (YC.inj _ (YC.c0 e _) _ (YC.c0 e _) c)
def IG(YC:j7 F b){f:YH}(e:f∈b)(Y0:Nat):(∃u,0<u/\u<Y0/\G.c0 F f u=f)\/((range Y0).map<|G.c0 F f).Nodup:=by
 by_cases D:∃u,0<u/\u<Y0/\G.c0 F f u=f
 ·exact .inl D
 ·right;refine nv sA λa T r d c=>?_;have T:=eT.mp T;have d:=eT.mp d;rcases te a r with t|t|t
  ·exfalso;refine D ⟨r-a,⋯,⋯,YC.back e (a:=a) ?_⟩;rw[show a+(r-a)=r by lia];exact c.symm
  ·exact t
  ·exfalso;refine D ⟨a-r,⋯,⋯,YC.back e (a:=r) ?_⟩;rw[show r+(a-r)=a by lia];exact c
def Gk(YC:j7 F b){f:YH}(e:f∈b):∃w,G.c0 F f (w+1)=f:=by
 rcases IG YC e (b.length+1) with ⟨u,z,E,c⟩|ah
 ·exact⟨u-1,by rw[show u-1+1=u by lia];exact c⟩
 ·have:=BV ah (k:=b) λH d=>by
   let⟨@a,W,rfl⟩:=cW.mp d;exact YC.c0 e a
  rw[ba,gh]at this;lia
inductive d5 (F:YH->YH) (b:List YH):YH->YH->Prop where
 | step {f:YH}:f∈b->d5 F b f (F f)
 | refl {f:YH}:d5 F b f f
 | symm {f H:YH}:d5 F b f H->d5 F b H f
 | trans {f H D:YH}:d5 F b f H->d5 F b H D->d5 F b f D
def d5.MB(YC:j7 F b){m:YH}(h:m∈b){g d:YH}(e:d5 F b g d):(∃w,G.c0 F m w=g)↔∃w,G.c0 F m w=d:=by
 induction e with
 |@step f i=>
  constructor
  ·rintro⟨w,c⟩;exact⟨w+1,congrArg F c⟩
  ·rintro⟨w,c⟩;cases w with
   |succ o=>exact⟨o,YC.inj _ (YC.c0 h o) _ i c⟩
   |zero=>
    let⟨@k,j⟩:=Gk YC h;exact⟨k,YC.inj _ (YC.c0 h k) _ i<|j.trans c⟩
 |refl=>exact Iff.rfl
 |symm _ l=>exact l.symm
 |trans _ _ a r=>exact a.trans r
def Pp(YC:j7 F b){f H:YH}(i:f∈b)(p:H∈b)(q:J f=F H)(s:J H=F f)(ZF:∀n∈b,n≠f->n≠H->J n=F n)(t:∀w,G.c0 F f w≠H):
  (∀g d,d5 F b g d->d5 J b g d)/\d5 J b f H:=by
 have u:∀w,d5 J b (F f) (G.c0 F f<|w+1)\/d5 J b (F f) f:=λw=>by
  induction w with
  |zero=>exact .inl .refl
  |succ w j=>
   rcases j with e|e
   ·by_cases D:G.c0 F f (w+1)=f
    ·rw[D]at e;exact .inr e
    ·left;have h:d5 J b (G.c0 F f<|w+1) (J<|G.c0 F f<|w+1):=.step (YC.c0 i _);rw[ZF _ (YC.c0 i _) D (t _)]at h;exact e.trans h
   ·exact .inr e
 have Zg:d5 J b (F f) f:=by
  let⟨@w,c⟩:=Gk YC i;rcases u w with e|e
  ·rw[c]at e;exact e
  ·exact e
 have k:d5 J b H f:=by
  have h:d5 J b H (J H):=.step p;rw[s]at h;exact h.trans Zg
 have v:d5 J b f (F H):=by
  have h:d5 J b f (J f):=.step i;rw[q]at h;exact h
 refine⟨λg d e=>?_,k.symm⟩;induction e with
 |@step n l=>
  by_cases m:n=f
  ·rw[m];exact Zg.symm
  ·by_cases o:n=H
   ·rw[o];exact k.trans v
   ·have h:d5 J b n (J n):=.step l;rw[ZF n l m o]at h;exact h
 |refl=>exact .refl
 |symm _ j=>exact j.symm
 |trans _ _ a r=>exact a.trans r
def WD(YC:j7 F b)(ah:b.Nodup){m:YH}(e:m∈b)(all:∀f∈b,d5 F b m f):((range b.length).map<|G.c0 F m).Perm b/\G.c0 F m b.length=m:=by
 have reach:∀f∈b,∃w,G.c0 F m w=f:=λf g=>((all f g).MB YC e).mp ⟨0,rfl⟩;have h:¬ ∃u,0<u/\u<b.length/\G.c0 F m u=m:=by
  rintro⟨u,z,E,c⟩;have mul:∀p,G.c0 F m (u*p)=m:=λp=>by
   induction p with
   |zero=>rfl
   |succ p i=>rw[Nat.mul_succ,rn,xQ,c,i]
  have:=BV ah (k:=(range u).map (G.c0 F m)) λf g=>by
   let⟨@w,rfl⟩:=reach f g;refine cW.mpr ⟨w%u,eT.mpr<|rd _ z,?_⟩
   conv=>rhs;rw[<-Nat.div_add_mod w u,xQ,mul]
  rw[ba,gh]at this;lia
 have Zq:((range b.length).map<|G.c0 F m).Nodup:=(IG YC e b.length).resolve_left h;have YZ:=vR Zq (k:=b) (λH j=>by
  let⟨@a,W,rfl⟩:=cW.mp j;exact YC.c0 e a) (by rw[ba,gh];exact bp _)
 refine⟨YZ,?_⟩;let⟨@a,T,c⟩:=cW.mp (YZ.mem_iff.mpr<|YC.c0 e b.length);have T:=eT.mp T;have d:=YC.back e (a:=a) (u:=b.length-a) (by rw[show a+(b.length-a)=b.length by lia];exact c.symm);by_cases D:a=0
 ·subst D;rw[uX]at d;exact d
 ·exact absurd ⟨b.length-a,⋯,⋯,d⟩ h
end
variable{q:aC->aC}{I U:List cF}{Yr:List aC}
def e_(Yr:List aC):List (aC×Nat):=(Yr.flatMap λd=>[(d,0),(d,1),(d,2),(d,3)])
def il{h:aC×Nat}:h∈e_ Yr↔h.1∈Yr/\h.2<4:=by
 unfold e_;rw[vq];constructor
 ·rintro⟨d,a,e⟩;simp only[bW,gq,e9]at e;rcases e with e|e|e|e<;>subst e<;>exact⟨a,by simp⟩
 ·rintro⟨z,E⟩;refine⟨h.1,z,?_⟩;let⟨d,o⟩:=h;simp only[bW,gq,e9,zd,true_and];simp only at E;lia
theorem Hq:∀Yr:List aC,(e_ Yr).length=4*Yr.length
 |[]=>rfl
 |d::Yr=>by
  have:=Hq Yr;unfold e_ at *;rw[jE,c6,this];simp;lia
def U8(ah:Yr.Nodup):(e_ Yr).Nodup:=wF ah (λd W=>by simp) λg W d W f z E=>by
 simp only[bW,gq,e9]at z E;have a:f.1=g:=by rcases z with e|e|e|e<;>rw[e]
 have b:f.1=d:=by rcases E with e|e|e|e<;>rw[e]
 exact a.symm.trans b
theorem zO(b:∀c∈U,h_ Yr c):j7 (aU U) (e_ Yr) where
 nx:=λh Ys=>by
  have e:=il.mp Ys;exact il.mpr ⟨NS b e.1 h.2,Qn U h⟩
 inj:=λf d H g c=>by
  have z:=(il.mp d).2;have E:=(il.mp g).2;have a:=Ly U f.1 z;have Y6:=Ly U H.1 E;rw[show ((f.1,f.2):aC×Nat)=f from rfl]at a;rw[show ((H.1,H.2):aC×Nat)=H from rfl]at Y6;rw[<-a,c,Y6]
def JW{d:aC}{o r:Nat}(a:o<4)(b:r<4)(e:fh d o=fh d r):o=r:=by
 let⟨f,H⟩:=d
 match o,a,r,b with
 |0,_,0,_=>rfl
 |1,_,1,_=>rfl
 |2,_,2,_=>rfl
 |3,_,3,_=>rfl
 |0,_,1,_|0,_,2,_|0,_,3,_|1,_,0,_|1,_,2,_|1,_,3,_|2,_,0,_|2,_,1,_|2,_,3,_|3,_,0,_|3,_,1,_|3,_,2,_=>
  simp only[fh,zd]at e;lia
def yT(U:List cF)(c:cF)(g d:aC):fG (U++[c]) g d=(fG U g d || decide ((g,d)=c\/(d,g)=c)):=by
 unfold fG;rw[mv,vz,g8,g8,g8,eh,eh,cX,cX];constructor
 ·rintro ((e|e)|(e|e))
  ·exact .inl (.inl e)
  ·exact .inr (.inl e)
  ·exact .inl (.inr e)
  ·exact .inr (.inr e)
 ·rintro ((e|e)|(e|e))
  ·exact .inl (.inl e)
  ·exact .inr (.inl e)
  ·exact .inl (.inr e)
  ·exact .inr (.inr e)
structure Qd(Yr:List aC)(I:List cF)(q:aC->aC):Prop where
 g9:∀h∈e_ Yr,q (aU I h).1=q h.1
 link:∀g∈e_ Yr,∀d∈e_ Yr,q g.1=q d.1->d5 (aU I) (e_ Yr) g d
 ni:∀c∈I,q c.1=q c.2
def PK(o:kX Yr I q):Qd Yr I q:=by
 induction o with
 |nil=>
  have L:∀d o,aU [] (d,o)=(d,(o+1)%4):=λd o=>by
   unfold aU fG;simp
  refine⟨λh W=>by rw[show h=(h.1,h.2) from rfl,L],λg j d s c=>?_,(λ_ e=>by cases e)⟩;have c:g.1=d.1:=c;let⟨f,a⟩:=g;let⟨H,r⟩:=d;have c:f=H:=c;subst c;have k:=(il.mp j).1;have X:∀o,o<4->d5 (aU []) (e_ Yr) (f,o) (f,(o+1)%4):=λo m=>by
   have:=d5.step (F:=aU []) (b:=e_ Yr) (f:=(f,o)) (il.mpr ⟨k,m⟩);rw[L]at this;exact this
  have D:∀o,o<4->d5 (aU []) (e_ Yr) (f,0) (f,o):=λo m=>by
   match o,m with
   |0,_=>exact .refl
   |1,_=>exact X 0 ∅
   |2,_=>exact (X 0 ∅).trans (X 1 ∅)
   |3,_=>exact ((X 0 ∅).trans (X 1 ∅)).trans (X 2 ∅)
  exact (D a (il.mp j).2).symm.trans (D r (il.mp s).2)
 |@add I q c o x t i=>
  let⟨aQ,aS⟩:=c;let@⟨z,E,al⟩:=x;have z:aQ∈Yr:=z;have E:aS∈Yr:=E;have t:q aQ≠q aS:=t;obtain⟨YK,YR,M,N,A,Y4,am,an⟩:∃YK YR,YK<4/\YR<4/\fh aQ YK=aS/\fh aS YR=aQ/\(YK+3)%4=(YR+1)%4/\(YR+3)%4=(YK+1)%4:=by
   rcases al with e|e
   ·have e:aS=(aQ.1,aQ.2+2):=e;refine⟨1,3,by decide,by decide,e.symm,?_,by decide,by decide⟩;rw[e];exact fj rfl (by show aQ.2+2-2=aQ.2;lia)
   ·have e:aS=(aQ.1+2,aQ.2):=e;refine⟨2,0,by decide,by decide,e.symm,?_,by decide,by decide⟩;rw[e];exact fj (by show aQ.1+2-2=aQ.1;lia) rfl
  have YC:j7 (aU I) (e_ Yr):=zO o.Ba;have k:(aQ,YK)∈e_ Yr:=il.mpr ⟨z,M⟩;have y:(aS,YR)∈e_ Yr:=il.mpr ⟨E,N⟩;have O:fG I aQ aS=au:=by
   unfold fG;refine dC ?_;rintro (e|e)
   ·exact t (i.ni _ e)
   ·exact t (i.ni _ e).symm
  have ap:fG I aS aQ=au:=by rw[GC];exact O
  have Zg:aU I (aQ,YK)=(aQ,(YK+1)%4):=by unfold aU;dsimp only;rw[A,O];rfl
  have P:aU I (aS,YR)=(aS,(YR+1)%4):=by unfold aU;dsimp only;rw[Y4,ap];rfl
  have Q:aU (I++[(aQ,aS)]) (aQ,YK)=aU I (aS,YR):=by
   rw[P];unfold aU;dsimp only;rw[A,yT,dx<|.inl rfl,F1,aE rfl,am]
  have R:aU (I++[(aQ,aS)]) (aS,YR)=aU I (aQ,YK):=by
   rw[Zg];unfold aU;dsimp only;rw[Y4,yT,dx<|.inr rfl,F1,aE rfl,an]
  have ZF:∀n∈e_ Yr,n≠(aQ,YK)->n≠(aS,YR)->aU (I++[(aQ,aS)]) n=aU I n:=λn as a1 Zq=>by
   let⟨d,o⟩:=n;have m:o<4:=(il.mp as).2;unfold aU;dsimp only;rw[yT,dC,Gq];rintro (e|e)
   ·injection e with B C;subst B;exact a1 (by rw[JW m M (C.trans A.symm)])
   ·injection e with B C;subst C;exact Zq (by rw[JW m N (B.trans Y4.symm)])
  have g9:∀w,q (c0 (aU I) (aQ,YK) w).1=q aQ:=λw=>by
   induction w with
   |zero=>rfl
   |succ w a=>exact (i.g9 _<|YC.c0 k w).trans a
  let@⟨u,S⟩:=Pp YC k y Q R ZF λw c=>t (by rw[<-g9 w,c]);have G:(if q aQ=q aQ then q aS else q aQ)=q aS:=aE rfl;have Y6:(if q aS=q aQ then q aS else q aS)=q aS:=by split<;>rfl
  refine⟨λh Ys=>?_,λg j d s p=>?_,λc x=>?_⟩
  ·show (if q (aU (I++[(aQ,aS)]) h).1=q aQ then q aS else q (aU (I++[(aQ,aS)]) h).1)=(if q h.1=q aQ then q aS else q h.1);by_cases T:h=(aQ,YK)
   ·rw[T,Q,P];exact Y6.trans G.symm
   ·by_cases U:h=(aS,YR)
    ·rw[U,R,Zg];exact G.trans Y6.symm
    ·rw[ZF h Ys T U,i.g9 h Ys]
  ·have p:(if q g.1=q aQ then q aS else q g.1)=(if q d.1=q aQ then q aS else q d.1):=p;by_cases D:q g.1=q d.1
   ·exact u _ _ (i.link g j d s D)
   ·by_cases v:q g.1=q aQ
    ·rw[aE v,aH λl=>D<|v.trans l.symm]at p;exact ((u _ _<|i.link g j _ k v).trans S).trans (u _ _<|i.link _ y d s p)
    ·rw[aH v]at p;by_cases J:q d.1=q aQ
     ·rw[aE J]at p;exact ((u _ _<|i.link g j _ y p).trans S.symm).trans (u _ _<|i.link _ k d s J.symm)
     ·rw[aH J]at p;exact absurd p D
  ·show (if q c.1=q aQ then q aS else q c.1)=(if q c.2=q aQ then q aS else q c.2);rcases eh.mp x with e|e
   ·rw[i.ni c e]
   ·rw[cX.mp e];exact G.trans Y6.symm
def L8(e:U.Perm I)(g d:aC):fG U g d=fG I g d:=by
 unfold fG;rw[mv,g8,g8,e.mem_iff,e.mem_iff]
def VG(e:U.Perm I):aU U=aU I:=by
 funext h;unfold aU;rw[L8 e]
def Rj{m:aC}(Zb:jz Yr)(YZ:U.Perm I)(i4:kX Yr I q)(f:∀c,h_ Yr c->q c.1=q c.2)(a:m∈Yr):
  ((range<|4*Yr.length).map<|c0 (aU U) (m,0)).Perm (e_ Yr)/\c0 (aU U) (m,0) (4*Yr.length)=(m,0):=by
 have A:=PK i4;have YC:j7 (aU U) (e_ Yr):=zO λc i=>i4.Ba c (YZ.mem_iff.mp i);rw[VG YZ]at YC ⊢;have n:=Zb.con q λg j d k e=>f (g,d) ⟨j,k,e⟩;have b:(m,0)∈e_ Yr:=il.mpr ⟨a,by simp⟩;have:=WD YC (U8 Zb.ah) b λh Ys=>A.link _ b h Ys (n m a h.1 (il.mp Ys).1);rw[Hq]at this;exact this
def VH:(e_ Yr).map hQ=cells Yr:=by
 unfold e_ cells;induction Yr with
 |nil=>rfl
 |cons d Yr a=>rw[jE,jE,eX,a];rfl
end G
namespace G
open L2
variable{Ym:aj->a6->Prop}{Yz:List (Int×Int)}{n g H J t b k i:Int}{j B YL h:List Int}{I x:List V}{u e:aj}{s:Option (nB×a6)}{M Yv y:a6}{d:bB}{YT:fk}{f:V}{a w:Nat}
def Ck(Yp:dt):az Bool:=((cb<|aw i_ (ae<|b3 e7<|aq (af 2) aD)<|ae<|b3 e7<|aq (af 0) aD))
def G0(Yp:dt):bB:=((h4<|gG hD 2 hu<|aq (ae<|b_ 3 (G.qc Yp)<|aq (af 0)<|aq (af 1)<|aq (ae<|aw bx (af 2)<|ae<|hn<|aA<|.int 1) aD) aD))
def DK(Yp:dt):bB:=((a_ (bP 2<|dO<|aq (ae<|aw bx (af 0)<|ae<|aA<|.int 0) aD)<|a_ (kA (G.Ck Yp) (G.G0 Yp) 1000000)<|cV<|b3 iy<|aq (af 2) aD))
def n2(Yp:dt):dn:=(dG 2 3 [0,1] (DK Yp))
def d4(U:List cF)(m:aC)(w:Nat):List aC:=((range w).map λa=>hQ (c0 (aU U) (m,0) a))
def ET(U:List cF)(m:aC)(w:Nat):(d4 U m w).length=w:=by unfold d4;rw[ba,gh]
def BH(U:List cF)(m:aC)(w:Nat):d4 U m (w+1)=d4 U m w++[hQ (c0 (aU U) (m,0) w)]:=by
 unfold d4;rw[JP,eX];rfl
def RK(U:List cF)(m:aC)(w:Nat):dN ((d4 U m<|w+1).map ak) (-1)=Z (ak<|hQ<|c0 (aU U) (m,0) w):=by
 refine BA ?_;rw[BH];simp
def Ng{Yp:dt}(o:qR Yp){Yr aJ:List aC}{U:List cF}{m:aC}(Zb:jz Yr)(f:aJ[0]?=Z m)(g:m∈Yr)(p:pE U)(q:∀c∈U,h_ Yr c)(r:aJ.length=4*Yr.length):
  n2 Yp [aK aJ,.im<|.tup<|U.map cN]=Z (aK<|d4 U m<|4*Yr.length,[aK aJ,.im<|.tup<|U.map cN]):=by
 have aB:=Zb.len;have B:=jg.mpr Zb.ne;have YC:=zO q;have s:(m,0)∈e_ Yr:=il.mpr ⟨g,by simp⟩;obtain⟨a,h⟩:∃a:V,a=.tup (U.map cN):=⟨_,rfl⟩;have t:bx (aK aJ) (ar 0)=Z (.im<|ak m):=by
  show (dN (aJ.map ak) 0).map aj.im=_;rw[KW ∅ ⇑f];rfl
 have u:bP 2 (dO<|aq (ae<|aw bx (af 0)<|ae<|aA<|.int 0) aD) [Z (aK aJ),Z<|.im a,Y]=Z (.aU,[Z (aK aJ),Z<|.im a,Z<|bj<|d4 U m 1]):=by
  exact d9 (yG (bt (aW<|cc t) rfl) rfl (fC rfl) rfl) (show 2<3 by decide) rfl
 let⟨@YN,x,rfl⟩:=x7 (n:=Ck Yp) (d:=G0 Yp) (λk y=>∃w,y=[Z (aK aJ),Z<|.im a,Z<|bj<|d4 U m<|w+1]/\w+1+k=4*Yr.length) (λy=>y=[Z (aK aJ),Z<|.im a,Z<|bj<|d4 U m<|4*Yr.length])
  (λk y z=>by
   let⟨@w,rfl,i⟩:=z;refine⟨decide (w+1<4*Yr.length),[Z (aK aJ),Z<|.im a,Z<|bj<|d4 U m<|w+1],?_,λhd=>?_,λhd=>?_⟩
   ·have j:=ET U m (w+1);have l:=EB (d4 U m<|w+1);have b:=lO aJ;rw[j]at l;rw[r]at b;refine (fK<|bR (aW<|fe rfl rfl l) (aW<|fe rfl rfl b) rfl rfl rfl).trans ?_;rw[show decide (((w+1:Nat):Int)<((4*Yr.length:Nat):Int))=decide (w+1<4*Yr.length) by rw[mv,g8,g8];lia]
   ·have hd:=gf hd;have Ys:=il.mp (YC.c0 s w);have v:bx (bj<|d4 U m<|w+1) (ar<|-1)=Z (.im<|ak<|cu (c0 (aU U) (m,0) w).1 (c0 (aU U) (m,0) w).2):=by
     show (dN ((d4 U m<|w+1).map ak)<|-1).map aj.im=_;rw[RK];rfl
    have e:=V0 o (U:=U) Zb f g Ys.1 Ys.2 p;rw[<-h]at e;have j:=ET U m (w+1);have A:(d4 U m<|w+1).length<100000:=⋯
    refine⟨.aU,[Z (aK aJ),Z<|.im a,Z<|bj<|d4 U m<|w+1+1],?_,.inl rfl,k-1,⋯,w+1,rfl,⋯⟩;have b:(d4 U m<|w+1).map ak++[ak (hQ<|aU U<|c0 (aU U) (m,0) w)]=(d4 U m<|w+1+1).map ak:=by
     rw[BH U m (w+1),eX];rfl
    rw[show (((c0 (aU U) (m,0) w).1,(c0 (aU U) (m,0) w).2):aC×Nat)=c0 (aU U) (m,0) w from rfl]at e;have i:hu (bj<|d4 U m<|w+1) [.im (ak<|hQ<|aU U<|c0 (aU U) (m,0) w)]=Z (.im .aV,bj<|d4 U m<|w+1+1):=by
     rw[BH U m (w+1)];exact A9 A
    exact lL (j_ rfl rfl (c9 (dP<|sj (c9 rfl<|c9 rfl<|c9 (dP<|ij rfl (dP<|JR rfl) rfl rfl v) rfl) rfl rfl e) rfl) rfl rfl i (by rfl))
   ·have hd:=of_decide_eq_false hd;rw[show w+1=4*Yr.length by lia]) 1000000 (4*Yr.length-1) _ ⟨0,rfl,⋯⟩ ⋯
 rw[<-h];unfold n2 DK;exact qJ [Z (aK aJ),Z<|.im a,Z<|bj<|d4 U m<|4*Yr.length] rfl ((nR u).trans<|(nR x).trans<|eE rfl) rfl
def vs(a:Int):Int:=(if a<0 then -a else a)
theorem IK{YH:Type}(g d:YH->V):∀t:List YH,eg (t.map g) (t.map d)=t.map λa=>.tup [g a,d a]
 |[]=>rfl
 |f::t=>by rw[cy,cy,eg,IK g d t];rfl
def WW:az aj:=((aw fT (ae<|aw fy (ae<|aw fy (af 1)<|af 0)<|ae<|aA<|.int 1)<|af 2))
def Qx:bB:=((cV<|fN 2 [0] (nh<|aq (af 1)<|aq (ae<|aw cD (ae<|ie (af 1) (j3<|aA<|.int 1) jA)<|ae<|ie (af 1) jA<|j3<|aA<|.int 1) aD) (fl 2<|dW (b5 0)<|dW (b5 1) g6) fD G.WW))
def wX:dn:=(dG 2 2 [0,1] Qx)
def Sg:bB:=((a_ (dT (cb<|aw oo (af 1)<|af 0) (cV<|aA .aV) eM)<|a_ (dT (cb<|aw l0 (ae<|aw fR (af 1)<|ae<|aA<|.int 3)<|af 0) (cV<|aw fy (af 0)<|ae<|aw fR (af 1)<|ae<|aA<|.int 2) eM)<|cV<|aw kQ (ae<|aw fy (af 0)<|af 1)<|ae<|aA<|.int 2))
def p3:dn:=(dG 2 2 [0,1] Sg)
def XN:bB:=((cV<|b3 qG<|aq (af 1)<|aq (ae<|aw bx (af 0)<|ae<|hn<|aA<|.int 1) aD))
def sU:dn:=(dG 2 2 [0,1] XN)
def vt:bB:=((a_ (bP 5<|b_ 2 G.p3<|aq (af 1)<|aq (ae<|aw bx (af 3)<|ae<|hn<|aA<|.int 1) aD)<|a_ (dT (cb<|aw (pC au) (af 5)<|ae<|aA .aV) (cV<|b3 iy<|aq (af 3) aD) eM)<|h4<|gG hD 3 hu<|aq (ae<|b3 nk<|aq (ae<|aA<|.int 0)<|aq (ae<|aw fy (af 4)<|af 5) aD) aD))
def Ov:bB:=((a_ (bP 3<|dO<|aq (af 2) aD)<|a_ (hz (gO<|ae<|ie (af 0) jA<|j3<|hn<|aA<|.int 1) (b5 4) G.vt)<|cV<|b3 iy<|aq (af 3) aD))
def z1:dn:=(dG 3 6 [0,1,2] Ov)
def MT:bB:=((a_ (bP 3<|b_ 2 G.p3<|aq (af 1)<|aq (ae<|aw bx (af 2)<|ae<|hn<|aA<|.int 1) aD)<|cV<|kE<|iH (cb<|aw (pC aa) (af 3)<|ae<|aA .aV)<|cb<|aw p4 (ae<|aw cD (af 3)<|ae<|aw bx (af 2)<|ae<|aA<|.int 0)<|ae<|aw bx (af 0)<|ae<|hn<|aA<|.int 1))
def xS:dn:=(dG 3 4 [0,1,2] MT)
def MY:az aj:=((b_ 3 G.z1<|aq (af 1)<|aq (af 2)<|aq (af 0) aD))
def R5:bB:=((cV<|fN 1 [0,1] (kd<|aq (ae<|aw cD (ae<|b_ 2 G.sU<|aq (af 0)<|aq (af 1) aD)<|ae<|aA<|.int 1) aD) (b5 0) fD G.MY))
def ub:dn:=(dG 2 2 [0,1] R5)
def Tf:az aj:=((f3 0))
def U7:az Bool:=((kG<|ae<|b_ 3 G.xS<|aq (af 1)<|aq (af 2)<|aq (af 0) aD))
def QK:bB:=((cV<|fN 1 [0,1] (gO<|ae<|b_ 2 G.ub<|aq (af 0)<|aq (af 1) aD) (b5 0) G.U7 G.Tf))
def tb:dn:=(dG 2 2 [0,1] QK)
def IQ:az Bool:=((cb<|aw i_ (af 3)<|af 4))
def Dw:bB:=((a_ (bP 5<|aw kQ (ae<|aw cD (af 3)<|af 4)<|ae<|aA<|.int 2)<|dT (kG<|ae<|b_ 2 G.tb<|aq (af 2)<|aq (af 5) aD) (bP 4<|f3 5)<|bP 3<|aw cD (af 5)<|ae<|aA<|.int 1))
def H_:bB:=((a_ (bP 2<|b_ 2 G.wX<|aq (af 0)<|aq (af 1) aD)<|a_ (bP 3<|aA<|.int 0)<|a_ (bP 4<|aw fy (af 0)<|ae<|aA<|.int 1)<|a_ (kA G.IQ G.Dw 1000000)<|cV<|f3 3))
def mF:dn:=(dG 2 6 [0,1] H_)
def I0:bB:=((a_ (bP 2<|aA<|.int 0)<|a_ (dT (cb<|aw i_ (af 1)<|ae<|b3 e7<|aq (af 0) aD) (bP 2<|aw bx (af 0)<|af 1) eM)<|a_ (bP 3<|aw fR (ae<|aw fR (ae<|aw nW (ae<|aA<|.int 10)<|ae<|aA<|.int 60)<|ae<|aw nW (ae<|aA<|.int 10)<|ae<|aA<|.int 60)<|ae<|aw nW (ae<|aA<|.int 10)<|ae<|aA<|.int 60)<|a_ (bP 4<|aw fR (ae<|aw fT (af 2)<|af 3)<|ae<|b3 vInt<|aq (ae<|aw p4 (af 2)<|ae<|aw nW (ae<|aA<|.int 10)<|ae<|aA<|.int 18) aD)<|cV<|dO<|aq (af 4)<|aq (ae<|aw cD (ae<|aw cD (ae<|aw fT (af 2)<|ae<|aA<|.int 2305843009213693951)<|ae<|aw fR (ae<|aA<|.int 7919)<|af 1)<|ae<|aA<|.int 3)<|aq (ae<|aA<|.int 0) aD))
def xi:dn:=(dG 2 5 [0,1] I0)
def Dd:bB:=((a_ (dT (cb<|aw oo (ae<|aw bx (af 0)<|ae<|aA<|.int 0)<|ae<|aA<|.int 0) (a_ (bP 2<|aw fT (ae<|aw bx (af 0)<|ae<|aA<|.int 0)<|af 1)<|a_ (i7 (aw kQ (ae<|aw bx (af 0)<|ae<|aA<|.int 0)<|af 1)<|kN 0 (aA<|.int 0) nK)<|cV<|f3 2) eM)<|a_ (i7 (aw cD (ae<|aw bx (af 0)<|ae<|aA<|.int 2)<|ae<|aA<|.int 1)<|kN 0 (aA<|.int 2) nK)<|a_ (bP 3<|aw bx (af 0)<|ae<|aA<|.int 2)<|a_ (bP 4<|aw fT (ae<|aw fR (ae<|aw bx (af 0)<|ae<|aA<|.int 1)<|ae<|aw cD (ae<|aw cD (ae<|aA<|.int 48271)<|ae<|aw fR (ae<|aw fR (ae<|aA<|.int 2)<|af 3)<|af 3)<|ae<|aw fR (ae<|aA<|.int 65537)<|af 3)<|ae<|aA<|.int 2305843009213693921)<|a_ (bP 5<|aw cD (ae<|aw cD (ae<|aw fT (af 4)<|ae<|aA<|.int 1000003)<|ae<|aw fR (af 3)<|ae<|aA<|.int 99991)<|ae<|aA<|.int 11)<|a_ (bP 4<|aw fT (ae<|aw fR (af 4)<|af 5)<|ae<|aA<|.int 2305843009213693907)<|cV<|aw fT (ae<|aw cD (ae<|aw kQ (af 4)<|ae<|aA<|.int 97)<|ae<|aw kQ (af 4)<|ae<|aA<|.int 1000033)<|af 1))
def kh:dn:=(dG 2 6 [0,1] Dd)
def Ci:bB:=((cV<|aw bx (af 1)<|ae<|b_ 2 G.kh<|aq (af 0)<|aq (ae<|b3 e7<|aq (af 1) aD) aD))
def nr:dn:=(dG 2 2 [0,1] Ci)
def jw(i t:Int):Option Int:=(if t>i then Y else if t*3<=i then Z (i-t*2) else Z ((i-t)/2))
def zU:Option Int->V
 |none=>.aV
 |some a=>.int a
def Lo(i t:Int):p3 [.im (.int i),.im<|.int t]=Z (.im<|zU<|jw i t,[.im (.int i),.im<|.int t]):=by
 have a:cb (aw oo (af 1)<|af 0) [Z (.im<|.int i),Z<|.im<|.int t]=Z (decide (t>i),[Z (.im<|.int i),Z<|.im<|.int t]):=rfl;have b:cb (aw l0 (ae<|aw fR (af 1)<|ae<|aA<|.int 3)<|af 0) [Z (.im<|.int i),Z<|.im<|.int t]=Z (decide (t*3<=i),[Z (.im<|.int i),Z<|.im<|.int t]):=fK (bR (aW (cc (hG (oI ∅ ∅)))) rfl rfl rfl rfl);unfold jw;by_cases z:t>i
 ·rw[dx z]at a;rw[aE z];exact e3 rfl (oB<|kj a rfl) rfl
 ·rw[dC z]at a;rw[aH z];by_cases E:t*3<=i
  ·rw[dx E]at b;rw[aE E];exact e3 rfl (bT (gD a rfl) (oB (kj b (eE (bR rfl (aW (cc (hG (oI ∅ ∅)))) rfl rfl rfl))))) rfl
  ·rw[dC E]at b;rw[aH E];exact e3 rfl (bT (gD a rfl) (bT (gD b rfl) (eE (bR (aW<|bR rfl rfl rfl rfl rfl) rfl rfl rfl (s6 ∅ ∅))))) rfl
def t5(h L:Int):Int:=(h*(48271+2*L*L+65537*L)%2305843009213693921)
def Dp(h L:Int):Int:=(t5 h L*(t5 h L%1000003+L*99991+11)%2305843009213693907/97+t5 h L*(t5 h L%1000003+L*99991+11)%2305843009213693907/1000033)
abbrev hd(u h i:Int):aj:=.lst [.int u,.int h,.int i]
abbrev cM(a:Int):aj:=.im (.int a)
def MZ{u h:Int}(d:0<=u)(o:0<=h)(p:h<2^63)(q:0<=i)(r:i<2^60)(a:0<k)(l:k<1073741824):
  ∃v g YU,kh [hd u h i,.im<|.int k]=Z (.im<|.int v,[hd g h YU,.im<|.int k])/\0<=v/\v<k/\0<=g/\i<=YU/\YU<=i+1:=by
 have b:∀u i:Int,bx (hd u h i) (cM 0)=Z (cM u):=λ_ W=>rfl;have m:∀u i:Int,bx (hd u h i) (cM 1)=Z (cM h):=λ_ W=>rfl;have j:∀u i:Int,bx (hd u h i) (cM 2)=Z (cM i):=λ_ W=>rfl;have YK:cb (aw oo (ae<|aw bx (af 0)<|ae<|aA<|.int 0)<|ae<|aA<|.int 0) [Z (hd u h i),Z<|cM k,Y,Y,Y,Y]=Z (decide (0<u),[Z (hd u h i),Z<|cM k,Y,Y,Y,Y]):=fK (bR (aW<|cc<|b u i) rfl rfl rfl rfl);unfold kh Dd;by_cases e:0<u
 ·refine⟨u%k,u/k,i,?_,l_ _ ⋯,nV _ a,Int.ediv_nonneg d ⋯,⋯,⋯⟩;rw[dx e]at YK;refine e3 (y:=[Z (hd (u/k) h i),Z<|cM k,Z<|cM<|u%k,Y,Y,Y]) rfl (oB (kj YK (bT (Yv:=[Z (hd u h i),Z<|cM k,Z<|cM<|u%k,Y,Y,Y]) (d9 (bR (aW<|cc<|b u i) rfl rfl rfl<|jj a) (by exact fC rfl) rfl)<|bT (oa (bR (aW<|cc<|b u i) rfl rfl rfl<|s6 a l) rfl) rfl))) rfl
 ·have n:iM (2*(i+1)) (i+1)=aa:=oI ⋯ ⋯;refine⟨Dp h (i+1)%k,u,i+1,?_,l_ _ ⋯,nV _ a,d,⋯,⋯⟩;rw[dC e]at YK;unfold Dp;generalize c:t5 h (i+1)=f;have Zm:0<=f:=by rw[<-c];exact l_ _ ∅
  have s:f<2305843009213693921:=by rw[<-c];exact nV _ ∅
  refine e3 (y:=[Z (hd u h<|i+1),Z<|cM k,Y,Z<|cM<|i+1,Z<|cM<|f*(f%1000003+(i+1)*99991+11)%2305843009213693907,Z<|cM<|f%1000003+(i+1)*99991+11]) rfl (bT (gD YK rfl) (bT (Yv:=[Z (hd u h<|i+1),Z<|cM k,Y,Y,Y,Y]) (oa (bR (aW<|cc<|j u i) rfl rfl rfl rfl) rfl) (bT (Yv:=[Z (hd u h<|i+1),Z<|cM k,Y,Z<|cM<|i+1,Y,Y]) (d9 (cc<|j u<|i+1) (by exact fC rfl) rfl)<|bT (Yv:=[Z (hd u h<|i+1),Z<|cM k,Y,Z<|cM<|i+1,Z<|cM f,Y]) ?_<|bT (Yv:=[Z (hd u h<|i+1),Z<|cM k,Y,Z<|cM<|i+1,Z<|cM f,Z<|cM<|f%1000003+(i+1)*99991+11]) ?_<|bT (Yv:=[Z (hd u h<|i+1),Z<|cM k,Y,Z<|cM<|i+1,Z<|cM<|f*(f%1000003+(i+1)*99991+11)%2305843009213693907,Z<|cM<|f%1000003+(i+1)*99991+11]) ?_<|eE ?_))) rfl
  ·rw[<-c];exact d9 (bR (aW (bR (aW<|cc<|m u<|i+1) (aW (bR (aW (bR rfl (aW (bR (aW (cc (hG (nc ∅ ∅)))) rfl rfl rfl<|hG n)) rfl rfl rfl)) (aW (cc (hG (nc ∅ ∅)))) rfl rfl rfl)) rfl rfl (hG (nc ⋯ ⋯)))) rfl rfl rfl (jj ∅)) (by exact fC rfl) rfl
  ·exact d9 (bR (aW (bR (aW (cc (jj ∅))) (aW (cc (hG (oI ∅ ∅)))) rfl rfl rfl)) rfl rfl rfl rfl) (by exact fC rfl) rfl
  ·exact d9 (bR (aW (cc (hG (nc ⋯ ⋯)))) rfl rfl rfl (jj ∅)) (by exact fC rfl) rfl
  ·exact bR (aW (bR (aW (cc (s6 ∅ ∅))) (aW (cc (s6 ∅ ∅))) rfl rfl rfl)) rfl rfl rfl (jj a)
def fm(w:Nat)(e:aj):Prop:=(∃u h i,e=hd u h i/\0<=u/\0<=h/\h<2^63/\0<=i/\i+w<2^60)
def fm.mono{k:Nat}(f:fm w e)(c:k<=w):fm k e:=by
 let⟨u,h,@i,rfl,z,E,a,b,d⟩:=f;exact⟨u,h,i,rfl,z,E,a,b,⋯⟩
def oN(f:fm (w+1) e)(d:0<k)(g:k<1073741824):∃v R,kh [e,.im<|.int k]=Z (.im<|.int v,[R,.im<|.int k])/\0<=v/\v<k/\fm w R:=by
 let⟨u,h,@i,rfl,z,E,a,j,o⟩:=f;let⟨v,b,@YU,c,l,m,n,p,q⟩:=MZ (k:=k) z E a j ⋯ d g;exact⟨v,hd b h YU,c,l,m,b,h,YU,rfl,n,E,a,⋯,⋯⟩
def fq(f:fm w e):∃I,e=.lst I:=by
 let⟨u,h,@i,rfl,W⟩:=f;exact⟨_,rfl⟩
def SO{YP:List Int}{o:Int}(b:0<=o)(p:o<1000):∃e,xi [.dv (YP.map .int),.im<|.int o]=Z (e,[.dv (YP.map .int),.im<|.int o])/\fm 1000000 e:=by
 have S:∀n:Int,fm 1000000 (hd (n%(10^60*10^60*10^60)*(if decide (10^18<=n) then 1 else 0)) (n%2305843009213693951+7919*o+3) 0):=λn=>by
  have z:=l_ n (show (10^60*10^60*10^60:Int)≠0 by decide);have E:=l_ n (show (2305843009213693951:Int)≠0 by decide);have q:=nV n (show (0:Int)<2305843009213693951 by decide);refine⟨_,_,_,rfl,?_,⋯,⋯,hl 0,by decide⟩;split
  ·rw[Lp];exact z
  ·rw[Int.mul_zero];exact hl 0
 have hc:nW (cM 10) (cM 60)=Z (cM<|10^60):=Er ∅;have c:nW (cM 10) (cM 18)=Z (cM<|10^18):=Er ∅;have g:iM (10^60) (10^60)=aa:=by decide +kernel
 have Y6:iM (10^60*10^60) (10^60)=aa:=by decide +kernel
 have h:∀(f:Int) (d:Bool),iM f (if d then 1 else 0)=aa:=λf d=>oI (by cases d<;>decide) (by cases d<;>decide);have i:(0:Int)<10^60*10^60*10^60:=by decide
 obtain⟨n,j⟩:∃n:Int,dT (cb<|aw i_ (af 1)<|ae<|b3 e7<|aq (af 0) aD) (bP 2<|aw bx (af 0)<|af 1) eM [Z (.dv<|YP.map .int),Z<|cM o,Z<|cM 0,Y,Y]=Z (.aU,[Z (.dv<|YP.map .int),Z<|cM o,Z<|cM n,Y,Y]):=by
  have cE:cb (aw i_ (af 1)<|ae<|b3 e7<|aq (af 0) aD) [Z (.dv<|YP.map .int),Z<|cM o,Z<|cM 0,Y,Y]=Z (decide (o<((YP.map V.int).length:Int)),[Z (.dv<|YP.map .int),Z<|cM o,Z<|cM 0,Y,Y]):=fK (bR rfl (aW<|fe (bt rfl rfl) rfl rfl) rfl rfl rfl);rw[ba]at cE;by_cases a:o<(YP.length:Int)
  ·rw[dx a]at cE;have k:o.toNat<YP.length:=⋯
   have l:dN (YP.map V.int) o=Z (.int YP[o.toNat]):=m4 b (by rw[ea,dz k];rfl);have m:bx (.dv<|YP.map .int) (cM o)=Z (cM YP[o.toNat]):=by
    show (dN (YP.map V.int) o).map aj.im=_;rw[l];rfl
   exact⟨YP[o.toNat],kj cE<|d9 (cc m) (fC rfl) rfl⟩
  ·rw[dC a]at cE;exact⟨0,gD cE rfl⟩
 refine⟨_,?_,S n⟩;unfold xi I0;generalize YP.map V.int=N at *;refine e3 (y:=[Z (.dv N),Z<|cM o,Z<|cM n,Z<|cM<|10^60*10^60*10^60,Z<|cM<|n%(10^60*10^60*10^60)*(if decide (10^18<=n) then 1 else 0)]) rfl (bT (Yv:=[Z (.dv N),Z<|cM o,Z<|cM 0,Y,Y]) rfl (bT j (bT (Yv:=[Z (.dv N),Z<|cM o,Z<|cM n,Z<|cM<|10^60*10^60*10^60,Y]) (d9 (bR (aW<|bR (aW<|cc hc) (aW<|cc hc) rfl rfl<|hG g) (aW<|cc hc) rfl rfl<|hG Y6) (fC rfl) rfl) (bT (d9 (bR (aW<|cc<|jj i) (aW<|fe (bt (aW<|bR rfl (aW<|cc c) rfl rfl rfl) rfl) rfl rfl) rfl rfl<|hG<|h _ _) (fC rfl) rfl) (eE (yG (bt rfl (bt (aW (bR (aW (bR (aW (cc (jj ∅))) (aW (cc (hG (nc ∅ ∅)))) rfl rfl rfl)) rfl rfl rfl rfl))<|bt rfl rfl)) rfl (fC rfl) rfl)))))) rfl
def tm(f:fm (w+1) e)(d:x≠[])(z:x.length<1073741824):∃u R,nr [e,.lst x]=Z (.im u,[R,.lst x])/\u∈x/\fm w R:=by
 have j:0<x.length:=jg.mpr d;let⟨v,@R,c,g,l,a⟩:=oN (k:=x.length) f ⋯ ⋯;obtain⟨u,hd⟩:∃u,x[v.toNat]?=Z u:=⟨x[v.toNat]'⋯,by simp⟩;have h:dN x v=Z u:=m4 g hd;let⟨@p,rfl⟩:=fq f;let⟨@b,rfl⟩:=fq a;refine⟨u,.lst b,?_,fL hd,a⟩;have i:bx (.lst x) (cM v)=Z (.im u):=by
  show (dN x v).map aj.im=_;rw[h];rfl
 unfold nr Ci;exact e3 (y:=[Z (.lst b),Z<|.lst x]) rfl (eE<|ij rfl (dP<|dp (YG:=[.aZ 0,.cp<|cM x.length]) (c9 rfl<|c9 (dP<|wi (c9 rfl rfl) rfl rfl) rfl) rfl rfl c rfl) rfl rfl i) rfl
structure o8(b:Int)(l:List Int):Prop where
 m0:1<=b
 cm:b<=200
 ne:l≠[]
 up:l.Pairwise (· < ·)
 nx:∀h∈l,0<=h/\h<b
 i0:l.length<=8
def x6(e:(fV 0 w)[a]?=Z f):a<w/\f=.int (0+(a:Int)):=by
 have T:a<w:=by
  have:=(eA.mp e).1
  rwa [fV,ba,gh]at this
 rw[fV,ea,GL T]at e;exact⟨T,(Option.some.inj e).symm⟩
def Hd(G:Int)(w:Nat):(fV G w).length=w:=by rw[fV,ba,gh]
def QG(w:Nat):fV 0 w=((range w).map λ(o:Nat)=>(o:Int)).map V.int:=by
 rw[fV,eP];refine kH λo W=>?_;show V.int (0+(o:Int))=V.int (o:Int);rw[Int.zero_add]
def b4(b:Int)(h:List Int):List Int:=((h.zip<|h.drop 1++h.take 1).map λq=>(q.2-q.1-1)%b)
abbrev bV(h:List Int):aj:=.im (.tup<|h.map .int)
abbrev bU(h:List Int):aj:=.lst (h.map .int)
def Ct(a:0<b)(g:h.length<=1000):wX [.im (.int b),bV h]=Z (bU<|b4 b h,[.im (.int b),bV h]):=by
 have c:(h.drop 1).length+(h.take 1).length<=100000:=by rw[fg,gx];omega
 have i:(h.length-1)+min 1 h.length<=100000:=by omega
 have d:kO (bV h) (Z 1) Y=Z (bV<|h.drop 1):=by
  show Z (aj.im<|.tup<|e6 (h.map V.int) (Z 1) Y)=_;rw[tl,show e6 h (Z 1) Y=h.drop 1 from B6 h 1]
 have e:kO (bV h) Y (Z 1)=Z (bV<|h.take 1):=by
  show Z (aj.im<|.tup<|e6 (h.map V.int) Y<|Z 1)=_;rw[tl,show e6 h Y (Z 1)=h.take 1 from EE h 1]
 have f:cD (bV<|h.drop 1) (bV<|h.take 1)=Z (bV<|h.drop 1++h.take 1):=by
  show (if _ then Z (aj.im<|.tup<|_++_) else Y)=_;rw[aE (by rw[ba,ba];exact c)];show _=Z (aj.im<|.tup<|(h.drop 1++h.take 1).map .int);rw[eX]
 refine e3 (y:=[Z (.im<|.int b),Z<|bV h]) rfl (eE (kM (m:=Y) (Yv:=[Z (.im<|.int b),Z<|bV h]) (a:=[Z (.im<|.int b)]) (x:=(h.zip<|h.drop 1++h.take 1).map λq=>.tup [.int q.1,.int q.2]) (I:=(b4 b h).map .int) ((uG (bt rfl<|bt (aW<|bR (aW<|uD rfl rfl rfl rfl d) (aW<|uD rfl rfl rfl rfl e) rfl rfl f) rfl) rfl).trans (by rw[uA];rfl)) ?_ rfl)) rfl;unfold b4;rw[eP];refine l4 _ _ _ (λq k=>⟨[Z (.im<|.int q.1),Z<|.im<|.int q.2,Z<|.im<|.int b],_,[Z (.im<|.int q.1),Z<|.im<|.int q.2,Z<|.im<|.int b],rfl,rfl,cc<|jj a,rfl⟩) ?_;rw[ll,c6];lia
def c2(i:Int):Int->List Int->List Int
 |t,[]=>[t]
 |t,J::j=>match jw i t with
  |none=>[t]
  |some s=>t::c2 i (max 0<|J-s) j
def DR(g d:Int):(if d>g then d else g)=max g d:=by
 by_cases e:d>g
 ·rw[aE e];lia
 ·rw[aH e];lia
def Px(g d:Int):(if d<g then d else g)=min g d:=by
 by_cases e:d<g
 ·rw[aE e];lia
 ·rw[aH e];lia
def QJ{YH:Type}(x:List YH)(f:YH):dN (x++[f]) (-1)=Z f:=BA ↥0
def JB(a:YT (.im f) y=Z Yv)(b:d Yv=Z (.aU,M))(o:dX YT d x M=s):dX YT d (f::x) y=s:=by
 rw[dX];show (YT (.im f) y).bind _=_;rw[a];show (d Yv).bind _=_;rw[b];exact o
def U4(a:YT (.im f) y=Z Yv)(b:d Yv=Z (.dD u,M)):dX YT d (f::x) y=Z (.dD u,M):=by
 rw[dX];show (YT (.im f) y).bind _=_;rw[a];show (d Yv).bind _=_;rw[b];rfl
theorem Kg{i:Int}{YB U b:aj}:∀(j:List Int) (a:List Int) (t:Int) (Y9 Y_:Option aj),U=.im (.int i)->a.length+j.length<1000->
  (∃f h,dX (b5 4) vt (j.map .int) [Z YB,Z U,Z b,Z<|bU<|a++[t],Y9,Y_]=Z (.aU,[Z YB,Z U,Z b,Z<|bU<|a++c2 i t j,f,h]))\/
  ∃f h s,dX (b5 4) vt (j.map .int) [Z YB,Z U,Z b,Z<|bU<|a++[t],Y9,Y_]=Z (.dD<|bV<|a++c2 i t j,[Z YB,Z U,Z b,Z s,f,h])
 |[],a,t,Y9,Y_,_,_=>.inl ⟨Y9,Y_,rfl⟩
 |J::j,a,t,Y9,Y_,m,o=>by
  subst m;rw[c8]at o;have p:dN ((a++[t]).map V.int) (-1)=Z (.int t):=by rw[eX];exact QJ _ _
  have c:bP 5 (b_ 2 G.p3<|aq (af 1)<|aq (ae<|aw bx (af 3)<|ae<|hn<|aA<|.int 1) aD) [Z YB,Z<|.im<|.int i,Z b,Z<|bU<|a++[t],Z<|.im<|.int J,Y_]=Z (.aU,[Z YB,Z<|.im<|.int i,Z b,Z<|bU<|a++[t],Z<|.im<|.int J,Z<|.im<|zU<|jw i t]):=
   d9 (dp (bt rfl (bt (aW (bR rfl rfl rfl rfl (show (dN _<|-1).map _=_ by rw[p];rfl))) rfl)) rfl rfl (Lo i t) rfl) (fC rfl) rfl;rw[c2];cases k:jw i t with
  |none=>
   rw[k]at c;refine .inr ⟨Z<|.im<|.int J,Z<|.im .aV,bU<|a++[t],?_⟩;exact U4 rfl (bT c<|oB<|kj rfl<|eE<|fe (bt rfl rfl) rfl rfl)
  |some s=>
   rw[k]at c;have q:((a++[t]).map V.int).length<100000:=by rw[ba,c6];exact fP (Nat.add_lt_add_left (ko 1) _) ⋯
   have r:nk [.im (.int 0),.im<|.int<|J-s]=Z (.im<|.int<|max 0<|J-s):=by rw[<-DR];rfl
   have l:vt [Z YB,Z<|.im<|.int i,Z b,Z<|bU<|a++[t],Z<|.im<|.int J,Y_]=Z (.aU,[Z YB,Z<|.im<|.int i,Z b,Z<|bU<|(a++[t])++[max 0 (J-s)],Z<|.im<|.int J,Z<|.im<|.int s]):=
    bT c (bT (gD rfl rfl) (lL (j_ rfl rfl (bt (aW<|fe (bt rfl<|bt (aW<|bR rfl rfl rfl rfl rfl) rfl) rfl r) rfl) rfl rfl (wz q) (by rw[show bU (a++[t]++[max 0 (J-s)])=.lst ((a++[t]).map .int++[.int (max 0<|J-s)]) from congrArg aj.lst (eX ..)];rfl))));have u:=Kg (i:=i) (YB:=YB) (U:=.im (.int i)) (b:=b) j (a++[t]) (max 0<|J-s) (Z<|.im<|.int J) (Z<|.im<|.int s) rfl (by rw[c6,mw];lia);dsimp only;rw[show a++t::c2 i (max 0<|J-s) j=(a++[t])++c2 i (max 0<|J-s) j from (bq a [t] _).symm];rcases u with ⟨g,d,e⟩|⟨g,d,n,e⟩
   ·exact .inl ⟨g,d,JB rfl l e⟩
   ·exact .inr ⟨g,d,n,JB rfl l e⟩
def Oa(f:YL.length<900):z1 [bU YL,.im<|.int i,.im<|.int t]=Z (bV<|c2 i t YL.dropLast,[bU YL,.im<|.int i,.im<|.int t]):=by
 have b:e6 (YL.map V.int) Y (Z<|-1)=YL.dropLast.map .int:=by rw[tl,J2]
 have c:([]:List Int).length+YL.dropLast.length<1000:=by rw[rt,ik];omega
 have Zt:bP 3 (dO<|aq (af 2) aD) [Z (bU YL),Z<|.im<|.int i,Z<|.im<|.int t,Y,Y,Y]=Z (.aU,[Z (bU YL),Z<|.im<|.int i,Z<|.im<|.int t,Z<|bU<|[]++[t],Y,Y]):=d9 (yG (bt rfl rfl) rfl (fC rfl) rfl) (fC rfl) rfl;have a:gO (ae<|ie (af 0) jA<|j3<|hn<|aA<|.int 1) [Z (bU YL),Z<|.im<|.int i,Z<|.im<|.int t,Z<|bU<|[]++[t],Y,Y]=Z ((YL.dropLast.map .int,Y),[Z (bU YL),Z<|.im<|.int i,Z<|.im<|.int t,Z<|bU<|[]++[t],Y,Y]):=by
  rw[<-b];rfl
 rcases Kg (i:=i) (YB:=bU YL) (U:=.im (.int i)) (b:=.im (.int t)) YL.dropLast [] t Y Y rfl c with ⟨g,d,e⟩|⟨g,d,n,e⟩
 ·exact e3 (y:=[Z (bU YL),Z<|.im<|.int i,Z<|.im<|.int t,Z<|bU<|[]++c2 i t YL.dropLast,g,d]) rfl (bT Zt<|bT (kl a e rfl)<|eE<|fe (bt rfl rfl) rfl rfl) rfl
 ·exact e3 (y:=[Z (bU YL),Z<|.im<|.int i,Z<|.im<|.int t,Z n,g,d]) rfl (bT Zt<|oB<|kl a e rfl) rfl
abbrev xF(s:List (List Int)):aj:=.lst (s.map λh=>.tup<|h.map .int)
def b6(h:List Int):Int:=(h.getLast?.getD 0)
def BI(e:h≠[]):dN (h.map V.int) (-1)=Z (.int<|b6 h):=by
 refine BA ?_;rw[List.getLast?_map,b6];cases Ys:h.getLast? with
 |none=>exact absurd (Jq.mp Ys) e
 |some f=>rfl
def L7(e:h≠[]):dN (h.map V.int) 0=Z (.int<|h.head?.getD 0):=by
 cases h with
 |nil=>exact absurd rfl e
 |cons g s=>exact m4 (by omega) rfl
def BC{a:Int}{u:V}(e:dN I a=Z u):bx (.lst I) (.im<|.int a)=Z (.im u):=by show (dN I a).map _=_;rw[e];rfl
def Ij{a:Int}{u:V}(e:dN I a=Z u):bx (.im<|.tup I) (.im<|.int a)=Z (.im u):=by show (dN I a).map _=_;rw[e];rfl
def WM{J:az aj}(c:J y=Z (u,Yv))(e:gI u=Z I):gO (ae J) y=Z ((I,Y),Yv):=by
 unfold gO ae;rw[c];show (gI u).map _=_;rw[e];rfl
def Qq(e:YL≠[]):sU [bU YL,ar i]=Z (ar<|min i<|b6 YL,[bU YL,ar i]):=by
 have k:qG [ar i,ar<|b6 YL]=Z (ar<|min i<|b6 YL):=by rw[<-Px];rfl
 exact e3 rfl (eE<|fe (bt rfl<|bt (aW<|cc<|BC<|BI e) rfl) rfl k) rfl
def hv(i last:Int)(B:List Int):Bool:=(match jw i (b6 B) with
 |none=>au
 |some s=>decide (s+B.head?.getD 0 >= last))
def Xx(e:YL≠[])(a:B≠[]):xS [bU YL,ar i,bV B]=Z (.im<|.aB<|hv i (b6 YL) B,[bU YL,ar i,bV B]):=by
 have c:=BI e;have d:=BI a;have f:=L7 a;have X:bP 3 (b_ 2 G.p3<|aq (af 1)<|aq (ae<|aw bx (af 2)<|ae<|hn<|aA<|.int 1) aD) [Z (bU YL),Z<|ar i,Z<|bV B,Y]=Z (.aU,[Z (bU YL),Z<|ar i,Z<|bV B,Z<|.im<|zU<|jw i<|b6 B]):=d9 (dp (bt rfl<|bt (aW<|cc<|Ij d) rfl) rfl rfl (Lo i<|b6 B) rfl) (fC rfl) rfl;unfold hv;cases b:jw i (b6 B) with
 |none=>rw[b]at X;exact e3 rfl (bT X<|eE<|AK<|yr rfl) rfl
 |some s=>rw[b]at X;exact e3 rfl (bT X<|eE<|AK<|oq rfl<|fK<|bR (aW<|bR rfl (aW<|cc<|Ij f) rfl rfl rfl) (aW<|cc<|BC c) rfl rfl rfl) rfl
def gM(i:Int)(YL:List Int):List (List Int):=((range (min i (b6 YL)+1).toNat).map λ(o:Nat)=>c2 i (o:Int) YL.dropLast)
def nL(i t:Int)(j:List Int):c2 i t j≠[]:=by
 cases j with
 |nil=>simp[c2]
 |cons J j=>
  rw[c2];cases jw i t<;>simp
def LB(i:Int)(YL:List Int):(gM i YL).length=(min i (b6 YL)+1).toNat:=by rw[gM,ba,gh]
def Wk(e:B∈gM i YL):B≠[]:=by
 let⟨@o,W,rfl⟩:=cW.mp e;exact nL _ _ _
def SY(e:YL≠[])(a:YL.length<900)(d:0<=b6 YL)(z:b6 YL<1000)(bG:0<=i):ub [bU YL,ar i]=Z (xF<|gM i YL,[bU YL,ar i]):=by
 have b:small (min i (b6 YL)+1):=⟨⋯,⋯⟩;have c:fV 0 (min i (b6 YL)+1).toNat=(range (min i (b6 YL)+1).toNat).map λ(o:Nat)=>.int (o:Int):=by rw[QG,eP];rfl
 have p:b_ 2 G.sU (aq (af 0)<|aq (af 1) aD) [Z (bU YL),Z<|ar i]=Z (ar<|min i<|b6 YL,[Z (bU YL),Z<|ar i]):=dp (bt rfl<|bt rfl rfl) rfl rfl (Qq e) rfl;have s:kd (aq (ae<|aw cD (ae<|b_ 2 G.sU<|aq (af 0)<|aq (af 1) aD)<|ae<|aA<|.int 1) aD) [Z (bU YL),Z<|ar i]=_:=sG (YG:=[.cp (ar<|min i (b6 YL)+1)]) (Yv:=[Z (bU YL),Z<|ar i]) (bt (aW<|bR (aW p) rfl rfl rfl rfl) rfl) rfl b;rw[c]at s;refine e3 (y:=[Z (bU YL),Z<|ar i]) rfl (eE<|kM (Yv:=[Z (bU YL),Z<|ar i]) (a:=[Z (bU YL),Z<|ar i]) (I:=(gM i YL).map λh=>.tup<|h.map .int) s ?_ rfl) rfl;unfold gM;rw[eP];exact l4 (λ(o:Nat)=>.int (o:Int)) _ _ (λo W=>⟨[Z (ar (o:Int)),Z<|bU YL,Z<|ar i],_,[Z (ar (o:Int)),Z<|bU YL,Z<|ar i],rfl,rfl,dp (bt rfl<|bt rfl<|bt rfl rfl) rfl rfl (Oa a) rfl,rfl⟩) (by rw[gh];omega)
def FL(e:YL≠[])(a:YL.length<900)(b:0<=b6 YL)(z:b6 YL<1000)(bG:0<=i):tb [bU YL,ar i]=Z (xF<|(gM i YL).filter<|hv i<|b6 YL,[bU YL,ar i]):=by
 refine e3 (y:=[Z (bU YL),Z<|ar i]) rfl (eE (kM (m:=Y) (Yv:=[Z (bU YL),Z<|ar i]) (a:=[Z (bU YL),Z<|ar i]) (x:=(gM i YL).map λh=>.tup<|h.map .int) (I:=((gM i YL).filter<|hv i<|b6 YL).map λh=>.tup<|h.map .int) ?_ (ud (λh=>.tup<|h.map .int) (hv i<|b6 YL) (λh=>.tup<|h.map .int) _ [] (λs c=>?_) (by rw[LB,ik];lia)) rfl)) rfl
 ·have p:b_ 2 G.ub (aq (af 0)<|aq (af 1) aD) [Z (bU YL),Z<|ar i]=Z (xF<|gM i YL,[Z (bU YL),Z<|ar i]):=dp (bt rfl<|bt rfl rfl) rfl rfl (SY e a b z bG) rfl;exact WM p rfl
 ·exact⟨[Z (bV s),Z<|bU YL,Z<|ar i],[Z (bV s),Z<|bU YL,Z<|ar i],rfl,wW (aW<|dp (bt rfl<|bt rfl<|bt rfl rfl) rfl rfl (Xx (i:=i) e<|Wk c) rfl) rfl rfl,λ_=>rfl,λ_=>⟨_,rfl,rfl⟩⟩
def ow(b:Int)(h:List Int):(b4 b h).length=h.length:=by
 rw[b4,ba,ll,c6,fg,gx];lia
def tE(a:0<b)(e:J∈b4 b h):0<=J/\J<b:=by
 let⟨@q,W,rfl⟩:=cW.mp e;exact⟨l_ _ (by omega),nV _ a⟩
def BY(e:h≠[]):b6 h∈h:=by
 rw[b6];cases Ys:h.getLast? with
 |none=>exact absurd (Jq.mp Ys) e
 |some f=>exact List.mem_of_getLast? Ys
def VY{f:Int}(g:h[a]?=Z f)(d:h[(a+1)%h.length]?=Z H):(b4 b h)[a]?=Z ((H-f-1)%b):=by
 have T:a<h.length:=(eA.mp g).1;have E:(h.drop 1++h.take 1)[a]?=Z H:=by
  by_cases e:a+1<h.length
  ·rw[yh e]at d;rw[kL (by rw[fg];omega),lq,rn];exact d
  ·have c:a+1=h.length:=by omega
   rw[c,An]at d;rw[j6 (by rw[fg];omega),fg,show a-(h.length-1)=0 by omega,mI,aE (by omega)];exact d
 rw[b4,ea,show (h.zip<|h.drop 1++h.take 1)[a]?=Z (f,H) by rw[mC];exact⟨g,E⟩];rfl
def d7(i t:Int):Int:=(if t*3<=i then i-t*2 else (i-t)/2)
def p0(i t:Int):jw i t=if t>i then Y else Z (d7 i t):=by
 unfold jw d7;split
 ·rfl
 ·split<;>rfl
def dH(t s:Int):Int:=(t+s+(if s<t then s else t))
def qq(a:0<=t)(z:t<=i):dH t (d7 i t)<=i/\0<=d7 i t/\d7 i t<=i:=by
 unfold dH d7;split
 ·split<;>lia
 ·split<;>lia
def zh{s:Int}(a:0<=t)(z:t<=i)(b:0<=s)(e:dH t s<=i):s<=d7 i t:=by
 revert e;unfold dH d7;split
 ·split<;>lia
 ·split<;>lia
@[simp] theorem X6(f:List V)(I:List aj):h6 (.lst f::I)=Y:=rfl
theorem Ha{i:Int}:∀{j:List Int}{t:Int},0<=t->0<=b6 (c2 i t j)
 |[],t,e=>by simpa [c2,b6] using e
 |J::j,t,e=>by
  rw[c2];cases jw i t with
  |none=>simpa [b6] using e
  |some s=>
   have:=Ha (i:=i) (j:=j) (t:=max 0 (J-s)) (by omega);dsimp only;rw[b6,A4<|nL _ _ _];exact this
theorem DA{i:Int}:∀{j:List Int}{t:Int},b6 (c2 i t j)<=i->(c2 i t j).length=j.length+1
 |[],t,e=>by simp[c2]
 |J::j,t,e=>by
  rw[c2,p0]at e ⊢;by_cases z:t>i
  ·rw[aE z]at e;simp[b6]at e;omega
  ·rw[aH z]at e ⊢;dsimp only at e ⊢;rw[b6,A4<|nL _ _ _]at e;rw[c8,DA e,c8]
theorem Kc(i:Int):∀(j:List Int) (t:Int),(c2 i t j).length<=j.length+1
 |[],t=>by simp[c2]
 |J::j,t=>by
  rw[c2];cases jw i t with
  |none=>simp
  |some s=>have:=Kc i j (max 0<|J-s);simp;omega
def y6(e:h≠[]):b4 b h≠[]:=by
 have z:=ow b h;have E:=jg.mpr e;exact jg.mp ⋯
def gk:List Int->Int->Int->Int->Int->Prop
 |[],g,k,s,a=>s=g/\a=k
 |J::j,g,k,s,a=>∃d,0<=d/\d<=J/\gk j (J-d) (max k<|dH g d) s a
theorem gk.le:∀{j:List Int}{g k s a:Int},gk j g k s a->k<=a
 |[],g,k,s,a,e=>by have:=e.2;lia
 |J::j,g,k,s,a,⟨d,_,_,e⟩=>by have:=e.le;lia
def sE{s d:Int}(a:0<=t)(z:t<=g)(E:0<=s)(b:s<=d):dH t s<=dH g d:=by
 unfold dH;split<;>split<;>lia
def GV(a:0<=t)(z:t<=g)(E:g<=i):d7 i g<=d7 i t:=by
 let@⟨c,b,d⟩:=qq (i:=i) (t:=g) ⋯ E;refine zh a ⋯ b ?_;exact m3 (sE a z b<|hl _) c
def NI(i t:Int):b6 (c2 i t [])=t:=rfl
def vP(e:t>i):c2 i t (J::j)=[t]:=by rw[c2,p0,aE e]
def ny(e:¬ t>i):c2 i t (J::j)=t::c2 i (max 0<|J-d7 i t) j:=by rw[c2,p0,aH e]
def tC{f:Int}(e:h≠[]):b6 (f::h)=b6 h:=by rw[b6,A4 e];rfl
def B8(i t:Int)(j:List Int):(c2 i t j).head?.getD 0=t:=by
 cases j with
 |nil=>rfl
 |cons J j=>
  by_cases e:t>i
  ·rw[vP e];rfl
  ·rw[ny e];rfl
theorem Hf{i:Int}:∀{j:List Int}{t k:Int},(∀J∈j,0<=J)->k<=i->0<=t->b6 (c2 i t j)<=i->∃a,gk j t k (b6<|c2 i t j) a/\a<=i
 |[],t,k,_,c,_,_=>⟨k,⟨rfl,rfl⟩,c⟩
 |J::j,t,k,d,c,g,b=>by
  by_cases e:t>i
  ·rw[vP e]at b;have:b6 [t]=t:=rfl;lia
  ·rw[ny e,tC<|nL _ _ _]at b ⊢;have m:=d J (.head _);let@⟨h,n,o⟩:=qq (i:=i) g ⋯;have Ys:dH t (J-max 0 (J-d7 i t))<=i:=m3 (sE g (hl _) ⋯ ⋯) h;let⟨@a,YK,YR⟩:=Hf (k:=max k (dH t<|J-max 0 (J-d7 i t))) (λf l=>d f<|.tail _ l) ⋯ (show 0<=max 0 (J-d7 i t) by lia) b;refine⟨a,⟨J-max 0 (J-d7 i t),⋯,⋯,?_⟩,YR⟩;rw[show J-(J-max 0 (J-d7 i t))=max 0 (J-d7 i t) by lia];exact YK
theorem C8{i:Int}:∀{j:List Int}{t g k s a:Int},gk j g k s a->a<=i->0<=t->t<=g->s<=i->0<=b6 (c2 i t j)/\b6 (c2 i t j)<=s/\g<=i
 |[],t,g,k,s,a,⟨n,_⟩,_,c,z,e=>by rw[NI];lia
 |J::j,t,g,k,s,a,⟨d,f,aQ,o⟩,h,c,z,e=>by
  have Ys:dH g d<=i:=by have:=o.le;lia
  have b:g<=i:=by
   have:g<=dH g d:=by unfold dH;split<;>lia
   lia
  have p:=zh (i:=i) (t:=g) (s:=d) ⋯ b f Ys;have q:=GV (i:=i) c z b;rw[ny ⋯,tC<|nL _ _ _];let@⟨l,m,_⟩:=C8 (t:=max 0 (J-d7 i t)) o h ⋯ ⋯ e;exact⟨l,m,b⟩
def Lq(i last:Int)(j:List Int):Prop:=(∃F s k,0<=F/\F<=last/\gk j F 0 s k/\k<=i/\dH s (last-F)<=i)
theorem gk.pos:∀{j:List Int}{g k s a:Int},(∀J∈j,0<=J)->0<=g->gk j g k s a->0<=s
 |[],g,k,s,a,_,e,⟨c,_⟩=>⋯
 |J::j,g,k,s,a,b,e,⟨d,i,aQ,o⟩=>gk.pos (λf h=>b f<|.tail _ h) ⋯ o
def DY(f:∀J∈YL,0<=J)(q:0<=b6 YL)(bG:0<=i):(gM i YL).any (hv i<|b6 YL)=aa↔Lq i (b6 YL) YL.dropLast:=by
 have c:∀J∈YL.dropLast,0<=J:=λJ a=>f J (vp _ a);constructor
 ·intro e;let⟨@B,b,a⟩:=pa.mp e;let⟨@o,g,rfl⟩:=cW.mp b;have r:=eT.mp g;rw[hv,p0,B8]at a;by_cases z:b6 (c2 i (o:Int) YL.dropLast)>i
  ·rw[aE z]at a;cases a
  ·rw[aH z]at a;have a:=gf a;let⟨@k,YK,YR⟩:=Hf (i:=i) (j:=YL.dropLast) (t:=(o:Int)) (k:=0) c bG ⋯ ⋯;have d:=Ha (i:=i) (j:=YL.dropLast) (t:=(o:Int)) ⋯;let@⟨h,u,v⟩:=qq (i:=i) d ⋯;exact⟨o,_,k,⋯,⋯,YK,YR,m3 (sE d (hl _) ⋯ ⋯) h⟩
 ·rintro⟨F,s,k,Zt,w,o,l,Ys⟩;have m:=gk.pos c Zt o;have b:s<=i:=by
   have:s<=dH s (b6 YL-F):=by unfold dH;split<;>lia
   lia
  let@⟨n,p,x⟩:=C8 (i:=i) (t:=F) o l Zt (hl _) b;refine pa.mpr ⟨c2 i F YL.dropLast,cW.mpr ⟨F.toNat,eT.mpr ⋯,by rw[KO Zt]⟩,?_⟩;rw[hv,p0,aH ⋯,B8];have z:=zh (i:=i) (t:=s) (s:=b6 YL-F) m b ⋯ Ys;have E:=GV (i:=i) n p b;exact dx ⋯
def Uc{last:Int}(a:∀J∈j,0<=J/\J<b)(g:0<=last)(m:last<b):Lq (b-1) last j:=by
 have S:∀(j:List Int) (k:Int),(∀J∈j,0<=J/\J<b)->k<=b-1->∃d,gk j 0 k 0 d/\d<=b-1:=by
  intro j;induction j with
  |nil=>intro k W e;exact⟨k,⟨rfl,rfl⟩,e⟩
  |cons J j h=>
   intro k a n;let@⟨i,o⟩:=a J (.head _);have c:dH 0 J=J:=by unfold dH;split<;>lia
   let⟨@d,YK,YR⟩:=h (max k<|dH 0 J) (λf l=>a f<|.tail _ l) ⋯;exact⟨d,⟨J,i,hl _,by rw[Int.sub_self];exact YK⟩,YR⟩
 let⟨@k,YK,YR⟩:=S j 0 a ⋯;exact⟨0,0,k,hl _,g,YK,YR,by have c:dH 0 (last-0)=last:=by {unfold dH;split<;>lia};lia⟩
def Yc(J:Int):List Int:=((range (J+1).toNat).map λ(o:Nat)=>(o:Int))
theorem yY{YH:Type}(q:YH->Bool):∀t:List YH,(!(t.filter q).isEmpty)=t.any q
 |[]=>rfl
 |f::s=>by
  rw[A7,nI];cases e:q f with
  |true=>rw[aE rfl];rfl
  |false=>rw[aH dj,yY q s];rfl
abbrev lg(b:Int)(h:List Int)(i:Int):Bool:=(gM i<|b4 b h).any (hv i<|b6<|b4 b h)
def Qa(Ym:o8 b h):∃t:Int,mF [ar b,bV h]=Z (ar t,[ar b,bV h])/\0<=t/\t<b/\lg b h t=aa/\(t=0\/lg b h (t-1)=au):=by
 have H:=Ym.m0;have I:=Ym.cm;have L:=Ym.i0;have l:=y6 (b:=b) Ym.ne;have s:(b4 b h).length<900:=by rw[ow];omega
 let@⟨k,aQ⟩:=tE (by omega) (BY l);have m:∀J∈b4 b h,0<=J/\J<b:=λJ a=>tE (by omega) a;have u:lg b h (b-1)=aa:=(DY (λJ a=>(m J a).1) k (by omega)).mpr (Uc (λJ a=>m J<|vp _ a) k aQ);let⟨@YN,e,⟨t,Y9,@Y_,rfl,v,z,E,x⟩⟩:=x7 (n:=IQ) (d:=Dw) (λw y=>∃(t c:Int) (Y_:Option aj),y=[Z (ar b),Z<|bV h,Z<|bU<|b4 b h,Z<|ar t,Z<|ar c,Y_]/\0<=t/\t<=c/\c<b/\lg b h c=aa/\(t=0\/lg b h (t-1)=au)/\w=(c-t).toNat) (λy=>∃(t:Int) (Y9 Y_:Option aj),y=[Z (ar b),Z<|bV h,Z<|bU<|b4 b h,Z<|ar t,Y9,Y_]/\0<=t/\t<b/\lg b h t=aa/\(t=0\/lg b h (t-1)=au))
  (λw y ⟨t,c,Y_,A,o,Zi,B,p,q,M⟩=>by
   subst A;refine⟨decide (t<c),[Z (ar b),Z<|bV h,Z<|bU<|b4 b h,Z<|ar t,Z<|ar c,Y_],rfl,λg=>?_,λg=>⟨t,Z<|ar c,Y_,rfl,o,by omega,by have:=of_decide_eq_false g;rw[show t=c by omega];exact p,q⟩⟩;have g:=gf g;have C:0<=(t+c)/2:=by omega
   have cm:(t+c)/2<c:=by omega
   have D:t<=(t+c)/2:=by omega
   have F:=FL (i:=(t+c)/2) l s k (by omega) C;have r:bP 5 (aw kQ (ae<|aw cD (af 3)<|af 4)<|ae<|aA<|.int 2) [Z (ar b),Z<|bV h,Z<|bU<|b4 b h,Z<|ar t,Z<|ar c,Y_]=Z (.aU,[Z (ar b),Z<|bV h,Z<|bU<|b4 b h,Z<|ar t,Z<|ar c,Z<|ar<|(t+c)/2]):=jD (ij (dP<|ij rfl rfl rfl rfl rfl) rfl rfl rfl (s6 ∅ ∅)) (fC rfl) rfl;have f:kG (ae<|b_ 2 G.tb<|aq (af 2)<|aq (af 5) aD) [Z (ar b),Z<|bV h,Z<|bU<|b4 b h,Z<|ar t,Z<|ar c,Z<|ar<|(t+c)/2]=Z (!((gM ((t+c)/2)<|b4 b h).filter<|hv ((t+c)/2)<|b6<|b4 b h).isEmpty,[Z (ar b),Z<|bV h,Z<|bU<|b4 b h,Z<|ar t,Z<|ar c,Z<|ar<|(t+c)/2]):=zH (dP<|dp (c9 rfl<|c9 rfl rfl) rfl rfl F rfl) rfl (by show Z (!(List.map _ _).isEmpty)=_;rw[List.isEmpty_map]);rw[yY]at f;cases j:lg b h ((t+c)/2) with
   |true=>
    rw[show (gM ((t+c)/2)<|b4 b h).any (hv ((t+c)/2)<|b6<|b4 b h)=aa from j]at f;exact⟨.aU,[Z (ar b),Z<|bV h,Z<|bU<|b4 b h,Z<|ar t,Z<|ar<|(t+c)/2,Z<|ar<|(t+c)/2],(nR r).trans<|(yc f).trans rfl,.inl rfl,((t+c)/2-t).toNat,by omega,t,(t+c)/2,_,rfl,o,D,by omega,j,q,rfl⟩
   |false=>
    rw[show (gM ((t+c)/2)<|b4 b h).any (hv ((t+c)/2)<|b6<|b4 b h)=au from j]at f;exact⟨.aU,[Z (ar b),Z<|bV h,Z<|bU<|b4 b h,Z<|ar<|(t+c)/2+1,Z<|ar c,Z<|ar<|(t+c)/2],(nR r).trans<|(Cd f).trans rfl,.inl rfl,(c-((t+c)/2+1)).toNat,by omega,(t+c)/2+1,c,_,rfl,by omega,by omega,B,p,.inr (by rw[show (t+c)/2+1-1=(t+c)/2 by omega];exact j),rfl⟩)
  1000000 (b-1-0).toNat [Z (ar b),Z<|bV h,Z<|bU<|b4 b h,Z<|ar 0,Z<|ar<|b-1,Y] ⟨0,b-1,Y,rfl,by omega,by omega,by omega,u,.inl rfl,rfl⟩ (by omega)
 refine⟨t,?_,v,z,E,x⟩;unfold mF H_;refine qJ [Z (ar b),Z<|bV h,Z<|bU<|b4 b h,Z<|ar t,Y9,Y_] rfl ?_ rfl;exact bT (Yv:=[Z (ar b),Z<|bV h,Z<|bU<|b4 b h,Y,Y,Y]) (jD (dp (c9 rfl<|c9 rfl rfl) rfl rfl (Ct (b:=b) (h:=h) (by omega) (by omega)) rfl) (fC rfl) rfl) (bT (Yv:=[Z (ar b),Z<|bV h,Z<|bU<|b4 b h,Z<|ar 0,Y,Y]) rfl<|bT (Yv:=[Z (ar b),Z<|bV h,Z<|bU<|b4 b h,Z<|ar 0,Z<|ar<|b-1,Y]) rfl<|bT e rfl)
def Fy:az aj:=((aw fy (af 0)<|af 1))
def M5:bB:=((a_ (bP 2<|b_ 2 G.wX<|aq (af 0)<|aq (af 1) aD)<|a_ (bP 3<|aw bx (ae<|b_ 2 G.tb<|aq (af 2)<|aq (ae<|b_ 2 G.mF<|aq (af 0)<|aq (af 1) aD) aD)<|ae<|aA<|.int 0)<|a_ (bP 4<|fN 2 [] (sd<|aq (af 2)<|aq (ae<|aw cD (ae<|ie (af 3) (j3<|aA<|.int 1) jA)<|ae<|ie (af 3) jA<|j3<|aA<|.int 1) aD) (fl 2<|dW (b5 0)<|dW (b5 1) g6) fD G.Fy)<|cV<|Hw<|aq (af 3)<|aq (af 4) aD))
def tx:dn:=(dG 2 5 [0,1] M5)
def oD(B:List Int):List Int:=(B.drop 1++B.take 1)
def mW(YL B:List Int):List Int:=((YL.zip<|oD B).map λq=>q.1-q.2)
def lJ(YL B:List Int):List (Int×Int):=(B.zip (mW YL B))
abbrev t7(Yz:List (Int×Int)):aj:=.im (.tup<|Yz.map λq=>.tup [.int q.1,.int q.2])
def Pa(Ym:o8 b h):∃(t:Int) (B:List Int),mF [ar b,bV h]=Z (ar t,[ar b,bV h])/\0<=t/\t<b/\(t=0\/lg b h (t-1)=au)/\B∈gM t (b4 b h)/\hv t (b6<|b4 b h) B=aa/\
  tx [ar b,bV h]=Z (t7<|lJ (b4 b h) B,[ar b,bV h]):=by
 let⟨@t,a,d,k,l,n⟩:=Qa Ym;have F:=Ym.m0;have H:=Ym.cm;have J:=Ym.i0;have e:=y6 (b:=b) Ym.ne;have p:(b4 b h).length<900:=by rw[ow];omega
 let@⟨r,aQ⟩:=tE (by omega) (BY e);have f:=FL (i:=t) e p r (by omega) d;have s:(gM t<|b4 b h).filter (hv t<|b6<|b4 b h)≠[]:=λc=>by
  have:=yY (hv t<|b6<|b4 b h) (gM t<|b4 b h);rw[c]at this;rw[show (gM t<|b4 b h).any (hv t<|b6<|b4 b h)=aa from l]at this;cases this
 let⟨B,@c_,g⟩:=List.exists_cons_of_ne_nil s;have u:B∈(gM t<|b4 b h).filter (hv t<|b6<|b4 b h):=by rw[g];exact .head _
 let@⟨j,v⟩:=uH.mp u;refine⟨t,B,a,d,k,n,j,v,?_⟩;rw[g]at f;have w:dN ((B::c_).map λh=>V.tup<|h.map .int) 0=Z (.tup<|B.map .int):=m4 (by omega) rfl;have L:B.length<=900:=by
  let⟨@o,W,rfl⟩:=cW.mp j;have:=Kc t (b4 b h).dropLast (o:Int);rw[rt]at this;omega
 have z:kO (bV B) (Z 1) Y=Z (bV<|B.drop 1):=by
  show Z (aj.im<|.tup<|e6 (B.map V.int) (Z 1) Y)=_;rw[tl,show e6 B (Z 1) Y=B.drop 1 from B6 B 1]
 have A:kO (bV B) Y (Z 1)=Z (bV<|B.take 1):=by
  show Z (aj.im<|.tup<|e6 (B.map V.int) Y<|Z 1)=_;rw[tl,show e6 B Y (Z 1)=B.take 1 from EE B 1]
 have C:cD (bV<|B.drop 1) (bV<|B.take 1)=Z (bV<|oD B):=by
  show (if _ then Z (aj.im<|.tup<|_++_) else Y)=Z (aj.im<|.tup<|(B.drop 1++B.take 1).map .int);rw[aE (by rw[ba,ba,fg,gx];lia),eX]
 have D:fN 2 [] (sd<|aq (af 2)<|aq (ae<|aw cD (ae<|ie (af 3) (j3<|aA<|.int 1) jA)<|ae<|ie (af 3) jA<|j3<|aA<|.int 1) aD) (fl 2<|dW (b5 0)<|dW (b5 1) g6) fD G.Fy [Z (ar b),Z<|bV h,Z<|bU<|b4 b h,Z<|bV B,Y]=Z (bU<|mW (b4 b h) B,[Z (ar b),Z<|bV h,Z<|bU<|b4 b h,Z<|bV B,Y]):=by
  refine kM (m:=Z (2,bU<|b4 b h)) (Yv:=[Z (ar b),Z<|bV h,Z .ek,Z<|bV B,Y]) (a:=[]) (x:=((b4 b h).zip<|oD B).map λq=>.tup [.int q.1,.int q.2]) (I:=(mW (b4 b h) B).map .int) ((RY (Y2:=bU (b4 b h)) (Y8:=bV (oD B)) (M:=[Z (ar b),Z<|bV h,Z .ek,Z<|bV B,Y]) (c9 rfl<|c9 (dP<|ij (dP<|B4 rfl rfl rfl rfl z) (dP<|B4 rfl rfl rfl rfl A) rfl rfl C) rfl) rfl rfl rfl rfl rfl).trans (by rw[uA];rfl)) ?_ rfl;unfold mW;rw[eP];exact l4 _ _ _ (λq W=>⟨[Z (ar q.1),Z<|ar q.2],_,[Z (ar q.1),Z<|ar q.2],rfl,rfl,rfl,rfl⟩) (by rw[ll,ow];lia)
 have E:t7 (lJ (b4 b h) B)=.im (.tup<|eg (B.map V.int)<|(mW (b4 b h) B).map V.int):=by rw[uA];rfl
 rw[E];exact e3 (y:=[Z (ar b),Z<|bV h,Z<|bU<|b4 b h,Z<|bV B,Z<|bU<|mW (b4 b h) B]) rfl (bT (Yv:=[Z (ar b),Z<|bV h,Z<|bU<|b4 b h,Y,Y]) (jD (dp (c9 rfl<|c9 rfl rfl) rfl rfl (Ct ⋯ ⋯) rfl) (fC rfl) rfl)<|bT (Yv:=[Z (ar b),Z<|bV h,Z<|bU<|b4 b h,Z<|bV B,Y]) (jD (ij (dP<|dp (c9 rfl<|c9 (dP<|dp (c9 rfl<|c9 rfl rfl) rfl rfl a rfl) rfl) rfl rfl f rfl) rfl rfl rfl<|BC w) (fC rfl) rfl)<|bT (jD D (fC rfl) rfl) rfl) rfl
def n4(i F last:Int):Int->List Int->List (Int×Int)
 |t,[]=>[(t,last-F)]
 |t,J::j=>(t,J-max 0 (J-d7 i t))::n4 i F last (max 0<|J-d7 i t) j
theorem EZ(i F last:Int):∀(j:List Int) (t:Int),(n4 i F last t j).length=j.length+1
 |[],t=>rfl
 |J::j,t=>by rw[n4,c8,EZ i F last j,c8]
def xN(e:b6 (c2 i t (J::j))<=i):¬ t>i:=λz=>by
 rw[vP z]at e;have:b6 [t]=t:=rfl;lia
def GY(i t:Int)(j:List Int):∃s,c2 i t j=t::s:=by
 cases j with
 |nil=>exact⟨[],rfl⟩
 |cons J j=>
  by_cases e:t>i
  ·exact⟨[],vP e⟩
  ·exact⟨_,ny e⟩
theorem Ib{i F last:Int}:∀(j:List Int) (t:Int),b6 (c2 i t j)<=i->
  (c2 i t j).zip (((j++[last]).zip<|(c2 i t j).drop 1++[F]).map λq=>q.1-q.2)=n4 i F last t j
 |[],t,_=>rfl
 |J::j,t,e=>by
  have a:=xN e;rw[ny a,tC<|nL _ _ _]at e;have b:=Ib (F:=F) (last:=last) j (max 0<|J-d7 i t) e;let⟨@s,c⟩:=GY i (max 0<|J-d7 i t) j;rw[ny a,n4,<-b,c];rfl
def Rx(Ys:YL≠[])(e:b6 (c2 i t YL.dropLast)<=i):lJ YL (c2 i t YL.dropLast)=n4 i t (b6 YL) t YL.dropLast:=by
 rw[<-Ib YL.dropLast t e];unfold lJ mW oD;have c:YL=YL.dropLast++[b6 YL]:=by
  have z:=List.dropLast_concat_getLast Ys;have E:b6 YL=YL.getLast Ys:=by
   rw[b6,List.getLast?_eq_some_getLast Ys];rfl
  rw[E,z]
 let⟨@s,a⟩:=GY i t YL.dropLast;rw[a];show (t::s).zip ((YL.zip<|s++[t]).map _)=(t::s).zip (((YL.dropLast++[b6 YL]).zip<|s++[t]).map _);rw[<-c]
theorem Im{i F last:Int}(c:0<=last-F):∀(j:List Int) (t:Int),(∀J∈j,0<=J)->0<=t->b6 (c2 i t j)<=i->last-F<=d7 i (b6<|c2 i t j)->∀q∈n4 i F last t j,0<=q.1/\0<=q.2/\dH q.1 q.2<=i
 |[],t,_,a,z,E,q,b=>by
  cases cX.mp b;have z:t<=i:=z;have E:last-F<=d7 i t:=E;exact⟨a,c,m3 (sE a (hl _) c E) (qq a z).1⟩
 |J::j,t,d,a,z,E,q,b=>by
  have e:=xN z;rw[ny e,tC<|nL _ _ _]at z E;have k:=d J (.head _);let@⟨g,l,m⟩:=qq (i:=i) a ⋯;rcases bW.mp b with rfl|b
  ·exact⟨a,by show 0<=J-max 0 (J-d7 i t);lia,m3 (sE a (hl _) (by show 0<=J-max 0 (J-d7 i t);lia) (by show J-max 0 (J-d7 i t)<=d7 i t;lia)) g⟩
  ·exact Im c j _ (λf h=>d f<|.tail _ h) ⋯ z E q b
theorem ID{i F last U:Int}:∀(j:List Int) (t k:Int),(∀J∈j,0<=J)->0<=t->b6 (c2 i t j)<=i->k<=U->(∀q∈n4 i F last t j,dH q.1 q.2<=U)->∃a,a<=U/\gk j t k (b6<|c2 i t j) a/\dH (b6<|c2 i t j) (last-F)<=U
 |[],t,k,_,_,_,c,b=>⟨k,c,⟨rfl,rfl⟩,b _<|.head _⟩
 |J::j,t,k,d,e,z,c,b=>by
  have g:=xN z;rw[ny g,tC<|nL _ _ _]at z ⊢;have n:=d J (.head _);let@⟨o,p,r⟩:=qq (i:=i) e ⋯;have Ys:=b _ (.head _);let⟨@a,YK,YR,h⟩:=ID (F:=F) (last:=last) j (max 0<|J-d7 i t) (max k<|dH t<|J-max 0 (J-d7 i t)) (λf l=>d f<|.tail _ l) ⋯ z (by have Ys:dH t (J-max 0 (J-d7 i t))<=U:=Ys;lia) λq m=>b q (.tail _ m);refine⟨a,YK,⟨J-max 0 (J-d7 i t),⋯,⋯,?_⟩,h⟩;rw[show J-(J-max 0 (J-d7 i t))=max 0 (J-d7 i t) by lia];exact YR
def MA(T:a<h.length)(b:h[(a+1)%h.length]?=Z H):(oD h)[a]?=Z H:=by
 unfold oD;by_cases e:a+1<h.length
 ·rw[yh e]at b;rw[kL (by rw[fg];omega),lq,rn];exact b
 ·have c:a+1=h.length:=by omega
  rw[c,An]at b;rw[j6 (by rw[fg];omega),fg,show a-(h.length-1)=0 by omega,mI,aE (by omega)];exact b
def NX(h:B.length=YL.length){r:Nat}{q p:Int×Int}(b:(lJ YL B)[r]?=Z q)(c:(lJ YL B)[(r+1)%B.length]?=Z p):YL[r]?=Z (q.2+p.1):=by
 unfold lJ at b c;let@⟨d,Y6⟩:=mC.mp b;let@⟨e,i⟩:=mC.mp c;have f:r<B.length:=(eA.mp d).1;have g:=MA f e;unfold mW at Y6;rw[ea]at Y6;let⟨@l,dB,dg⟩:=cB.mp Y6;let@⟨d_,a⟩:=mC.mp dB;rw[g]at a;have a:=Option.some.inj a;rw[d_];congr 1;lia
structure Told(b:Int)(h:List Int)(t:Int)(Yz:List (Int×Int)):Prop where
 len:Yz.length=h.length
 pos:∀q∈Yz,0<=q.1/\0<=q.2
 gap:∀(r:Nat) (q p:Int×Int),Yz[r]?=Z q->Yz[(r+1)%h.length]?=Z p->(b4 b h)[r]?=Z (q.2+p.1)
 most:∀q∈Yz,dH q.1 q.2<=t
 mr:∃q∈Yz,dH q.1 q.2=t
def Vr(Ym:o8 b h):∃(t:Int) (Yz:List (Int×Int)),mF [ar b,bV h]=Z (ar t,[ar b,bV h])/\tx [ar b,bV h]=Z (t7 Yz,[ar b,bV h])/\Told b h t Yz:=by
 let⟨t,@B,u,M,N,f2,v,d,w⟩:=Pa Ym;have O:=Ym.m0;have k:=y6 (b:=b) Ym.ne;let@⟨x,aQ⟩:=tE ⋯ (BY k);have l:∀J∈b4 b h,0<=J:=λJ d=>(tE ⋯ d).1;have m:∀J∈(b4 b h).dropLast,0<=J:=λJ d=>l J (vp _ d);let⟨@o,y,A⟩:=cW.mp v;have P:=eT.mp y;subst A;rw[hv,p0,B8]at d;have z:b6 (c2 t (o:Int) (b4 b h).dropLast)<=t:=t9.mp λe=>by rw[aE e]at d;cases d
 rw[aH ⋯]at d;have d:=gf d;have g:=Rx k z;have C:=DA z;have Q:=jg.mpr Ym.ne;have n:(c2 t (o:Int) (b4 b h).dropLast).length=(b4 b h).length:=by rw[C,rt,ow];lia
 have f:=Im (i:=t) (F:=(o:Int)) (last:=b6 (b4 b h)) ⋯ (b4 b h).dropLast (o:Int) m ⋯ z ⋯;rw[<-g]at f;have D:(lJ (b4 b h)<|c2 t (o:Int) (b4 b h).dropLast).length=h.length:=by rw[g,EZ,rt,ow];lia
 refine⟨t,_,u,w,D,λq a=>⟨(f q a).1,(f q a).2.1⟩,λr q p a G=>NX n a (by rw[n,ow];exact G),λq a=>(f q a).2.2,?_⟩;refine sx λH=>?_;have j:∀q∈lJ (b4 b h) (c2 t (o:Int) (b4 b h).dropLast),dH q.1 q.2<=t-1:=λq a=>by
  have z:=(f q a).2.2;have E:dH q.1 q.2≠t:=λc=>H ⟨q,a,c⟩;lia
 obtain⟨q,a⟩:∃q,q∈lJ (b4 b h) (c2 t (o:Int) (b4 b h).dropLast):=List.exists_mem_of_length_pos ⋯;have R:1<=t:=by
  have z:=j q a;have E:=f q a;have:0<=dH q.1 q.2:=by unfold dH;split<;>lia
  lia
 rw[g]at j;let⟨@I,YK,YR,L⟩:=ID (i:=t) (F:=(o:Int)) (last:=b6 (b4 b h)) (U:=t-1) (b4 b h).dropLast (o:Int) 0 m ⋯ z ⋯ j;have s:lg b h (t-1)=aa:=(DY l x ⋯).mpr ⟨(o:Int),_,I,⋯,⋯,YR,YK,L⟩;rcases f2 with f2|f2
 ·lia
 ·rw[f2]at s;cases s
def oL(k q p:Int):Int:=(if q<p then p-q-1 else p-q-1+k)
def Vp{q p:Int}(a:0<=q/\q<k)(b:0<=p/\p<k):(p-q-1)%k=oL k q p:=by
 unfold oL;split
 ·exact ry ⋯ ⋯
 ·rw[<-DL];exact ry ⋯ ⋯
def df(k:Int)(f:Int)(q:Int×Int):List Int:=((range (q.1+q.2+1).toNat).map λ(o:Nat)=>(f+(-q.1+(o:Int)))%k)
def iG(k n:Int)(w:Nat):List Int:=((range w).map λ(o:Nat)=>(n+(o:Int))%k)
def Hr(k f:Int)(q:Int×Int):df k f q=iG k (f-q.1) (q.1+q.2+1).toNat:=by
 unfold df iG;refine kH λo W=>?_;congr 1;lia
def VL(k n:Int)(g d:Nat):iG k n g++iG k (n+g) d=iG k n (g+d):=by
 unfold iG;rw[List.range_add,eX,eP];congr 1;refine kH λo W=>?_;show (n+g+(o:Int))%k=(n+((g+o:Nat):Int))%k;congr 1;lia
def Up(a:0<k){w:Nat}:∀f∈iG k n w,0<=f/\f<k:=λf b=>by
 let⟨@o,W,rfl⟩:=cW.mp b;exact⟨l_ _ ⋯,nV _ a⟩
def Q6(f:0<k):(iG k n k.toNat).Nodup:=by
 unfold iG List.Nodup;rw[qS];refine Gd (R:=(· < ·)) (λ{g d} h a e c=>?_) Es;have i:=eT.mp a;have b:(n+(d:Int)-(n+(g:Int)))%k=0:=Int.emod_eq_emod_iff_emod_sub_eq_zero.mp c.symm;have z:n+(d:Int)-(n+(g:Int))=(d:Int)-g:=⋯
 rw[z,ry ⋯ ⋯]at b;lia
def EY(k n:Int)(w:Nat):(iG k n w).length=w:=by rw[iG,ba,gh]
abbrev ew:=Int×(Int×Int)
def B5(k:Int)(N:List ew):List Int:=(N.flatMap λp=>df k p.1 p.2)
def pF:ew->List ew->ew
 |g,[]=>g
 |_,d::s=>pF d s
theorem G6:∀(s:List ew) (g:ew),(g::s)[s.length]?=Z (pF g s)
 |[],g=>rfl
 |d::s,g=>by
  rw[c8,xW];exact G6 s d
theorem DO{k:Int}:∀(s:List ew) (g:ew),(∀p∈g::s,0<=p.2.1/\0<=p.2.2)->(∀(a:Nat) (f H:ew),(g::s)[a]?=Z f->(g::s)[a+1]?=Z H->H.1-f.1-1=f.2.2+H.2.1)->
  ∃Y0:Nat,B5 k (g::s)=iG k (g.1-g.2.1) Y0/\(Y0:Int)=(pF g s).1+(pF g s).2.2+1-(g.1-g.2.1)
 |[],g,YD,_=>by
  have e:=YD g (.head _);refine⟨(g.2.1+g.2.2+1).toNat,?_,?_⟩
  ·show df k g.1 g.2++[]=_;rw[cA];exact Hr k g.1 g.2
  ·show _=g.1+g.2.2+1-(g.1-g.2.1);lia
 |d::s,g,YD,J=>by
  have e:=YD g (.head _);let⟨@Y0,b,j⟩:=DO (k:=k) s d (λp c=>YD p<|.tail _ c) λa f H h i=>J (a+1) f H (by rw[xW];exact h) (by rw[xW];exact i);have l:=J 0 g d rfl rfl;refine⟨(g.2.1+g.2.2+1).toNat+Y0,?_,?_⟩
  ·show df k g.1 g.2++B5 k (d::s)=_;rw[b,Hr,<-VL];congr 2;lia
  ·show _=(pF d s).1+(pF d s).2.2+1-(g.1-g.2.1);lia
def qd{p:ew}(e:(h.zip Yz)[a]?=Z p):h[a]?=Z p.1/\Yz[a]?=Z p.2:=by
 rw[mC]at e;exact e
def Cn(Ym:o8 k h)(U:Told k h t Yz):∃n,B5 k (h.zip Yz)=iG k n k.toNat:=by
 have A:=Ym.m0;have j:(h.zip Yz).length=h.length:=by rw[ll,U.len];omega
 cases c:h.zip Yz with
 |nil=>
  rw[c]at j;exact absurd (E3.mp j.symm) Ym.ne
 |cons g s=>
  rw[c,c8]at j;have YD:∀p∈g::s,0<=p.2.1/\0<=p.2.2:=λp m=>by
   rw[<-c]at m;exact U.pos _ (pY m).2
  have o:∀(a:Nat) (f H:ew),(g::s)[a]?=Z f->(g::s)[(a+1)%h.length]?=Z H->oL k f.1 H.1=f.2.2+H.2.1:=λa f H i d=>by
   rw[<-c]at i d;let@⟨q,v⟩:=qd i;let@⟨r,w⟩:=qd d;have aQ:=U.gap a _ _ v w;have aS:=VY (b:=k) q r;rw[aQ]at aS;rw[<-Vp (Ym.nx _<|fL q) (Ym.nx _<|fL r)];exact (Option.some.inj aS).symm
  have u:=nT.mp Ym.up;let⟨@Y0,x,B⟩:=DO (k:=k) s g YD λa f H i d=>by
   have T:a+1<h.length:=by
    have:=(eA.mp d).1;rw[c8]at this;omega
   have J:=o a f H i (by rw[yh T];exact d);rw[<-c]at i d;let⟨@z,YK⟩:=eA.mp (qd i).1;let⟨@E,YR⟩:=eA.mp (qd d).1;have:=u a (a+1) z E (ko a);rw[YK,YR]at this;unfold oL at J;rw[aE this]at J;exact J
  refine⟨g.1-g.2.1,?_⟩;rw[x];have l:=G6 s g;have J:=o s.length _ g l (by rw[j,An];rfl);have C:g.1<=(pF g s).1:=by
   have y:(h.zip Yz)[0]?=Z g:=by rw[c];rfl
   rw[<-c]at l;let⟨@z,YK⟩:=eA.mp (qd y).1;let⟨@E,YR⟩:=eA.mp (qd l).1;rw[<-YK,<-YR];rcases AH s.length with e|e
   ·simp only[e];exact hl _
   ·exact IP (u 0 s.length z E e)
  unfold oL at J;rw[aH (by omega)]at J;congr 1;omega
def xZ{J e:bB}{Ym:a6->Prop}(c:J y=Z (.aU,Yv))(o:∃M,e Yv=Z (.aU,M)/\Ym M):∃M,a_ J e y=Z (.aU,M)/\Ym M:=
 have ⟨M,a,s⟩:=o
 ⟨M,bT c a,s⟩
def ed{k:Nat}(e:Nat.ble (w+1) k=aa):w<k:=fC e
def qg(a:YT (.im f) y=Z Yv)(b:d Yv=Z (.aU,M))(o:dX YT d x M=s):dX YT d (f::x) y=s:=by
 rw[dX];show (YT (.im f) y).bind _=_;rw[a];show (d Yv).bind _=_;rw[b];exact o
def sH(J:bB)(y:a6)(Ym:aj->a6->Prop):Prop:=(∃s YN,J y=Z (.dD s,YN)/\Ym s YN)
def o6{J e:bB}(c:J y=Z (.aU,Yv))(o:sH e Yv Ym):sH (a_ J e) y Ym:=
 have ⟨s,YN,a,p⟩:=o
 ⟨s,YN,bT c a,p⟩
def Vz{J:az aj}(c:J y=Z (u,Yv))(p:Ym u Yv):sH (cV J) y Ym:=⟨u,Yv,eE c,p⟩
def LK{b:az aj}{pt:aj->aj->aj->Option aj}{o d n c:aj}(e:y[a]?=Z (Z d))(f:b y=Z (o,Yv))(g:o.d8=aa)(h:Yv[a]?=Z (Z n))(i:pt n o u=Z c)(j:Yv.set a (Z c)=M):kN a b pt u y=Z M:=by
 unfold kN;rw[e];show (b y).bind _=_;rw[f];show (if o.d8=aa then _ else _)=_;rw[aE g,h];show (pt n o u).map _=_;rw[i,<-j];rfl
end G
namespace L2
open Spec PyProof.Rows
variable{J C Zq Zx YW w a k:Nat}{YJ bo:Array ab}{t Zi YB A g:ag}{YC:List V->ag->Prop}{l:bh}{Y4 m:a3}{Zt f:ab}{R e:aX}{Yp:List (List V)}{B:Option ab->ai->Prop}{h:ai}{Q:Array (Int×ab)}{Yz:List Nat}{YV:Array (Option Nat)}{Zh YH:Type}{Ys:List Int}{o:List V}{b:Bool}{i:aT}{x:Array Nat}
abbrev eL(x:Array Nat):Prop:=x.toList.Pairwise (· < ·)
def rP(s:eL x){a o:Nat}{u:Nat}(e:a<o)(d:o<x.size):x.getD a u<x.getD o u:=by
 have T:a<x.size:=rk e d;have c:∀k (b:k<x.size),x.getD k u=x.toList[k]'⇑b:=λk b=>by simp[Array.getD,b]
 rw[c a T,c o d];exact nT.mp s a o _ _ e
theorem BD(x:Array Nat)(s:eL x)(r:Nat):∀(fuel G T:Nat),T-G<=fuel->G<=T->T<=x.size->(∀a,a<G->x.getD a r<r)->(∀a,T<=a->a<x.size->r<=x.getD a r)->
  (aT.below.go x r fuel G T<=x.size/\(∀a,a<aT.below.go x r fuel G T->x.getD a r<r)/\∀a,aT.below.go x r fuel G T<=a->a<x.size->r<=x.getD a r)
 |0,G,T,z,E,f,g,d=>by
  have c:G=T:=⋯
  subst c;exact⟨f,g,d⟩
 |fuel+1,G,T,z,E,f,g,d=>by
  unfold aT.below.go;by_cases e:G<T
  ·rw[aE e];dsimp only;by_cases b:x.getD ((G+T)/2) r<r
   ·rw[aE b];refine BD x s r fuel _ _ ⋯ ⋯ f (λa h=>?_) d;rcases gS a ((G+T)/2) with R|R
    ·exact rk (rP s R ⋯) b
    ·have:a=(G+T)/2:=⋯
     rw[this];exact b
   ·rw[aH b];refine BD x s r fuel _ _ ⋯ ⋯ ⋯ g (λa h i=>?_);rcases gS ((G+T)/2) a with R|R
    ·exact m5 (vh (rr.mp b)<|rP s R i)
    ·have:a=(G+T)/2:=⋯
     rw[this];exact rr.mp b
  ·rw[aH e];have c:G=T:=⋯
   subst c;exact⟨f,g,d⟩
def wA(s:eL x)(r:Nat):aT.below x r<=x.size/\(∀a,a<aT.below x r->x.getD a r<r)/\∀a,aT.below x r<=a->a<x.size->r<=x.getD a r:=
 BD x s r x.size 0 x.size ⋯ ⋯ ⋯ (λa e=>absurd e<|pO _) λa e R=>absurd R ⋯
def Cb(s:eL x){a r:Nat}(e:x[a]?=Z r):aT.below x r=a:=by
 let@⟨g,d,n⟩:=wA s r;let⟨@T,c⟩:=pv.mp e;have b:x.getD a r=r:=by simp[Array.getD,T,c]
 rcases te (aT.below x r) a with z|z|z
 ·have E:=n _ (bp _) (rk z T);have f:=rP s (u:=r) z T;omega
 ·exact z
 ·have:=d a z;omega
def OL(s:eL x){a r:Nat}(e:x[a]?=Z r):aT.below x (r+1)=a+1:=by
 let@⟨g,d,n⟩:=wA s (r+1);let⟨@T,c⟩:=pv.mp e;have b:x.getD a (r+1)=r:=by simp[Array.getD,T,c]
 rcases te (aT.below x<|r+1) (a+1) with z|z|z
 ·have:=n a ⋯ T;lia
 ·exact z
 ·have E:=d (a+1) z;have f:=rP s (u:=r+1) (ko a) ⋯;lia
def Xu(s:eL x):aT.below x 0=0:=by
 let@⟨g,d,n⟩:=wA s 0;rcases AH (aT.below x 0) with e|e
 ·exact e
 ·exact absurd (d 0 e) (pO _)
def RD(s:eL x){r:Nat}(e:¬ (x[aT.below x r]?=Z r)):eL (aT.insertAt x (aT.below x r) r):=by
 let@⟨g,d,n⟩:=wA s r;unfold eL;rw[HL];refine C1.mpr ⟨DZ (sY _ _) s,gN.mpr ⟨λH a=>?_,DZ (xy _ _) s⟩,λf j H a=>?_⟩
 ·let⟨o,b,rfl⟩:=kF.mp a;rw[p1];have Ys:aT.below x r+o<x.size:=by simp at b;lia
  have z:=n (aT.below x r+o) (jW _ _) Ys;have c:x.getD (aT.below x r+o) r=x.toList[aT.below x r+o]:=by simp[Array.getD,Ys]
  rw[c]at z;refine Nat.lt_of_le_of_ne z λh=>?_;rcases AH o with h0|h0
  ·subst h0;apply e;rw[pv];exact⟨⋯,by simpa using h.symm⟩
  ·have E:=rP s (u:=r) (FP (n:=aT.below x r) h0) Ys;have l:=n (aT.below x r) (bp _) ⋯;rw[c]at E;exact absurd h (cZ<|vh l E)
 ·let⟨o,b,rfl⟩:=kF.mp j;rw[ui];have m:o<aT.below x r:=by simp at b;lia
  have Ys:o<x.size:=⋯
  have z:=d o m;have c:x.getD o r=x.toList[o]:=by simp[Array.getD,Ys]
  rw[c]at z;rcases bW.mp a with rfl|a
  ·exact z
  ·let⟨k,p,rfl⟩:=kF.mp a;rw[p1];have i:aT.below x r+k<x.size:=by simp at p;lia
   have E:=n (aT.below x r+k) (jW _ _) i;have q:x.getD (aT.below x r+k) r=x.toList[aT.below x r+k]:=by simp[Array.getD,i]
   rw[q]at E;exact fP z E
structure lT(i:aT)(led:Bool):Prop where
 rise:eL i.place
 pZ:i.dummies=#[]
 led:i.led=led
def lT.TR(e:lT i b)(d:Bool):lT {i with plain:=d} b:=⟨e.rise,e.pZ,e.led⟩
def Io(r:Nat):aT.has #[] r=au:=rfl
def WE(hd:i.dummies=#[])(r:Nat):(∃a,i.slot r=.live a)\/(i.slot r=.empty/\¬ (i.place[aT.below i.place r]?=Z r)):=by
 unfold aT.slot;dsimp only;by_cases e:(i.place[aT.below i.place r]? == Z r)=aa
 ·rw[aE e];exact .inl ⟨_,rfl⟩
 ·rw[aH e,hd,Io];exact .inr ⟨rfl,λc=>e (by rw[c];exact l5 _)⟩
def lT.put(e:lT i b){r:Nat}(a:¬ (i.place[aT.below i.place r]?=Z r)):lT (i.put r).1 b:=by
 refine⟨RD e.rise a,?_,e.led⟩;show (if aT.has i.dummies r=aa then _ else i.dummies)=#[];rw[e.pZ,Io];rfl
def VP{j n o:Nat}{p:Bool}{Ys:Array Int}{m:Array Nat}(c:aT.laid j n o b p Ys=Z (i,m)):lT i b:=by
 unfold aT.laid at c;cases e:aT.layClean j Ys with
 |none=>rw[e]at c;cases c
 |some YV=>
  rw[e]at c;cases c;refine⟨?_,rfl,rfl⟩;show (List.map (λf:Nat×Nat=>f.1)<|List.filterMap (λr=>Option.map (λf=>(r,f))<|YV.getD r Y)<|range<|j+1).Pairwise (· < ·);rw[Hv];refine UW _ (R:=(· < ·)) (λg d q f a H h=>?_) Es;cases k:YV.getD g Y with
  |none=>rw[k]at a;cases a
  |some L=>
   cases l:YV.getD d Y with
   |none=>rw[l]at h;cases h
   |some v=>
    rw[k]at a;rw[l]at h;cases a;cases h;exact q
def q6(k:Nat)(q:aT.Probe):aT.Probe:=(
 if q.more>0 then {q with j:=q.j+1,more:=q.more-1} else
 {q with j:=(aT.leap k q.i q.perturb).1,more:=aT.runEnd k (aT.leap k q.i q.perturb).1-(aT.leap k q.i q.perturb).1,i:=(aT.leap k q.i q.perturb).1,perturb:=(aT.leap k q.i q.perturb).2})
def pU(k a pt:Nat):aT.Probe:=({j:=a,more:=aT.runEnd k a-a,i:=a,perturb:=pt,dummy:=Y})
def b2(k:Nat)(e:Int):Nat->aT.Probe
 |0=>pU k (aT.bits e%(k+1)) (aT.bits e)
 |o+1=>q6 k (b2 k e o)
def dd(k:Nat)(e:Int):Nat->Nat×Nat
 |0=>(aT.bits e%(k+1),aT.bits e)
 |p+1=>aT.leap k (dd k e p).1 (dd k e p).2
theorem yw(k:Nat)(e:Int):∀o,(b2 k e o).dummy=Y
 |0=>rfl
 |o+1=>by
  rw[b2,q6];split
  ·exact yw k e o
  ·exact yw k e o
def OO(k a:Nat):aT.runEnd k a-a<=9:=by
 unfold aT.runEnd;split<;>lia
theorem rm{k:Nat}{e:Int}{o a pt:Nat}(c:b2 k e o=pU k a pt):∀s,s<=aT.runEnd k a-a->b2 k e (o+s)={pU k a pt with j:=a+s,more:=aT.runEnd k a-a-s}
 |0,_=>c
 |s+1,b=>by
  show q6 k (b2 k e<|o+s)=_;rw[rm c s ⋯,q6,aE (show aT.runEnd k a-a-s>0 by lia)];rfl
def Ss{e:Int}{o pt:Nat}(c:b2 k e o=pU k a pt):b2 k e (o+(aT.runEnd k a-a)+1)=pU k (aT.leap k a pt).1 (aT.leap k a pt).2:=by
 show q6 k (b2 k e<|o+(aT.runEnd k a-a))=_;rw[rm c _ (bp _),q6,aH (show ¬ (aT.runEnd k a-a-(aT.runEnd k a-a)>0) by lia)];rfl
def gF(k:Nat)(e:Int):Nat->Nat
 |0=>0
 |p+1=>gF k e p+(aT.runEnd k (dd k e p).1-(dd k e p).1)+1
theorem qH(k:Nat)(e:Int):∀p,b2 k e (gF k e p)=pU k (dd k e p).1 (dd k e p).2
 |0=>rfl
 |p+1=>Ss (qH k e p)
theorem GS(k:Nat)(e:Int):∀p,gF k e p<=10*p
 |0=>bp _
 |p+1=>by
  have:=GS k e p;have:=OO k (dd k e p).1;show gF k e p+_+1<=_;lia
theorem Hs(k:Nat)(e:Int):∀o,∃p s,o=gF k e p+s/\s<=aT.runEnd k (dd k e p).1-(dd k e p).1
 |0=>⟨0,0,rfl,g0 _⟩
 |o+1=>by
  let⟨p,@s,c,a⟩:=Hs k e o;by_cases D:s+1<=aT.runEnd k (dd k e p).1-(dd k e p).1
  ·exact⟨p,s+1,⋯,D⟩
  ·exact⟨p+1,0,by show _=gF k e p+_+1+0;lia,g0 _⟩
def jB(k:Nat):Nat->Nat->Nat
 |0,f=>f
 |o+1,f=>(jB k o f*5+1)%(k+1)
theorem r2(k:Nat)(g f:Nat):∀d,jB k (g+d) f=jB k d (jB k g f)
 |0=>rfl
 |d+1=>by
  show (jB k (g+d) f*5+1)%(k+1)=_;rw[r2 k g f d];rfl
def vO(k:Nat):Nat->Nat->Nat->Nat
 |0,_,a=>a
 |o+1,f,a=>vO k o ((f*5+1)%(k+1)) (a ||| 2^f)
def S8(k o f:Nat):jB k o ((f*5+1)%(k+1))=jB k (o+1) f:=by
 rw[rn o 1,r2];rfl
theorem Eg{k:Nat}:∀{w f H a:Nat},(vO k w f a).testBit H=aa->a.testBit H=aa\/∃o,o<w/\jB k o f=H
 |0,_,_,_,e=>.inl e
 |w+1,f,H,a,e=>by
  rcases Eg (w:=w) e with e|⟨o,z,E⟩
  ·rw[Nat.testBit_or,vz]at e;rcases e with e|e
   ·exact .inl e
   ·rw[Nat.testBit_two_pow,g8]at e;exact .inr ⟨0,rZ _,e⟩
  ·exact .inr ⟨o+1,Nat.succ_lt_succ z,by rw[<-S8];exact E⟩
def Ar(k:Nat):Bool:=(beq (vO k (k+1) 0 0) (2^(k+1)-1)&&beq (jB k (k+1) 0) 0)
def Uw(n:Ar k=aa){g f:Nat}(c:g<=k)(d:f<=k):∃o,o<=k/\jB k o g=f:=by
 rw[Ar,cU]at n;have D:=Dn n.2;have all:∀H,H<=k->∃o,o<k+1/\jB k o 0=H:=λH h=>by
  have p:(vO k (k+1) 0 0).testBit H=aa:=by
   rw[Dn n.1,Nat.testBit_two_pow_sub_one];exact dx (G2 h)
  rcases Eg p with e|e
  ·rw[Nat.zero_testBit]at e;cases e
  ·exact e
 let⟨@a,z,rfl⟩:=all g c;let⟨@b,E,rfl⟩:=all f d;rcases gS b a with e|e
 ·refine⟨b+(k+1-a),by omega,?_⟩;rw[<-r2,show a+(b+(k+1-a))=(k+1)+b by omega,r2,D]
 ·refine⟨b-a,by omega,?_⟩;rw[<-r2,show a+(b-a)=b by omega]
def i5(k:Nat):Prop:=(k=7\/k=31\/k=127\/k=511)
def i5.Xp(J:i5 k):Ar k=aa:=by
 rcases J with rfl|rfl|rfl|rfl<;>decide +kernel
def Nt(e:Int):aT.bits e<2^64:=by
 unfold aT.bits;have z:=l_ e (show (2^64:Int)≠0 by decide);have E:=nV e (show (0:Int)<2^64 by decide);lia
theorem FU(k:Nat)(e:Int):∀p,(dd k e p).2=aT.bits e/32^p
 |0=>by rw[Nat.pow_zero,Nat.div_one];rfl
 |p+1=>by
  show (dd k e p).2/32=_;rw[FU k e p,Nat.div_div_eq_div_mul];rfl
theorem y0(k:Nat)(e:Int):∀p,(dd k e p).1<=k
 |0=>sr (rd _<|rZ _)
 |p+1=>sr (rd _<|rZ _)
theorem Gn(k:Nat)(e:Int):∀o,dd k e (13+o)=(jB k o (dd k e 13).1,0)
 |0=>by
  have c:(dd k e 13).2=0:=by
   rw[FU];exact Nat.div_eq_of_lt (rk (Nt e) ∅)
  show dd k e 13=((dd k e 13).1,0);rw[<-c]
 |o+1=>by
  show aT.leap k (dd k e<|13+o).1 (dd k e<|13+o).2=_;rw[Gn k e o];show ((jB k o (dd k e 13).1*5+1+0/32)%(k+1),0/32)=_;rw[Nat.zero_div,CW];rfl
def E1(J:i5 k)(e:Int){f:Nat}(a:f<=k):∃p,p+1<aT.turns k/\(dd k e p).1=f:=by
 let⟨@o,z,E⟩:=Uw J.Xp (y0 k e 13) a;exact⟨13+o,by unfold aT.turns;lia,by rw[Gn];exact E⟩
def Sd(J:i5 k)(e:Int){f:Nat}(a:f<=k):∃o,o<10*aT.turns k/\(b2 k e o).j=f:=by
 let⟨@p,z,E⟩:=E1 J e a;refine⟨gF k e p,by have:=GS k e p;lia,?_⟩;rw[qH];exact E
def CX(e:a<=k):aT.runEnd k a<=k:=by unfold aT.runEnd;split<;>omega
def IB(k:Nat)(e:Int)(o:Nat):(b2 k e o).j<=k:=by
 let⟨p,@s,rfl,a⟩:=Hs k e o;rw[rm (qH k e p) s a];have:=CX (y0 k e p);have c:aT.runEnd k (dd k e p).1 >= (dd k e p).1:=by unfold aT.runEnd;split<;>lia
 show (dd k e p).1+s<=k;lia
theorem vE{YH:Type}[DecidableEq YH]:∀{t k:List YH},t.Nodup->(∀f∈t,f∈k)->t.length<=k.length
 |[],k,_,_=>g0 _
 |g::t,k,ah,e=>by
  have a:=g5.mp ah;have p:=vE (t:=t) (k:=k.erase g) a.2 λf b=>(xv (λc:f=g=>a.1<|c ▸ b)).mpr (e f<|.tail _ b);have d:=e g (.head _);rw[K2 d]at p;have:=JS d;rw[c8];lia
def gk(k:Nat)(iX:Nat->Prop)(e:Int)(r:Nat):Prop:=(∃o,(b2 k e o).j=r/\∀a,a<o->iX (b2 k e a).j)
def gk.mono{iX b:Nat->Prop}{e:Int}{r:Nat}(s:gk k iX e r)(a:∀f,iX f->b f):gk k b e r:=let ⟨o,c,g⟩:=s;⟨o,c,λd D=>a _<|g d D⟩
structure qs(i:aT)(Ys:List Int):Prop where
 nd:i5 i.mask
 len:i.place.size=Ys.length
 loose:i.place.size*5<i.mask*3
 le:∀r∈i.place.toList,r<=i.mask
 pK:∀q∈i.place.toList.zip Ys,gk i.mask (·∈i.place.toList) q.2 q.1
def i5.pos(J:i5 k):7<=k/\k<=511/\k%2=1:=by rcases J with rfl|rfl|rfl|rfl<;>decide
def Ql(s:eL i.place){r:Nat}(e:r∈i.place.toList):∃a,i.slot r=.live a/\i.place[a]?=Z r:=by
 let⟨a,T,c⟩:=kF.mp e;have b:i.place[a]?=Z r:=by
  rw[<-e0,dz T,c]
 refine⟨a,?_,b⟩;unfold aT.slot;dsimp only;rw[Cb s b,b,aE<|l5 _]
def UL(hd:i.dummies=#[]){r:Nat}(e:r∉i.place.toList):i.slot r=.empty:=by
 rcases WE hd r with ⟨a,c⟩|⟨c,_⟩
 ·unfold aT.slot at c;dsimp only at c;split at c
  ·next p=>
   have b:=eq_of_beq p;refine absurd ?_ e;rw[<-e0]at b;exact fL b
  ·split at c<;>cases c
 ·exact c
def qs.some(j:qs i Ys)(e:Int):∃o,o<10*aT.turns i.mask/\(b2 i.mask e o).j∉i.place.toList:=by
 have:∃f,f<=i.mask/\f∉i.place.toList:=by
  refine sx λn=>?_;have p:=vE (t:=range (i.mask+1)) (k:=i.place.toList) sA λf a=>sx λD=>n ⟨f,sr<|eT.mp a,D⟩;rw[gh,dq]at p;have:=j.loose;lia
 let⟨@f,z,E⟩:=this;let⟨@o,YK,YR⟩:=Sd j.nd e z;exact⟨o,YK,by rw[YR];exact E⟩
theorem HB{i:aT}(s:eL i.place)(hd:i.dummies = #[])(f:Nat -> Int)(e:Int): ∀(fuel b:Nat),(∃o,b <= o /\ o<b+fuel /\ (b2 i.mask e o).j ∉ i.place.toList) ->
    ∃YK,b <= YK /\ (∀o,b <= o -> o<YK -> ∃a,i.place[a]? = Z (b2 i.mask e o).j /\ f a ≠ e) /\
      ((aT.probe.go i f e fuel (b2 i.mask e b)=Z (.empty (b2 i.mask e YK).j Y) /\ (b2 i.mask e YK).j ∉ i.place.toList) \/
        ∃a,aT.probe.go i f e fuel (b2 i.mask e b)=Z (.candidate (b2 i.mask e YK).j a<|b2 i.mask e<|YK+1) /\ i.slot (b2 i.mask e YK).j=.live a /\ i.place[a]? = Z (b2 i.mask e YK).j /\ f a=e)
  |0,b,⟨o,g,d,_⟩ => absurd g ⋯
  |fuel+1,b,⟨o,g,d,n⟩ => by
    by_cases D:(b2 i.mask e b).j ∈ i.place.toList
    · let⟨@a,h,k⟩:=Ql s D
      by_cases p:f a=e
      · refine ⟨b,bp _,λo z E => absurd z ⋯,.inr ⟨a, ?_,h,k,p⟩⟩
        unfold aT.probe.go;rw [h];dsimp only;rw [aE (by rw [p]; exact l5 _)];rfl
      · have ne:o ≠ b:=λc => n (c ▸ D)
        let⟨@YK,z,E,l⟩:=HB s hd f e fuel (b+1) ⟨o,⋯,⋯,n⟩;have c:aT.probe.go i f e (fuel+1) (b2 i.mask e b)=aT.probe.go i f e fuel (b2 i.mask e<|b+1):=by
          rw [aT.probe.go,h];dsimp only;rw [aH (by rw [pH]; exact p)];rfl
        refine ⟨YK,⋯,λo q m => ?_,by rw [c]; exact l⟩;rcases gS b o with J|J
        · exact E o J m
        · rw [show o=b by lia]; exact ⟨a,k,p⟩
    · refine ⟨b,bp _,λo z E => absurd z ⋯,.inl ⟨?_,D⟩⟩
      unfold aT.probe.go;rw [UL hd D];dsimp only;rw [yw]
def AF(x:Array YH)(q:Nat)(f:YH):(aT.insertAt x q f).toList=x.toList.take q++f::x.toList.drop q:=HL x q f
def sR{t:List YH}{q:Nat}{f H:YH}:H∈t.take q++f::t.drop q↔H=f\/H∈t:=by
 constructor
 ·intro e;rcases eh.mp e with e|e
  ·exact .inr (oF e)
  ·rcases bW.mp e with e|e
   ·exact .inl e
   ·exact .inr (m9 e)
 ·rintro (rfl|e)
  ·exact fE _ (.head _)
  ·rw[<-f7 q t]at e;rcases eh.mp e with e|e
   ·exact gd _ e
   ·exact fE _ (.tail _ e)
def TZ{g:List YH}{d:List Zh}(b:g.length=d.length)(q:Nat)(f:YH)(H:Zh):(g.take q++f::g.drop q).zip (d.take q++H::d.drop q)=(g.zip d).take q++(f,H)::(g.zip d).drop q:=by
 rw[GX (by rw[gx,gx,b]),yL];have c:∀(q:Nat) (g:List YH) (d:List Zh),(g.take q).zip (d.take q)=(g.zip d).take q:=λq=>by
  induction q with
  |zero=>intro g d;rfl
  |succ q a=>intro g d;cases g with
   |nil=>rfl
   |cons f g=>cases d with
    |nil=>rfl
    |cons H d=>exact congrArg ((f,H)::·) (a g d)
 have e:∀(q:Nat) (g:List YH) (d:List Zh),(g.drop q).zip (d.drop q)=(g.zip d).drop q:=λq=>by
  induction q with
  |zero=>intro g d;rfl
  |succ q a=>intro g d;cases g with
   |nil=>rfl
   |cons f g=>cases d with
    |nil=>show (g.drop q).zip []=_;rw[List.zip_nil_right];rfl
    |cons H d=>exact a g d
 rw[c,e]
def qs.put(j:qs i Ys){e:Int}{o:Nat}(k:(b2 i.mask e o).j∉i.place.toList)(g:∀a,a<o->(b2 i.mask e a).j∈i.place.toList):
  (∀r∈(i.put (b2 i.mask e o).j).1.place.toList,r<=i.mask)/\∀q∈(i.put (b2 i.mask e o).j).1.place.toList.zip (Ys.take (i.put (b2 i.mask e o).j).2++e::Ys.drop (i.put (b2 i.mask e o).j).2),gk i.mask (·∈(i.put (b2 i.mask e o).j).1.place.toList) q.2 q.1:=by
 have c:(i.put (b2 i.mask e o).j).1.place.toList=i.place.toList.take (i.put (b2 i.mask e o).j).2++(b2 i.mask e o).j::i.place.toList.drop (i.put (b2 i.mask e o).j).2:=AF _ _ _;rw[c];refine⟨λr d=>?_,λq b=>?_⟩
 ·rcases sR.mp d with rfl|d
  ·exact IB _ _ _
  ·exact j.le r d
 ·rw[TZ (by rw[dq];exact j.len)]at b;rcases sR.mp b with rfl|b
  ·exact⟨o,rfl,λa D=>sR.mpr<|.inr<|g a D⟩
  ·exact (j.pK q b).mono λf h=>sR.mpr (.inr h)
def mT(YV:Array (Option Nat))(r:Nat):Prop:=((YV.getD r<|Z 0).isSome=aa)
theorem Kf{k:Nat}(YV:Array (Option Nat))(e:Int):∀(fuel p:Nat),(∀a,a<gF k e p->mT YV (b2 k e a).j)->(∃b,p<=b/\b<p+fuel/\¬ mT YV (dd k e b).1)->
  ∃r,aT.layClean.free k YV fuel (dd k e p).1 (dd k e p).2=Z r/\r<=k/\¬ mT YV r/\gk k (mT YV) e r
 |0,p,_,⟨b,g,d,_⟩=>absurd g ⋯
 |fuel+1,p,f,⟨b,g,d,n⟩=>by
  unfold aT.layClean.free;have le:aT.runEnd k (dd k e p).1<=k:=CX (y0 k e p);have ZF:(dd k e p).1<=aT.runEnd k (dd k e p).1:=by unfold aT.runEnd;split<;>lia
  cases h:(range<|aT.runEnd k (dd k e p).1+1-(dd k e p).1).find? (λo=>(YV.getD ((dd k e p).1+o)<|Z 0).isNone) with
  |some o=>
   dsimp only;rw[List.find?_range_eq_some]at h;let@⟨z,E,m⟩:=h;have q:o<aT.runEnd k (dd k e p).1+1-(dd k e p).1:=eT.mp E;refine⟨_,rfl,⋯,?_,gF k e p+o,?_,λa i=>?_⟩
   ·unfold mT;intro D;rw[Option.isNone_iff_eq_none]at z;rw[z]at D;cases D
   ·rw[rm (qH k e p) o ⋯]
   ·rcases gS a (gF k e p) with D|D
    ·exact f a D
    ·have c:a=gF k e p+(a-gF k e p):=⋯
     rw[c,rm (qH k e p) (a-gF k e p) ⋯];have:=m (a-gF k e p) ⋯;show (YV.getD ((dd k e p).1+(a-gF k e p))<|Z 0).isSome=aa;cases l:YV.getD ((dd k e p).1+(a-gF k e p)) (Z 0) with
     |none=>rw[l]at this;cases this
     |some _=>rfl
  |none=>
   dsimp only;rw[List.find?_range_eq_none]at h;have iX:∀o,o<aT.runEnd k (dd k e p).1+1-(dd k e p).1->mT YV ((dd k e p).1+o):=λo f=>by
    have:=h o f;unfold mT;cases l:YV.getD ((dd k e p).1+o) (Z 0) with
    |none=>rw[l]at this;cases this
    |some _=>rfl
   have ne:b≠p:=λc=>n (by rw[c];exact iX 0 ⋯);refine Kf YV e fuel (p+1) (λa i=>?_) ⟨b,⋯,⋯,n⟩;rcases gS a (gF k e p) with D|D
   ·exact f a D
   ·have s:a<gF k e p+(aT.runEnd k (dd k e p).1-(dd k e p).1)+1:=i;have c:a=gF k e p+(a-gF k e p):=⋯
    rw[c,rm (qH k e p) (a-gF k e p) ⋯];exact iX _ ⋯
structure l9(k:Nat)(YV:Array (Option Nat))(Yz:List Nat)(Ys:List Int):Prop where
 size:YV.size=k+1
 len:Yz.length=Ys.length
 ah:Yz.Nodup
 le:∀r∈Yz,r<=k
 own:∀(r o:Nat),YV[r]?=Z (Z o)↔Yz[o]?=Z r
 pK:∀q∈Yz.zip Ys,gk k (·∈Yz) q.2 q.1
def l9.iX(A:l9 k YV Yz Ys){r:Nat}(d:r<=k):mT YV r↔r∈Yz:=by
 have b:r<YV.size:=by rw[A.size];lia
 unfold mT;rw[show YV.getD r (Z 0)=YV[r] by simp[Array.getD,b]];have c:YV[r]?=Z YV[r]:=jN b;constructor
 ·intro D;let⟨@o,a⟩:=DF.mp D;rw[a]at c;exact fL ((A.own r o).mp c)
 ·intro D;let⟨@o,a⟩:=v5 D;have:=(A.own r o).mpr a;rw[c]at this;rw[Option.some.inj this];rfl
def l9.step{k:Nat}(J:i5 k){YV:Array (Option Nat)}{Yz:List Nat}{Ys:List Int}(A:l9 k YV Yz Ys)(F:Ys.length<=k)(e:Int):
  ∃r,aT.layClean.free k YV (aT.turns k) (aT.bits e%(k+1)) (aT.bits e)=Z r/\l9 k (YV.setIfInBounds r<|Z Ys.length) (Yz++[r]) (Ys++[e]):=by
 have room:∃f,f<=k/\f∉Yz:=by
  refine sx λn=>?_;have p:=vE (t:=range (k+1)) (k:=Yz) sA λf h=>sx λD=>n ⟨f,sr<|eT.mp h,D⟩;rw[gh,A.len]at p;lia
 let⟨@f,j,w⟩:=room;let⟨@p,G,x⟩:=E1 J e j;let⟨@r,y,m,z,B⟩:=Kf (k:=k) YV e (aT.turns k) 0 (λs i=>absurd i<|pO _) ⟨p,g0 _,⋯,by rw[x];exact λD=>w<|(A.iX j).mp D⟩;have u:r∉Yz:=λD=>z ((A.iX m).mpr D);have C:r<YV.size:=by rw[A.size];lia
 refine⟨r,y,by rw[Array.size_setIfInBounds,A.size],by rw[c6,c6,A.len];rfl,?_,?_,λv o=>?_,?_⟩
 ·exact d0.mpr ⟨A.ah,f9 _ _,λg a d E c=>u (by rw[<-cX.mp E,<-c];exact a)⟩
 ·intro g a;rcases eh.mp a with a|a
  ·exact A.le g a
  ·rw[cX.mp a];exact m
 ·rw[Array.getElem?_setIfInBounds];by_cases c:r=v
  ·subst c;rw[aE rfl,aE C];constructor
   ·intro D;cases D;rw[<-A.len,j6<|bp _,Bo];rfl
   ·intro D;rcases gS o Yz.length with l|l
    ·rw[kL l]at D;exact absurd (fL D) u
    ·rw[j6 l]at D;have:o-Yz.length=0:=by
      have:=(eA.mp D).1;rw[mw]at this;lia
     rw[show o=Ys.length by rw[<-A.len];lia]
  ·rw[aH c,A.own v o];rcases gS o Yz.length with l|l
   ·rw[kL l]
   ·rw[j6 l,tf l];constructor
    ·intro D;cases D
    ·intro D;have:=fL D;exact absurd (cX.mp this) (λD=>c D.symm)
 ·intro q b;rw[GX A.len]at b;rcases eh.mp b with b|b
  ·exact (A.pK q b).mono λf h=>gd _ h
  ·rw[yL,List.zip_nil_left]at b;rw[cX.mp b];let⟨@o,c,g⟩:=B;exact⟨o,c,λs i=>gd _<|(A.iX<|IB _ _ _).mp<|g s i⟩
theorem Ek{k:Nat}(J:i5 k):∀(c_ Ys:List Int) (YV:Array (Option Nat)) (Yz:List Nat),l9 k YV Yz Ys->(Ys++c_).length<=k->
  ∃a b,c_.foldl (λ(i:Option (Array (Option Nat)×Nat)) e=>do
   let (f,o) <-i
   let r <-aT.layClean.free k f (aT.turns k) (aT.bits e%(k+1)) (aT.bits e)
   pure (f.setIfInBounds r<|Z o,o+1)) (Z (YV,Ys.length))=Z (a,(Ys++c_).length)/\l9 k a b (Ys++c_)
 |[],Ys,YV,Yz,A,_=>⟨YV,Yz,by rw[cA];rfl,by rw[cA];exact A⟩
 |e::c_,Ys,YV,Yz,A,g=>by
  let⟨@r,c,j⟩:=A.step J (by rw[c6]at g;lia) e;let⟨a,@b,d,h⟩:=Ek J c_ (Ys++[e]) _ _ j (by rw[bq];exact g);rw[bq]at d h;refine⟨a,b,?_,h⟩;rw[mj];rw[show (Ys++[e]).length=Ys.length+1 from c6]at d;refine Eq.trans (congrArg (λD=>List.foldl _ D c_) ?_) d;show (aT.layClean.free k YV (aT.turns k) (aT.bits e%(k+1))<|aT.bits e).bind _=_;rw[c];rfl
def Ww(J:i5 k)(Ys:Array Int)(a:Ys.size<=k):∃YV Yz,aT.layClean k Ys=Z YV/\l9 k YV Yz Ys.toList:=by
 have b:l9 k (Array.replicate (k+1) Y) [] []:=by
  refine⟨Array.size_replicate,rfl,kR,λ_ e=>(gq e).elim,λr o=>⟨λD=>?_,λD=>?_⟩,λ_ e=>(gq e).elim⟩
  ·have:=(pv.mp D).2;rw[Array.getElem_replicate]at this;cases this
  ·simp at D
 let⟨YV,@Yz,c,A⟩:=Ek J Ys.toList [] _ _ b (by rw[ih,dq];exact a);refine⟨YV,Yz,?_,A⟩;unfold aT.layClean;rw[<-Array.foldl_toList];exact congrArg (Option.map (·.1)) c
def Q2{q:Nat×Nat}:q∈(range<|k+1).filterMap (λr=>(YV.getD r Y).map (r,·))↔q.1<=k/\YV[q.1]?=Z (Z q.2):=by
 rw[wH];constructor
 ·rintro⟨r,z,E⟩;let⟨@o,a,rfl⟩:=cB.mp E;refine⟨sr<|eT.mp z,?_⟩;show YV[r]?=Z (Z o);by_cases D:r<YV.size
  ·rw[show YV.getD r Y=YV[r] by simp[Array.getD,D]]at a;rw[jN D,a]
  ·rw[show YV.getD r Y=Y by simp[Array.getD,D]]at a;cases a
 ·rintro⟨z,E⟩;refine⟨q.1,eT.mpr<|G2 z,?_⟩;let⟨@D,c⟩:=pv.mp E;rw[show YV.getD q.1 Y=YV[q.1] by simp[Array.getD,D],c];rfl
theorem I2{YH Zh:Type}:∀{t:List (YH×Zh)},(t.map (·.1)).Nodup->(∀g∈t,∀d∈t,g.2=d.2->g.1=d.1)->(t.map (·.2)).Nodup
 |[],_,_=>kR
 |f::t,e,a=>by
  rw[cy]at e ⊢;have R:=g5.mp e;refine g5.mpr ⟨λD=>?_,I2 R.2 λg h d i=>a g (.tail _ h) d<|.tail _ i⟩;let⟨@H,b,c⟩:=cW.mp D;have:=a H (.tail _ b) f (.head _) c;exact R.1 (by rw[<-this];exact rH b)
theorem Gu{YH Zh ZK:Type}(F:YH->Zh)(J:YH->ZK):∀t:List YH,(t.map F).zip (t.map J)=t.map λf=>(F f,J f)
 |[]=>rfl
 |f::t=>congrArg (_::·) (Gu F J t)
def Oe{l:Nat}(J:i5 (aT.sizeAbove l-1))(C:Q.size*5<(aT.sizeAbove l-1)*3){b:Bool}(o:i.led=b):
  ∃YU v,i.relaid (Q.map (·.1)) l=Z (YU,v)/\v.toList.Perm (range Q.size)/\lT YU b/\qs YU ((v.filterMap (Q[·]?)).toList.map (·.1)):=by
 let⟨YV,@Yz,c,A⟩:=Ww J (Q.map (·.1)) (by rw[x2];lia);generalize D:aT.sizeAbove l-1=k at *;have s:i.relaid (Q.map (·.1)) l=Z ({mask:=k,place:=(((range<|k+1).filterMap λr=>(YV.getD r Y).map (r,·)).map (·.1)).toArray,dummies:=#[],finger:=i.finger,led:=i.led,moves:=i.movedTo k,plain:=i.plain},(((range<|k+1).filterMap λr=>(YV.getD r Y).map (r,·)).map (·.2)).toArray):=by
  unfold aT.relaid aT.laid;rw[D,c];rfl
 have j:=λ(q:Nat×Nat)=>Q2 (k:=k) (YV:=YV) (q:=q);have t:(((range<|k+1).filterMap λr=>(YV.getD r Y).map (r,·)).map (·.1)).Pairwise (· < ·):=by
  have:=(VP (i:=_) (m:=_) s);exact this.rise
 generalize F:(range<|k+1).filterMap (λr=>(YV.getD r Y).map (r,·))=N at s j t;have YD:∀q∈N,Yz[q.2]?=Z q.1:=λq h=>(A.own _ _).mp ((j q).mp h).2;have lt:∀q∈N,q.2<Q.size:=λq h=>by
  have:=(eA.mp<|YD q h).1;rw[A.len,dq,x2]at this;exact this
 have w:(N.map (·.1)).Nodup:=t.imp λe=>cZ e;have x:(N.map (·.2)).Nodup:=I2 w λg G d H c=>by
  have z:=YD g G;have E:=YD d H;rw[c]at z;exact Option.some.inj (z.symm.trans E)
 have perm:(N.map (·.2)).Perm (range Q.size):=by
  refine (Az x sA).mpr λf=>?_;rw[eT];constructor
  ·intro e;let⟨@q,h,rfl⟩:=cW.mp e;exact lt q h
  ·intro e;have n:f<Yz.length:=by rw[A.len,dq,x2];exact e
   have z:Yz[f]?=Z Yz[f]:=dz n;exact cW.mpr ⟨(Yz[f],f),(j _).mpr ⟨A.le _<|sN n,(A.own _ _).mpr z⟩,rfl⟩
 have y:N.length=Q.size:=by
  have:=perm.length_eq
  rwa [ba,gh]at this
 have B:((N.map (·.2)).filterMap (Q[·]?)).map (·.1)=N.map λq=>(Q.getD q.2 (0,.none)).1:=by
  clear j t YD w x perm y s F;induction N with
  |nil=>rfl
  |cons q N I=>
   have h:=lt q (.head _);rw[cy,xC<|jN h,cy,cy,I λp u=>lt p<|.tail _ u];congr 1;simp[Array.getD,h]
 refine⟨_,_,s,?_,⟨?_,rfl,o⟩,⟨J,?_,?_,?_,?_⟩⟩
 ·exact perm
 ·exact t
 ·rw[Am];show (N.map (·.1)).toArray.size=(((N.map (·.2)).filterMap (Q[·]?)).map (·.1)).length;rw[B,cv,ba,ba]
 ·show (N.map (·.1)).toArray.size*5<k*3;rw[cv,ba,y];exact C
 ·intro r L;let⟨@q,h,rfl⟩:=cW.mp L;exact ((j q).mp h).1
 ·rw[Am];show ∀q∈(N.map (·.1)).zip (((N.map (·.2)).filterMap (Q[·]?)).map (·.1)),gk k (·∈N.map (·.1)) q.2 q.1;rw[B,Gu];intro q h;let⟨@p,u,rfl⟩:=cW.mp h;have z:=YD p u;have E:((Q.map (·.1)).toList)[p.2]?=Z (Q.getD p.2 (0,.none)).1:=by
   have:=lt p u;rw[e0,Array.getElem?_map,jN this];simp[Array.getD,this]
  have M:(p.1,(Q.getD p.2 (0,.none)).1)∈Yz.zip (Q.map (·.1)).toList:=by
   refine fL (i:=p.2) ?_;rw[mC];exact⟨z,E⟩
  refine (A.pK _ M).mono λf n=>?_;let⟨@o,O⟩:=v5 n;exact cW.mpr ⟨(f,o),(j _).mpr ⟨A.le f n,(A.own _ _).mpr O⟩,rfl⟩
def PO(J:i5 k)(z:w*5<k*3)(E:(w+1)*5 >= k*3)(a:w+1<=300):i5 (aT.sizeAbove (aT.grown<|w+1)-1)/\(w+1)*5<(aT.sizeAbove (aT.grown<|w+1)-1)*3/\aT.sizeAbove (aT.grown<|w+1)<=512:=by
 rcases J with rfl|rfl|rfl|rfl
 ·rw[show w=4 by lia];exact⟨.inr (.inl ∅),by decide,by decide⟩
 ·rw[show w=18 by lia];exact⟨.inr (.inr (.inl ∅)),by decide,by decide⟩
 ·rw[show w=76 by lia];exact⟨.inr (.inr (.inr ∅)),by decide,by decide⟩
 ·lia
section
variable{Yw:bO}{l:bh}
theorem Dh:∀(w:Nat) {O:bA}{Yq:ab->ai->Prop}{h:ai}{u:V}{v:ab}{B:Bool->ai->Prop},V.key w u=aa->dS h.heap u v->(∀d,B d h)->wpAny (aN Yw l) O (w2 w v) B Yq h
 |w,O,Yq,h,.int a,v,B,_,b,e=>by
  let⟨@i,rfl⟩:=b;rw[show w2 w (.int a i)=pure aa from by cases w<;>rfl];exact aM (e _)
 |w,O,Yq,h,.str a,v,B,_,b,e=>by
  let⟨@i,rfl⟩:=b;rw[show w2 w (.str a i)=pure au from by cases w<;>rfl];exact aM (e _)
 |w+1,O,Yq,h,.tup I,v,B,o,b,e=>by
  let⟨g,m,YJ,@k,rfl,j,p,hd,T⟩:=b;have q:h.TypeIs (.ref g) "tuple" := ⟨m,j,p⟩;unfold w2;refine ao (mx q rI.lookup ?_);show wpAny _ _ (nj (.ref g) >>= _) _ _ h;refine ao (gT j hd ?_);refine ao ?_;show wpAny _ _ (forIn YJ _ _) _ _ h;rw[<-qU];rw[V.key]at o;refine nF _ (λc_ s Yn=>Yn=h/\∃left,V.keys w left=aa/\dM h.heap left c_) _ ?_ ?_ _ _ ⟨rfl,I,o,T⟩
  ·rintro v c_ s Yn ⟨rfl,left,f,n⟩;cases left with
   |nil=>cases (show v::c_=[] from n)
   |cons u left=>
    let⟨x,@Zd,c,z,r⟩:=n;cases c;rw[V.keys,cU]at f;refine ao (Dh w f.1 z λd=>?_);cases d
    ·show wpAny _ _ (pure<|ForInStep.done _) _ _ _;exact aM (aM<|e _)
    ·show wpAny _ _ (pure<|ForInStep.yield _) _ _ _;exact aM ⟨rfl,left,f.2,r⟩
  ·rintro⟨t,y⟩ Yn ⟨rfl,W⟩;cases t with
   |none=>exact aM (e _)
   |some d=>exact aM (e _)
 |_,_,_,_,.aV,_,_,o,_,_=>by cases ‹Nat›<;>cases o
 |_,_,_,_,.aB _,_,_,o,_,_=>by cases ‹Nat›<;>cases o
 |_,_,_,_,.fn _,_,_,o,_,_=>by cases ‹Nat›<;>cases o
 |_,_,_,_,.aR _,_,_,o,_,_=>by cases ‹Nat›<;>cases o
 |_,_,_,_,.fd,_,_,o,_,_=>by cases ‹Nat›<;>cases o
 |0,_,_,_,.tup _,_,_,o,_,_=>by cases o
theorem xP:∀(w:Nat) {O:bA}{Yq:ab->ai->Prop}{h:ai}{u:V}{v:ab}{B:Bool->ai->Prop},V.key w u=aa->dS h.heap u v->B au h->wpAny (aN Yw l) O (w_ w v) B Yq h
 |w,O,Yq,h,.int a,v,B,_,b,e=>by
  let⟨@i,rfl⟩:=b;rw[show w_ w (.int a i)=pure au from by cases w<;>rfl];exact aM e
 |w,O,Yq,h,.str a,v,B,_,b,e=>by
  let⟨@i,rfl⟩:=b;rw[show w_ w (.str a i)=pure au from by cases w<;>rfl];exact aM e
 |w+1,O,Yq,h,.tup I,v,B,o,b,e=>by
  let⟨g,m,YJ,@k,rfl,j,p,hd,T⟩:=b;have q:h.TypeIs (.ref g) "tuple" := ⟨m,j,p⟩;unfold w_;refine ao (wpAny_typeOf q ?_);dsimp only;rw[aE (show ("tuple" == "tuple")=aa by decide)];refine ao (aM ?_);simp only[rC,g_,f5];refine ao (gT j hd ?_);dsimp only;refine ao ?_;show wpAny _ _ (forIn YJ _ _) _ _ h;rw[<-qU];rw[V.key]at o;refine nF _ (λc_ s Yn=>s.1=Y/\Yn=h/\∃left,V.keys w left=aa/\dM h.heap left c_) _ ?_ ?_ _ _ ⟨rfl,rfl,I,o,T⟩
  ·rintro v c_ s Yn ⟨d,rfl,left,f,n⟩;cases left with
   |nil=>cases (show v::c_=[] from n)
   |cons u left=>
    let⟨t,@Zd,c,z,r⟩:=n;cases c;rw[V.keys,cU]at f;refine ao (xP w f.1 z ?_);simp only[g_,f5];exact aM ⟨rfl,rfl,left,f.2,r⟩
  ·rintro⟨x,y⟩ Yn ⟨d,rfl,W⟩;simp only at d;subst d;exact aM e
 |_,_,_,_,.aV,_,_,o,_,_=>by cases ‹Nat›<;>cases o
 |_,_,_,_,.aB _,_,_,o,_,_=>by cases ‹Nat›<;>cases o
 |_,_,_,_,.fn _,_,_,o,_,_=>by cases ‹Nat›<;>cases o
 |_,_,_,_,.aR _,_,_,o,_,_=>by cases ‹Nat›<;>cases o
 |_,_,_,_,.fd,_,_,o,_,_=>by cases ‹Nat›<;>cases o
 |0,_,_,_,.tup _,_,_,o,_,_=>by cases o
def Vu{O:bA}{Yq:ab->ai->Prop}{f:ag}{B:Bool->ai->Prop}(b:(eC Yw l).is h.heap o f){Yl:List ab}(g:∀v∈Yl,∃d a,v=.ref d/\(eC Yw l).is h.heap a d)(e:B au h):
  wpAny (aN Yw l) O (FA (.ref f) Yl) B Yq h:=by
 unfold FA;refine ao ?_;refine nF _ (λc_ s Yn=>s.1=Y/\Yn=h/\∀v∈c_,∃d a,v=.ref d/\(eC Yw l).is h.heap a d) _ ?_ ?_ _ _ ⟨rfl,rfl,g⟩
 ·rintro v c_ s Yn ⟨i,rfl,j⟩;let⟨d,@a,rfl,c⟩:=j v (.head _);have k:∀v∈c_,∃d a,v=.ref d/\(eC Yw l).is Yn.heap a d:=λv g=>j v (.tail _ g);dsimp only;cases m:(f==d) with
  |true=>
   simp only[JA,h7];exact aM ⟨rfl,rfl,k⟩
  |false=>
   simp only[Ds];rw[aH (show ¬ ((Lg (ab.ref f)&&Lg (ab.ref d))=aa) from λD=>dj D)];refine ao (xp 8 (u:=.tup _) b.1 b.2 ?_);simp only[rC,g_,f5];refine ao (xp 8 (u:=.tup _) c.1 c.2 ?_);simp only[rC,g_,f5];refine ao (xP 8 (u:=.tup _) b.1 b.2 ?_);simp only[g_,f5];refine ao (xP 8 (u:=.tup _) c.1 c.2 ?_);simp only[g_,f5];exact aM ⟨rfl,rfl,k⟩
 ·rintro⟨n,p⟩ Yn ⟨i,rfl,W⟩;simp only at i;subst i;exact aM e
end
section
variable(l:bh)(YC:List V->ag->Prop)
def w0(D:List V×Int×ab):Prop:=(∃d,D.2.2=.ref d/\D.2.1=du l (.tup D.1)/\YC D.1 d)
structure mq(Q:Array (Int×ab))(i:aT)(b:Bool)(Yp:List (List V)):Prop where
 p2:∃S:List (List V×Int×ab),S.map (·.2)=Q.toList/\(S.map (·.1)).Perm Yp/\∀D∈S,w0 l YC D
 tab:lT i b
 bG:qs i (Q.toList.map (·.1))
 ah:Yp.Nodup
def gm(e:aX)(g:ag)(b:Bool)(Yp:List (List V)):Prop:=(∃m Q YW i,e.get? g=Z m/\m.ExactSet/\m.data=.set Q YW i/\mq l YC Q i b Yp)
end
section
variable{Yw:bO}{l:bh}{YC:List V->ag->Prop}{O:bA}{Yq:ab->ai->Prop}
def mq.size(y:mq l YC Q i b Yp):i.place.size=Q.size:=by
 rw[y.bG.len,ba,dq]
def mq.fit(y:mq l YC Q i b Yp):i.fits Q.size=aa:=by
 have:=y.bG.loose;unfold aT.fits aT.fill;rw[y.tab.pZ,y.size,cU,pH,g8];rw[y.size]at this;exact⟨rfl,by show Q.size+0<=_;lia⟩
def mq.num(y:mq l YC Q i b Yp):Q.size=Yp.length:=by
 let⟨@S,z,E,W⟩:=y.p2;rw[<-E.length_eq,ba,<-dq,<-z,ba]
def Cq(s:eL x){a b r:Nat}(g:x[a]?=Z r)(d:x[b]?=Z r):a=b:=by
 rw[<-Cb s g,<-Cb s d]
def VB{az:gW}{n:Bool}{k:dA Bool}{L s:dA YH}{B:YH->ai->Prop}(z:∀a:Bool->ai->Prop,a au h->wpAny az O k a Yq h)(E:wpAny az O s B Yq h):
  wpAny az O (if n=aa then (do let d <-k;if d=aa then L else s) else s) B Yq h:=by
 cases n
 ·rw[aH dj];exact E
 ·rw[aE rfl];refine ao (z _ ?_);rw[aH dj];exact E
theorem KG{g f:ag}{o:List V}{b:Bool}{Yp:List (List V)}{m:a3}{Q:Array (Int×ab)}{YW:Nat}{i:aT}{h:ai}{B:SetFound->ai->Prop}{S:List (List V×Int×ab)}(bs:O.units+20<bQ)(H:h.heap.get? g=Z m)(hd:m.data=.set Q YW i)(y:mq l YC Q i b Yp)(I:(eC Yw l).is h.heap o f)(L:∀p d,YC p d->(eC Yw l).is h.heap p d)(A:S.map (·.2)=Q.toList)(M:(S.map (·.1)).Perm Yp)(N:∀D∈S,w0 l YC D)(an:o∈Yp->B (.there Y) h)(ap:o∉Yp->∀cE,(b2 i.mask (du l<|.tup o) cE).j∉i.place.toList->(∀e,e<cE->(b2 i.mask (du l<|.tup o) e).j∈i.place.toList)->B (.free (b2 i.mask (du l<|.tup o) cE).j au) h){i1:Nat}(C:(b2 i.mask (du l<|.tup o) i1).j∉i.place.toList)(bv:i1<10*aT.turns i.mask):
  ∀(fuel k:Nat) (X:Option aT.Probe),X.getD (i.probeStart<|du l<|.tup o)=b2 i.mask (du l<|.tup o) k->i1<k+fuel->(∀e,e<k->(b2 i.mask (du l<|.tup o) e).j∈i.place.toList)->
   (∀(a e:Nat),e<k->i.place[a]?=Z (b2 i.mask (du l<|.tup o) e).j->(S.map (·.1))[a]?≠Z o)->
   wpAny (aN Yw l) O (Ff g (.ref f) (du l<|.tup o) aa fuel X) B Yq h
 |0,k,X,_,ca,F,_=>by
  refine absurd (F i1 ⋯) C
 |fuel+1,k,X,cd,ca,F,Ys=>by
  have ce:k<=i1:=by
   rcases gS i1 k with D|D
   ·exact absurd (F i1 D) C
   ·exact D
  have ch:S.length=Q.size:=by rw[<-dq,<-A,ba]
  have P:∀(a:Nat) (p:List V),(S.map (·.1))[a]?=Z p->∃c d,Q[a]?=Z c/\c.2=.ref d/\c.1=du l (.tup p)/\(eC Yw l).is h.heap p d:=λa p n=>by
   let⟨@D,as,R⟩:=cB.mp (by rw[ea]at n;exact n);let⟨@d,q,t,w⟩:=N D (fL as);subst R;refine⟨D.2,d,?_,q,t,L _ _ w⟩;rw[<-e0,<-A,ea,as];rfl
  unfold Ff;refine ao (lh H hd y.fit ?_);dsimp only;rw[aH (by unfold aT.gaveWay;rw[pH];have:=y.bG.nd.pos;lia)];rw[cd];unfold aT.probe;let⟨@YK,fn,a1,ci⟩:=HB y.tab.rise y.tab.pZ (λa=>(Q[a]?.map (·.1)).getD 0) (du l<|.tup o) (10*aT.turns i.mask) k ⟨i1,ce,⋯,C⟩;have iX:∀e,e<YK->(b2 i.mask (du l<|.tup o) e).j∈i.place.toList:=λe x=>by
   rcases gS e k with D|D
   ·exact F e D
   ·let⟨@a,z,W⟩:=a1 e D x;rw[<-e0]at z;exact fL z
  have a2:∀(a e:Nat),e<YK->i.place[a]?=Z (b2 i.mask (du l<|.tup o) e).j->(S.map (·.1))[a]?≠Z o:=λa e x s n=>by
   rcases gS e k with D|D
   ·exact Ys a e D s n
   ·let⟨@bd,z,E⟩:=a1 e D x;have:=Cq y.tab.rise s z;subst this;let⟨c,@d,q,w,t,U⟩:=P a o n;rw[q]at E;exact E t
  generalize be:aT.probe.go i _ (du l<|.tup o) _ (b2 i.mask (du l<|.tup o) k)=J;rcases ci with ⟨c,al⟩|⟨a,c,R,G,fr⟩
  ·cases be.symm.trans c;refine aM (ap (λcl=>?_) YK al iX);have co:=M.mem_iff.mpr cl;let⟨@a,T⟩:=v5 co;let⟨c,@d,q,w,t,U⟩:=P a o T;have u:a<Q.size:=(pv.mp q).1;have s:i.place[a]?=Z (i.place[a]'(by rw[y.size];exact u)):=jN (by rw[y.size];exact u);have cr:(i.place[a]'(by rw[y.size];exact u),du l<|.tup o)∈i.place.toList.zip (Q.toList.map (·.1)):=by
    refine fL (i:=a) ?_;rw[mC];refine⟨by rw[e0];exact s,?_⟩;rw[ea,e0,q,<-t];rfl
   let⟨@am,bi,cs⟩:=y.bG.pK _ cr;have db:am<YK:=by
    rcases te am YK with D|D|D
    ·exact D
    ·refine absurd ?_ al;rw[<-D,bi];exact Array.getElem_mem_toList ..
    ·exact absurd (cs YK D) al
   exact a2 a am db (by rw[s,bi]) T
  ·cases be.symm.trans c;have u:a<S.length:=by rw[ch,<-y.size];exact (pv.mp G).1
   have bm:(S.map (·.1))[a]?=Z S[a].1:=by rw[ea,dz u];rfl
   let⟨ds,@d,q,w,t,U⟩:=P a _ bm;dsimp only;refine VB (λf0 p=>Vu I (λv dL=>?_) p) ?_
   ·let⟨@eq,ev,rfl⟩:=cW.mp dL;have bn:eq∈Q.toList:=Ge.mpr (Array.mem_filter.mp<|Ge.mp ev).1;rw[<-A]at bn;let⟨@D,ex,rfl⟩:=cW.mp bn;let⟨@fd,Y2,W,Y8⟩:=N D ex;exact⟨fd,D.1,Y2,L _ _ Y8⟩
   ·let⟨f1,l1⟩:=ds;cases w;rw[q];dsimp only;refine ao (fM ((eC Yw l).eqBool (show O.units+10<bQ by lia) U I ?_));refine ao (lh H hd y.fit ?_);by_cases n:S[a].1=o
    ·rw[dx n,aE<|show (aa&&aa)=aa from rfl];exact aM (an (M.mem_iff.mp (by rw[<-n];exact rH (sN u))))
    ·rw[dC n,aH ∅];dsimp only;rw[show i.sameMemory i.moves i.mask=Z aa by unfold aT.sameMemory;rw[aE (l5 _)]];dsimp only;rw[aE rfl,R];dsimp only;rw[q];dsimp only;refine ao (wpAny_isSame_ref_self<|ao<|aM ?_);rw[aE rfl];dsimp only;rw[aH dj];refine KG bs H hd y I L A M N an ap C bv fuel (YK+1) _ rfl ⋯ (λe x=>?_) λbd e x s=>?_
     ·rcases gS e YK with D|D
      ·exact iX e D
      ·rw[show e=YK by lia];rw[<-e0]at G;exact fL G
     ·rcases gS e YK with D|D
      ·exact a2 bd e D s
      ·rw[show e=YK by lia]at s;have:=Cq y.tab.rise s G;subst this;rw[bm];exact λc=>n (Option.some.inj c)
end
def h5(Yp:List (List V))(o:List V):List (List V):=(if o∈Yp then Yp else Yp++[o])
section
variable{Yw:bO}{l:bh}{YC:List V->ag->Prop}{O:bA}{Yq:ab->ai->Prop}{h:ai}
structure rp(l:bh)(YC:List V->ag->Prop)(Q:Array (Int×ab))(i:aT)(b:Bool)(Yp:List (List V))(w:Nat):Prop where
 p2:∃S:List (List V×Int×ab),S.map (·.2)=Q.toList/\(S.map (·.1)).Perm Yp/\∀D∈S,w0 l YC D
 tab:lT i b
 nd:i5 i.mask
 len:i.place.size=Q.size
 le:∀r∈i.place.toList,r<=i.mask
 pK:∀q∈i.place.toList.zip (Q.toList.map (·.1)),gk i.mask (·∈i.place.toList) q.2 q.1
 ah:Yp.Nodup
 jK:Q.size=w+1
 E8:w*5<i.mask*3
def rp.i0(y:rp l YC Q i b Yp w):i.fits Q.size=aa:=by
 have:=y.E8;have:=y.nd.pos;unfold aT.fits aT.fill;rw[y.tab.pZ,y.len,y.jK,cU,pH,g8];exact⟨rfl,by show w+1+0<=_;lia⟩
def rp.done(y:rp l YC Q i b Yp w)(a:¬ ((w+1)*5 >= i.mask*3)):mq l YC Q i b Yp:=
 ⟨y.p2,y.tab,⟨y.nd,by rw[y.len,ba,dq],by rw[y.len,y.jK];lia,y.le,y.pK⟩,y.ah⟩
def G_{a:Array (Int×ab)}{YU:aT}(b:e.get? g=Z m)(hd:m.data=.set Q YW i):
  (e.update g<|a3.putSet a YU).get? g=Z {m with data:=.set a (YW+1) YU}:=by
 have:=jh (a3.putSet a YU) b (by rw[putSet_of a YU hd];rfl);rw[putSet_of a YU hd]at this;exact this
theorem AW{YH Zh:Type}(F:YH->Zh)(t:List YH)(k:List Zh)(b:t.map F=k):∀is:List Nat,(is.filterMap (t[·]?)).map F=is.filterMap (k[·]?)
 |[]=>rfl
 |a::is=>by
  subst b;rw[sI,sI,ea];cases t[a]? with
  |none=>exact AW F t _ rfl is
  |some f=>exact congrArg (F f::·) (AW F t _ rfl is)
def CJ(t:List YH):(range t.length).filterMap (t[·]?)=t:=by
 have:=C4 t.toArray;simpa using this
def AG{Q d:Array (Int × ab)}{f:aT}{Ym:Bool -> ai -> Prop}(q:h.heap.get? g=Z m)(r:m.ExactSet)(hd:m.data=.set Q YW i)(A:Q.size=w)(p:w+1 <= 300)(y:rp l YC d f b Yp w)(e : ∀R,aX.SameBut g h.heap R -> gm l YC R g b Yp -> Ym aa {h with heap:=R}):
    wpAny (aN Yw l) O (do
        storeSet g d f
        if (!au&&f.tooFull)=aa then do
            setRelay g (aT.grown<|Q.size+1)
            pure aa
          else pure aa) Ym Yq h:=by
  refine ao (F3 q hd ?_ (by rw [y.jK]; exact fa p ∅));have n:=G_ (a:=d) (YU:=f) q hd;have s:=mJ h.heap g (a3.putSet d f);have t:f.tooFull=decide ((w+1)*5 >= f.mask*3):=by
    unfold aT.tooFull aT.fill;rw [y.tab.pZ,y.len,y.jK];rfl
  by_cases o:(w+1)*5 >= f.mask*3
  · rw [t,dx o,aE<|show (!au&&aa)=aa from rfl]
    let@⟨B,C,E⟩:=PO y.nd y.E8 o p;unfold setRelay;refine ao (ao<|lh n rfl y.i0 ?_);dsimp only;rw [A,aH (λD => absurd (fP D E) ∅)];let⟨YU, @j,F,u,G,H⟩:=Oe (i:=f) (Q:=d) (l:=aT.grown (w+1)) B (by rw [y.jK]; exact C) y.tab.led;rw [F];have v:(j.filterMap (d[·]?)).toList=j.toList.filterMap (d.toList[·]?):=by
      rw [Am];simp
    have I:(j.filterMap (d[·]?)).toList.Perm d.toList:=by
      rw [v];refine (u.filterMap _).trans ?_;rw [<-dq,CJ]
    have x:(j.filterMap (d[·]?)).size=d.size:=by rw [<-dq,I.length_eq,dq]
    refine ao (m:=if ((j.filterMap (d[·]?)).size != d.size)=aa then _ else _) ?_;rw [x,aH ↥0];refine aM ?_;dsimp only;refine F3 n rfl ?_ (by rw [x,y.jK]; exact fa p ∅);refine aM (e _ (s.trans<|mJ _ g _) ⟨_,_,_,_,G_ n rfl,r,rfl, ?_,G,H,y.ah⟩);let⟨@S,z,J,L⟩:=y.p2;refine ⟨j.toList.filterMap (S[·]?), ?_, ?_,λD M => ?_⟩
    · rw [v]
      exact AW (·.2) S _ z _
    · refine (uj _ ?_).trans J
      refine (u.filterMap _).trans ?_;rw [show d.size=S.length by rw [<-dq, <-z,ba],CJ]
    · let⟨@a,W,c⟩:=wH.mp M
      exact L D (fL c)
  · rw [t,dC o,aH (show ¬ ((!au&&au)=aa) from by decide)]
    refine aM (e _ s ⟨_,_,_,_,n,r,rfl,y.done o⟩)
def Xb{f:ag}{B:Bool->ai->Prop}(J:O.units+20<bQ)(YB:gm l YC h.heap g b Yp)(t:(eC Yw l).is h.heap o f)(L:YC o f)(M:∀p d,YC p d->(eC Yw l).is h.heap p d)(N:Yp.length+1<=300)(e:∀d R,aX.SameBut g h.heap R->gm l YC R g b (h5 Yp o)->B d {h with heap:=R}):
  wpAny (aN Yw l) O (setAddHashed g (.ref f)<|du l<|.tup o) B Yq h:=by
 let⟨m,Q,YW,@i,k,q,hd,y⟩:=YB;have bd:=y;let⟨@S,A,C,E⟩:=y.p2;let⟨@i1,F,P⟩:=y.bG.some (du l<|.tup o);have be:=y.bG.nd.pos;unfold setAddHashed setAddHashedIn;refine fM (ao<|lh k hd y.fit ?_);dsimp only;rw[aH (show ¬ (byScan (ab.ref f) Q=aa) from λD=>dj D)];unfold setSearch;refine ao (KG J k hd y t M A C E (λs=>?_) (λs cE G T=>?_) P F 100000 0 Y rfl (by unfold aT.turns at F;lia) (λU D=>absurd D<|pO _) λa U D=>absurd D<|pO _)
 ·refine aM ?_;have c:h={h with heap:=h.heap}:=by cases h;rfl
  rw[c];refine e _ _ (aX.SameBut.refl g h.heap) ?_;rw[h5,aE s];exact⟨m,Q,YW,i,k,q,hd,y⟩
 ·dsimp only;refine ao (lh k hd y.fit ?_);dsimp only;let@⟨al,Y6⟩:=y.bG.put (e:=du l (.tup o)) G T;have am:¬ (i.place[aT.below i.place (b2 i.mask (du l<|.tup o) cE).j]?=Z (b2 i.mask (du l<|.tup o) cE).j):=λD=>G (by rw[<-e0]at D;exact fL D);have an:=y.tab.put am;have v:∀d:Bool,rp l YC (aT.insertAt Q (i.put (b2 i.mask (du l<|.tup o) cE).j).2 (du l<|.tup o,.ref f)) { (i.put (b2 i.mask (du l<|.tup o) cE).j).1 with plain:=d} b (Yp++[o]) Q.size:=λd=>by
   have w:(aT.insertAt Q (i.put (b2 i.mask (du l<|.tup o) cE).j).2 (du l<|.tup o,ab.ref f)).toList=_:=AF _ _ _;have ap:(i.put (b2 i.mask (du l<|.tup o) cE).j).1.place.toList=_:=AF _ _ _;have I:(aT.insertAt Q (i.put (b2 i.mask (du l<|.tup o) cE).j).2 (du l<|.tup o,ab.ref f)).size=Q.size+1:=by
    rw[<-dq,w,c6,c8,gx,fg,dq];lia
   refine⟨⟨S.take (i.put (b2 i.mask (du l<|.tup o) cE).j).2++(o,du l<|.tup o,.ref f)::S.drop (i.put (b2 i.mask (du l<|.tup o) cE).j).2,?_,?_,λD n=>?_⟩,an.TR d,y.bG.nd,?_,al,?_,?_,I,?_⟩
   ·rw[w,<-A,eX,cy,jO,kc]
   ·rw[eX,cy,jO,kc];refine List.perm_middle.trans ?_;rw[f7];exact (C.cons o).trans (dy (l₁:=[o]))
   ·rcases sR.mp n with rfl|n
    ·exact⟨f,rfl,rfl,L⟩
    ·exact E D n
   ·show (i.put (b2 i.mask (du l<|.tup o) cE).j).1.place.size=_;rw[I,<-dq,ap,c6,c8,gx,fg,dq,y.size];lia
   ·rw[w,eX,cy,jO,kc];exact Y6
   ·exact d0.mpr ⟨y.ah,f9 _ o,λH as D n=>by cases cX.mp n;exact λc=>s<|c ▸ as⟩
   ·have:=y.bG.loose;rw[y.size]at this;exact this
  have x:∀R,aX.SameBut g h.heap R->gm l YC R g b (Yp++[o])->B aa {h with heap:=R}:=λR a1 a2=>e aa R a1 (by rw[h5,aH s];exact a2);have z:Q.size+1<=300:=by rw[y.num];exact N
  split
  ·refine ao (Dh 8 (u:=.tup o) t.1 t.2 λd=>?_);cases d
   ·exact AG k q hd rfl z (v au) x
   ·exact AG k q hd rfl z (v _) x
  ·refine ao (aM ?_);exact AG k q hd rfl z (v _) x
end
def iE(l:bh):Bool:=(!l.params.followText "set-order")
def mR(b:Bool):a3:=({cls:=.type "set",dict:=Y,data:=.set #[] 0 (.fresh 0 0 b)})
def Nh:isSubtype (.type "tuple") (.type "set")=pure au:=by rw[qz];kernel_rfl
def OY:isSubtype (.type "tuple") (.type "frozenset")=pure au:=by rw[qz];kernel_rfl
section
variable{Yw:bO}{l:bh}{O:bA}{Yq:ab->ai->Prop}{h:ai}
def Pe(g:ab){a:ab->ai->Prop}(e:a (.ref h.heap.objs.size) {h with heap:=h.heap.push (mR<|iE l)}):
  codeAny (aN Yw l) O (.call (.builtin "set.__new__") ⟨[.type "set",g],[]⟩) (wants a Yq) h:=by
 refine zS ?_;show wpAny _ O.in1 (do HG "set.__new__" ⟨[.type "set",g],[]⟩;again (.builtin "set.__new__" ⟨[.type "set",g],[]⟩)) _ _ h;refine ao (og (PySem.F.newCall_set_1 g)<|aM ⟨hV DQ _,h2 PySem.F.entry_set_new ?_⟩);rw[ig DQ _];unfold aY.«set.__new__» aY.Frozenset.newClass;have b:=sub_set_self;let⟨c,J,u,YX,YG⟩:=h;dsimp only
 wp_walk
 refine zt (aM ?_);dsimp only;simp only[newObj];refine ao (wpAny_alloc<|aM ?_);exact aM e
end
def s8:Slot "set_iterator" "__next__" "set_iterator.__next__" :=
 .of (owner := "set_iterator") (n := "__next__") (by rw[oj,oA];kernel_rfl) (by decide +kernel) (by decide +kernel) (by decide +kernel)
  (by first|exact .inl (by decide +kernel)|exact .inr (by decide +kernel)) (by rw[qz];kernel_rfl)
def RW:q8 qM "set_iterator.__next__" = Z aY.«set_iterator.__next__»:=HQ (by kernel_rfl)
def Cw:Manifest.owners.lookup (String.ofList ['r','o','t','a','r','e','t','i','_','t','e','s'].reverse)=Z Manifest.sig_set_iterator:=by kernel_rfl
def LS(g:ab):sO "set_iterator.__next__" ⟨[g],[]⟩:=by
 unfold sO;rw[I4 (id := "set_iterator.__next__") (n:=['_','_','t','x','e','n','_','_']) (o:=['r','o','t','a','r','e','t','i','_','t','e','s']) (by kernel_rfl) Cw];kernel_rfl
def VO:q8 qM "set.__iter__" = Z aY.«frozenset.__iter__»:=
 Js (id' := "frozenset.__iter__") (by kernel_rfl) rfl (by decide +kernel) (by kernel_rfl)
def D7:Slot "set_iterator" "__iter__" "set_iterator.__iter__" :=
 .of (owner := "set_iterator") (n := "__iter__") (by rw[oj,oA];kernel_rfl) (by decide +kernel) (by decide +kernel) (by decide +kernel)
  (by first|exact .inl (by decide +kernel)|exact .inr (by decide +kernel)) (by rw[qz];kernel_rfl)
def Mz(g:ab):sO "set_iterator.__iter__" ⟨[g],[]⟩:=by
 unfold sO;rw[I4 (id := "set_iterator.__iter__") (n:=['_','_','r','e','t','i','_','_']) (o:=['r','o','t','a','r','e','t','i','_','t','e','s']) (by kernel_rfl) Cw];kernel_rfl
def TA:q8 qM "set_iterator.__iter__" = Z aY.«dict_keyiterator.__iter__»:=
 Js (id' := "dict_keyiterator.__iter__") (by kernel_rfl) (by first|rfl|decide +kernel|(unfold String.splitOn;simp +decide [String.splitOnAux])) (by decide +kernel) (by kernel_rfl)
def hi(e:aX)(A:ag)(Zt:ab)(a:Nat)(YB:ag)(w YW:Nat):Prop:=(∃m,e.get? A=Z m/\m.cls=.type "set_iterator" /\ m.data=.fields #[Zt,.int a 0,.ref YB,.int w 0,.int YW 0])
def jk(e:aX)(YB:ag)(Q:Array (Int×ab))(YW:Nat)(i:aT):Prop:=(∃m,e.get? YB=Z m/\m.ExactSet/\m.data=.set Q YW i)
def hi.go(f:hi e A Zt a YB w YW)(o:∀m,e.get? A=Z m->R.get? A=Z m):hi R A Zt a YB w YW:=let ⟨m,c,s⟩:=f;⟨m,o m c,s⟩
def jk.go(f:jk e YB Q YW i)(o:∀m,e.get? YB=Z m->R.get? YB=Z m):jk R YB Q YW i:=let ⟨m,c,s⟩:=f;⟨m,o m c,s⟩
section
variable{Yw:bO}{l:bh}{O:bA}{Yq:ab->ai->Prop}{h:ai}
def hi.ty(f:hi h.heap A Zt a YB w YW):h.TypeIs (.ref A) "set_iterator" := let ⟨m,c,n,_⟩:=f;⟨m,c,n⟩
def RC{az:gW}{b:Source}{B:Nat->ai->Prop}(c:0<w)(e:∀a,a<w->B a {h with drawn:=h.drawn.bump b}):wpAny az O (choose b w) B Yq h:=
 λ_ W W=>⟨iQ c,e _<|rd _ c⟩
theorem pq{YH:Type}:∀(t:List YH) (a:Nat) (e:a<t.length),(t[a]::t.eraseIdx a).Perm t
 |f::x,0,_=>.refl _
 |f::x,a+1,e=>(List.Perm.swap f _ _).trans (List.Perm.cons f<|pq x a<|AA e)
theorem E5{YH:Type}{az:gW}:∀(w:Nat) (x:List YH) (h:ai) (B:List YH->ai->Prop),x.length=w->(∀u YA,List.Perm YA x->B YA {h with drawn:=u})->wpAny az O (yH w x) B Yq h
 |0,x,h,B,b,e=>by
  have c:x=[]:=oy b;subst c;unfold yH;exact aM (e h.drawn [] .nil)
 |w+1,[],h,B,b,e=>by cases b
 |w+1,f::x,h,B,b,e=>by
  unfold yH;refine ao (RC (by rw[b];exact rZ _) λa T=>?_);have c:(f::x)[a]?=Z (f::x)[a]:=dz T;rw[c];dsimp only;refine ao (E5 w _ _ _ (by rw[FZ T,b];rfl) λu YA d=>?_);refine aM (e u _ ?_);refine (List.Perm.cons _ d).trans ?_;exact pq _ a T
def vI(b:hi h.heap A Zt a YB w YW)(e:wpAny (aN Yw l) O.in1 (aY.«set_iterator.__next__» ⟨[.ref A],[]⟩) (λf Yn=>∃v,f=.done (.ret v)/\B (Z v) Yn) (λc Yn=>wpAny (aN Yw l) O (do let d <-xJ c (.type "StopIteration");if d=aa then pure Y else throw c) B Yq Yn) h):
  wpAny (aN Yw l) O (fv<|.ref A) B Yq h:=by
 unfold fv;refine ao (ov<|lA (name:=aG.ofString "__next__") b.ty s8<|hP s8 b.ty RW ?D<|LS _)
 case D=>
  refine g7 e (λf Yn ⟨v,c,p⟩=>⟨v,c,aM p⟩) λc Yn p=>p
def uQ{c:ab}{d:Nat}{B:Unit->ai->Prop}{o:Nat}(g:hi h.heap A Zt a YB w YW)(i:o<5)(j:(#[Zt,.int a 0,.ref YB,.int w 0,.int YW 0]:Array ab).setIfInBounds o f=#[c,.int d 0,.ref YB,.int w 0,.int YW 0])(p:∀R,hi R A c d YB w YW->aX.SameBut A h.heap R->B () {h with heap:=R}):wpAny (aN Yw l) O (vo (.ref A) o f) B Yq h:=by
 let⟨@m,e,k,b⟩:=g;refine oG e b i (p _ ⟨_,jh _ e<|Ac<|qm b _,(yP ..).trans k,?_⟩<|mJ ..);rw[qm b,j]
def Lv(a:O.handled=Y)(p:∀R,aX.ExtBut A h.heap R->B Y {h with heap:=R}):
  wpAny (aN Yw l) O.in1 (p9 (.type "StopIteration") [] >>= λf=>(raiseNew f:dA PySem.Fin)) (λb Yn=>∃v,b=.done (.ret v)/\B (Z v) Yn) (λc Yn=>wpAny (aN Yw l) O (do let d <-xJ c (.type "StopIteration");if d=aa then pure Y else throw c) B Yq Yn) h:=by
 apply ao;simp only[p9,tv];refine ao (gz (ao (m:=qP _ _) (og (a:=ab.none) (by first|rfl|(simp only[qP];rfl)) (gz ?_ (by size_fits)))) (by size_fits));simp only[raiseNew];apply ao;apply Aq;rw[show O.in1.handled=Y from a];refine ao (m:=pure _) (aM<|Bh ?_);apply ao;refine oe (T := "StopIteration") (b:=aa) ⟨_,cO _ rfl,rfl⟩ wZ ?_;exact aM (p _<|λd m W c=>bJ _<|bJ _ c)
def D6{next:Nat}(b:hi h.heap A (.int Zx 0) a YB w YW)(d:jk h.heap YB Q YW i)(e:i.fits Q.size=aa)(g:Q.size=w)(j:∀(c:Option (ab×Nat)->ai->Prop) (n:ab->ai->Prop),c (Z (f,next)) h->wpAny (aN Yw l) O.in1 (mV YB Zx a YW) c n h)(p:∀R,hi R A (.int next 0) (a+1) YB w YW->aX.SameBut A h.heap R->B (Z f) {h with heap:=R}):wpAny (aN Yw l) O (fv<|.ref A) B Yq h:=by
 refine vI b ?_;let⟨@m,o,C,q⟩:=id b;let⟨@D,r,F,s⟩:=d;unfold aY.«set_iterator.__next__»;refine ao (aM<|ao<|ru o q ?_);show wpAny _ _ (vV YB >>= _) _ _ _;refine ao (sX r s e ?_);dsimp only;rw[aH (by rw[g];simp)];refine ao (m:=mV YB _ _ _) (j _ _ ?_);dsimp only;refine ao (uQ (c:=.int next 0) (d:=a) b ∅ rfl λz mr v=>?_);refine ao (uQ (h:={h with heap:=z}) (c:=.int next 0) (d:=a+1) mr ∅ rfl λE x y=>?_);exact aM ⟨_,rfl,p E x<|v.trans y⟩
def Fn(n:O.handled=Y)(b:hi h.heap A (.int Zx 0) a YB w YW)(o:jk h.heap YB Q YW i)(q:i.fits Q.size=aa)(r:Q.size=w)(s:∀(e:Option (ab×Nat)->ai->Prop) (t:ab->ai->Prop),e Y h->wpAny (aN Yw l) O.in1 (mV YB Zx a YW) e t h)(p:∀R,aX.ExtBut A h.heap R->B Y {h with heap:=R}):wpAny (aN Yw l) O (fv<|.ref A) B Yq h:=by
 refine vI b ?_;let⟨@m,f,y,g⟩:=id b;let⟨@z,u,C,v⟩:=o;unfold aY.«set_iterator.__next__»;refine ao (aM<|ao<|ru f g ?_);show wpAny _ _ (vV YB >>= _) _ _ _;refine ao (sX u v q ?_);dsimp only;rw[aH (by rw[r];simp)];refine ao (m:=mV YB _ _ _) (s _ _ ?_);dsimp only;refine ao (oG f g (show 2<5 by decide) ?_);exact Lv (A:=A) n λR x=>p R λd m j c=>x d m j ((mJ ..).extBut d m j c)
def NZ{c:Nat}{YX:hY}{f:Int×ab}(b:hi h.heap A (.ref Zi) a YB w YW)(j:jk h.heap YB Q YW i)(d:i.fits Q.size=aa)(k:Q.size=w)(E:h.heap.get? Zi=Z Y4)(Y8:Y4.data=.seq bo Zq)(n:bo[a]?=Z (.int c YX))(o:Q[c]?=Z f)(p:∀R,hi R A (.ref Zi) (a+1) YB w YW->aX.SameBut A h.heap R->B (Z f.2) {h with heap:=R}):wpAny (aN Yw l) O (fv<|.ref A) B Yq h:=by
 refine vI b ?_;let⟨@m,q,t,r⟩:=id b;let⟨@u,e,v,g⟩:=j;unfold aY.«set_iterator.__next__»;refine ao (aM<|ao<|ru q r ?_);show wpAny _ _ (vV YB >>= _) _ _ _;refine ao (sX e g d ?_);dsimp only;rw[aH (by rw[k];simp)];show wpAny _ _ (nj (.ref Zi) >>= _) _ _ _;refine ao (gT E Y8 ?_);dsimp only;rw[kY,n];dsimp only;show wpAny _ _ (setNextDrawn YB _ _ >>= _) _ _ _;unfold setNextDrawn;refine ao (ao<|lh e g d ?_);dsimp only;rw[aH ↥0,kY,o];dsimp only;refine aM ?_;refine ao (uQ (c:=.ref Zi) (d:=a+1) b ∅ rfl λz mr s=>?_);exact aM ⟨_,rfl,p z mr s⟩
def WJ(f:O.handled=Y)(b:hi h.heap A (.ref Zi) a YB w YW)(g:jk h.heap YB Q YW i)(j:i.fits Q.size=aa)(k:Q.size=w)(E:h.heap.get? Zi=Z Y4)(Y8:Y4.data=.seq bo Zq)(n:bo[a]?=Y)(p:∀R,aX.ExtBut A h.heap R->B Y {h with heap:=R}):wpAny (aN Yw l) O (fv<|.ref A) B Yq h:=by
 refine vI b ?_;let⟨@m,o,y,q⟩:=id b;let⟨@C,r,D,s⟩:=g;unfold aY.«set_iterator.__next__»;refine ao (aM<|ao<|ru o q ?_);show wpAny _ _ (vV YB >>= _) _ _ _;refine ao (sX r s j ?_);dsimp only;rw[aH (by rw[k];simp)];show wpAny _ _ (nj (.ref Zi) >>= _) _ _ _;refine ao (gT E Y8 ?_);dsimp only;rw[kY,n];dsimp only;refine ao (uQ (c:=.int 0 0) (d:=a) b ∅ rfl λz mr t=>?_);let⟨@Y7,u,H,v⟩:=mr;refine ao (oG (s:={h with heap:=z}) u v (show 2<5 by decide) ?_);exact Lv (A:=A) f λR x=>p R λd m e c=>x d m e ((mJ ..).extBut d m e<|t.extBut d m e c)
end
def jv(val:Nat->List V):Nat->List (List V)
 |0=>[]
 |a+1=>h5 (jv val a) (val a)
def gm.fresh(b:Bool):gm l YC (e.push<|mR b) e.objs.size b []:=
 ⟨_,#[],0,_,cO _ rfl,⟨rfl,rfl,rfl⟩,rfl,⟨[],rfl,.nil,λD a=>(gq a).elim⟩,⟨List.Pairwise.nil,rfl,rfl⟩,⟨.inl rfl,rfl,show 0*5<7*3 by decide,λr c=>(gq c).elim,λq d=>(gq d).elim⟩,kR⟩
def gm.at(YB:gm l YC e g b Yp)(o:∀m,e.get? g=Z m->R.get? g=Z m):gm l YC R g b Yp:=by
 let⟨m,Q,YW,@i,a,s⟩:=YB;exact⟨m,Q,YW,i,o m a,s⟩
section
variable{Yw:bO}{l:bh}{YC:List V->ag->Prop}{O:bA}{Yq:ab->ai->Prop}{h:ai}
def PW{Ym:pG->ai->Prop}{cg H:List ag}{G:Nat->ab->Prop}{a5:Nat->aX->Prop}{j:aX}(bm:O.units+25<bQ)(W:iD Yw l O.in1 A cg H w G a5)(I:YB∉cg)(val:Nat->List V)(P:∀a v,G a v->∃d,v=.ref d/\YC (val a) d)(J:∀p d,YC p d->(eC Yw l).is j p d)(g:∀d m,j.get? d=Z m->d∉H)(Q:∀L YJ k,j.get? YB=Z L->L.data=.seq YJ k->False)(S:∀a,a<w->(jv val a).length+1<=300):
  ∀(o a:Nat) (h:ai),w-a=o->a<=w->uy j h.heap->a5 a h.heap->gm l YC h.heap YB b (jv val a)->
   (∀R YX,(∀d m,d≠YB->d∉H->h.heap.get? d=Z m->R.get? d=Z m)->gm l YC R YB b (jv val w)->Ym (.ok<|.ret .none) {h with heap:=R,toks:=YX})->
   codeAny (aN Yw l) O (.builtin "set.update.loop" ⟨[.ref YB,.ref A],[]⟩) Ym h:=by
 have M:YB∉H:=λe=>I (W.sub _ e);intro o;induction o with
 |zero=>
  intro a h al T U s t u;have am:a=w:=⋯
  subst am;refine h2 Gg ?_;rw[ig xV _];show wpAny _ O.in1 (fv (.ref A) >>= _) _ _ h;refine ao (W.done h _ _ s λR YX i=>?_);show wpAny _ O.in1 (ret ab.none) _ _ _;exact aM (u R YX (λd m K g c=>i d m g c)<|t.at λm c=>i YB m M c)
 |succ o an=>
  intro a h al T U s t u;have x:a<w:=⋯
  refine h2 Gg ?_;rw[ig xV _];show wpAny _ O.in1 (fv (.ref A) >>= _) _ _ h;refine ao (W.item a h _ _ x s λv z bn ap as i=>?_);let⟨@f,rfl,y⟩:=P a v ap;have N:uy j z:=λd m YJ k n B q=>i d m (g d m n) (U d m YJ k n B q);have C:∀p d,YC p d->(eC Yw l).is z p d:=λp d D=>⟨(J p d D).1,(J p d D).2.keep N⟩;show wpAny _ O.in1 (holding [ab.ref f] (setAdd YB<|.ref f) >>= _) _ _ _;refine ao (fM ?_);unfold setAdd;refine fM ?_;refine ao ((eC Yw l).pyHash (k:=val a) (show O.units+1+10<bQ by lia) (C _ _ y) ?_);refine Xb (h:={h with heap:=z,toks:=_}) (show O.units+1+20<bQ by lia) (t.at λm c=>i YB m M c) (C _ _ y) y C (S a x) λd E F a1=>?_;refine aM ⟨hV xV _,an (a+1) _ ⋯ x (λd m YJ k n B q=>?_) (W.frame _ z E as λd r m c=>?_) a1 λa2 bd be bi=>?_⟩
  ·show E.get? d=Z m;rw[F.2 d (λe:d=YB=>Q m YJ k (e ▸ n) q)];exact N d m YJ k n B q
  ·rw[F.2 d (λe:d=YB=>I (by rw[<-e];exact r))];exact c
  ·refine u a2 bd (λd m r g c=>be d m r g ?_) bi;show E.get? d=Z m;rw[F.2 d r];exact i d m g c
variable{B:ab->ai->Prop}
def L6(u:O.handled=Y)(j:h.heap.get? t=Z m)(n:m.cls=.type "tuple")(o:m.data=.seq YJ C)(J:O.units+28<bQ)(T:∀a v,YJ[a]?=Z v->∃d,v=.ref d/\YC (Yp.getD a []) d)(w:∀p d,YC p d->(eC Yw l).is h.heap p d)(g:∀a,a<YJ.size->(jv (λa=>Yp.getD a []) a).length+1<=300)(x:t≠YB)(i:h.heap.get? YB=Z (mR b))(y:gm l YC h.heap YB b [])(e:∀R YX,gm l YC R YB b (jv (λa=>Yp.getD a []) YJ.size)->(∀d m,d≠YB->h.heap.get? d=Z m->R.get? d=Z m)->B .none {h with heap:=R,toks:=YX}):
  wpAny (aN Yw l) O (aY.«set.__init__» ⟨[.ref YB,.ref t],[]⟩) (λz Yn=>∃s,z=.done (.ret s)/\B s Yn) Yq h:=by
 let⟨M,N,P,Q⟩:=m;simp only at n o;subst n;subst o;have S:=Nh;have U:=OY;have al:(ab.type "tuple" == ab.type "dict")=au:=by decide
 unfold mR at i;have q:h.heap.IsTuple t YJ:=⟨_,j,rfl,C,rfl⟩;unfold aY.«set.__init__» noKeywords aY.Frozenset.updateFrom;generalize A:o_=kp
 wp_walk
 subst A;refine wpAny_pyIter_tuple q ?_;refine ao (Ad ?_);have D:t<h.heap.objs.size:=bM j;have E:YB<h.heap.objs.size:=bM i;have F:O.in1.handled=Y:=by simp[u]
 refine PW (b:=b) (YC:=YC) (j:=h.heap) (show O.units+25<bQ by lia) (iD.tuple F _ t (cZ D) YJ) ?_ (λa=>Yp.getD a []) T w ?_ ?_ g (YJ.size-0) 0 _ ⋯ (g0 _) ?_ ⟨⟨_,cO _ rfl,rfl,rfl⟩,?_⟩ ?_ λR YX G H=>?_
 ·simp only[bW,gq,e9,ob];exact⟨cZ E,λc=>x c.symm⟩
 ·intro d m c;rw[cX];exact cZ (bM c)
 ·intro L YJ k f r;rw[i]at f;cases f;cases r
 ·intro d m YJ k f r an;exact bJ _ f
 ·let⟨@m,I,s⟩:=q;exact⟨m,bJ _ I,s⟩
 ·exact y.at λm c=>bJ _ c
 ·show wpAny _ _ _ _ _ _;refine aM ?_;show wpAny _ _ (ret ab.none) _ _ _;refine aM ⟨_,rfl,e R YX H λd m g c=>G d m g ?_<|bJ _ c⟩;rw[cX];exact cZ (bM c)
def Rk(w:O.handled=Y)(k:h.heap.get? t=Z m)(x:m.cls=.type "tuple")(y:m.data=.seq YJ C)(M:O.units+30<bQ)(T:∀a v,YJ[a]?=Z v->∃d,v=.ref d/\YC (Yp.getD a []) d)(o:∀p d,YC p d->(eC Yw l).is h.heap p d)(A:∀a,a<YJ.size->(jv (λa=>Yp.getD a []) a).length+1<=300)(e:∀R YX,gm l YC R h.heap.objs.size (iE l) (jv (λa=>Yp.getD a []) YJ.size)->(∀d m,h.heap.get? d=Z m->R.get? d=Z m)->B (.ref h.heap.objs.size) {h with heap:=R,toks:=YX}):
  wpAny (aN Yw l) O (call (.type "set") [.ref t]) B Yq h:=by
 let⟨n,@ZC,P⟩:=nY.mro;have Q:=nY.made;have S:=nY.sub;refine wpAny_call (zS ?_);show wpAny _ _ (callAny (.type "set") _) _ _ _;refine aM ⟨Code.quiet_builtin _ (by decide +kernel),h2 F.entry_type_call ?_⟩;rw[bA.under_plain (weight_type_call_type "set" [.ref t] []) rfl];have z:=nY.notType;have E:=nY.canCreate;have U:=PySem.F.typeCall_set_1 (.ref t);repeat (any_goals (first|assumption|wp_step))
 refine tu (Pe (.ref t) (Yq:=Yq) (a:=λq r=>q=.ref h.heap.objs.size/\r={h with heap:=h.heap.push (mR<|iE l)}) ⟨rfl,rfl⟩) λs r f=>?_;cases s with
 |error c=>exact f
 |ok aR=>
  cases aR with
  |ret q=>
   let@⟨rfl,rfl⟩:=f;have u:(h.heap.push<|mR<|iE l).get? h.heap.objs.size=Z (mR<|iE l):=cO _ rfl;have G:ai.TypeIs {h with heap:=h.heap.push (mR<|iE l)} (.ref h.heap.objs.size) "set" := ⟨_,u,rfl⟩;have am:=nY.init.lookup;have an:=nY.init.bind (.ref h.heap.objs.size);repeat (any_goals (first|assumption|wp_step))
   refine tu (codeAny_call_builtin (R:=wants (λs b=>s=.none/\∃R YX,b={h with heap:=R,toks:=YX}/\
     gm l YC R h.heap.objs.size (iE l) (jv (λa=>Yp.getD a []) YJ.size)/\(∀d m,h.heap.get? d=Z m->R.get? d=Z m)) Yq) nY.init.plain PySem.F.entry_set_init<|check_set_init_1 G ?_) λH b g=>?_
   ·refine g7 (L6 (h:={h with heap:=h.heap.push (mR<|iE l)}) (by simp[w]) (bJ _ k) x y (by show O.in1.in1.units+28<bQ;show O.units+1+1+28<bQ;omega) T (λp d D=>⟨(o p d D).1,(o p d D).2.keep λd m W W c W W=>bJ _ c⟩) A (cZ<|bM k) u (gm.fresh _) (B:=λs b=>s=.none/\∃R YX,b={h with heap:=R,toks:=YX}/\
     gm l YC R h.heap.objs.size (iE l) (jv (λa=>Yp.getD a []) YJ.size)/\(∀d m,h.heap.get? d=Z m->R.get? d=Z m)) λR YX i I=>⟨rfl,R,YX,rfl,i,λd m c=>I d m (cZ<|bM c)<|bJ _ c⟩) (λap Yn j=>?_) λ_ W c=>c;let⟨@s,rfl,j⟩:=j;exact j
   ·cases H with
    |error c=>exact g
    |ok J=>
     cases J with
     |ret s=>
      let@⟨rfl,⟨R,@YX,rfl,i,L⟩⟩:=g;repeat (any_goals (first|assumption|wp_step))
      exact e _ _ i L
     |_=>exact g.elim
  |_=>exact f.elim
end
section
variable{Yw:bO}{l:bh}{O:bA}{Yq:ab->ai->Prop}{h:ai}
theorem Iv{YH:Type}(next:Nat->Nat):∀(fuel o:Nat) (left:List YH) (out:Array YH),left.length=fuel->(jT.go next fuel o left out).toList.Perm (out.toList++left)
 |0,o,left,out,e=>by
  have c:left=[]:=oy e;subst c;unfold jT.go;rw[cA]
 |fuel+1,o,left,out,e=>by
  unfold jT.go;have T:next o%left.length<left.length:=rd _ (by rw[e];exact rZ _)
  rw[dz T];dsimp only;refine (Iv next fuel (o+1) _ _ (by rw[FZ T,e];rfl)).trans ?_;rw[vT,bq];exact d1 _ (pq _ _ T)
def Sx(next:Nat->Nat)(x:Array YH):(jT next x).toList.Perm x.toList:=Iv next x.size 0 x.toList #[] (by rw[dq])
def vk{B:Bool->ai->Prop}(e:B (l.params.followText "set-order") h):wpAny (aN Yw l) O setsByText B Yq h:=by
 unfold setsByText;exact ao (zt<|aM e)
variable{B:Option (ab×Nat)->ai->Prop}
def K4(c:jk h.heap YB Q YW i)(d:i.fits Q.size=aa)(e:l.params.followText "set-order" = au)(g:(!i.plain&&decide (Q.size>1))=au)(j:i.led=aa)(n:aT.below i.place Zx=a)(p:B (match Q[a]?,i.place[a]? with|some (_,f),Z r=>Z (f,r+1)|_,_=>Y) h):wpAny (aN Yw l) O (mV YB Zx J YW) B Yq h:=by
 let⟨@m,o,s,q⟩:=c;unfold mV;refine ao (lh o q d ?_);dsimp only;refine ao (vk ?_);rw[e,aH dj];show wpAny _ _ (if (!i.plain&&decide (Q.size>1))=aa then _ else _) _ _ _;rw[g,aH dj];show wpAny _ _ ((if (!i.led && !Q.isEmpty)=aa then (unsupported "set:maker-not-led" : dA Unit) else pure ()) >>= _) _ _ _;rw[j];refine ao (m:=pure ()) (aM ?_);rw[n];exact aM p
def Ea(f:jk h.heap YB Q YW i)(a:i.fits Q.size=aa)(b:l.params.followText "set-order" = aa)(p:B (((jT (l.params.setOrder YB YW) Q)[J]?).map λc=>(c.2,Zx)) h):wpAny (aN Yw l) O (mV YB Zx J YW) B Yq h:=by
 let⟨@m,d,g,e⟩:=f;unfold mV;refine ao (lh d e a ?_);dsimp only;refine ao (vk ?_);rw[b,aE rfl,aH ↥0];unfold setWalk;refine ao (ao<|lh d e a ?_);dsimp only;refine ao (vk ?_);rw[b,aE rfl];exact ao (zt<|aM<|aM p)
def zK{B:ab->ai->Prop}(b:hi h.heap A Zt a YB w YW)(p:B (.ref A) h):wpAny (aN Yw l) O (o_<|.ref A) B Yq h:=by
 refine xD b.ty D7 (hP D7 b.ty TA ?_<|Mz _);show wpAny _ _ (ret<|.ref A) _ _ h;exact aM ⟨_,rfl,"set_iterator",_,b.ty,s8.lookup,p⟩
def Ap(b:Array Nat):Nat->Nat
 |0=>0
 |a+1=>b.getD a 0+1
theorem F8{b:Array Nat}(s:eL b):∀{a:Nat},a<=b.size->aT.below b (Ap b a)=a
 |0,_=>Xu s
 |a+1,e=>by
  have c:b[a]?=Z (b.getD a 0):=by simp[Array.getD,show a<b.size from e]
  exact OL s c
def lz(Q:Array (Int×ab)):List ab:=(Q.toList.map (·.2))
def vF(Q:Array (Int×ab)):(lz Q).length=Q.size:=by rw[lz,ba,dq]
theorem TL(x:O.handled=Y)(ne:YB≠A)(j:i.fits Q.size=aa)(r:l.params.followText "set-order" = au)(t:(!i.plain&&decide (Q.size>1))=au)(u:i.led=aa)(s:eL i.place):
  iD Yw l O A [A,YB] [A] (lz Q).length (λa v=>(lz Q)[a]?=Z v) (λa e=>hi e A (.int (Ap i.place a) 0) a YB Q.size YW/\jk e YB Q YW i) where
 sub:=λd y=>by
  have:d=A:=by simpa using y
  simp[this]
 frame:=λa e R X o=>⟨X.1.go (o A ↥0),X.2.go (o YB ↥0)⟩
 item:=λa h B Yq T X k=>by
  rw[vF]at T;have z:i.place.size=Q.size:=by
   simp only[aT.fits,cU,pH]at j;exact j.1
  have w:Q[a]?=Z Q[a]:=jN T;have C:i.place[a]?=Z (i.place.getD a 0):=by simp[Array.getD,show a<i.place.size by lia]
  have D:(lz Q)[a]?=Z Q[a].2:=by rw[lz,ea,e0,w];rfl
  refine D6 (next:=Ap i.place (a+1)) (f:=Q[a].2) X.1 X.2 j rfl (λE F p=>K4 X.2 j r t u (F8 s ⋯) ?_) λR g d=>k _ R h.toks D ⟨g,X.2.go λm c=>d.extBut YB m ne c⟩ λn m q c=>d.extBut n m ⇑q c;rw[w,C];exact p
 done:=λh B Yq X k=>by
  rw[vF]at X;have z:i.place.size=Q.size:=by
   simp only[aT.fits,cU,pH]at j;exact j.1
  refine Fn x X.1 X.2 j rfl (λE F p=>K4 X.2 j r t u (F8 s ⋯) ?_) λR d=>k R h.toks λn m q c=>d n m ⇑q c;rw[Be (bp _)];exact p
 self:=λa h B Yq X k=>zK X.1 k
theorem If(s:O.handled=Y)(ne:YB≠A)(j:i.fits Q.size=aa)(q:l.params.followText "set-order" = aa):
  iD Yw l O A [A,YB] [A] (lz<|jT (l.params.setOrder YB YW) Q).length (λa v=>(lz<|jT (l.params.setOrder YB YW) Q)[a]?=Z v) (λa e=>hi e A (.int (0:Nat) 0) a YB Q.size YW/\jk e YB Q YW i) where
 sub:=λd t=>by
  have:d=A:=by simpa using t
  simp[this]
 frame:=λa e R X o=>⟨X.1.go (o A ↥0),X.2.go (o YB ↥0)⟩
 item:=λa h B Yq T X b=>by
  rw[vF]at T;have r:(jT (l.params.setOrder YB YW) Q)[a]?=Z (jT (l.params.setOrder YB YW) Q)[a]:=jN T;have u:(lz<|jT (l.params.setOrder YB YW) Q)[a]?=Z (jT (l.params.setOrder YB YW) Q)[a].2:=by rw[lz,ea,e0,r];rfl
  refine D6 (next:=0) (f:=(jT (l.params.setOrder YB YW) Q)[a].2) X.1 X.2 j rfl (λw x p=>Ea X.2 j q ?_) λR g d=>b _ R h.toks u ⟨g,X.2.go λm c=>d.extBut YB m ne c⟩ λn m k c=>d.extBut n m ⇑k c;rw[r];exact p
 done:=λh B Yq X b=>by
  rw[vF]at X;refine Fn s X.1 X.2 j rfl (λw x p=>Ea X.2 j q ?_) λR d=>b R h.toks λn m k c=>d n m ⇑k c;rw[Be (bp _)];exact p
 self:=λa h B Yq X b=>zK X.1 b
def pI(Yz:List Nat):List ab:=(Yz.map λ(a:Nat)=>eD a)
def lu(Q:Array (Int×ab))(Yz:List Nat):List ab:=(Yz.filterMap λa=>Q[a]?.map (·.2))
theorem Ih{Q:Array (Int×ab)}:∀{Yz:List Nat},(∀q∈Yz,q<Q.size)->∀(a:Nat) (e:a<Yz.length),∃f,Q[Yz[a]]?=Z f/\(lu Q Yz)[a]?=Z f.2
 |[],_,a,e=>by cases e
 |q::Yz,b,a,e=>by
  have g:q<Q.size:=b q (.head _);have c:Q[q]?=Z Q[q]:=jN g;have h:lu Q (q::Yz)=Q[q].2::lu Q Yz:=by rw[lu,xC (b:=Q[q].2) (by rw[c];rfl)];rfl
  rw[h];cases a with
  |zero=>exact⟨Q[q],c,rfl⟩
  |succ a=>
   let⟨@f,z,E⟩:=Ih (λq e=>b q<|.tail _ e) a (AA e);exact⟨f,z,E⟩
theorem zf{Q:Array (Int×ab)}:∀{Yz:List Nat},(∀q∈Yz,q<Q.size)->(lu Q Yz).length=Yz.length
 |[],_=>rfl
 |q::Yz,a=>by
  have b:q<Q.size:=a q (.head _);have c:Q[q]?=Z Q[q]:=jN b;rw[lu,xC (b:=Q[q].2) (by rw[c];rfl),c8,c8];exact congrArg (·+1) (zf λq e=>a q<|.tail _ e)
theorem LP(u:O.handled=Y)(ne:YB≠A)(w:Zi≠A)(t:i.fits Q.size=aa)(k:∀q∈Yz,q<Q.size):
  iD Yw l O A [A,YB,Zi] [A] (lu Q Yz).length (λa v=>(lu Q Yz)[a]?=Z v) (λa e=>hi e A (.ref Zi) a YB Q.size YW/\jk e YB Q YW i/\∃m,e.get? Zi=Z m/\m.data=.seq (pI Yz).toArray Zq) where
 sub:=λd x=>by
  have:d=A:=by simpa using x
  simp[this]
 frame:=λa e R X o=>⟨X.1.go (o A ↥0),X.2.1.go (o YB ↥0),let ⟨m,c,s⟩:=X.2.2;⟨m,o Zi ↥0 m c,s⟩⟩
 item:=λa h B Yq T X b=>by
  let@⟨p,j,⟨@m,c,s⟩⟩:=X;rw[zf k]at T;let⟨@f,z,E⟩:=Ih k a T;refine NZ (f:=f) (c:=Yz[a]) (YX:=0) p j t rfl c s ?_ z λR g d=>b _ R h.toks E ⟨g,j.go λm c=>d.extBut YB m ne c,m,d.extBut Zi m w c,s⟩ λn m r c=>d.extBut n m ⇑r c;rw[tS,pI,ea,dz T];rfl
 done:=λh B Yq X b=>by
  let@⟨p,j,⟨@m,c,s⟩⟩:=X;refine WJ u p j t rfl c s ?_ λR d=>b R h.toks λn m r c=>d n m ⇑r c;rw[tS,pI,ea,tf (by rw[zf k];exact bp _)];rfl
 self:=λa h B Yq X b=>zK X.1 b
end
section
variable{Yw:bO}{l:bh}{O:bA}{Yq:ab->ai->Prop}{h:ai}
def OZ{s:ag}{B:Bool->ai->Prop}(a:h.TypeIs (.ref s) "set")(e:B au h):wpAny (aN Yw l) O (aY.List.listLengthHint<|.ref s) B Yq h:=by
 unfold aY.List.listLengthHint;refine ao (mx a PySem.F.slot_set_len.lookup ?_);generalize c:("set.__len__" : String)=f
 wp_delta
 rw[show splitId f=Z ("set","__len__") from by subst c;decide +kernel];subst c;refine ao (oe (T := "set") (b:=aa) a (by rw[qz];kernel_rfl) ?_);refine zE (λb=>absurd b ∅) (λ_=>?_);refine zE (λ_=>?_) (λb=>absurd (by decide +kernel) b);refine ao (wpAny_typeOf a ?_);exact aM e
def Oo(b:Yz.Perm (range Q.size)):lu Q Yz=(Yz.filterMap λa=>Q[a]?).map (·.2)/\(Yz.filterMap λa=>Q[a]?).Perm Q.toList:=by
 refine⟨?_,(b.filterMap _).trans (by rw[C4])⟩;rw[Hv];rfl
end
def RB{F:YH->Zh}:∀{b t:List Zh},b.Perm t->∀S:List YH,S.map F=t->∃a:List YH,a.Perm S/\a.map F=b:=by
 intro b t q;induction q with
 |nil=>intro S c;cases EF.mp c;exact⟨[],.nil,rfl⟩
 |cons f q j=>
  intro S c;let⟨g,@s,rfl,rfl,e⟩:=B_.mp c;let⟨@a,h,Y6⟩:=j s e;exact⟨g::a,h.cons g,by rw[cy,Y6]⟩
 |swap f H t=>
  intro S c;let⟨g,@s,rfl,rfl,e⟩:=B_.mp c;let⟨d,@i,rfl,rfl,k⟩:=B_.mp e;exact⟨d::g::i,.swap g d i,by rw[cy,cy,k]⟩
 |trans h Y6 l m=>
  intro S c;let⟨@n,o,p⟩:=m S c;let⟨@r,u,v⟩:=l n p;exact⟨r,u.trans o,v⟩
theorem KI{l:bh}{YC:List V->ag->Prop}:∀S:List (List V×Int×ab),(∀D∈S,w0 l YC D)->∃P:List (List V×ag),S.map (λD=>D.2.2)=P.map (λD=>ab.ref D.2)/\P.map (·.1)=S.map (·.1)/\∀D∈P,YC D.1 D.2
 |[],_=>⟨[],rfl,rfl,λ_ e=>(gq e).elim⟩
 |D::S,e=>by
  let⟨@d,b,g,c⟩:=e D (.head _);let⟨@P,dB,dg,d_⟩:=KI S λD f=>e D (.tail _ f);refine⟨(D.1,d)::P,by rw[cy,cy,dB,b],by rw[cy,cy,dg],λH a=>?_⟩;rcases bW.mp a with rfl|a
  ·exact c
  ·exact d_ H a
section
variable{Yw:bO}{l:bh}{YC:List V->ag->Prop}{O:bA}{Yq:ab->ai->Prop}{h:ai}
def Sq{B:ab->ai->Prop}(r:O.handled=Y)(L:gm l YC h.heap YB (iE l) Yp)(w:Yp.length<=300)(e:∀(z:aX) (u:_) (A:ag) (cg:List ag) (Yl:List ab) (P:List (List V×ag)) (a5:Nat->aX->Prop),(∀d m,h.heap.get? d=Z m->z.get? d=Z m)->h.heap.objs.size<=A->(∀d∈cg,d=YB\/h.heap.objs.size<=d)->
   iD Yw l O A cg [A] Yl.length (λa v=>Yl[a]?=Z v) a5->a5 0 z->Yl=P.map (λD=>ab.ref D.2)->(P.map (·.1)).Perm Yp->(∀D∈P,YC D.1 D.2)->B (.ref A) {h with heap:=z,drawn:=u}):
  wpAny (aN Yw l) O (o_<|.ref YB) B Yq h:=by
 let⟨m,Q,YW,@i,g,x,j,y⟩:=L;have ty:h.TypeIs (.ref YB) "set" := ⟨m,g,x.1⟩;have C:YB<h.heap.objs.size:=bM g;have M:Q.size<=sizeLine:=by rw[y.num];exact fa w ∅
 have E:∀t:List (Int×ab),t.Perm Q.toList->∃P:List (List V×ag),t.map (·.2)=P.map (λD=>ab.ref D.2)/\(P.map (·.1)).Perm Yp/\∀D∈P,YC D.1 D.2:=λt bo=>by
  let⟨@S,R,T,U⟩:=y.p2;let⟨@al,G,Y6⟩:=RB bo S R;let⟨@P,dB,dg,d_⟩:=KI (l:=l) (YC:=YC) al λD w=>U D (G.mem_iff.mp w);refine⟨P,?_,?_,d_⟩
  ·rw[<-Y6,eP];exact dB
  ·rw[dg];exact (G.map _).trans T
 refine xD ty KL (hP KL ty VO ?D<|PySem.F.args_set_iter_1 _)
 case D=>
  unfold aY.«frozenset.__iter__» aY.Frozenset.slot0 aY.Frozenset.addrOf aY.Frozenset.sizeOf;refine ao (ao<|aM<|aM ?_);refine ao (ao<|sX g j y.fit<|aM ?_);refine ao ?_;unfold setDrawn;refine ao (lh g j y.fit ?_);dsimp only;refine ao (vk<|aM ?_);have am:l.params.followText "set-order" = aa\/(!i.plain&&decide (Q.size>1))=au->
    wpAny (aN Yw l) O.in1 (do let YW <-setEpoch YB;let s <-newFields "set_iterator" [eD 0,eD 0,.ref YB,eD Q.size,eD YW];ret s) (λan Yn=>∃s,an=PySem.Fin.done (.ret s)/\∃H p,Yn.TypeIs s H/\oM (.type H) "__next__" = pure (Z p)/\B s Yn) Yq h:=by
   intro ap;refine ao (Dt g j y.fit<|ao<|gz<|aM ⟨_,rfl,"set_iterator",_,⟨_,cO _ rfl,rfl⟩,s8.lookup,?_⟩);have da:∀d m,h.heap.get? d=Z m->(h.heap.push {cls:=.type "set_iterator",dict:=Y,data:=.fields [eD 0,eD 0,.ref YB,eD Q.size,eD YW].toArray}).get? d=Z m:=λd m c=>bJ _ c;have I:hi (h.heap.push {cls:=.type "set_iterator",dict:=Y,data:=.fields [eD 0,eD 0,.ref YB,eD Q.size,eD YW].toArray}) h.heap.objs.size (.int (0:Nat) 0) 0 YB Q.size YW:=⟨_,cO _ rfl,rfl,rfl⟩;have J:jk (h.heap.push {cls:=.type "set_iterator",dict:=Y,data:=.fields [eD 0,eD 0,.ref YB,eD Q.size,eD YW].toArray}) YB Q YW i:=⟨m,da _ _ g,x,j⟩;have cg:∀d∈[h.heap.objs.size,YB],d=YB\/h.heap.objs.size<=d:=λd f=>by
    rcases bW.mp f with rfl|f
    ·exact .inr (bp _)
    ·exact .inl (cX.mp f)
   cases n:l.params.followText "set-order" with
   |true=>
    have o:=Sx (l.params.setOrder YB YW) Q;let⟨@P,dB,dg,d_⟩:=E _ o;exact e _ h.drawn _ _ _ _ _ da (bp _) cg (If r (cZ C) y.fit n) ⟨I,J⟩ dB dg d_
   |false=>
    have as:=ap.resolve_left (by rw[n];exact dj);let⟨@P,dB,dg,d_⟩:=E _ (.refl _);exact e _ h.drawn _ _ _ _ _ da (bp _) cg (TL r (cZ C) y.fit n as (by rw[y.tab.led,iE,n];rfl) y.tab.rise) ⟨I,J⟩ dB dg d_
  show wpAny _ _ (if (!l.params.followText "set-order" && (!i.plain&&decide (Q.size>1)))=aa then _ else _) _ _ _;cases hd:(!l.params.followText "set-order" && (!i.plain&&decide (Q.size>1))) with
  |false=>
   rw[aH dj];refine ao (m:=pure (eD 0)) (aM<|am ?_);cases n:l.params.followText "set-order" with
   |true=>exact .inl rfl
   |false=>rw[n]at hd;exact .inr hd
  |true=>
   rw[aE rfl];refine ao (E5 Q.size (range Q.size) h _ gh λu Yz o=>?_);have a1:∀q∈Yz,q<Q.size:=λq e=>eT.mp (o.mem_iff.mp e);have a2:Yz.length=Q.size:=by rw[o.length_eq,gh]
   refine ao (m:=newObj (.type "tuple") (.seq (pI Yz).toArray)) (gz ?_ (show (pI Yz).toArray.size<=sizeLine by rw[cv,pI,ba,a2];exact M));refine ao (Dt (bJ _ g) j y.fit<|ao<|gz<|aM ⟨_,rfl,"set_iterator",_,⟨_,cO _ rfl,rfl⟩,s8.lookup,?_⟩);let@⟨bd,be⟩:=Oo o;let⟨@P,dB,dg,d_⟩:=E _ be;have bi:({h with heap:=h.heap.push {cls:=.type "tuple",dict:=Y,data:=.seq (pI Yz).toArray},drawn:=u}:ai).heap.objs.size=h.heap.objs.size+1:=hb ..;refine e _ u _ [_,YB,h.heap.objs.size] (lu Q Yz) P _ (λd m c=>bJ _<|bJ _ c) ?_ ?_ (LP (YW:=YW) (i:=i) (Zq:=0) r ?_ ?_ y.fit a1) ⟨⟨_,cO _ rfl,rfl,rfl⟩,⟨m,bJ _<|bJ _ g,x,j⟩,⟨_,bJ _<|cO _ rfl,rfl⟩⟩ (bd.trans dB) dg d_
   ·exact m5 (by rw[hb];exact ko _)
   ·intro d f;rcases bW.mp f with rfl|f
    ·exact .inr (by rw[hb];exact zp _)
    ·rcases bW.mp f with rfl|f
     ·exact .inl rfl
     ·exact .inr (by rw[cX.mp f];exact bp _)
   ·rw[hb];exact cZ (vH C)
   ·rw[hb];exact cZ (ko _)
def UC{B:List ab->ai->Prop}(am:O.handled=Y)(s:gm l YC h.heap YB (iE l) Yp)(v:Yp.length<=300)(e:∀(R:aX) (YX:Nat) (u:_) (P:List (List V×ag)),(∀d m,h.heap.get? d=Z m->R.get? d=Z m)->(P.map (·.1)).Perm Yp->(∀D∈P,YC D.1 D.2)->B (P.map λD=>ab.ref D.2) {h with heap:=R,toks:=YX,drawn:=u}):
  wpAny (aN Yw l) O (uc<|.ref YB) B Yq h:=by
 have w:YB<h.heap.objs.size:=let ⟨_,_,_,_,c,_⟩:=s;bM c
 unfold uc;refine ao (Ad<|h2 entry_proto_collect' ?_);rw[ig PySem.F.plain_proto_collect _];show wpAny _ O.in1 (pB [] >>= λt=>again<|.builtin "list.__iadd__" ⟨[t,.ref YB],[]⟩) _ _ h;refine ao (gz ?_);refine aM ⟨hV Fo _,h2 entry_list_iadd' ?_⟩;rw[ig Fo _];generalize x:h.heap.push {cls:=.type "list",dict:=Y,data:=.seq ([]:List ab).toArray}=Yx;have y:∀d m,h.heap.get? d=Z m->Yx.get? d=Z m:=λd m c=>by rw[<-x];exact bJ _ c
 have C:Yx.get? h.heap.objs.size=Z {cls:=.type "list",dict:=Y,data:=.seq #[]}:=by rw[<-x];exact cO _ rfl
 have G:h.heap.objs.size<Yx.objs.size:=bM C;have H:gm l YC Yx YB (iE l) Yp:=s.at λm c=>y YB m c;have ty:ai.TypeIs {h with heap:=Yx} (.ref YB) "set" := let ⟨m,_,_,_,c,f,_⟩:=H;⟨m,c,f.1⟩
 show wpAny _ O.in1 (aY.List.listExtendWith (.ref h.heap.objs.size) (.ref YB)<|.ref h.heap.objs.size) _ _ _;unfold aY.List.listExtendWith;refine ao (wpAny_typeOf (T := "set") ty ?_);have z:aY.List.listSameRef (.ref h.heap.objs.size) (.ref YB)=au:=by simp[aY.List.listSameRef,iQ w]
 have E:(ab.type "set" == ab.type "list")=au:=by decide
 have an:(ab.type "set" == ab.type "tuple")=au:=by decide
 simp only[z,E,an,Gq,g_,f5];refine ao (Sq (h:={h with heap:=Yx}) am H v λE u A cg Yl P a5 YR ap as W X l1 YZ I=>?_);have a1:Yl.length<=sizeLine:=by rw[l1,ba,<-ba (f:=(·.1)),YZ.length_eq];exact fa v ∅
 have J:h.heap.objs.size∉cg:=λi=>by
  rcases as _ i with c|c
  ·exact absurd c (iQ w)
  ·exact absurd G (rr.mpr c)
 have k:E.get? h.heap.objs.size=Z {cls:=.type "list",dict:=Y,data:=.seq #[]}:=YR _ _ C;have a2:ai.TypeIs {h with heap:=E,drawn:=u} (.ref YB) "set" := let ⟨m,c,n⟩:=ty;⟨m,YR _ _ c,n⟩
 have S:∀(b:aX) (n:Nat) (Ym:pG->ai->Prop),a5 0 b->(∀d m,d≠h.heap.objs.size->E.get? d=Z m->b.get? d=Z m)->b.get? h.heap.objs.size=Z {cls:=.type "list",dict:=Y,data:=.seq #[] n}->
   (∀(R:aX) (YX:Nat) (g:Nat),(∀d m,h.heap.get? d=Z m->R.get? d=Z m)->R.get? h.heap.objs.size=Z {cls:=.type "list",dict:=Y,data:=.seq Yl.toArray g}->Ym (.ok<|.ret<|.ref h.heap.objs.size) {h with heap:=R,toks:=YX,drawn:=u})->
   codeAny (aN Yw l) O (.builtin "list.extend.loop" ⟨[.ref h.heap.objs.size,.ref A,.ref h.heap.objs.size],[]⟩) Ym {h with heap:=b,drawn:=u}:=λb n Ym X da bd be=>
  J6 W.toS a1 h.heap.objs.size J (.ref h.heap.objs.size) Yl.length 0 _ #[] n rfl (g0 _) X bd (uZ.nil _) λYn o g i L M=>by
   rw[show Yn={h with heap:=Yn.heap,toks:=Yn.toks,drawn:=u} from by let⟨U,bi,bm,bn,U⟩:=i;cases Yn;cases bi;cases bm;cases bn;rfl];have bs:o=Yl.toArray:=by
    apply Array.toList_inj.mp;apply BR
    ·rw[dq];exact M.1
    ·intro a bv ca;have:=M.2 a o.toList[a] (by rw[<-e0];exact dz bv);have this:Yl[a]?=Z o.toList[a]:=this;rw[dz ca]at this;exact (Option.some.inj this).symm
   rw[bs]at L;refine be Yn.heap Yn.toks g (λd m c=>i.heap d m (λp=>?_)<|da d m (cZ<|bM c)<|YR d m<|y d m c) L;rcases bW.mp p with cd|p
   ·exact absurd (bM c) (by rw[cd];exact j9 _)
   ·have Q:=bM c;rw[cX.mp p]at Q;have:h.heap.objs.size<=A:=fa (m5 G) ap;exact absurd Q (rr.mpr this)
 refine ao (fM<|OZ (h:={h with heap:=E,drawn:=u}) a2 ?_);refine zE (λ_=>?_) (λ_=>aM ⟨hV Eb _,S _ 0 _ X (λd m U c=>c) k λR YX g q r=>ao (u1 r (aM (by rw[l1];exact e R YX u P q YZ I)))⟩);refine ao (iJ ?_);refine ao ?_;show wpAny _ _ (nE h.heap.objs.size (·.push .none) >>= λ_=>nE h.heap.objs.size (·.pop)) _ _ _;refine ao (mU (s:={h with heap:=E,drawn:=u}) k rfl ?_);have T:=jh (a3.mapSeq (·.push ab.none)) k rfl;refine mU (hz:=by seq_fits) T rfl ?_;have ce:=jh (a3.mapSeq (·.pop)) T rfl;refine aM ⟨hV Eb _,S _ _ _ ?_ (λd m j c=>?_) ce λR YX g q r=>ao (u1 r (aM (by rw[l1];exact e R YX u P q YZ I)))⟩
 ·refine W.frame 0 _ _ X λd j m c=>?_;have al:d≠h.heap.objs.size:=λe=>J (e ▸ j);exact (g4 _ _<|eQ al).trans ((g4 _ _<|eQ al).trans c)
 ·exact (g4 _ _<|eQ j).trans ((g4 _ _<|eQ j).trans c)
end
end L2
namespace L2
open Spec PyProof.Rows PySem.W
section
variable{b:aO}{M:List (ag×a3)}{C:a5}{j:ay}{h:ai}
def aF.SM(A:aF b M C j h)(u:Drawn):aF b M C j {h with drawn:=u}:=⟨A.ok,A.os,A.bare,A.base,A.loc,A.cell,A.free,A.i9,A.pin,A.a4,A.len⟩
end
variable{J:az (List bw)}{r YD Y6 q:Pos}{Za:ei}{g:bz}{Yp:List (List V)}
def jG.perm{I Q:List V}(m:jG I)(q:Q.Perm I):jG Q:=
 ⟨⟨by rw[q.length_eq];exact m.ord.i0,λg a d b=>m.ord.ke g (q.mem_iff.mp a) d<|q.mem_iff.mp b,q.nodup_iff.mpr m.ord.ah⟩,m.fst.imp (λe u hd=>e u<|q.mem_iff.mp hd) λe u hd=>e u<|q.mem_iff.mp hd⟩
theorem CI{j:ay}:∀{P:List (List V×ag)},(∀D∈P,cH j (.tup D.1)<|.ref D.2)->bb j ((P.map (·.1)).map .tup) (P.map λD=>av.ref D.2)
 |[],_=>rfl
 |D::P,e=>⟨_,_,rfl,e D<|.head _,CI λH a=>e H<|.tail _ a⟩
theorem xT:∀P:List (List V×ag),bS (P.map λD=>av.ref D.2) (P.map λD=>ab.ref D.2)
 |[]=>.nil
 |D::P=>.cons rfl (xT P)
section
variable{b:aO}{M:List (ag×a3)}{C:a5}{j:ay}{h:ai}{YC:List V->ag->Prop}
def MD(as:b.calm=aa)(cr:b.A.units+20<bQ){YB:ag}{Yp:List (List V)}{B:cS}(A:aF b M C j h)(a1:gm b.w YC h.heap YB (iE b.w) Yp)(a2:∀o d,YC o d->cH j (.tup o) (.ref d))(m:jG (Yp.map .tup))(x:Yp.length<=300)(p:∀t S,j t=Y->bb j (gC bu<|Yp.map .tup) S->B (.ref t) (upd j t<|.lst S)):
  wpAny (aN b.prog b.w) b.A (call (.builtin "sorted") [.ref YB]) (ez b M C B) b.c1 h:=by
 refine Bl y7 zA xI (A1 _) ?D
 case D=>
  unfold aY.«sorted»;refine ao (m:=yb "sorted" 1 1 _) (aM<|ao<|UC (O:=b.A.in1) (A.ok.hd as) a1 x λR YX u P bd YZ be=>?_);have y:aF b M C j {h with heap:=R,toks:=YX,drawn:=u}:=(A.SM u).kept (YU:=YX) bd;have T:bb j ((P.map (·.1)).map .tup) (P.map λD=>av.ref D.2):=CI λD x=>a2 _ _ (be D x);have r:dM R ((P.map (·.1)).map .tup) (P.map λD=>ab.ref D.2):=T.fb y.a4 (xT P);have G:((P.map (·.1)).map V.tup).Perm (Yp.map .tup):=YZ.map _;have Y4:=m.perm G;have bi:P.length<=300:=by rw[<-ba (f:=(·.1)),YZ.length_eq];exact x
  generalize cs:(P.map (·.1)).map V.tup=I at T r G Y4;generalize bm:P.map (λD=>av.ref D.2)=YA at T;have J:bS YA (P.map λD=>ab.ref D.2):=bm ▸ xT P;generalize bn:P.map (λD=>ab.ref D.2)=Yy at r J ⊢;have al:Yy.length=I.length:=r.length.symm;have bs:Yy.length<=300:=by rw[<-bn,ba];exact bi
  show wpAny _ _ (pB Yy >>= _) _ _ _;refine ao (uF ?_ (fa bs ∅));have Zj:(R.push<|gc "list" Yy.toArray 0).get? R.objs.size=Z (gc "list" Yy.toArray 0):=cO _ rfl;refine ao (fM<|hP xR ⟨_,Zj,rfl⟩ AO ?H<|yK _)
  case H=>
   have N:∀g:aX,(∀d i,d≠R.objs.size->(R.push<|gc "list" Yy.toArray 0).get? d=Z i->g.get? d=Z i)->∀d i,R.get? d=Z i->g.get? d=Z i:=λg s d i c=>s d i (cZ<|bM c) (bJ _ c);refine Aa (h:={h with heap:=R.push (gc "list" Yy.toArray 0),toks:=YX,drawn:=u}) (oJ I) (qy<|decide (∀u∈I,iu u=aa)) Zj (λE g s B bv=>z3 (e:=g) (h:={h with heap:=g,toks:=YX,drawn:=u}) Y4.w E (r.qv<|N g s) _ _ B bv) (λg s=>?_) (.inl ⋯) ⋯ λq E n am YR ⟨ca,cd⟩=>⟨_,rfl,aM ⟨_,rfl,?_⟩⟩
   ·refine yg (h:={h with heap:=g,toks:=YX,drawn:=u}) Y4.w.ord (r.qv<|N g s) Y4.w.tup (λce=>gf ce) (by show b.A.units+1+1+9<bQ;lia)
   ·have ch:j R.objs.size=Y:=y.a4.fresh (bp _);rw[al]at n am;have ci:(q.toList.map λa=>I.getD a .aV)=gC bu (Yp.map .tup):=Bc m.w.ord ((xl n).trans G) (BK Y4.w.ord n am);have an:=T.pick (q:=q.toList) λo Q=>eT.mp (n.mem_iff.mp Q);rw[ci]at an;refine⟨.ref R.objs.size,upd j R.objs.size<|.lst<|q.toList.map λa=>YA.getD a .aV,?_,rfl,p _ _ ch an⟩;refine y.laid (YU:=YX) (λd L c=>N E YR d L c) (bp _) ⟨?_,_,ca,?_,cd⟩
    ·rw[ba,dq,n.size];exact fa (by lia:I.length<=300) ∅
    ·refine rE ↥0 λa v L z E=>?_;rw[ea]at z E;cases U:q.toList[a]? with
     |none=>rw[U]at z;cases z
     |some o=>
      rw[U]at z E;cases z;cases E;have Q:o<I.length:=eT.mp (n.mem_iff.mp<|fL U);have ap:o<YA.length:=by rw[J.length,al];exact Q
      let⟨@L,cl,co⟩:=J.get (a:=o) (f:=YA[o]) (dz ap);show cw (YA.getD o .aV) (Yy.getD o .none);rw[cG,dz ap,cG,cl];exact co
def fp(Yp:List (List V)):List (List V):=(Yp.foldl h5 [])
theorem BO(Yp:List (List V)):∀a,a<=Yp.length->jv (λa=>Yp.getD a []) a=(Yp.take a).foldl h5 []
 |0,_=>by rw[uY];rfl
 |a+1,e=>by
  rw[DG (show a<Yp.length from e),B1,<-BO Yp a (Nat.le_of_succ_le e)];show h5 _ (Yp.getD a [])=h5 _ Yp[a];rw[cG,dz<|show a<Yp.length from e];rfl
def Wa(t:List (List V)):∀(a:List (List V)) (f:List V),f∈t.foldl h5 a↔f∈a\/f∈t:=by
 induction t with
 |nil=>intro a f;simp
 |cons o s c=>
  intro a f;rw[mj,c];unfold h5;by_cases b:o∈a
  ·rw[aE b,bW];constructor
   ·rintro (e|e)
    ·exact .inl e
    ·exact .inr (.inr e)
   ·rintro (e|e|e)
    ·exact .inl e
    ·exact .inl (e ▸ b)
    ·exact .inr e
  ·rw[aH b,eh,cX,bW,or_assoc]
def RG{f:List V}:f∈fp Yp↔f∈Yp:=by
 rw[fp,Wa];simp
def V3(t:List (List V)):∀a:List (List V),a.Nodup->(t.foldl h5 a).Nodup:=by
 induction t with
 |nil=>intro a e;exact e
 |cons o s b=>
  intro a e;refine b _ ?_;unfold h5;split
  ·exact e
  ·next d=>exact d0.mpr ⟨e,f9 _ o,λf g H h=>by cases cX.mp h;exact λc=>d<|c ▸ g⟩
def Is(Yp:List (List V)):(fp Yp).Nodup:=V3 Yp [] kR
def UM(t:List (List V)):∀a:List (List V),a.length<=(t.foldl h5 a).length:=by
 induction t with
 |nil=>intro a;exact bp _
 |cons o s b=>
  intro a;refine fa ?_ (b _);unfold h5;split
  ·exact bp _
  ·rw[c6];exact jW _ _
def O9{a:Nat}(e:a<=Yp.length):(jv (λa=>Yp.getD a []) a).length<=(fp Yp).length:=by
 rw[BO Yp a e];have c:fp Yp=(Yp.drop a).foldl h5 ((Yp.take a).foldl h5 []):=by
  rw[fp,<-B1,f7]
 rw[c];exact UM _ _
def TB(Yp:List (List V)):jv (λa=>Yp.getD a []) Yp.length=fp Yp:=by
 rw[BO Yp _ (bp _),q5];rfl
def RN(Za:ei):cC:=(λC j B=>Za C j λYl Yx=>∃(g:ag) (Yp:List (List V)) (YA:List av),Yl=[.ref g]/\Yx g=Z (.tup YA)/\bb Yx (Yp.map .tup) YA/\(∀o∈Yp,V.keys 7 o=aa)/\jG ((fp Yp).map .tup)/\(fp Yp).length<300/\
 ∀t S,Yx t=Y->bb Yx (gC bu<|(fp Yp).map .tup) S->B (.ref t) (upd Yx t<|.lst S))
theorem bb.at{j:ay}:∀{I:List V}{Yl:List av}{a:Nat}{v:av},bb j I Yl->Yl[a]?=Z v->∃u,I[a]?=Z u/\cH j u v
 |[],Yl,a,v,e,c=>by rw[show Yl=[] from e]at c;simp at c
 |u::I,Yl,0,v,e,c=>by
  let⟨L,@s,rfl,z,E⟩:=e;cases c;exact⟨u,rfl,z⟩
 |u::I,Yl,a+1,v,e,c=>by
  let⟨L,@s,rfl,z,E⟩:=e;let⟨@b,d,f⟩:=bb.at (a:=a) E ⇑c;exact⟨b,by simpa using d,f⟩
def G5(E:b.calm=aa)(F:b.A.units+30<bQ){t:ag}{Yp:List (List V)}{YA:List av}{B:ab->ai->Prop}(A:aF b M C j h)(G:j t=Z (.tup YA))(T:bb j (Yp.map .tup) YA)(H:∀o∈Yp,V.keys 7 o=aa)(S:(fp Yp).length<300)(e:∀R YX YB,aF b M C j {h with heap:=R,toks:=YX}->gm b.w (λo d=>V.keys 7 o=aa/\cH j (.tup o) (.ref d)) R YB (iE b.w) (fp Yp)->B (.ref YB) {h with heap:=R,toks:=YX}):
  wpAny (aN b.prog b.w) b.A (call (.type "set") [.ref t]) B b.c1 h:=by
 let@⟨D,⟨@Yy,c,⟨@m,I,J,⟨@w,N⟩⟩⟩⟩:=A.a4 t _ G;have P:Yy.length=Yp.length:=by rw[<-c.length,<-T.length,ba]
 have k:Yy.toArray.size=Yp.length:=by rw[cv,P]
 refine Rk (YC:=λo d=>V.keys 7 o=aa/\cH j (.tup o) (.ref d)) (YJ:=Yy.toArray) (Yp:=Yp) (A.ok.hd E) I (Prod.mk.inj J).1 N F (λa v g=>?_) (λp d D=>⟨D.1,D.2.fb A.a4 rfl⟩) (λa T=>?_) λR YX n da=>?_
 ·rw[tS]at g;have q:a<YA.length:=by rw[c.length];exact (eA.mp g).1
  let⟨@L,r,s⟩:=c.get (a:=a) (f:=YA[a]) (dz q);rw[g]at r;cases r;let⟨@u,y,i⟩:=T.at (a:=a) (v:=YA[a]) (dz q);rw[ea]at y;let⟨@o,z,rfl⟩:=cB.mp y;let⟨d,@x,Q,U,al⟩:=id i;rw[Q]at s i;refine⟨d,s,?_⟩;rw[cG,z];exact⟨H o<|fL z,i⟩
 ·rw[k]at T;have:=O9 (Yp:=Yp) (m5 T);lia
 ·rw[k,TB]at n;exact e R YX _ (A.kept (YU:=YX) da) n
def Tb(a:b.calm=aa)(c:b.A.units+30<bQ)(f:dE b "sorted")(i:b.aI "sorted" = Y)(k:dE b "set")(l:b.aI "set" = Y)(m:gR b [g] Za)(Ys:bH [g] b.env=[(au,b0 g b.env)]:=by rfl):
  cj b (.Call (.Name "sorted" Y6) [.Call (.Name "set" q) [g] [] YD] [] r) (RN Za):=by
 intro M h C j B A e;refine oT (iV A f i (show e4 "sorted" = Z (.builtin "sorted") by decide +kernel) (zB ?_ rfl rfl) ∅ ∅);refine sJ ?_;refine o5 (iV A k l (show e4 "set" = Z (.type "set") by decide +kernel)<|lX (cn (m YD M h C j _ A e) λYM G ⟨Yl,Yx,n,s,u⟩=>?_) Ys rfl);let⟨t,Yp,@YA,rfl,v,T,w,x,y,p⟩:=u;let⟨@L,rfl,z⟩:=hF s;cases z;exact G5 a c n v T w y λR YX YB E F=>sC (MD a ⋯ E F (λo d D=>D.2) x ⋯ p)
def PQ(Za:ei):cC:=(λC j B=>Za C j λYl Yx=>∃(g:ag) (Yp:List (List V)) (YA:List av),Yl=[.ref g]/\Yx g=Z (.tup YA)/\bb Yx (Yp.map .tup) YA/\(∀o∈Yp,V.keys 7 o=aa)/\(fp Yp).length<300/\B (.int (fp Yp).length) Yx)
def NO(d:b.calm=aa)(f:b.A.units+30<bQ)(k:dE b "len")(n:b.aI "len" = Y)(o:dE b "set")(s:b.aI "set" = Y)(u:gR b [g] Za)(Ys:bH [g] b.env=[(au,b0 g b.env)]:=by rfl):
  cj b (.Call (.Name "len" Y6) [.Call (.Name "set" q) [g] [] YD] [] r) (PQ Za):=by
 intro M h C j B A e;refine oT (iV A k n (show e4 "len" = Z (.builtin "len") by decide +kernel) (zB ?_ rfl rfl) ∅ ∅);refine sJ ?_;refine o5 (iV A o s (show e4 "set" = Z (.type "set") by decide +kernel)<|lX (cn (u YD M h C j _ A e) λYM a ⟨Yl,Yx,v,x,z⟩=>?_) Ys rfl);let⟨t,Yp,@YA,rfl,D,T,E,F,p⟩:=z;let⟨@L,rfl,G⟩:=hF x;cases G;refine G5 d f v D T E F λR YX YB H I=>sC ?_;let⟨m,Q,YW,@i,J,N,P,y⟩:=I;have c:Q.size=(fp Yp).length:=y.num;have S:i.fits Q.size=aa:=y.fit;have U:ez b M C B (.int Q.size<|YX+1) {a with heap:=R,toks:=YX+1+1}:=⟨.int (fp Yp).length,Yx,H.tok _,⟨YX+1,by rw[c]⟩,p⟩;exact call_len_set (prog:=b.prog) (w:=b.w) (s:={a with heap:=R,toks:=YX}) J N P S (by rw[c];lia) U
end
def nM:List V->Option (List<|List V)
 |[]=>Z []
 |.tup g::s=>(nM s).map (g::·)
 |_=>Y
theorem xE:∀{f:List V}{Yp:List (List V)},nM f=Z Yp->f=Yp.map .tup
 |[],Yp,e=>by cases e;rfl
 |.tup g::s,Yp,e=>by
  let⟨@o,z,rfl⟩:=cB.mp e;rw[xE z];rfl
 |.aV::_,_,e=>by cases e
 |.aB _::_,_,e=>by cases e
 |.int _::_,_,e=>by cases e
 |.str _::_,_,e=>by cases e
 |.fn _::_,_,e=>by cases e
 |.aR _::_,_,e=>by cases e
 |.fd::_,_,e=>by cases e
theorem zZ:∀Yp:List (List V),nM (Yp.map .tup)=Z Yp
 |[]=>rfl
 |o::Yp=>by
  show (nM<|Yp.map .tup).map (o::·)=_;rw[zZ Yp];rfl
def tI(Yp:List (List V)):Bool:=(Yp.all (V.keys 7)&&decide ((fp Yp).length<300))
def sS(J:az (List bw)):az aj:=(λy=>(J y).bind λq=>(eF q.2 q.1).bind λI=>match I with
 |[.im (.tup f)]=>(nM f).bind λYp=>if tI Yp=aa/\tq ((fp Yp).map .tup)=aa then Z (.lst<|gC bu<|(fp Yp).map .tup,q.2) else Y
 |_=>Y)
def tB(J:az (List bw)):az aj:=(λy=>(J y).bind λq=>(eF q.2 q.1).bind λI=>match I with
 |[.im (.tup f)]=>(nM f).bind λYp=>if tI Yp=aa then Z (.im<|.int (fp Yp).length,q.2) else Y
 |_=>Y)
def As:tI Yp=aa↔(∀o∈Yp,V.keys 7 o=aa)/\(fp Yp).length<300:=by
 unfold tI;rw[cU,k9,g8]
section
variable{b:aO}
def Nz(n:b.A.units+30<bQ)(o:dE b "sorted")(u:b.aI "sorted" = Y)(w:dE b "set")(D:b.aI "set" = Y)(e:fJ b [g] J)(Ys:bH [g] b.env=[(au,b0 g b.env)]:=by rfl)(F:b.calm=aa:=by rfl):
  cI b (.Call (.Name "sorted" Y6) [.Call (.Name "set" q) [g] [] YD] [] r) (sS J):=by
 refine eW (Tb F n o u w D e Ys) λC j B G=>?_;let⟨y,N,s,@YN,X,ah,H,p⟩:=G;let⟨@⟨YG,Yv⟩,z,E⟩:=bC.mp H;let⟨@I,L,h⟩:=bC.mp E;refine⟨y,N,YG,Yv,X,ah,z,λYl Yx YI al i A M=>?_⟩;have P:=A.read i L;split at h
 ·rename_i f;let⟨@Yp,Q,k⟩:=bC.mp h;split at k
  ·rename_i l;cases k;let⟨@v,rfl,c⟩:=pX P;let⟨d,@x,rfl,R,T⟩:=(show ∃g x,v=av.ref g/\Yx g=Z (.tup x)/\bb Yx f x from c);cases xE Q;let@⟨YK,YR⟩:=As.mp l.1;refine⟨d,Yp,x,rfl,R,T,YK,qC.mp l.2,YR,λt S aR U=>?_⟩;have a:bZ Yx (upd Yx t<|.lst S):=(bZ.refl Yx).upd aR;exact p _ _ YI [t] (i.mono a.tupS λg W m c=>a g m c) ⟨t,_,rfl,e8,U.mono a.tupS.tup,rfl⟩ (M.new a (f9 _ _) (λg e=>by rw[cX.mp e];exact aR) i.chg)
  ·cases k
 ·cases h
def OC(k:b.A.units+30<bQ)(l:dE b "len")(m:b.aI "len" = Y)(n:dE b "set")(o:b.aI "set" = Y)(a:fJ b [g] J)(Ys:bH [g] b.env=[(au,b0 g b.env)]:=by rfl)(t:b.calm=aa:=by rfl):
  cI b (.Call (.Name "len" Y6) [.Call (.Name "set" q) [g] [] YD] [] r) (tB J):=by
 refine eW (NO t k l m n o a Ys) λC j B u=>?_;let⟨y,N,s,@YN,X,ah,w,p⟩:=u;let⟨@⟨YG,Yv⟩,z,E⟩:=bC.mp w;let⟨@I,D,e⟩:=bC.mp E;refine⟨y,N,YG,Yv,X,ah,z,λYl Yx YI P h A F=>?_⟩;have G:=A.read h D;split at e
 ·rename_i f;let⟨@Yp,H,i⟩:=bC.mp e;split at i
  ·rename_i L;cases i;let⟨@v,rfl,c⟩:=pX G;let⟨d,@x,rfl,M,T⟩:=(show ∃g x,v=av.ref g/\Yx g=Z (.tup x)/\bb Yx f x from c);cases xE H;let@⟨YK,YR⟩:=As.mp L;refine⟨d,Yp,x,rfl,M,T,YK,YR,?_⟩;exact p _ _ YI [] h ⟨rfl,rfl⟩ (F.new (bZ.refl Yx) kR (λg a=>(gq a).elim) h.chg)
  ·cases i
 ·cases e
end
end L2
namespace L2
open Spec PyProof.Rows
section
variable{b:aO}
def Wv(n:b.calm=aa):eZ b (.builtin "max") (λx j B=>∃g a r,x=[.ref g]/\j g=Z (.tup [av.int a,av.int r])/\B (.int<|if r>a then r else a) j):=by
 intro M h C j x YM B A s e;let⟨t,a,@r,rfl,u,p⟩:=e;let⟨@L,rfl,w⟩:=hF s;cases w;let⟨@Yy,f,q,G⟩:=A.tuple (cL.of u);have k:h.heap.IsTuple t Yy.toArray:=q;have y:Yy.length=2:=f.length.symm;have m:t<h.heap.objs.size:=bM k.choose_spec.1;refine call_max_walk (wpAny_pyIter_tuple k ⟨h.heap.objs.size,[h.heap.objs.size,t],[h.heap.objs.size],Yy.toArray.size,_,_,_,rfl,iD.tuple (A:=b.A.in1) (A.ok.hd n) _ t (cZ m) Yy.toArray,
  ⟨⟨_,cO _ rfl,rfl,rfl⟩,k.push _⟩,?_,by rw[cv];lia,CmpOf.ints_gt (λo=>(([a,r]:List Int)[o]?).getD 0) (λo v z=>vX (YP:=[a,r]) f o v ⇑z),λv R YX E F=>?_⟩)
 ·intro d l;show d<(h.heap.push _).objs.size;rw[hb];rcases bW.mp l with rfl|l
  ·exact ko _
  ·rw[cX.mp l];exact vH m
 ·let⟨@i,rfl⟩:=vX (YP:=[a,r]) f _ v ⇑E;refine⟨.int _,j,A.kept<|BZ F,⟨i,rfl⟩,?_⟩;rw[y];by_cases e:r>a
  ·have c:uS (λg d=>decide ((([a,r]:List Int)[d]?).getD 0<(([a,r]:List Int)[g]?).getD 0)) (2-1)=1:=aE (dx e);rw[c];rw[aE e]at p;exact p
  ·have c:uS (λg d=>decide ((([a,r]:List Int)[d]?).getD 0<(([a,r]:List Int)[g]?).getD 0)) (2-1)=0:=aH (λD=>e<|gf D);rw[c];rw[aH e]at p;exact p
def Vy(n:b.calm=aa):eZ b (.builtin "min") (λx j B=>∃g a r,x=[.ref g]/\j g=Z (.tup [av.int a,av.int r])/\B (.int<|if r<a then r else a) j):=by
 intro M h C j x YM B A s e;let⟨t,a,@r,rfl,u,p⟩:=e;let⟨@L,rfl,w⟩:=hF s;cases w;let⟨@Yy,f,q,G⟩:=A.tuple (cL.of u);have k:h.heap.IsTuple t Yy.toArray:=q;have y:Yy.length=2:=f.length.symm;have m:t<h.heap.objs.size:=bM k.choose_spec.1;refine call_min_walk (wpAny_pyIter_tuple k ⟨h.heap.objs.size,[h.heap.objs.size,t],[h.heap.objs.size],Yy.toArray.size,_,_,_,rfl,iD.tuple (A:=b.A.in1) (A.ok.hd n) _ t (cZ m) Yy.toArray,
  ⟨⟨_,cO _ rfl,rfl,rfl⟩,k.push _⟩,?_,by rw[cv];lia,CmpOf.ints_lt (λo=>(([a,r]:List Int)[o]?).getD 0) (λo v z=>vX (YP:=[a,r]) f o v ⇑z),λv R YX E F=>?_⟩)
 ·intro d l;show d<(h.heap.push _).objs.size;rw[hb];rcases bW.mp l with rfl|l
  ·exact ko _
  ·rw[cX.mp l];exact vH m
 ·let⟨@i,rfl⟩:=vX (YP:=[a,r]) f _ v ⇑E;refine⟨.int _,j,A.kept<|BZ F,⟨i,rfl⟩,?_⟩;rw[y];by_cases e:r<a
  ·have c:uS (λg d=>decide ((([a,r]:List Int)[g]?).getD 0<(([a,r]:List Int)[d]?).getD 0)) (2-1)=1:=aE (dx e);rw[c];rw[aE e]at p;exact p
  ·have c:uS (λg d=>decide ((([a,r]:List Int)[g]?).getD 0<(([a,r]:List Int)[d]?).getD 0)) (2-1)=0:=aH (λD=>e<|gf D);rw[c];rw[aH e]at p;exact p
@[simp] def rX:hS:=λI=>match I with
 |[.im (.tup [.int a,.int r])]=>Z (.im<|.int<|if r>a then r else a)
 |_=>Y
@[simp] def t6:hS:=λI=>match I with
 |[.im (.tup [.int a,.int r])]=>Z (.im<|.int<|if r<a then r else a)
 |_=>Y
def Nu(d:b.calm=aa):hJ b (.builtin "max") rX:=by
 refine (Wv d).imp λx j B e=>?_;let⟨I,@u,f,c,p⟩:=e;unfold rX at c;split at c
 ·rename_i a r;cases c;let⟨@v,rfl,⟨g,@YA,rfl,YK,YR⟩⟩:=pX f;cases uw (YP:=[a,r]) YR;exact⟨g,a,r,rfl,YK,ck.i p rfl⟩
 ·cases c
def S5(d:b.calm=aa):hJ b (.builtin "min") t6:=by
 refine (Vy d).imp λx j B e=>?_;let⟨I,@u,f,c,p⟩:=e;unfold t6 at c;split at c
 ·rename_i a r;cases c;let⟨@v,rfl,⟨g,@YA,rfl,YK,YR⟩⟩:=pX f;cases uw (YP:=[a,r]) YR;exact⟨g,a,r,rfl,YK,ck.i p rfl⟩
 ·cases c
end
variable{r YD Y6 q:Pos}{g:bz}
def SH:oM (.type "list_reverseiterator") "__len__" = pure Y:=by rw[oj,oA];kernel_rfl
def ON:oM (.type "list_reverseiterator") "__length_hint__" = pure (Z<|.builtin "list_reverseiterator.__length_hint__"):=by rw[oj,oA];kernel_rfl
section
variable{Yw:bO}{l:bh}{O:bA}{h:ai}{Ym:pG->ai->Prop}{A:ag}{cg H:List ag}{S:Array vu->Array vu->Prop}{w:Nat}{YC:Nat->ab->Prop}{a5:Nat->ai->Prop}
def MM(W:WalksS Yw l O.in1 A cg H S w YC a5)(f:∀a h,a5 a h->h.TypeIs (.ref A) "list_reverseiterator")(YB:ag)(j:ab)(n:Nat)(b:a5 0 h)(k:YB∉cg)(o:A∈cg)(p:h.heap.get? YB=Z {cls:=.type "list",data:=.seq #[] n})(q:∀Yn g e,Moved (YB::H) S h Yn->Yn.heap.get? YB=Z {cls:=.type "list",dict:=Y,data:=.seq g e,slots:=#[]}->uZ YC g w->Ym (.ok<|.ret j) Yn)(r:w<=sizeLine):
  wpAny (aN Yw l) O.in1 (aY.List.listExtendWith (.ref YB) (.ref A) j)
   (λs Yn=>match s with | .done F=>Ym (.ok F) Yn | .again e=>e.quiet=aa/\codeAny (aN Yw l) O e Ym Yn) (λc Yn=>Ym (.error c) Yn) h:=by
 have t:YB≠A:=λc=>k (c ▸ o);have z:aY.List.listSameRef (.ref YB) (.ref A)=au:=by simp[aY.List.listSameRef,t]
 unfold aY.List.listExtendWith;refine ao (wpAny_typeOf (f 0 _ b) ?_);rw[aH (by rw[z];decide)];refine ao (W.self 0 _ _ _ b<|ao<|fM ?_);unfold aY.List.listLengthHint;refine ao (mx (f 0 _ b) SH ?_);show wpAny _ O.in1 (specialOf (ab.ref A) (aG.ofString "__length_hint__") >>= _) _ _ _;refine ao (mx (f 0 _ b) ON ?_)
 (generalize i:("list_reverseiterator.__length_hint__" : String)=m;(fail_if_success (clear i m));wp_delta;rw[show splitId m=Z ("list_reverseiterator","__length_hint__") from by subst i;decide +kernel];subst i)
 refine ao (oe (b:=aa) (f 0 _ b) (by rw[qz];kernel_rfl) ?_);refine aM ?_;rw[aH ∅];exact aM ⟨hV sf _,J6 W r _ k _ w 0 _ _ _ rfl (g0 _) b p (uZ.nil YC) λYn g e u v x=>q Yn g e u v x⟩
end
section
variable{b:aO}
def MS{Yw:bO}{l:bh}{O:bA}{h:ai}{Yq:ab->ai->Prop}{B:ab->ai->Prop}{t A:ag}{YJ:Array ab}(s:O.handled=Y)(u:t≠A)(o:h.heap.IsList t YJ)(p:h.heap.IsRevIter A t ((YJ.size:Int)-1))(w:YJ.size<=sizeLine)(x:∀R YX g j,(∀d m,d≠A->h.heap.get? d=Z m->R.get? d=Z m)->R.get? h.heap.objs.size=Z {cls:=.type "list",dict:=Y,data:=.seq g j,slots:=#[]}->uZ (λa v=>YJ[YJ.size-1-a]?=Z v) g YJ.size->B (.ref h.heap.objs.size) {h with heap:=R,toks:=YX}):
  wpAny (aN Yw l) O (call (.type "list") [.ref A]) B Yq h:=by
 have bU:A<h.heap.objs.size:=let ⟨m,c,_⟩:=p;bM c
 have J:t<h.heap.objs.size:=let ⟨m,c,_⟩:=o;bM c
 have y:h.heap.objs.size∉[A,t]:=λb=>by
  simp only[bW,jf,e9]at b;rcases b with e|e<;>lia
 refine yB (Q₁:=λq r=>q=.ref h.heap.objs.size/\r={h with heap:=h.heap.push {cls:=.type "list",data:=.seq #[]} }) F.called_list (F.typeCall_list_1 _) F.entry_list_init
  (code_list_new _ ⟨rfl,rfl⟩) λq r z=>?_;let@⟨rfl,rfl⟩:=z;have i:(h.heap.push {cls:=.type "list",data:=.seq #[]}).get? h.heap.objs.size=Z {cls:=.type "list",data:=.seq #[]}:=cO _ rfl;refine⟨⟨_,i,rfl⟩,F.args_list_init_2 _ _,?_⟩;show wpAny _ _ (do let C <-aY.List.listItems (.ref h.heap.objs.size);aY.List.listUpdate (.ref h.heap.objs.size) (λ_=>#[]);letGo C.toList.reverse;aY.List.listExtendWith (.ref h.heap.objs.size) (.ref A) .none) _ _ _;refine ao ?_;unfold aY.List.listItems;refine ao (gT i rfl<|aM ?_);show wpAny _ _ (nE h.heap.objs.size (λ_=>#[]) >>= λ_=>letGo (#[]:Array ab).toList.reverse >>= λ_=>aY.List.listExtendWith (.ref h.heap.objs.size) (.ref A) .none) _ _ _;refine ao (mU i rfl ?_);have D:=jh (a3.mapSeq<|λ_=>(#[]:Array ab)) i rfl;have k:∀d m,h.heap.get? d=Z m->((h.heap.push {cls:=.type "list",data:=.seq #[]}).update h.heap.objs.size<|a3.mapSeq<|λ_=>(#[]:Array ab)).get? d=Z m:=
  λd m c=>(g4 _ _<|iQ<|bM c).trans (bJ _ c);refine ao (nQ ?_);refine MM (O:=O.in1) (iD.listRev (prog:=Yw) (w:=l) (A:=O.in1.in1) s A t u YJ).toS (λa h f=>f.2.1.typeIs) h.heap.objs.size .none _ ⟨g0 _,?_,o.at λm c=>k _ m c⟩ y (.head _) D (λYn g j b E G=>?_) w
 ·have:(YJ.size:Int)-1-((0:Nat):Int)=(YJ.size:Int)-1:=⋯
  rw[this];exact p.at λm c=>k _ m c
 ·rw[Moved.eq_with b];refine⟨rfl,x Yn.heap Yn.toks g j (λd m H c=>b.heap d m (λn=>?_)<|k d m c) E G⟩;rcases bW.mp n with I|n
  ·exact cZ (bM c) I
  ·exact H (cX.mp n)
def WI(Yo:Φ)(Za:ei):cC:=(λC j B=>Za C j λYl Yx=>∃q YA,Yl=[.ref q]/\de Yo Yx q YA/\∀t,Yx t=Y->B (.ref t) (upd Yx t<|.lst YA.reverse))
def Xq{Za:ei}(u:b.calm=aa)(w:dE b "list")(x:b.aI "list" = Y)(y:dE b "reversed")(D:b.aI "reversed" = Y)(F:gR b [g] Za)(Ys:bH [g] b.env=[(au,b0 g b.env)]:=by rfl):
  cj b (.Call (.Name "list" Y6) [.Call (.Name "reversed" q) [g] [] YD] [] r) (WI b.K Za):=by
 intro M h C j B A e;refine oT (iV A w x (show e4 "list" = Z (.type "list") by decide +kernel) (lX ?_ rfl rfl) ∅ ∅);refine sJ ?_;refine o5 (iV A y D (show e4 "reversed" = Z (.type "reversed") by decide +kernel)<|lX (cn (F YD M h C j _ A e) λYM d ⟨Yl,Yx,f,G,H⟩=>?_) Ys rfl);let⟨t,@YA,c,I,p⟩:=H;subst c;let⟨@L,rfl,J⟩:=hF G;cases J;let⟨@Yy,Zd,bo,N⟩:=f.list I;have o:=Zd.length;have i:=bo.isList;refine call_reversed_list i (sC ?_);have ne:t≠d.heap.objs.size:=let ⟨m,c,_⟩:=i;cZ (bM c)
 have s:∀n m,d.heap.get? n=Z m->(d.heap.push<|revObj t<|(Yy.toArray.size:Int)-1).get? n=Z m:=λn m c=>bJ _ c;refine MS (YJ:=Yy.toArray) (f.ok.hd u) ne (i.at λm c=>s _ m c) ⟨_,cO _ rfl,rfl,rfl⟩ (by simp only[cv];lia) λR YX l O da c Yu=>?_;have P:bS YA.reverse l.toList:=by
  refine rE (show YA.reverse.length=l.toList.length from (by rw[qf];exact o.trans ⇑(Yu.1.symm))) λa v L z E=>?_;have T:a<YA.length:=by
   have:=(eA.mp z).1
   rwa [qf]at this
  rw[List.getElem?_reverse T]at z;let⟨@U,Q,S⟩:=Zd.get z;have:=Yu.2 a L ⇑E;simp only[cv,tS]at this;rw[<-o,Q]at this;cases this;exact S
 have le:d.heap.objs.size<=(d.heap.push<|revObj t<|(Yy.toArray.size:Int)-1).objs.size:=by show _<=(d.heap.objs.push _).size;rw[JH];lia
 exact⟨.ref _,_,f.laid (YU:=YX) (m:=.lst YA.reverse) (λn m c=>da n m (cZ<|bM c)<|s n m c) le (show _/\∃Yy k,bS YA.reverse Yy/\_ from ⟨by rw[qf];exact N,l.toList,O,P,by simpa using c⟩),rfl,p _<|f.a4.fresh le⟩
@[simp] def sm(J:az (List bw)):az aj:=λy=>(J y).bind λq=>(eF q.2 q.1).bind λI=>match I with
 |[.lst f]=>Z (.lst f.reverse,q.2)
 |_=>Y
def R7{J:az (List bw)}(h:dE b "list")(i:b.aI "list" = Y)(k:dE b "reversed")(l:b.aI "reversed" = Y)(d:fJ b [g] J)(Ys:bH [g] b.env=[(au,b0 g b.env)]:=by rfl)(n:b.calm=aa:=by rfl):
  cI b (.Call (.Name "list" Y6) [.Call (.Name "reversed" q) [g] [] YD] [] r) (sm J):=by
 refine eW (Xq n h i k l d Ys) λC j B o=>?_;let⟨y,N,s,@YN,X,ah,u,p⟩:=o;let⟨@⟨YG,Yv⟩,z,E⟩:=bC.mp u;let⟨@I,w,e⟩:=bC.mp E;refine⟨y,N,YG,Yv,X,ah,z,λYl Yx YI G f A D=>?_⟩;have F:=A.read f w;split at e
 ·cases e;let⟨@v,rfl,⟨W,q,@x,rfl,YK,YR,W⟩⟩:=hx F;refine⟨q,x,rfl,de.of YK,λt aR=>?_⟩;have a:bZ Yx (upd Yx t<|.lst x.reverse):=(bZ.refl Yx).upd aR;exact p _ _ YI [t] (f.mono a.tupS λg W m c=>a g m c) ⟨t,_,rfl,e8,(YR.mono a.tupS.tup).rev,rfl⟩ (D.new a (f9 _ _) (λg d=>by rw[cX.mp d];exact aR) f.chg)
 ·cases e
end
end L2
namespace L2
@[simp] def iP:gi:=λg d=>match g,d with
 |.im (.tup I),.im u=>if (V.bo 8 u&&V.cQ 8 I)=aa/\I.length<=100000 then (lE I u).map λ(r:Nat)=>aj.im (.int (r:Int)) else Y
 |_,_=>Y
end L2
namespace G
open L2
variable{r:List (Int×Int)}{Y9 B O C Y_ Zf Y4 A:Option aj}{v:Int}{N Yz:List cF}{d u n:aC}{c:cF}{YH:Type}{q p:aC->aC}{f:V}{Yr:List aC}{e:aj}{w:Nat}
def yq:az aj:=((aw iP (af 1)<|af 0))
def EK:bB:=((cV<|b3 iy<|aq (ae<|b3 oU<|aq (ae<|fN 1 [0] (gO<|af 1) (b5 0) fD G.yq) aD) aD))
def rR:dn:=(dG 2 2 [0,1] EK)
def Lf:bB:=((i7 (f3 5)<|kN 3 (aw bx (af 0)<|af 4) pz))
def FE:bB:=((a_ (bP 2<|b_ 2 G.rR<|aq (af 0)<|aq (af 1) aD)<|a_ (bP 3 DX)<|a_ (hz (nh<|aq (af 2)<|aq (ae<|b_ 2 G.tx<|aq (ae<|b3 e7<|aq (af 0) aD)<|aq (af 2) aD) aD) (fl 2<|dW (b5 4)<|dW (b5 5) g6) G.Lf)<|cV<|f3 3))
def rK:dn:=(dG 2 6 [0,1] FE)
def yt:az aj:=((aw bx (af 1)<|ae<|aw fT (ae<|aw cD (af 2)<|ae<|aw fR (af 3)<|af 0)<|ae<|b3 e7<|aq (af 1) aD))
def HY:bB:=((a_ (bP 4<|aw iP (af 0)<|af 1)<|cV<|fN 1 [0,4,2] (oi<|aq (ae<|aA<|.int 1)<|aq (ae<|aw cD (af 3)<|ae<|aA<|.int 1) aD) (b5 0) fD G.yt))
def so:dn:=(dG 4 5 [0,1,2,3] HY)
def Bg:bB:=((a_ (bP 3<|b_ 4 G.so<|aq (af 0)<|aq (af 1)<|aq (ae<|aA<|.int<|-1)<|aq (ae<|aw bx (af 2)<|ae<|aA<|.int 0) aD)<|a_ (bP 4<|b_ 4 G.so<|aq (af 0)<|aq (af 1)<|aq (ae<|aA<|.int 1)<|aq (ae<|aw bx (af 2)<|ae<|aA<|.int 1) aD)<|a_ (bP 5<|ou (cb<|aw l0 (ae<|aw bx (af 2)<|ae<|aA<|.int 0)<|ae<|aw bx (af 2)<|ae<|aA<|.int 1) (f3 3)<|f3 4)<|a_ (bP 6<|ou (cb<|aw l0 (ae<|aw bx (af 2)<|ae<|aA<|.int 0)<|ae<|aw bx (af 2)<|ae<|aA<|.int 1) (f3 4)<|f3 3)<|a_ (bP 7<|aw cD (ae<|dO<|aq (af 1) aD)<|af 5)<|cV<|b3 iy<|aq (ae<|aw cD (ae<|aw cD (af 7)<|ae<|sm<|aq (ae<|ie (af 7) jA<|j3<|hn<|aA<|.int 1) aD)<|af 6) aD))
def zg:dn:=(dG 3 8 [0,1,2] Bg)
def yD(Yp:dt):az aj:=((b_ 3 G.zg<|aq (af 1)<|aq (af 0)<|aq (ae<|aw bx (af 2)<|af 0) aD))
def K_(Yp:dt):bB:=((a_ (bP 3<|b_ 2 (G.n2 Yp)<|aq (af 0)<|aq (af 1) aD)<|a_ (bP 4<|b_ 2 G.rK<|aq (af 3)<|aq (af 2) aD)<|cV<|b3 iy<|aq (ae<|fN 1 [3,4] (gO<|af 2) (b5 0) fD<|G.yD Yp) aD))
def rB(Yp:dt):dn:=(dG 3 5 [0,1,2] (K_ Yp))
def uB:bB:=((a_ (i7 (b_ 2 G.nr<|aq (af 0)<|aq (af 4) aD)<|fl 2<|dW (b5 6)<|dW (b5 7) g6)<|a_ (i7 (b_ 2 G.nr<|aq (af 0)<|aq (ae<|dO<|aq (ae<|d6<|aq (ae<|aA<|.int 2)<|aq (ae<|aA<|.int 0) aD)<|aq (ae<|d6<|aq (ae<|aA<|.int 0)<|aq (ae<|aA<|.int 2) aD)<|aq (ae<|d6<|aq (ae<|hn<|aA<|.int 2)<|aq (ae<|aA<|.int 0) aD)<|aq (ae<|d6<|aq (ae<|aA<|.int 0)<|aq (ae<|hn<|aA<|.int 2) aD) aD) aD)<|fl 2<|dW (b5 8)<|dW (b5 9) g6)<|a_ (bP 10<|d6<|aq (ae<|aw cD (af 6)<|af 8)<|aq (ae<|aw cD (af 7)<|af 9) aD)<|dT (iH (cb<|aw p4 (ae<|b3 t6<|aq (af 10) aD)<|ae<|aA<|.int 0)<|iH (cb<|aw i_ (ae<|b3 rX<|aq (af 10) aD)<|ae<|aA<|.int 30)<|cb<|aw lP (af 10)<|af 4) (h4<|gG hD 4 hu<|aq (af 10) aD) eM))
def FV:bB:=((a_ (n5 2 3<|aq (ae<|b_ 2 G.nr<|aq (af 0)<|aq (ae<|dO<|aq (ae<|aA<|.int 0)<|aq (ae<|aA<|.int 1)<|aq (ae<|aA<|.int 4) aD) aD)<|aq (ae<|b_ 2 G.nr<|aq (af 0)<|aq (ae<|dO<|aq (ae<|aA<|.int 0)<|aq (ae<|aA<|.int 1)<|aq (ae<|aA<|.int 3) aD) aD) aD)<|a_ (bP 4<|dO<|aq (ae<|d6<|aq (ae<|aw cD (af 2)<|ae<|aw fR (ae<|aA<|.int 2)<|ae<|b_ 2 G.kh<|aq (af 0)<|aq (ae<|aA<|.int 4) aD)<|aq (ae<|aw cD (af 3)<|ae<|aw fR (ae<|aA<|.int 2)<|ae<|b_ 2 G.kh<|aq (af 0)<|aq (ae<|aA<|.int 4) aD) aD) aD)<|a_ (hz (kd<|aq (ae<|b_ 2 G.kh<|aq (af 0)<|aq (af 1) aD) aD) (b5 5) G.uB)<|cV<|b3 hA<|aq (af 4) aD))
def uL:dn:=(dG 2 11 [0,1] FV)
def tO:bB:=((a_ (h4<|gG hD 1 sP<|aq (ae<|dO<|aq (ae<|d6<|aq (af 2)<|aq (af 3) aD)<|aq (ae<|d6<|aq (af 2)<|aq (ae<|aw cD (af 3)<|ae<|aA<|.int 1) aD) aD) aD)<|h4<|gG hD 1 sP<|aq (ae<|dO<|aq (ae<|d6<|aq (ae<|aw cD (af 2)<|ae<|aA<|.int 1)<|aq (af 3) aD)<|aq (ae<|d6<|aq (ae<|aw cD (af 2)<|ae<|aA<|.int 1)<|aq (ae<|aw cD (af 3)<|ae<|aA<|.int 1) aD) aD) aD))
def Gv:bB:=((a_ (bP 1<|dO aD)<|a_ (hz (gO<|af 0) (fl 2<|dW (b5 2)<|dW (b5 3) g6) G.tO)<|cV<|b3 iy<|aq (ae<|b3 hA<|aq (af 1) aD) aD))
def xh:dn:=(dG 1 4 [0] Gv)
def BU:bB:=((dT (cb<|aw k8 (af 5)<|af 1) (h4<|gG hD 2 hu<|aq (ae<|d6<|aq (ae<|d6<|aq (af 3)<|aq (af 4) aD)<|aq (af 5) aD) aD) eM))
def si:bB:=((hz (gO<|ae<|d6<|aq (ae<|d6<|aq (af 3)<|aq (ae<|aw cD (af 4)<|ae<|aA<|.int 2) aD)<|aq (ae<|d6<|aq (ae<|aw cD (af 3)<|ae<|aA<|.int 2)<|aq (af 4) aD) aD) (b5 5) G.BU))
def EJ:az aj:=((d6<|aq (af 0)<|aq (af 0) aD))
def tQ:bB:=((dT (cb<|aw gP (ae<|aw bx (af 6)<|af 11)<|af 9) (i7 (f3 10)<|kN 6 (f3 11) pz) eM))
def DT:az Bool:=((cb<|aw i3 (af 2)<|ae<|dO aD))
def v8:bB:=((a_ (i7 (gG hD 2 nq<|aq (ae<|b_ 2 G.kh<|aq (af 0)<|aq (ae<|b3 e7<|aq (af 2) aD) aD) aD)<|fl 2<|dW (b5 8)<|dW (b5 5) g6)<|a_ (n5 9 10<|aq (ae<|aw bx (af 6)<|af 8)<|aq (ae<|aw bx (af 6)<|af 5) aD)<|dT (cb<|aw i3 (af 9)<|af 10) (a_ (h4<|gG hD 7 hu<|aq (ae<|d6<|aq (af 8)<|aq (af 5) aD) aD)<|hz (gO<|af 1) (b5 11) G.tQ) eM))
def FQ:bB:=((a_ (bP 2<|dO aD)<|a_ (zN 1 (fl 2<|dW (b5 3)<|dW (b5 4) g6) G.si)<|a_ (bP 6<|b3 tG<|aq (ae<|fN 1 [] (gO<|af 1) (b5 0) fD G.EJ) aD)<|a_ (bP 7<|dO aD)<|a_ (kA G.DT G.v8 1000000)<|cV<|b3 iy<|aq (ae<|b3 hA<|aq (af 7) aD) aD))
def ur:dn:=(dG 2 12 [0,1] FQ)
def wd:bB:=((dT (cb<|aw i3 (af 2)<|ae<|dO aD) (h4<|gG hD 3 hu<|aq (ae<|gG hD 2 nq<|aq (ae<|b_ 2 G.kh<|aq (af 0)<|aq (ae<|b3 e7<|aq (af 2) aD) aD) aD) aD) eM))
def Iq:bB:=((a_ (bP 2<|b3 wR<|aq (af 1) aD)<|a_ (bP 3<|dO aD)<|a_ (hz (kd<|aq (ae<|aw cD (ae<|aA<|.int 1)<|ae<|b_ 2 G.kh<|aq (af 0)<|aq (ae<|b_ 2 G.nr<|aq (af 0)<|aq (ae<|dO<|aq (ae<|aA<|.int 1)<|aq (ae<|aA<|.int 2)<|aq (ae<|aA<|.int 3)<|aq (ae<|aA<|.int 4)<|aq (ae<|aA<|.int 8) aD) aD) aD) aD) (b5 4) G.wd)<|cV<|b3 iy<|aq (ae<|b3 hA<|aq (af 3) aD) aD))
def w9:dn:=(dG 2 5 [0,1] Iq)
abbrev k1(e:aj)(A Y4 Zf:Option aj)(Yr:List aC)(Y_ Zv Zn C O B:Option aj):a6:=[Z e,A,Y4,Zf,Z<|bj Yr,Y_,Zv,Zn,C,O,B]
def LH(Yr:List aC)(m:aC):lP (.im<|ak m) (bj Yr)=Z (.im<|.aB<|!decide (m∈Yr)):=by
 show (h1 (ak m)<|bj Yr).map (λs=>aj.im<|.aB<|!s)=_;rw[CR Yr m];rfl
def PC{Zv Zn:Option aj}(j:fm (w+2) e)(J:nU 40 Yr)(Q:Yr.length<40):
  ∃R a l o p q r,uB (k1 e A Y4 Zf Yr Y_ Zv Zn C O B)=Z (.aU,k1 R A Y4 Zf a Y_ l o p q r)/\fm w R/\nU 40 a/\a.length<=Yr.length+1:=by
 let⟨S,@z,s,t,Yx⟩:=tm (w:=w+1) (x:=Yr.map ak) j (λD=>J.ne<|EF.mp D) (by rw[ba];lia);let⟨@n,v,rfl⟩:=cW.mp t;let⟨T,@E,F,G,YO⟩:=tm (w:=w) (x:=[((2:Int),(0:Int)),(0,2),(-2,0),(0,-2)].map ak) Yx ↥0 ↥0;let⟨@u,hd,rfl⟩:=cW.mp G;have H:u∈sZ:=by
  simp only[bW,gq,e9]at hd;rcases hd with rfl|rfl|rfl|rfl<;>simp[sZ]
 let⟨@ef,rfl⟩:=fq j;let⟨@I,rfl⟩:=fq Yx;let⟨@g,rfl⟩:=fq YO;obtain⟨m,k⟩:∃m:aC,m=(n.1+u.1,n.2+u.2):=⟨_,rfl⟩;obtain⟨y,b⟩:∃y:a6,y=k1 (.lst g) A Y4 Zf Yr Y_ (Z<|ar n.1) (Z<|ar n.2) (Z<|ar u.1) (Z<|ar u.2) (Z<|.im<|ak m):=⟨_,rfl⟩;have YK:cb (aw p4 (ae<|b3 t6<|aq (af 10) aD)<|ae<|aA<|.int 0) y=Z (decide (0<=(if m.2<m.1 then m.2 else m.1)),y):=by
  rw[b];exact fK (bR (aW<|fe (bt rfl rfl) rfl rfl) rfl rfl rfl rfl)
 have YR:cb (aw i_ (ae<|b3 rX<|aq (af 10) aD)<|ae<|aA<|.int 30) y=Z (decide ((if m.2>m.1 then m.2 else m.1)<30),y):=by
  rw[b];exact fK (bR (aW<|fe (bt rfl rfl) rfl rfl) rfl rfl rfl rfl)
 have h:cb (aw lP (af 10)<|af 4) y=Z (!decide (m∈Yr),y):=by
  rw[b];exact fK (cc<|LH Yr m)
 have L:∃M,dT (iH (cb<|aw p4 (ae<|b3 t6<|aq (af 10) aD)<|ae<|aA<|.int 0)<|iH (cb<|aw i_ (ae<|b3 rX<|aq (af 10) aD)<|ae<|aA<|.int 30)<|cb<|aw lP (af 10)<|af 4) (h4<|gG hD 4 hu<|aq (af 10) aD) eM y=Z (.aU,M)/\∃a,M=k1 (.lst g) A Y4 Zf a Y_ (Z<|ar n.1) (Z<|ar n.2) (Z<|ar u.1) (Z<|ar u.2) (Z<|.im<|ak m)/\nU 40 a/\a.length<=Yr.length+1:=by
  by_cases d:0<=(if m.2<m.1 then m.2 else m.1)
  ·rw[dx d]at YK;by_cases f:(if m.2>m.1 then m.2 else m.1)<30
   ·rw[dx f]at YR;by_cases i:m∈Yr
    ·rw[dx i]at h;exact⟨y,gD (oq YK<|oq YR h) rfl,Yr,b,J,⋯⟩
    ·rw[dC i]at h;refine⟨_,kj (oq YK<|oq YR h) (by rw[b];exact lL (j_ rfl rfl rfl rfl rfl (A9 ⋯) rfl)),Yr++[m],rfl,?_,by rw[c6];exact bp _⟩;rw[k]at i d f ⊢;exact J.add v H i ⋯ (by dsimp only at d f;split at d<;>split at f<;>lia)
   ·rw[dC f]at YR;exact⟨y,gD (oq YK<|yr YR) rfl,Yr,b,J,⋯⟩
  ·rw[dC d]at YK;exact⟨y,gD (yr YK) rfl,Yr,b,J,⋯⟩
 let⟨@W,c,⟨@a,rfl,N,P⟩⟩:=L;refine⟨.lst g,a,Z<|ar n.1,Z<|ar n.2,Z<|ar u.1,Z<|ar u.2,Z<|.im<|ak m,?_,YO,N,P⟩;unfold uB;refine bT (Yv:=k1 (.lst I) A Y4 Zf Yr Y_ (Z<|ar n.1) (Z<|ar n.2) C O B) (oa (dp (YG:=[.aZ 0,.aZ 4]) rfl rfl rfl s rfl) rfl) ?_;refine bT (Yv:=k1 (.lst g) A Y4 Zf Yr Y_ (Z<|ar n.1) (Z<|ar n.2) (Z<|ar u.1) (Z<|ar u.2) B) (oa (dp (YG:=[.aZ 0,.cp<|.lst<|[((2:Int),(0:Int)),(0,2),(-2,0),(0,-2)].map ak]) rfl rfl rfl F rfl) rfl) ?_;exact bT (Yv:=y) (by rw[b,k];rfl) c
def C_{g d n:Int}(e:f∈[V.int g,.int d,.int n]):∃a,f=.int a/\(a=g\/a=d\/a=n):=by
 simp only[bW,gq,e9]at e;rcases e with rfl|rfl|rfl
 ·exact⟨_,rfl,.inl rfl⟩
 ·exact⟨_,rfl,.inr<|.inl rfl⟩
 ·exact⟨_,rfl,.inr<|.inr rfl⟩
def Ub(j:fm (w+1000) e):∃R Yr,uL [e,ar 24]=Z (bj Yr,[R,ar 24])/\fm w R/\jz Yr/\eL Yr/\Yr.length<=24:=by
 let⟨cd,@z,I,S,Yx⟩:=tm (w:=w+999) (x:=[.int 0,.int 1,.int 4]) j ↥0 ↥0;let⟨@i,rfl,bG⟩:=C_ S;let⟨ce,@E,U,al,YO⟩:=tm (w:=w+998) (x:=[.int 0,.int 1,.int 3]) Yx ↥0 ↥0;let⟨@L,rfl,ch⟩:=C_ al;let⟨n,@ci,am,cl,co,o⟩:=oN (w:=w+997) (k:=4) YO ⋯ ⋯;let⟨r,@cr,an,Y2,Y8,s⟩:=oN (w:=w+996) (k:=4) o ⋯ ⋯;let⟨t,@u,ap,cs,db,F⟩:=oN (w:=w+995) (k:=24) s ⋯ ⋯;obtain⟨g,l⟩:∃g:aC,g=(i+2*n,L+2*r):=⟨_,rfl⟩;have as:nU 40 [g]:=⟨by simp,by simp,by simp,λd b=>by rw[cX.mp b,l];dsimp only;lia,λg l d b=>by rw[cX.mp b,cX.mp l];exact⟨by simp,by simp⟩,λq W g l d b=>by rw[cX.mp b,cX.mp l]⟩;let⟨@YN,a1,⟨a2,Yr,Y_,Zv,Zn,C,O,@B,rfl,m,J,G⟩⟩:=B9 (YT:=b5 5) (d:=uB) (x:=fV 0 t.toNat) (λa y=>∃e Yr Y_ Zv Zn C O B,y=k1 e (Z<|ar 24) (Z<|ar i) (Z<|ar L) Yr Y_ Zv Zn C O B/\fm (w+995-2*a) e/\nU 40 Yr/\Yr.length<=a+1) (y:=k1 u (Z<|ar 24) (Z<|ar i) (Z<|ar L) [g] Y Y Y Y Y Y) ⟨u,[g],Y,Y,Y,Y,Y,Y,rfl,F,as,bp _⟩
  (λa f y bd be=>by
   let⟨e,Yr,Y_,Zv,Zn,C,O,@B,rfl,bi,J,G⟩:=be;have T:a<t.toNat:=(x6 bd).1;let⟨R,bm,ds,dL,eq,ev,@ex,c,P,bn,fd⟩:=PC (w:=w+995-2*(a+1)) (A:=Z (ar 24)) (Y4:=Z (ar i)) (Zf:=Z (ar L)) (Y_:=Z (.im f)) (Zv:=Zv) (Zn:=Zn) (C:=C) (O:=O) (B:=B) (bi.mono ⋯) J ⋯;exact⟨_,.aU,_,rfl,c,.inl rfl,R,bm,_,_,_,_,_,_,rfl,P,bn,⋯⟩)
 rw[Hd]at m G;let⟨@h,YZ,Q,N⟩:=Bx J.ah ⋯;refine⟨a2,h,?_,m.mono ⋯,⟨λD=>?_,YZ.nodup_iff.mpr J.ah,by rw[YZ.length_eq];lia,λd b=>J.pn d<|YZ.mem_iff.mp b,λg l d b=>J.par g (YZ.mem_iff.mp l) d<|YZ.mem_iff.mp b,λq bs g l d b=>J.con q (λg l d b=>bs g (YZ.mem_iff.mpr l) d<|YZ.mem_iff.mpr b) g (YZ.mem_iff.mp l) d<|YZ.mem_iff.mp b⟩,N,by rw[YZ.length_eq];lia⟩
 ·let⟨@p,rfl⟩:=fq j;let⟨@fn,rfl⟩:=fq Yx;let⟨@H,rfl⟩:=fq YO;let⟨@fr,rfl⟩:=fq o;let⟨@bv,rfl⟩:=fq s;let⟨@f0,rfl⟩:=fq F;let⟨@ca,rfl⟩:=fq m;have mk:∀v:Int,iM 2 v=aa:=λv=>nc ∅ ∅;unfold uL FV;refine e3 (y:=k1 (.lst ca) (Z<|ar 24) (Z<|ar i) (Z<|ar L) Yr Y_ Zv Zn C O B) rfl ?_ rfl;refine bT (Yv:=[Z (.lst H),Z<|ar 24,Z<|ar i,Z<|ar L,Y,Y,Y,Y,Y,Y,Y]) (xO (M:=[Z (.lst H),Z<|ar 24,Y,Y,Y,Y,Y,Y,Y,Y,Y]) (c9 (dP<|dp (YG:=[.aZ 0,.cp<|.lst [.int 0,.int 1,.int 4]]) rfl rfl rfl I rfl)<|c9 (dP<|dp (YG:=[.aZ 0,.cp<|.lst [.int 0,.int 1,.int 3]]) rfl rfl rfl U rfl) rfl) rfl (ed rfl) (ed rfl) rfl) ?_;refine bT (Yv:=k1 (.lst bv) (Z<|ar 24) (Z<|ar i) (Z<|ar L) [g] Y Y Y Y Y Y) (jD (Ik (c9 (dP<|Hn (c9 (dP<|ij rfl (dP<|ij rfl (dP<|dp (YG:=[.aZ 0,.cp<|ar 4]) rfl rfl rfl am rfl) rfl rfl<|hG<|mk n) rfl rfl rfl)<|c9 (dP<|ij rfl (dP<|ij rfl (dP<|dp (YG:=[.aZ 0,.cp<|ar 4]) rfl rfl rfl an rfl) rfl rfl<|hG<|mk r) rfl rfl rfl) rfl) rfl (fC rfl) rfl) rfl) rfl (fC rfl) rfl) (ed rfl) (by rw[l];rfl)) ?_;exact bT (kl (sG (c9 (dP<|dp (YG:=[.aZ 0,.aZ 1]) rfl rfl rfl ap rfl) rfl) rfl ⟨⋯,⋯⟩) a1 rfl) (eE<|yj rfl Q)
 ·subst D;have:=YZ.length_eq;have z:=jg.mpr J.ne;rw[ik]at this;lia
def Tn(e:n∈Yr):j1 (dh Yr p) (c4 n) (ak u)=dh Yr (λd=>if d=n then u else p d):=by
 have a:((dh Yr p).any λb=>decide (b.1=c4 n))=aa:=pa.mpr ⟨(c4 n,ak<|p n),cW.mpr ⟨n,e,rfl⟩,dx rfl⟩;unfold j1;rw[aE a];unfold dh;rw[eP];refine kH λd W=>?_;show (if c4 d=c4 n then (c4 d,ak u) else (c4 d,ak<|p d))=(c4 d,ak<|if d=n then u else p d);by_cases D:d=n
 ·rw[aE (congrArg c4 D),aE D]
 ·rw[aH λl=>D<|oc l,aH D]
def XC(e:∀d∈Yr,q d=p d):dh Yr q=dh Yr p:=kH λd a=>by rw[e d a]
def AV{n u:Prop}[Decidable n][Decidable u]{g d:YH}(e:n↔u):(if n then g else d)=if u then g else d:=by
 by_cases D:n
 ·rw[aE D,aE<|e.mp D]
 ·rw[aH D,aH λl=>D<|e.mpr l]
def jP(v L:aC)(p:aC->aC)(n:aC):aC->aC:=(λd=>if d=n/\p n=v then L else p d)
theorem Ei{v L:aC}(ne:L≠v):∀(a:List aC) (p:aC->aC) (d:aC),a.foldl (jP v L) p d=if d∈a/\p d=v then L else p d
 |[],p,d=>by rw[aH λD=>nomatch D.1];rfl
 |n::a,p,d=>by
  rw[mj,Ei ne a];by_cases D:d=n
  ·subst D;by_cases l:p d=v
   ·have c:jP v L p d d=L:=aE ⟨rfl,l⟩;rw[c,aH λH=>ne H.2,aE ⟨.head _,l⟩]
   ·have c:jP v L p d d=p d:=aH λH=>l H.2;rw[c,aH λH=>l H.2,aH λH=>l H.2]
  ·have c:jP v L p n d=p d:=aH λH=>D H.1;rw[c];refine AV ?_;rw[bW];exact⟨λH=>⟨.inr H.1,H.2⟩,λH=>⟨H.1.resolve_left D,H.2⟩⟩
def VW(e:n∈Yr)(a:Yr.length<=1000):pz (.bN<|dh Yr p) (.im<|ak n) (.im<|ak u)=Z (.bN<|dh Yr<|λd=>if d=n then u else p d):=by
 rw[<-Tn e];exact aE ⟨rfl,by unfold dh;rw[ba];lia⟩
def pk(d:aC):List aC:=([d,(d.1,d.2+1),(d.1+1,d.2),(d.1+1,d.2+1)])
def FK{f H:List aC}(e:f.length+H.length<=100000):sP (bj f) [bj H]=Z (.im .aV,bj<|f++H):=by
 show _=Z (aj.im .aV,aj.lst<|(f++H).map ak);rw[eX];exact aE (by rw[ba,ba];exact e)
theorem Eo:∀(Yr a:List aC) (b Y4 Zf:Option aj),a.length+4*Yr.length<=1000->∃Y6 c,dX (fl 2<|dW (b5 2)<|dW (b5 3) g6) tO (Yr.map ak) [b,Z<|bj a,Y4,Zf]=Z (.aU,[b,Z<|bj<|a++Yr.flatMap pk,Y6,c])
 |[],a,b,Y4,Zf,_=>⟨Y4,Zf,by rw[Bv,cA];rfl⟩
 |d::Yr,a,b,Y4,Zf,e=>by
  rw[c8]at e;let⟨Y6,@c,f⟩:=Eo Yr (a++pk d) b (Z<|ar d.1) (Z<|ar d.2) (by rw[c6];show _+4+_<=_;lia);refine⟨Y6,c,?_⟩;rw[cy,dX];show (tO [b,Z<|bj a,Z<|ar d.1,Z<|ar d.2]).bind _=_;have g:tO [b,Z<|bj a,Z<|ar d.1,Z<|ar d.2]=Z (.aU,[b,Z<|bj<|a++pk d,Z<|ar d.1,Z<|ar d.2]):=by
   unfold tO;refine bT (Yv:=[b,Z<|bj<|a++[d,(d.1,d.2+1)],Z<|ar d.1,Z<|ar d.2]) (lL (j_ rfl rfl (bt (aW (u:=bj [d,(d.1,d.2+1)]) rfl) rfl) rfl rfl (FK (by show _+2<=_;lia)) rfl)) ?_;rw[show a++pk d=a++[d,(d.1,d.2+1)]++[(d.1+1,d.2),(d.1+1,d.2+1)] by rw[bq];rfl];exact lL (j_ rfl rfl (bt (aW (u:=bj [(d.1+1,d.2),(d.1+1,d.2+1)]) rfl) rfl) rfl rfl (FK (by rw[c6];show _+2+2<=_;lia)) rfl)
  rw[g,jE,<-bq];exact f
theorem MP(d:aC):(pk d).Perm (hX d):=(List.Perm.refl _).cons d |>.trans (.cons _<|.cons _<|List.Perm.swap _ _ [])
theorem JL:∀Yr:List aC,(Yr.flatMap pk).Perm (cells Yr)
 |[]=>.refl _
 |d::Yr=>by
  rw[jE];exact (MP d).append (JL Yr)
def L_(Zb:jz Yr):∃aJ,xh [bj Yr]=Z (aK aJ,[bj Yr])/\aJ.Perm (cells Yr)/\eL aJ:=by
 have c:=Zb.len;have cu:=sl Yr;have hQ:=JL Yr;let⟨Y6,@b,a⟩:=Eo Yr [] (Z .ek) Y Y (by rw[ik];lia);rw[ih]at a;let⟨@aJ,YZ,Q,N⟩:=Bx (hQ.nodup_iff.mpr Zb.zM) (by rw[hQ.length_eq];lia);refine⟨aJ,?_,YZ.trans hQ,N⟩;unfold xh Gv;exact e3 (y:=[Z (bj Yr),Z<|bj<|Yr.flatMap pk,Y6,b]) rfl (bT (Yv:=[Z (bj Yr),Z<|bj [],Y,Y]) rfl<|bT (kl (m:=Z (0,bj Yr)) (Yv:=[Z .ek,Z<|bj [],Y,Y]) rfl a rfl)<|eE<|pl<|yj rfl Q) rfl
abbrev fs(e:aj)(Yr:List aC)(Yz:List cF)(Zf Y9 Y_ Zv Zn C O B Zj:Option aj):a6:=[Z e,Z<|bj Yr,Z<|dY Yz,Zf,Y9,Y_,Zv,Zn,C,O,B,Zj]
section
variable{e:aj}{Yr:List aC}{Zf Y9 Y_ Zv Zn C O B Zj:Option aj}
def Gl(a:Yz.length<100000):hu (dY Yz) [.im (cN c)]=Z (.im .aV,dY<|Yz++[c]):=by
 have:hu (dY Yz) [.im (cN c)]=Z (.im .aV,.lst<|Yz.map cN++[cN c]):=wz (by rw[ba];exact a);rw[this,dY,eX];rfl
def U0(Yr:List aC)(m:aC):k8 (.im<|ak m) (bj Yr)=Z (.im<|.aB<|decide (m∈Yr)):=by
 show (h1 (ak m)<|bj Yr).map (λs=>aj.im<|.aB s)=_;rw[CR Yr m];rfl
def DV{m:aC}(a:Yz.length<1000):BU (fs e Yr Yz (Z<|ar d.1) (Z<|ar d.2) (Z<|.im<|ak m) Zv Zn C O B Zj)=Z (.aU,fs e Yr (Yz++if m∈Yr then [(d,m)] else []) (Z<|ar d.1) (Z<|ar d.2) (Z<|.im<|ak m) Zv Zn C O B Zj):=by
 have o:cb (aw k8 (af 5)<|af 1) (fs e Yr Yz (Z<|ar d.1) (Z<|ar d.2) (Z<|.im<|ak m) Zv Zn C O B Zj)=Z (decide (m∈Yr),fs e Yr Yz (Z<|ar d.1) (Z<|ar d.2) (Z<|.im<|ak m) Zv Zn C O B Zj):=fK (cc<|U0 Yr m);unfold BU;by_cases D:m∈Yr
 ·rw[dx D]at o;rw[aE D];exact kj o (lL (j_ rfl rfl (bt (aW (u:=.im (cN (d,m))) rfl) rfl) rfl rfl (Gl ⋯) rfl))
 ·rw[dC D]at o;rw[aH D,cA];exact gD o rfl
def N5(Yr:List aC)(d:aC):jM Yr d=(if (d.1,d.2+2)∈Yr then [(d,(d.1,d.2+2))] else [])++if (d.1+2,d.2)∈Yr then [(d,(d.1+2,d.2))] else []:=by
 unfold jM;by_cases D:(d.1,d.2+2)∈Yr<;>by_cases l:(d.1+2,d.2)∈Yr<;>simp[D,l]
def MC(a:Yz.length<900):si (fs e Yr Yz (Z<|ar d.1) (Z<|ar d.2) Y_ Zv Zn C O B Zj)=Z (.aU,fs e Yr (Yz++jM Yr d) (Z<|ar d.1) (Z<|ar d.2) (Z<|.im<|ak (d.1+2,d.2)) Zv Zn C O B Zj):=by
 unfold si;refine kl (x:=[ak (d.1,d.2+2),ak (d.1+2,d.2)]) (m:=Y) (Yv:=fs e Yr Yz (Z<|ar d.1) (Z<|ar d.2) Y_ Zv Zn C O B Zj) rfl ?_ rfl;rw[N5,<-bq];exact qg rfl (DV ⋯) (qg rfl (DV (by rw[c6];split<;>simp<;>lia)) rfl)
def C3(m:Option aj)(s:a6):n8 (m::Z (bj Yr)::s) 1 (Yr.map ak)=aa:=by
 unfold n8;simp
theorem Jm:∀(a:List aC) (Yz:List cF) (Zf Y9 Y_:Option aj),Yz.length+2*a.length<=800->∃b c f,lU 1 (Yr.map ak) (fl 2<|dW (b5 3)<|dW (b5 4) g6) si (a.map ak) (fs e Yr Yz Zf Y9 Y_ Zv Zn C O B Zj)=Z (.aU,fs e Yr (Yz++a.flatMap (jM Yr)) b c f Zv Zn C O B Zj)
 |[],Yz,Zf,Y9,Y_,_=>⟨Zf,Y9,Y_,by
  rw[r_,lU];dsimp only;rw[aE (C3 _ _),Bv,cA]⟩
 |d::a,Yz,Zf,Y9,Y_,g=>by
  rw[c8]at g;have bo:=Eu Yr d;let⟨b,c,@f,h⟩:=Jm a (Yz++jM Yr d) (Z<|ar d.1) (Z<|ar d.2) (Z<|.im<|ak (d.1+2,d.2)) (by rw[c6];lia);refine⟨b,c,f,?_⟩;rw[cy,lU];dsimp only;rw[aE (C3 _ _)];show (si<|fs e Yr Yz (Z<|ar d.1) (Z<|ar d.2) Y_ Zv Zn C O B Zj).bind _=_;rw[MC ⋯,jE,<-bq];exact h
def L5{L v:aC}{a:Option aj}(e:n∈Yr)(b:Yr.length<=1000):tQ [a,A,Y4,Zf,Y9,Y_,Z<|.bN<|dh Yr p,Zn,C,Z<|.im<|ak v,Z<|.im<|ak L,Z<|.im<|ak n]=Z (.aU,[a,A,Y4,Zf,Y9,Y_,Z<|.bN<|dh Yr<|jP v L p n,Zn,C,Z<|.im<|ak v,Z<|.im<|ak L,Z<|.im<|ak n]):=by
 have i:cb (aw gP (ae<|aw bx (af 6)<|af 11)<|af 9) [a,A,Y4,Zf,Y9,Y_,Z<|.bN<|dh Yr p,Zn,C,Z<|.im<|ak v,Z<|.im<|ak L,Z<|.im<|ak n]=Z (decide (p n=v),[a,A,Y4,Zf,Y9,Y_,Z<|.bN<|dh Yr p,Zn,C,Z<|.im<|ak v,Z<|.im<|ak L,Z<|.im<|ak n]):=fK (bR (aW<|cc<|zm p e) rfl rfl rfl<|OF _ _);unfold tQ;by_cases D:p n=v
 ·rw[dx D]at i;have c:jP v L p n=λd=>if d=n then L else p d:=funext λd=>by
   unfold jP;exact AV ⟨λH=>H.1,λH=>⟨H,D⟩⟩
  rw[c];refine kj i (oa rfl ?_);show (pz (.bN<|dh Yr p) (.im<|ak n)<|.im<|ak L).map _=_;rw[VW e b];rfl
 ·rw[dC D]at i;have c:jP v L p n=p:=funext λd=>by
   unfold jP;exact aH λH=>D H.2
  rw[c];exact gD i rfl
theorem Li{L v:aC}{a A Y4:Option aj}(d:Yr.length<=1000):∀(b:List aC) (p:aC->aC) (Zj:Option aj),(∀n∈b,n∈Yr)->∃c,dX (b5 11) tQ (b.map ak) [a,A,Y4,Zf,Y9,Y_,Z<|.bN<|dh Yr p,Zn,C,Z<|.im<|ak v,Z<|.im<|ak L,Zj]=Z (.aU,[a,A,Y4,Zf,Y9,Y_,Z<|.bN<|dh Yr<|b.foldl (jP v L) p,Zn,C,Z<|.im<|ak v,Z<|.im<|ak L,c])
 |[],p,Zj,_=>⟨Zj,rfl⟩
 |n::b,p,Zj,e=>by
  let⟨@c,g⟩:=Li (L:=L) (v:=v) (a:=a) (A:=A) (Y4:=Y4) d b (jP v L p n) (Z<|.im<|ak n) λf h=>e f (.tail _ h);refine⟨c,?_⟩;rw[cy,dX];show (tQ [a,A,Y4,Zf,Y9,Y_,Z<|.bN<|dh Yr p,Zn,C,Z<|.im<|ak v,Z<|.im<|ak L,Z<|.im<|ak n]).bind _=_;rw[L5 (e n<|.head _) d];exact g
end
def Qb(a:0<=v)(Zi:v<(N.length:Int))(b:N[v.toNat]?=Z c):nq (dY N) [ar v]=Z (.im<|cN c,dY<|N.eraseIdx v.toNat):=by
 have d:(N.map cN)[v.toNat]?=Z (cN c):=by rw[ea,b];rfl
 show (if 0<=v/\v<((N.map cN).length:Int) then _ else Y)=_;rw[aE ⟨a,by rw[ba];exact Zi⟩,d,Ao cN N v.toNat];rfl
def LA{I:List cF}{Zj:Option aj}(Zb:jz Yr)(j:fm (w+1) e)(Yo:kB Yr N I q)(x:N≠[]):
  ∃R h i n E F J M P,v8 (fs e Yr N Zf Y9 Y_ (Z<|.bN<|dh Yr q) (Z<|dY I) C O B Zj)=Z (.aU,fs R Yr h Zf Y9 E (Z<|.bN<|dh Yr n) (Z<|dY i) F J M P)/\fm w R/\kB Yr h i n/\h.length<N.length:=by
 have am:=jg.mpr x;have an:=Yo.len;have aB:=Zb.len;let⟨v,@z,Q,T,Zi,Yx⟩:=oN (w:=w) (k:=(N.length:Int)) j (by omega) (by omega);obtain⟨c,b⟩:∃c,N[v.toNat]?=Z c:=⟨N[v.toNat]'(by omega),by simp⟩;let⟨@ef,rfl⟩:=fq j;let⟨@a,rfl⟩:=fq Yx;have o:=Yo.ni c (fL b);have p:(N.eraseIdx v.toNat).length<N.length:=by rw[xj,aE (by omega)];omega
 have r:i7 (gG hD 2 nq<|aq (ae<|b_ 2 G.kh<|aq (af 0)<|aq (ae<|b3 e7<|aq (af 2) aD) aD) aD) (fl 2<|dW (b5 8)<|dW (b5 5) g6) (fs (.lst ef) Yr N Zf Y9 Y_ (Z<|.bN<|dh Yr q) (Z<|dY I) C O B Zj)=Z (.aU,fs (.lst a) Yr (N.eraseIdx v.toNat) Zf Y9 (Z<|.im<|ak c.2) (Z<|.bN<|dh Yr q) (Z<|dY I) (Z<|.im<|ak c.1) O B Zj):=
  oa (j_ rfl rfl (c9 (dP<|dp (YG:=[.aZ 0,.cp<|ar (N.length:Int)]) (c9 rfl<|c9 (dP<|wi (c9 rfl rfl) rfl<|MG N) rfl) rfl rfl Q rfl) rfl) rfl rfl (Qb T Zi b) rfl) rfl;obtain⟨y,f⟩:∃y:a6,y=fs (.lst a) Yr (N.eraseIdx v.toNat) Zf Y9 (Z<|.im<|ak c.2) (Z<|.bN<|dh Yr q) (Z<|dY I) (Z<|.im<|ak c.1) (Z<|.im<|ak<|q c.1) (Z<|.im<|ak<|q c.2) Zj:=⟨_,rfl⟩;have s:n5 9 10 (aq (ae<|aw bx (af 6)<|af 8)<|aq (ae<|aw bx (af 6)<|af 5) aD) (fs (.lst a) Yr (N.eraseIdx v.toNat) Zf Y9 (Z<|.im<|ak c.2) (Z<|.bN<|dh Yr q) (Z<|dY I) (Z<|.im<|ak c.1) O B Zj)=Z (.aU,y):=by
  rw[f];exact xO (bt (aW<|cc<|zm q o.1)<|bt (aW<|cc<|zm q o.2.1) rfl) rfl (ed rfl) (ed rfl) rfl
 have g:cb (aw i3 (af 9)<|af 10) y=Z (!decide (q c.1=q c.2),y):=by
  rw[f];exact fK (cc<|QD _ _)
 unfold v8;by_cases D:q c.1=q c.2
 ·rw[dx D]at g;exact⟨.lst a,_,I,q,Z<|.im<|ak c.2,Z<|.im<|ak c.1,Z<|.im<|ak<|q c.1,Z<|.im<|ak<|q c.2,Zj,bT r (bT s (gD g (by rw[f];rfl))),Yx,Yo.drop b D,p⟩
 ·rw[dC D]at g;let⟨@U,t⟩:=Li (Yr:=Yr) (L:=q c.2) (v:=q c.1) (a:=Z (.lst a)) (A:=Z .ek) (Y4:=Z (dY<|N.eraseIdx v.toNat)) (Zf:=Zf) (Y9:=Y9) (Y_:=Z (.im<|ak c.2)) (Zn:=Z (dY<|I++[c])) (C:=Z (.im<|ak c.1)) (by omega) Yr q Zj λ_ e=>e;have YW:dh Yr (Yr.foldl (jP (q c.1)<|q c.2) q)=dh Yr λd=>if q d=q c.1 then q c.2 else q d:=XC λd al=>by
   rw[Ei λl=>D l.symm];exact AV ⟨λH=>H.2,λH=>⟨al,H⟩⟩
  rw[YW]at t;refine⟨.lst a,_,I++[c],_,Z<|.im<|ak c.2,Z<|.im<|ak c.1,Z<|.im<|ak<|q c.1,Z<|.im<|ak<|q c.2,U,bT r<|bT s<|kj g ?_,Yx,Yo.take b D,p⟩;rw[f];exact bT (lL (j_ rfl rfl (bt (aW (u:=.im (cN c)) rfl) rfl) rfl rfl (Gl (by omega)) rfl)) (kl (m:=Z (1,bj Yr)) rfl t rfl)
def O8(N:List cF):i3 (dY N) (.lst [])=Z (.im<|.aB<|!decide (N=[])):=by
 show (if (V.cQ 8 (N.map cN)&&V.cQ 8 [])=aa then Z (aj.im<|.aB<|!eU (N.map cN) []) else Y)=_;rw[Ab,aE<|show (aa&&V.cQ 8 [])=aa from rfl];cases N<;>rfl
def Vf(Zb:jz Yr)(j:fm (w+100) e):∃(R:aj) (U I:List cF) (q:aC->aC),ur [e,bj Yr]=Z (.im<|.tup<|U.map cN,[R,bj Yr])/\fm w R/\U.Perm I/\kX Yr I q/\∀c,h_ Yr c->q c.1=q c.2:=by
 have aB:=Zb.len;have bo:(jY Yr).length<=2*Yr.length:=Ee Yr Yr;have H:kB Yr (jY Yr) [] (λd=>d):=⟨.nil,by rw[ih];exact Tp Zb.ah,by rw[ik];lia,λc u=>CG.mp u,λc u=>.inl<|CG.mpr u⟩;let⟨@ef,rfl⟩:=fq j;let⟨b,f,@r,v⟩:=Jm (e:=.lst ef) (Yr:=Yr) (Zv:=Y) (Zn:=Y) (C:=Y) (O:=Y) (B:=Y) (Zj:=Y) Yr [] Y Y Y (by rw[ik];lia);rw[ih]at v;have J:fN 1 [] (gO<|af 1) (b5 0) fD G.EJ (fs (.lst ef) Yr (jY Yr) b f r Y Y Y Y Y Y)=Z (.lst<|Yr.map λd=>.tup [ak d,ak d],fs (.lst ef) Yr (jY Yr) b f r Y Y Y Y Y Y):=
  kM (x:=Yr.map ak) (m:=Z (1,bj Yr)) rfl (l4 _ (λn=>.tup [ak n,ak n]) _ (λn be=>⟨[Z (.im<|ak n)],_,[Z (.im<|ak n)],rfl,rfl,rfl,rfl⟩) ⋯) rfl;let⟨@YN,lw,⟨R,I,q,g,h,l,o,@p,rfl,P,s⟩⟩:=x7 (n:=DT) (d:=v8) (λk y=>∃e N I q g h l o p,y=fs e Yr N b f g (Z<|.bN<|dh Yr q) (Z<|dY I) h l o p/\fm (w+N.length) e/\kB Yr N I q/\N.length<=k) (λy=>∃e I q g h l o p,y=fs e Yr [] b f g (Z<|.bN<|dh Yr q) (Z<|dY I) h l o p/\fm w e/\kB Yr [] I q)
  (λk y L=>by
   let⟨e,N,I,q,g,h,l,o,@p,rfl,z,A,bi⟩:=L;refine⟨!decide (N=[]),_,fK<|cc<|O8 N,λi=>?_,λi=>?_⟩
   ·have D:N≠[]:=by simpa using i
    let⟨R,E,M,Q,T,al,am,an,@ap,c,P,s,t⟩:=LA (w:=w+(N.length-1)) (Zf:=b) (Y9:=f) (Y_:=g) (C:=h) (O:=l) (B:=o) (Zj:=p) Zb (z.mono (by have:=jg.mpr D;lia)) A D;exact⟨.aU,_,c,.inl rfl,E.length,⋯,R,E,M,Q,T,al,am,an,ap,rfl,P.mono ⋯,s,bp _⟩
   ·have:N=[]:=by simpa using i
    subst this;exact⟨e,I,q,g,h,l,o,p,rfl,z,A⟩) 1000000 (jY Yr).length (fs (.lst ef) Yr (jY Yr) b f r (Z<|.bN<|dh Yr λd=>d) (Z<|dY []) Y Y Y Y) ⟨.lst ef,jY Yr,[],_,r,Y,Y,Y,Y,rfl,j.mono ⋯,H,bp _⟩ ⋯
 have F:=s.ah;have as:=s.len;rw[cA]at F;rw[ik]at as;let⟨@U,a1,a2⟩:=RP (y:=fs R Yr [] b f g (Z<|.bN<|dh Yr q) (Z<|dY I) h l o p) (a:=7) F ⋯ rfl;refine⟨R,U,I,q,?_,P,a1,s.i4,λc u=>(s.Bu c u).resolve_left ↥0⟩;let⟨@bd,rfl⟩:=fq P;unfold ur FQ;refine e3 (y:=fs (.lst bd) Yr [] b f g (Z<|.bN<|dh Yr q) (Z<|dY I) h l o p) rfl ?_ rfl;refine bT (Yv:=fs (.lst ef) Yr [] Y Y Y Y Y Y Y Y Y) rfl (bT (Yv:=fs (.lst ef) Yr (jY Yr) b f r Y Y Y Y Y Y) v ?_);exact bT (d9 (Qe (q:=λd=>d) Zb.ah ⋯ J) (ed rfl) rfl) (bT (Yv:=fs (.lst ef) Yr (jY Yr) b f r (Z<|.bN<|dh Yr λd=>d) (Z<|dY []) Y Y Y Y) rfl<|bT lw<|eE<|pl a2)
def Qm{N:List aC}{c:aC}(a:0<=v)(Zi:v<(N.length:Int))(b:N[v.toNat]?=Z c):nq (bj N) [ar v]=Z (.im<|ak c,bj<|N.eraseIdx v.toNat):=by
 have d:(N.map ak)[v.toNat]?=Z (ak c):=by rw[ea,b];rfl
 show (if 0<=v/\v<((N.map ak).length:Int) then _ else Y)=_;rw[aE ⟨a,by rw[ba];exact Zi⟩,d,Ao ak N v.toNat];rfl
def Q1(N:List aC):i3 (bj N) (.lst [])=Z (.im<|.aB<|!decide (N=[])):=by
 show (if (V.cQ 8 (N.map ak)&&V.cQ 8 [])=aa then Z (aj.im<|.aB<|!eU (N.map ak) []) else Y)=_;rw[n6,aE<|show (aa&&V.cQ 8 [])=aa from rfl];cases N<;>rfl
abbrev nS(e:aj)(aJ ej X:List aC)(Y9:Option aj):a6:=[Z e,Z<|aK aJ,Z<|bj ej,Z<|bj X,Y9]
def QL{aJ ej X:List aC}(j:fm (w+1) e)(ah:(X++ej).Nodup)(q:ej.length<=1000)(aZ:X.length<=1000)(sub:∀n∈X++ej,n∈aJ):
  ∃R b a,wd (nS e aJ ej X Y9)=Z (.aU,nS R aJ b a Y9)/\fm w R/\(a++b).Nodup/\(∀n∈a++b,n∈aJ)/\b.length<=ej.length/\X.length<=a.length/\a.length<=X.length+1/\(ej≠[]->a.length=X.length+1):=by
 have o:cb (aw i3 (af 2)<|ae<|dO aD) (nS e aJ ej X Y9)=Z (!decide (ej=[]),nS e aJ ej X Y9):=fK (cc<|Q1 ej);unfold wd;by_cases D:ej=[]
 ·rw[dx D]at o;exact⟨e,ej,X,gD o rfl,j.mono ⋯,ah,sub,bp _,bp _,⋯,λl=>absurd D l⟩
 ·rw[dC D]at o;have r:=jg.mpr D;let⟨v,@z,d,g,Zi,Yx⟩:=oN (w:=w) (k:=(ej.length:Int)) j ⋯ ⋯;obtain⟨n,c⟩:∃n,ej[v.toNat]?=Z n:=⟨ej[v.toNat]'⋯,by simp⟩;let⟨@h,i⟩:=eA.mp c;let⟨@ef,rfl⟩:=fq j;let⟨@m,rfl⟩:=fq Yx;have YZ:(X++[n]++ej.eraseIdx v.toNat).Perm (X++ej):=by
   rw[bq];refine d1 X ?_;rw[<-i];exact pq h
  refine⟨.lst m,ej.eraseIdx v.toNat,X++[n],kj o ?_,Yx,YZ.nodup_iff.mpr ah,λf p=>sub f<|YZ.mem_iff.mp p,?_,?_,?_,λ_=>?_⟩
  ·exact lL (j_ rfl rfl (c9 (dP<|j_ rfl rfl (c9 (dP<|dp (YG:=[.aZ 0,.cp<|ar (ej.length:Int)]) (c9 rfl<|c9 (dP<|wi (c9 rfl rfl) rfl<|EB ej) rfl) rfl rfl d rfl) rfl) rfl rfl (Qm g Zi c) rfl) rfl) rfl rfl (A9 ⋯) rfl)
  ·rw[xj];split<;>lia
  ·rw[c6];lia
  ·rw[c6];exact bp _
  ·rw[c6];rfl
def Vd(e:f∈[V.int 1,.int 2,.int 3,.int 4,.int 8]):∃a,f=.int a/\0<a/\a<=8:=by
 simp only[bW,gq,e9]at e;rcases e with rfl|rfl|rfl|rfl|rfl<;>exact⟨_,rfl,by decide,by decide⟩
def Xi{aJ:List aC}(j:fm (w+20) e)(ne:aJ≠[])(ah:aJ.Nodup)(m:aJ.length<=1000):∃R b,w9 [e,aK aJ]=Z (aK b,[R,aK aJ])/\fm w R/\b≠[]/\b.Nodup/\b.length<=8/\∀n∈b,n∈aJ:=by
 let⟨al,@z,o,q,Yx⟩:=tm (w:=w+19) (x:=[.int 1,.int 2,.int 3,.int 4,.int 8]) j ↥0 ↥0;let⟨@k,rfl,r,cm⟩:=Vd q;let⟨v,@E,s,am,Zi,YO⟩:=oN (w:=w+18) (k:=k) Yx r ⋯;let⟨@YN,t,⟨u,ej,b,@Y9,rfl,l,A,B,an,C,g⟩⟩:=B9 (YT:=b5 4) (d:=wd) (x:=fV 0 (1+v).toNat) (λa y=>∃e ej X Y9,y=nS e aJ ej X Y9/\fm (w+18-a) e/\(X++ej).Nodup/\(∀n∈X++ej,n∈aJ)/\ej.length<=1000/\X.length<=a/\((a=0/\ej≠[])\/0<X.length)) (y:=nS E aJ aJ [] Y) ⟨E,aJ,[],Y,rfl,YO,ah,λ_ e=>e,m,bp _,.inl ⟨rfl,ne⟩⟩
  (λa f y F G=>by
   let⟨e,ej,X,@Y9,rfl,H,ah,sub,I,aZ,g⟩:=G;have T:a<(1+v).toNat:=(x6 F).1;let⟨R,J,@L,c,P,M,O,ap,aL,cY,i⟩:=QL (w:=w+18-(a+1)) (Y9:=Z (.im f)) (H.mono ⋯) ah I ⋯ sub;refine⟨_,.aU,_,rfl,c,.inl rfl,R,J,L,_,rfl,P,M,O,⋯,⋯,.inr ?_⟩;rcases g with ⟨_,D⟩|D
   ·rw[i D];lia
   ·lia)
 rw[Hd]at l C g;have YP:=(d0.mp A).1;let⟨@h,YZ,Q,N⟩:=Bx YP ⋯;have YL:0<b.length:=g.resolve_left λD=>⋯
 refine⟨u,h,?_,l.mono ⋯,λD=>?_,YZ.nodup_iff.mpr YP,by rw[YZ.length_eq];lia,λn S=>B n<|gd _<|YZ.mem_iff.mp S⟩
 ·let⟨@p,rfl⟩:=fq j;let⟨@as,rfl⟩:=fq Yx;let⟨@a1,rfl⟩:=fq YO;let⟨@U,rfl⟩:=fq l;unfold w9 Iq;refine e3 (y:=nS (.lst U) aJ ej b Y9) rfl ?_ rfl;refine bT (Yv:=[Z (.lst p),Z<|aK aJ,Z<|bj aJ,Y,Y]) rfl (bT (Yv:=nS (.lst p) aJ aJ [] Y) rfl (bT (kl (sG (c9 (dP<|ij rfl (dP<|dp (YG:=[.aZ 0,.cp<|ar k]) (c9 rfl<|c9 (dP<|dp (YG:=[.aZ 0,.cp<|.lst [.int 1,.int 2,.int 3,.int 4,.int 8]]) rfl rfl rfl o rfl) rfl) rfl rfl s rfl) rfl rfl rfl) rfl) rfl ⟨⋯,⋯⟩) t rfl)<|eE<|pl<|yj rfl Q))
 ·subst D;have:=YZ.length_eq;rw[ik]at this;lia
abbrev HU(d:Bool):aj:=.im (.aB d)
abbrev Bt(e:aj)(A:Option aj)(a b c eR d:Int)(Yp:List (Int×Int))(C O f g h i:Option aj):a6:=[Z e,A,Z<|ar a,Z<|ar b,Z<|ar c,Z<|ar eR,Z<|ar d,Z<|.bN<|ir Yp,C,O,f,g,h,i]
def iS(r:List (Int×Int)):Prop:=(r.Pairwise λg d=>bu (ak g) (ak d)=aa)
def CD{Yp:List (Int×Int)}(ah:Yp.Nodup)(a:Yp.length<=1000):∃r:List (Int×Int),gC bu (Yp.map ak)=r.map ak/\r.Perm Yp/\iS r:=by
 have m:=rM ah a;let⟨@r,z,E⟩:=FO (kf<|Yp.map ak);refine⟨r,E,z,?_⟩;have:=tA m.ord.ah m.ord.ke;rw[E]at this;exact qS.mp this
abbrev vL:=Int×Int
def rb(I:List V):Bool:=((I.zip<|I.drop 1).all λq=>bu q.1 q.2)
theorem Eh{YH:Type}(F:YH->Bool):∀x:List YH,ox (x.map λs=>.aB<|F s)=Z (x.map F)
 |[]=>rfl
 |f::s=>by rw[cy,ox,Eh F s];rfl
def US(F:YH->Bool)(x:List YH):rS [.lst (x.map λs=>.aB<|F s)]=Z (HU<|x.all F):=by
 show (ox _).map _=_;rw[Eh,r1,zC];rfl
def I1(g d:Int×Int):eN 6 (ak g) (ak d)=aa:=rfl
def n8:V->Bool
 |.int a=>decide (0<=a)&&decide (a<31)
 |_=>au
def WX{g d n:Int×Int}(z:bu (ak g) (ak d)=aa)(E:bu (ak d) (ak n)=aa):bu (ak g) (ak n)=aa:=se (I1 g d) (I1 d n) z E
theorem I8:∀{r:List (Int×Int)},rb (r.map ak)=aa->iS r
 |[],_=>List.Pairwise.nil
 |[g],_=>f9 _ _
 |g::d::s,e=>by
  have R:(bu (ak g) (ak d)&&rb ((d::s).map ak))=aa:=e;rw[cU]at R;have b:=I8 R.2;refine gN.mpr ⟨λn a=>?_,b⟩;rcases bW.mp a with rfl|a
  ·exact R.1
  ·exact WX R.1 ((gN.mp b).1 n a)
theorem Gr:∀{r:List (Int×Int)},iS r->rb (r.map ak)=aa
 |[],_=>rfl
 |[g],_=>rfl
 |g::d::s,e=>by
  have R:=gN.mp e;show (bu (ak g) (ak d)&&rb ((d::s).map ak))=aa;rw[R.1 d (.head _),Gr R.2];rfl
def Ro(e:iS r):r.Nodup:=e.imp λ{g d} c D=>by rw[D,xm]at c;cases c
def F2(r:List (Int×Int)):∃a:List (Int×Int),fp (r.map c4)=a.map c4/\a.Nodup/\∀n,n∈a↔n∈r:=by
 have b:=λf=>RG (Yp:=r.map c4) (f:=f);have ah:=Is (r.map c4);have S:∀t:List (List V),(∀f∈t,f∈r.map c4)->t=(t.map λf=>n0<|.tup f).map c4:=λt=>by
  induction t with
  |nil=>intro W;rfl
  |cons f t h=>
   intro e;let⟨@n,W,rfl⟩:=cW.mp (e f<|.head _);rw[cy,cy,<-h λH i=>e H<|.tail _ i];rfl
 have c:=S _ λf j=>(b f).mp j;refine⟨_,c,?_,λn=>?_⟩
 ·rw[c]at ah;exact (qS.mp ah).imp λ{g d} e D=>e (by rw[D])
 ·have z:c4 n∈fp (r.map c4)↔c4 n∈r.map c4:=b (c4 n);rw[c]at z;have E:∀t:List (Int×Int),c4 n∈t.map c4↔n∈t:=λt=>by
   constructor
   ·intro e;let⟨@u,hd,k⟩:=cW.mp e;rw[<-oc k];exact hd
   ·exact λe=>rH e
  rw[E,E]at z;exact z
theorem Bw:∀r:List (Int×Int),V.keys 8 (r.map ak)=aa
 |[]=>rfl
 |n::s=>by rw[cy,V.keys,Bw s];rfl
def Oq(l:r.length<=290):tI (r.map c4)=aa/\tq ((fp<|r.map c4).map .tup)=aa/\eU (r.map ak) (gC bu<|(fp<|r.map c4).map .tup)=rb (r.map ak)/\V.cQ 8 (gC bu<|(fp<|r.map c4).map .tup)=aa:=by
 let⟨@a,c,ah,b⟩:=F2 r;have p:a.length<=r.length:=vE ah λf h=>(b f).mp h;have i:(a.map c4).map V.tup=a.map ak:=by rw[eP];rfl
 let⟨@Q,d,q,j⟩:=CD ah ⋯;rw[c,i,d];refine⟨As.mpr ⟨λo k=>?_,by rw[c,ba];lia⟩,qC.mpr (rM ah ⋯),?_,n6 Q⟩
 ·let⟨@n,W,rfl⟩:=cW.mp k;exact zx n
 ·rw[BF (Bw r) (Bw Q)];cases e:rb (r.map ak) with
  |true=>
   have g:=I8 e;have YZ:r.Perm a:=(Az (Ro g) ah).mpr λn=>(b n).symm;have m:=rM ah ⋯;have:=JF m.ord (YZ.map ak) (qS.mpr g);rw[d]at this;exact dx this
  |false=>
   refine dC λD=>?_;have:=Gr j;rw[<-D,e]at this;cases this
def SS(Yz:List vL)(n:vL):h1 (ak n) (aK Yz)=Z (decide (n∈Yz)):=by
 rw[Ii,rz,n6,Fl];rfl
def VF(t:List vL)(n:vL):k8 (.im<|ak n) (aK t)=Z (HU<|decide (n∈t)):=by
 show (h1 (ak n)<|aK t).map (λs=>aj.im<|.aB s)=_;rw[SS];rfl
end G
namespace dk
def l1{YH:Type}:List YH->List YH
 |[]=>[]
 |[g]=>[g]
 |g::_::s=>g::l1 s
open Spec PyProof.Rows
end dk
namespace L2
open Spec PyProof.Rows
end L2
namespace G
open L2
variable{p:aC->Int×Int}{Yp:dt}{f a:Int}{h n:aC}{YG:List bw}{J:az (List bw)}{Yv y:a6}{Yz:List (Int×Int)}{YL:List Int}{q:Int×Int}{N:List (aC×Int×Int)}{b l:List aC}
theorem BP{YH:Type}[DecidableEq YH]:∀{t k:List YH},t.Nodup->(∀f∈t,f∈k)->t.length<=k.length
 |[],_,_,_=>g0 _
 |f::t,k,ah,e=>by
  have aU:=g5.mp ah;have:=BP (k:=k.erase f) aU.2 λH a=>(xv (λc=>aU.1 (by rw[<-c];exact a))).mpr (e H<|.tail _ a);have c:=K2 (e f<|.head _);have q:=JS (e f<|.head _);rw[c8];lia
theorem I9:∀{l:List aC}{r:Nat}{n:aC},l.Nodup->l[r]?=Z n->lE (l.map ak) (ak n)=Z r
 |[],r,n,_,e=>by simp at e
 |g::l,0,n,_,e=>by
  cases e;rw[cy,lE,kZ,aE<|dx rfl]
 |g::l,r+1,n,ah,e=>by
  have a:n∈l:=fL e;have ne:¬ g=n:=λc=>(g5.mp ah).1 (c ▸ a);rw[cy,lE,kZ,dC ne,aH ∅,I9 (g5.mp ah).2 e];rfl
structure bY(l:List aC):Prop where
 ah:l.Nodup
 len:l.length<=200
 pos:0<l.length
def bY.idx(Ym:bY l){r:Nat}{n:aC}(e:l[r]?=Z n):iP (aK l) (.im<|ak n)=Z (ar (r:Int)):=by
 have a:=Ym.len;show (if (V.bo 8 (ak n)&&V.cQ 8 (l.map ak))=aa/\(l.map ak).length<=100000 then (lE (l.map ak)<|ak n).map λ(r:Nat)=>aj.im (.int (r:Int)) else Y)=_;rw[aE ⟨by rw[rz,n6];rfl,by rw[ba];lia⟩,I9 Ym.ah e];rfl
def b7(l:List aC)(a:Int):aC:=(l.getD (a%(l.length:Int)).toNat (0,0))
def bY.mod(Ym:bY l)(a:Int):0<=a%(l.length:Int)/\a%(l.length:Int)<(l.length:Int):=by
 have:=Ym.pos;exact⟨l_ _ ⋯,nV _ ⋯⟩
def bY.get(Ym:bY l)(a:Int):l[(a%(l.length:Int)).toNat]?=Z (b7 l a):=by
 have:=Ym.mod a;unfold b7;rw[cG,dz (by omega)];rfl
def bY.a8(Ym:bY l)(a:Int):bx (aK l) (ar<|a%(l.length:Int))=Z (.im<|ak<|b7 l a):=by
 show (dN (l.map ak)<|a%(l.length:Int)).map aj.im=_;rw[m4 (Ym.mod a).1 (by rw[ea,Ym.get a];rfl)];rfl
def bY.small(b:0<=a)(z:a<(l.length:Int)):a%(l.length:Int)=a:=ry b z
def NL{a8:aC->Int}(Ym:bY l)(ah:b.Nodup)(aZ:b.length<=8)(a:∀n∈b,0<=a8 n/\a8 n<(l.length:Int)/\l[(a8 n).toNat]?=Z n):rR [aK l,aK b]=Z (bV<|fc<|b.map a8,[aK l,aK b]):=by
 have e:(b.map a8).Nodup:=nv ah λg f d h c=>by
  have z:=(a g f).2.2;rw[c,(a d h).2.2]at z;exact (Option.some.inj z).symm
 have i:fN 1 [0] (gO<|af 1) (b5 0) fD yq [Z (aK l),Z<|aK b]=Z (bU<|b.map a8,[Z (aK l),Z<|aK b]):=by
  have:=l4 (own:=1) (YT:=b5 0) (n:=fD) (c:=yq) (aP:=[Z (aK l)]) ak (λn=>.int<|a8 n) b (λn j=>by
   let@⟨g,d,c⟩:=a n j;have p:=Ym.idx c;rw[show (((a8 n).toNat:Nat):Int)=a8 n by lia]at p;exact⟨[Z (.im<|ak n),Z<|aK l],_,[Z (.im<|ak n),Z<|aK l],rfl,rfl,cc p,rfl⟩) ⋯
  refine (kM (x:=b.map ak) (m:=Y) (Yv:=[Z (aK l),Z<|aK b]) rfl this rfl).trans ?_;rw[bU,eP];rfl
 have k:oU [bU (b.map a8)]=Z (bU<|fc<|b.map a8):=by
  show (k5<|(b.map a8).map .int).bind _=_;rw[ES];show (if (b.map a8).Nodup/\(b.map a8).length<=1000 then _ else _)=_;rw[aE ⟨e,by rw[ba];lia⟩,xn]
 unfold rR EK;exact e3 rfl (eE<|pl<|fe (bt (aW i) rfl) rfl k) rfl
abbrev eb(q:Int×Int):V:=.tup [.int q.1,.int q.2]
def fW(N:List (aC×Int×Int)):List (List V×V):=(N.map λp=>(c4 p.1,eb p.2))
def Mh(e:∀p∈N,p.1≠n)(d:N.length<=100):pz (.bN<|fW N) (.im<|ak n) (.im<|eb q)=Z (.bN<|fW<|N++[(n,q)]):=by
 have c:j1 (fW N) (c4 n) (eb q)=fW (N++[(n,q)]):=by
  unfold j1;rw[aH]
  ·unfold fW;rw[eX];rfl
  ·intro D;let⟨@f,a,c⟩:=pa.mp D;let⟨@p,b,rfl⟩:=cW.mp a;exact e p b (oc<|gf c)
 rw[<-c];exact aE ⟨rfl,by unfold fW;rw[ba];lia⟩
theorem FW{l:List aC}(Ym:bY l){A Y4:Option aj}:∀(a:List ew) (N:List (aC×Int×Int)) (Y9 Y_:Option aj),(∀p∈a,0<=p.1/\p.1<(l.length:Int))->(N.map (·.1)++a.map λp=>b7 l p.1).Nodup->N.length+a.length<=100->
  ∃d e,dX (fl 2<|dW (b5 4)<|dW (b5 5) g6) Lf (a.map λp=>.tup [.int p.1,eb p.2]) [Z (aK l),A,Y4,Z<|.bN<|fW N,Y9,Y_]=Z (.aU,[Z (aK l),A,Y4,Z<|.bN<|fW<|N++a.map λp=>(b7 l p.1,p.2),d,e])
 |[],N,Y9,Y_,_,_,_=>⟨Y9,Y_,by rw[r_,r_,cA];rfl⟩
 |p::a,N,Y9,Y_,g,ah,j=>by
  rw[c8]at j;have h:=g p (.head _);let⟨d,e,i⟩:=FW Ym a (N++[(b7 l p.1,p.2)]) (Z<|ar p.1) (Z<|.im<|eb p.2) (λf b=>g f<|.tail _ b) (by rw[eX,bq];exact ah) (by rw[c6];show _+1+_<=_;lia);refine⟨d,e,?_⟩;rw[cy];rw[bq]at i;refine qg (Yv:=[Z (aK l),A,Y4,Z<|.bN<|fW N,Z<|ar p.1,Z<|.im<|eb p.2]) rfl (oa rfl ?_) i;have b:=Ym.a8 p.1;rw[bY.small h.1 h.2]at b;have k:=Mh (N:=N) (n:=b7 l p.1) (q:=p.2) (λf b c=>(d0.mp ah).2.2 f.1 (cW.mpr ⟨f,b,rfl⟩) _ (.head _) c) ⋯;have o:aw bx (af 0) (af 4) [Z (aK l),A,Y4,Z<|.bN<|fW N,Z<|ar p.1,Z<|.im<|eb p.2]=Z (.im<|ak<|b7 l p.1,[Z (aK l),A,Y4,Z<|.bN<|fW N,Z<|ar p.1,Z<|.im<|eb p.2]):=cc b;exact LK rfl o rfl rfl k rfl
def yW(Ym:bY l){x:List Int}(ah:x.Nodup)(e:∀f∈x,0<=f/\f<(l.length:Int)):(x.map<|b7 l).Nodup:=nv ah λg a d b c=>by
 have Zp:=Ym.get g;have Zk:=Ym.get d;rw[bY.small (e g a).1 (e g a).2]at Zp;rw[bY.small (e d b).1 (e d b).2,<-c]at Zk;have v:=e g a;have A:=e d b;have:=(J7 ⋯ Ym.ah).mp (Zp.trans Zk.symm);lia
theorem Le:∀(h:List Int) (Yz:List (Int×Int)),eg (h.map .int) (Yz.map eb)=(h.zip Yz).map λp=>.tup [.int p.1,eb p.2]
 |[],Yz=>rfl
 |f::h,[]=>rfl
 |f::h,q::Yz=>by
  rw[cy,cy,eg,Le h Yz];rfl
def LW(Ym:bY l)(B:o8 (l.length:Int) YL)(i:Yz.length=YL.length)(a:rR [aK l,aK b]=Z (bV YL,[aK l,aK b]))(c:tx [ar (l.length:Int),bV YL]=Z (t7 Yz,[ar (l.length:Int),bV YL])):
  rK [aK l,aK b]=Z (.bN<|fW<|(YL.zip Yz).map λp=>(b7 l p.1,p.2),[aK l,aK b]):=by
 have i0:=B.i0;have d:(YL.zip Yz).map (λp=>b7 l p.1)=YL.map (b7 l):=by
  rw[show (λp:ew=>b7 l p.1)=b7 l ∘ (λp:ew=>p.1) from rfl,<-eP,show (YL.zip Yz).map (λp:ew=>p.1)=YL from HM ⋯]
 let⟨f,@g,G⟩:=FW Ym (A:=Z (aK b)) (Y4:=Z (bV YL)) (YL.zip Yz) [] Y Y (λp h=>B.nx p.1 (pY h).1) (by
  rw[r_,ih,d];exact yW Ym (B.up.imp λe=>Int.ne_of_lt e) B.nx) (by rw[ik,ll];lia)
 rw[ih]at G;unfold rK FE;refine e3 (y:=[Z (aK l),Z<|aK b,Z<|bV YL,Z .ek,f,g]) rfl ?_ rfl;refine bT (Yv:=[Z (aK l),Z<|aK b,Z<|bV YL,Y,Y,Y]) (d9 (dp (YG:=[.aZ 0,.aZ 1]) rfl rfl rfl a rfl) (ed rfl) rfl) ?_;refine bT (Yv:=[Z (aK l),Z<|aK b,Z<|bV YL,Z<|.bN [],Y,Y]) rfl ?_;refine bT (kl (x:=(YL.zip Yz).map λp=>.tup [.int p.1,eb p.2]) (m:=Y) (Yv:=[Z (aK l),Z<|aK b,Z<|bV YL,Z<|.bN [],Y,Y]) ?_ G rfl) (eE rfl);rw[<-Le];exact uG (bt rfl<|bt (aW<|dp (YG:=[.cp (ar (l.length:Int)),.aZ 2]) (bt (aW<|fe (bt rfl rfl) rfl<|lO l)<|bt rfl rfl) rfl rfl c rfl) rfl) rfl
def Wl(ah:(N.map (·.1)).Nodup)(e:(n,q)∈N):bx (.bN<|fW N) (.im<|ak n)=Z (.im<|eb q):=by
 have J:fS (fW N) (c4 n)=Z (eb q):=by
  induction N with
  |nil=>cases e
  |cons p N a=>
   rw[cy,g5]at ah;unfold fW fS;rw[cy,jd];by_cases D:p.1=n
   ·have:decide (c4 p.1=c4 n)=aa:=dx (by rw[D]);rcases bW.mp e with c|c
    ·rw[<-c]at this ⊢;rw[this];rfl
    ·exact absurd (cW.mpr ⟨_,c,rfl⟩) (D ▸ ah.1)
   ·have:decide (c4 p.1=c4 n)=au:=dC λl=>D (oc l);rw[this];exact a ah.2 ((bW.mp e).resolve_left λc=>D (by rw[<-c]))
 show (if V.keys 7 (c4 n)=aa then (fS (fW N)<|c4 n).map aj.im else Y)=_;rw[aE (zx n),J];rfl
def Gi{r:Int}{x:List V}(b:J y=Z (YG,Yv))(c:eF Yv YG=Z [.im (.int a),.im<|.int r])(z:small a)(E:small r)(o:fV a (r-a).toNat=x):oi J y=Z ((x,Y),Yv):=by
 unfold oi;rw[b];show (eF Yv YG).bind _=_;rw[c];show (if small a/\small r then _ else _)=_;rw[aE ⟨z,E⟩,o]
def Ax{g d:List aC}(e:g.length+d.length<=100000):cD (bj g) (bj d)=Z (bj<|g++d):=by
 rw[show bj (g++d)=.lst (g.map ak++d.map ak) by rw[bj,eX]];exact aE (by rw[ba,ba];exact e)
def Ru(t:List aC):kO (bj t) Y (Z<|-1)=Z (bj t.dropLast):=by
 show Z (aj.lst<|e6 (t.map ak) Y<|Z<|-1)=_;rw[J2,<-List.map_dropLast]
def eR(l:List aC)(f u:Int)(k:Nat):List aC:=((range k).map λ(o:Nat)=>b7 l (f+u*(1+(o:Int))))
def HS{u k:Int}(Ym:bY l)(a:l[f.toNat]?=Z h)(Zm:0<=f)(j:u=1\/u = -1)(g:0<=k)(cm:k<=300):
  so [aK l,.im<|ak h,ar u,ar k]=Z (bj<|eR l f u k.toNat,[aK l,.im<|ak h,ar u,ar k]):=by
 have p:=Ym.idx a;rw[show ((f.toNat:Nat):Int)=f by lia]at p;have i:=Ym.pos;have b:=l4 (own:=1) (YT:=b5 0) (n:=fD) (c:=yt) (aP:=[Z (aK l),Z<|ar f,Z<|ar u]) (λ(o:Nat)=>.int<|1+(o:Int)) (λo=>ak<|b7 l<|f+u*(1+(o:Int))) (range k.toNat) (λo d=>by
  have q:=eT.mp d;have mk:iM u (1+(o:Int))=aa:=by
   rcases j with rfl|rfl
   ·exact nc ∅ ∅
   ·exact nc ∅ ∅
  refine⟨[Z (ar<|1+(o:Int)),Z<|aK l,Z<|ar f,Z<|ar u],_,[Z (ar<|1+(o:Int)),Z<|aK l,Z<|ar f,Z<|ar u],rfl,rfl,?_,rfl⟩;exact bR rfl (aW (bR (aW<|bR rfl (aW<|cc<|hG mk) rfl rfl rfl) (aW<|fe (bt rfl rfl) rfl<|lO l) rfl rfl (jj ⋯))) rfl rfl (Ym.a8 _)) (by rw[gh];lia)
 have e:fN 1 [0,4,2] (oi<|aq (ae<|aA<|.int 1)<|aq (ae<|aw cD (af 3)<|ae<|aA<|.int 1) aD) (b5 0) fD yt [Z (aK l),Z<|.im<|ak h,Z<|ar u,Z<|ar k,Z<|ar f]=Z (bj<|eR l f u k.toNat,[Z (aK l),Z<|.im<|ak h,Z<|ar u,Z<|ar k,Z<|ar f]):=by
  refine (kM (x:=(range k.toNat).map λ(o:Nat)=>.int<|1+(o:Int)) (m:=Y) (Yv:=[Z (aK l),Z<|.im<|ak h,Z<|ar u,Z<|ar k,Z<|ar f]) ?_ b rfl).trans ?_
  ·exact Gi (bt rfl<|bt (aW<|bR rfl rfl rfl rfl rfl) rfl) rfl ⟨by decide,by decide⟩ ⟨⋯,⋯⟩ (by unfold fV;rw[show (k+1-1).toNat=k.toNat by lia])
  ·rw[bj,eR,eP];rfl
 unfold so HY;exact e3 rfl (bT (Yv:=[Z (aK l),Z<|.im<|ak h,Z<|ar u,Z<|ar k,Z<|ar f]) (d9 (cc p) (ed rfl) rfl)<|eE e) rfl
def gw(l:List aC)(h:aC)(f:Int)(q:Int×Int):List aC:=(h::if q.1<=q.2 then eR l f (-1) q.1.toNat else eR l f 1 q.2.toNat)
def iY(l:List aC)(f:Int)(q:Int×Int):List aC:=(if q.1<=q.2 then eR l f 1 q.2.toNat else eR l f (-1) q.1.toNat)
def et(l:List aC)(h:aC)(f:Int)(q:Int×Int):List aC:=(gw l h f q++(gw l h f q).dropLast.reverse++iY l f q)
def t8(l:List aC)(f u:Int)(k:Nat):(eR l f u k).length=k:=by rw[eR,ba,gh]
def Pj{f:List V}(a:J y=Z (YG,Yv))(b:eF Yv YG=Z [.lst f]):sm J y=Z (.lst f.reverse,Yv):=by
 unfold sm;rw[a];show (eF Yv YG).bind _=_;rw[b];rfl
def Rc(hc:0<=q.1)(ef:0<=q.2)(a:q.1+q.2<(l.length:Int))(b:l.length<=200):(gw l h f q).length<=201/\(iY l f q).length<=200/\(gw l h f q).length+(gw l h f q).length+(iY l f q).length<=290+200:=by
 unfold gw iY;rw[c8];split<;>(rw[t8,t8];lia)
def PZ(Ym:bY l)(b:l[f.toNat]?=Z h)(Zm:0<=f)(hc:0<=q.1)(ef:0<=q.2)(m:q.1+q.2<(l.length:Int)):
  zg [aK l,.im<|ak h,.im<|eb q]=Z (aK<|et l h f q,[aK l,.im<|ak h,.im<|eb q]):=by
 have n:=Ym.len;have o:=HS (u := -1) (k:=q.1) Ym b Zm (.inr rfl) hc ⋯;have p:=HS (u:=1) (k:=q.2) Ym b Zm (.inl rfl) ef ⋯;let@⟨v,Zq,w⟩:=Rc (h:=h) (f:=f) hc ef m n;have d:bx (.im<|eb q) (ar 0)=Z (ar q.1):=rfl;have i:bx (.im<|eb q) (ar 1)=Z (ar q.2):=rfl;suffices S:sH Bg [Z (aK l),Z<|.im<|ak h,Z<|.im<|eb q,Y,Y,Y,Y,Y] λs y=>s=aK (et l h f q)/\i6 [0,1,2] [aK l,.im<|ak h,.im<|eb q] y 0=[aK l,.im<|ak h,.im<|eb q] by
  let⟨W,@y,c,rfl,r⟩:=S;exact e3 rfl c r
 unfold Bg;refine o6 (Yv:=[Z (aK l),Z<|.im<|ak h,Z<|.im<|eb q,Z<|bj<|eR l f (-1) q.1.toNat,Y,Y,Y,Y]) (d9 (dp (YG:=[.aZ 0,.aZ 1,.cp<|ar<|-1,.cp<|ar q.1]) (bt rfl<|bt rfl<|bt rfl<|bt (aW<|cc d) rfl) rfl rfl o rfl) (ed rfl) rfl) ?_;refine o6 (Yv:=[Z (aK l),Z<|.im<|ak h,Z<|.im<|eb q,Z<|bj<|eR l f (-1) q.1.toNat,Z<|bj<|eR l f 1 q.2.toNat,Y,Y,Y]) (d9 (dp (YG:=[.aZ 0,.aZ 1,.cp<|ar 1,.cp<|ar q.2]) (bt rfl<|bt rfl<|bt rfl<|bt (aW<|cc i) rfl) rfl rfl p rfl) (ed rfl) rfl) ?_;suffices fin:∀Zf Y9 Y_:Option aj,∀a:List aC,h::a=gw l h f q->sH (a_ (bP 7<|aw cD (ae<|dO<|aq (af 1) aD)<|af 5)<|cV<|b3 iy<|aq (ae<|aw cD (ae<|aw cD (af 7)<|ae<|sm<|aq (ae<|ie (af 7) jA<|j3<|hn<|aA<|.int 1) aD)<|af 6) aD) [Z (aK l),Z<|.im<|ak h,Z<|.im<|eb q,Zf,Y9,Z<|bj a,Z<|bj<|iY l f q,Y] λs y=>s=aK (et l h f q)/\i6 [0,1,2] [aK l,.im<|ak h,.im<|eb q] y 0=[aK l,.im<|ak h,.im<|eb q] by
  have cE:∀Zf Y9 Y_:Option aj,cb (aw l0 (ae<|aw bx (af 2)<|ae<|aA<|.int 0)<|ae<|aw bx (af 2)<|ae<|aA<|.int 1) [Z (aK l),Z<|.im<|ak h,Z<|.im<|eb q,Zf,Y9,Y_,Y,Y]=Z (decide (q.1<=q.2),[Z (aK l),Z<|.im<|ak h,Z<|.im<|eb q,Zf,Y9,Y_,Y,Y]):=λZf Y9 Y_=>fK (bR (aW<|cc d) (aW<|cc i) rfl rfl rfl);by_cases e:q.1<=q.2
  ·simp only[dx e]at cE;refine o6 (Yv:=[Z (aK l),Z<|.im<|ak h,Z<|.im<|eb q,Z .ek,Z<|bj<|eR l f 1 q.2.toNat,Z<|bj<|eR l f (-1) q.1.toNat,Y,Y]) (jD (F7 (cE _ _ _) rfl) (ed rfl) rfl) ?_;refine o6 (Yv:=[Z (aK l),Z<|.im<|ak h,Z<|.im<|eb q,Z .ek,Z .ek,Z<|bj<|eR l f (-1) q.1.toNat,Z<|bj<|iY l f q,Y]) (jD (F7 (cE _ _ _) rfl) (ed rfl) (by rw[iY,aE e];rfl)) ?_;exact fin _ _ Y _ (by rw[gw,aE e])
  ·simp only[dC e]at cE;refine o6 (Yv:=[Z (aK l),Z<|.im<|ak h,Z<|.im<|eb q,Z<|bj<|eR l f (-1) q.1.toNat,Z .ek,Z<|bj<|eR l f 1 q.2.toNat,Y,Y]) (jD (JY (cE _ _ _) rfl) (ed rfl) rfl) ?_;refine o6 (Yv:=[Z (aK l),Z<|.im<|ak h,Z<|.im<|eb q,Z .ek,Z .ek,Z<|bj<|eR l f 1 q.2.toNat,Z<|bj<|iY l f q,Y]) (jD (JY (cE _ _ _) rfl) (ed rfl) (by rw[iY,aH e];rfl)) ?_;exact fin _ _ Y _ (by rw[gw,aH e])
 intro Zf Y9 Y_ a j;have x:a.length+1=(gw l h f q).length:=by rw[<-j];rfl
 refine o6 (Yv:=[Z (aK l),Z<|.im<|ak h,Z<|.im<|eb q,Zf,Y9,Z<|bj a,Z<|bj<|iY l f q,Z<|bj<|gw l h f q]) (d9 (bR (aW (u:=bj [h]) rfl) rfl rfl rfl (by rw[<-j];exact Ax (g:=[h]) (by show 1+_<=_;lia))) (ed rfl) rfl) ?_;have dl:(gw l h f q).dropLast.length<=201:=by rw[rt];lia
 have t:cD (bj<|gw l h f q) (.lst ((gw l h f q).dropLast.map ak).reverse)=Z (bj<|gw l h f q++(gw l h f q).dropLast.reverse):=by
  rw[<-CU];exact Ax (by rw[qf];lia)
 exact Vz (pl (bR (aW<|bR rfl (aW<|Pj (bt (aW<|uD rfl rfl rfl rfl<|Ru _) rfl) rfl) rfl rfl t) rfl rfl rfl (Ax (by rw[c6,qf];lia)))) ⟨rfl,rfl⟩
def O2:n∈et l h f q↔n=h\/n∈eR l f (-1) q.1.toNat\/n∈eR l f 1 q.2.toNat:=by
 have a:n∈(gw l h f q).dropLast->n∈gw l h f q:=λe=>vp _ e;have:n∈et l h f q↔n∈gw l h f q\/n∈iY l f q:=by
  unfold et;rw[eh,eh,List.mem_reverse];exact⟨λe=>e.imp (λe=>e.elim id a) id,λe=>e.imp .inl id⟩
 rw[this];unfold gw iY;rw[bW];split
 ·exact⟨λe=>e.elim (λe=>e.elim .inl λe=>.inr<|.inl e) λe=>.inr<|.inr e,λe=>e.elim (λe=>.inl<|.inl e) λe=>e.elim (λe=>.inl<|.inr e) .inr⟩
 ·exact⟨λe=>e.elim (λe=>e.elim .inl λe=>.inr<|.inr e) λe=>.inr<|.inl e,λe=>e.elim (λe=>.inl<|.inl e) λe=>e.elim .inr λe=>.inl<|.inr e⟩
def QU(hc:0<=q.1)(ef:0<=q.2)(a:q.1+q.2<(l.length:Int))(b:l.length<=160):(et l h f q).length<=290:=by
 unfold et;rw[c6,c6,qf,rt];unfold gw iY;rw[c8];split<;>(rw[t8,t8];lia)
def sq(l:List aC)(a:Int):b7 l (a%(l.length:Int))=b7 l a:=by
 unfold b7;rw[Int.emod_emod_of_dvd _ (Int.dvd_refl _)]
def XH(hc:0<=q.1)(ef:0<=q.2):n∈et l (b7 l f) f q↔n∈(df (l.length:Int) f q).map (b7 l):=by
 rw[O2];unfold eR df;simp only[cW,eT];constructor
 ·rintro (rfl|⟨o,a,rfl⟩|⟨o,a,rfl⟩)
  ·exact⟨_,⟨q.1.toNat,⋯,rfl⟩,by rw[sq];congr 1;lia⟩
  ·exact⟨_,⟨(q.1-1-o).toNat,⋯,rfl⟩,by rw[sq];congr 1;lia⟩
  ·exact⟨_,⟨(q.1+1+o).toNat,⋯,rfl⟩,by rw[sq];congr 1;lia⟩
 ·rintro⟨W,⟨o,a,rfl⟩,rfl⟩;rw[sq];by_cases e:(o:Int)=q.1
  ·exact .inl (by congr 1;lia)
  ·by_cases E:(o:Int)<q.1
   ·exact .inr (.inl ⟨(q.1-1-o).toNat,⋯,by congr 1;lia⟩)
   ·exact .inr (.inr ⟨(o-q.1-1).toNat,⋯,by congr 1;lia⟩)
abbrev lW(t:List aC):V:=.tup (t.map ak)
structure Pb(l b:List aC)(a8:aC->Int)(p:aC->Int×Int)(N:List (aC×Int×Int)):Prop where
 ah:(N.map (·.1)).Nodup
 at_:∀h∈b,l[(a8 h).toNat]?=Z h
 x0:∀h∈b,0<=a8 h
 mem:∀h∈b,(h,p h)∈N
 hc:∀h∈b,0<=(p h).1
 ef:∀h∈b,0<=(p h).2
 sum:∀h∈b,(p h).1+(p h).2<(l.length:Int)
def R4{aJ:List aC}{a:V}{a8:aC->Int}(Ym:bY l)(d:n2 Yp [aK aJ,.im a]=Z (aK l,[aK aJ,.im a]))(e:rK [aK l,aK b]=Z (.bN<|fW N,[aK l,aK b]))(YB:Pb l b a8 p N)(aZ:b.length<=8):
  rB Yp [aK aJ,.im a,aK b]=Z (.im<|.tup<|b.map λh=>lW<|et l h (a8 h)<|p h,[aK aJ,.im a,aK b]):=by
 have f:=l4 (own:=1) (YT:=b5 0) (n:=fD) (c:=yD Yp) (aP:=[Z (aK l),Z<|.bN<|fW N]) ak (λh=>lW<|et l h (a8 h)<|p h) b (λh Ys=>by
  refine⟨[Z (.im<|ak h),Z<|aK l,Z<|.bN<|fW N],_,[Z (.im<|ak h),Z<|aK l,Z<|.bN<|fW N],rfl,rfl,?_,rfl⟩;exact dp (YG:=[.aZ 1,.aZ 0,.cp<|.im<|eb<|p h]) (bt rfl<|bt rfl<|bt (aW<|cc<|Wl YB.ah<|YB.mem h Ys) rfl) rfl rfl (PZ Ym (YB.at_ h Ys) (YB.x0 h Ys) (YB.hc h Ys) (YB.ef h Ys)<|YB.sum h Ys) rfl) ⋯
 have g:fN 1 [3,4] (gO<|af 2) (b5 0) fD (yD Yp) [Z (aK aJ),Z<|.im a,Z<|aK b,Z<|aK l,Z<|.bN<|fW N]=Z (.lst<|b.map λh=>lW<|et l h (a8 h)<|p h,[Z (aK aJ),Z<|.im a,Z<|aK b,Z<|aK l,Z<|.bN<|fW N]):=kM (x:=b.map ak) (m:=Y) (Yv:=[Z (aK aJ),Z<|.im a,Z<|aK b,Z<|aK l,Z<|.bN<|fW N]) rfl f rfl;unfold rB K_;exact e3 rfl (bT (Yv:=[Z (aK aJ),Z<|.im a,Z<|aK b,Z<|aK l,Y]) (d9 (dp (YG:=[.aZ 0,.aZ 1]) rfl rfl rfl d rfl) (ed rfl) rfl)<|bT (Yv:=[Z (aK aJ),Z<|.im a,Z<|aK b,Z<|aK l,Z<|.bN<|fW N]) (d9 (dp (YG:=[.aZ 3,.aZ 2]) rfl rfl rfl e rfl) (ed rfl) rfl)<|eE<|pl g) rfl
def Xc{t:Int}{a8:aC->Int}(Ym:bY l)(B:o8 (l.length:Int) YL)(U:Told (l.length:Int) YL t Yz)(ah:b.Nodup)(Ys:b.length=YL.length)(f:∀h∈b,l[(a8 h).toNat]?=Z h/\0<=a8 h/\(a8 h,p h)∈YL.zip Yz):
  (b.flatMap λh=>(df (l.length:Int) (a8 h)<|p h).map<|b7 l).Perm l:=by
 have s:=U.len;have u:=Ym.pos;have inj:∀g∈b,∀d∈b,a8 g=a8 d->g=d:=λg i d j c=>by
  have z:=(f g i).1;rw[c,(f d j).1]at z;exact (Option.some.inj z).symm
 have o:(b.map λh=>(a8 h,p h)).Perm (YL.zip Yz):=by
  refine vR (nv ah λg i d j c=>inj g i d j<|congrArg Prod.fst c) (λH k=>?_) (by rw[ba,ll];lia);let⟨@h,e,rfl⟩:=cW.mp k;exact (f h e).2.2
 let⟨@n,q⟩:=Cn B U;have r:(b.flatMap λh=>(df (l.length:Int) (a8 h)<|p h).map<|b7 l)=((b.map λh=>(a8 h,p h)).flatMap λH:ew=>df (l.length:Int) H.1 H.2).map (b7 l):=by
  rw[List.map_flatMap,List.flatMap_map]
 rw[r];have Y6:=OS (λH:ew=>df (l.length:Int) H.1 H.2) o;rw[show ((YL.zip Yz).flatMap λH:ew=>df (l.length:Int) H.1 H.2)=iG (l.length:Int) n (l.length:Int).toNat from q]at Y6;refine (Y6.map<|b7 l).trans ?_;have m:0<(l.length:Int):=⋯
 refine vR (yW Ym (Q6 m)<|Up m) (λH k=>?_) (by rw[ba,EY];lia);let⟨@a,W,rfl⟩:=cW.mp k;exact fL (Ym.get a)
theorem KP{YH Zh:Type}(F:YH->List Zh):∀{t:List YH}{g:YH},g∈t->(F g).length<=(t.flatMap F).length
 |d::t,g,e=>by
  rw[jE,c6];rcases bW.mp e with rfl|e
  ·lia
  ·have:=KP F e;lia
def Wf{h:List Int}(e:Yz.length=h.length){f:Int}(b:f∈h):∃q,(f,q)∈h.zip Yz:=by
 let⟨a,T,c⟩:=kF.mp b;refine⟨Yz[a]'⋯,kF.mpr ⟨a,by rw[ll];lia,?_⟩⟩;rw[D1,c]
structure zY(l b:List aC)(a8:aC->Int)(p:aC->Int×Int)(t:Int):Prop where
 R:bY l
 at_:∀h∈b,b7 l (a8 h)=h
 x0:∀h∈b,0<=a8 h/\a8 h<(l.length:Int)
 hc:∀h∈b,0<=(p h).1/\0<=(p h).2/\(p h).1+(p h).2<(l.length:Int)
 most:∀h∈b,dH (p h).1 (p h).2<=t
 mr:∃h∈b,dH (p h).1 (p h).2=t
 parts:(b.flatMap λh=>(df (l.length:Int) (a8 h)<|p h).map<|b7 l).Perm l
def U1(M:qR Yp){Yr aJ b:List aC}{U I:List cF}{q:aC->aC}(Zb:jz Yr)(YZ:aJ.Perm (cells Yr))(N:eL aJ)(x:U.Perm I)(i4:kX Yr I q)(O:∀c,h_ Yr c->q c.1=q c.2)(ne:b≠[])(ah:b.Nodup)(aZ:b.length<=8)(sub:∀n∈b,n∈aJ):
  ∃l a8 p t,zY l b a8 p t/\l.Perm aJ/\l.length<=160/\n2 Yp [aK aJ,.im<|.tup<|U.map cN]=Z (aK l,[aK aJ,.im<|.tup<|U.map cN])/\rB Yp [aK aJ,.im<|.tup<|U.map cN,aK b]=Z (.im<|.tup<|b.map λh=>lW<|et l h (a8 h)<|p h,[aK aJ,.im<|.tup<|U.map cN,aK b])/\
   mF [ar (l.length:Int),bV<|fc<|b.map a8]=Z (ar t,[ar (l.length:Int),bV<|fc<|b.map a8])/\∀h∈b,iP (aK l) (.im<|ak h)=Z (ar<|a8 h):=by
 let⟨@m,P,y⟩:=Gt Zb YZ N;have aB:=Zb.len;have bv:=jg.mpr Zb.ne;have A:∀c∈U,h_ Yr c:=λc R=>i4.Ba c (x.mem_iff.mp R);have aR:aJ.length=4*Yr.length:=by rw[YZ.length_eq,sl]
 have C:=Ng M (U:=U) Zb P y (pE.of A) A aR;have s:(d4 U m<|4*Yr.length).Perm aJ:=by
  have:=(Rj Zb x i4 O y).1.map hQ;rw[VH,eP]at this;exact this.trans YZ.symm
 generalize d4 U m (4*Yr.length)=l at *;have ca:l.length=4*Yr.length:=by rw[s.length_eq,aR]
 have Ym:bY l:=⟨s.nodup_iff.mpr<|YZ.nodup_iff.mpr Zb.zM,⋯,⋯⟩;obtain⟨a8,S⟩:∃a8:aC->Int,a8=λh=>(l.idxOf h:Int):=⟨_,rfl⟩;have i:∀h∈b,0<=a8 h/\a8 h<(l.length:Int)/\l[(a8 h).toNat]?=Z h:=λh Ys=>by
  have al:h∈l:=s.mem_iff.mpr (sub h Ys);have lt:=List.idxOf_lt_length_of_mem al;rw[S];refine⟨⋯,⋯,?_⟩;show l[((l.idxOf h:Nat):Int).toNat]?=_;rw[kY,dz lt,List.getElem_idxOf]
 have am:=NL Ym ah aZ i;have u:(b.map a8).Nodup:=nv ah λg an d ap c=>by
  have z:=(i g an).2.2;rw[c,(i d ap).2.2]at z;exact (Option.some.inj z).symm
 have YL:=wq (b.map a8);have B:o8 (l.length:Int) (fc<|b.map a8):=⟨⋯,⋯,λD=>by
  have:=YL.length_eq;rw[D,ba,ik]at this;have:=jg.mpr ne;lia,Fd u,λf e=>by
  let⟨@h,Ys,rfl⟩:=cW.mp (YL.mem_iff.mp e);exact⟨(i h Ys).1,(i h Ys).2.1⟩,by rw[YL.length_eq,ba];exact aZ⟩
 let⟨t,@Yz,fz,as,j⟩:=Vr B;have E:=j.len;have a1:=LW Ym B E am as;have F:∀h:aC,∃H:Int×Int,h∈b->(a8 h,H)∈(fc<|b.map a8).zip Yz:=λh=>by
  by_cases e:h∈b
  ·let⟨@q,v⟩:=Wf E (YL.mem_iff.mpr<|cW.mpr ⟨h,e,rfl⟩);exact⟨q,λ_=>v⟩
  ·exact⟨(0,0),λD=>absurd D e⟩
 obtain⟨p,k⟩:∃p:aC->Int×Int,∀h,h∈b->(a8 h,p h)∈(fc<|b.map a8).zip Yz:=⟨λh=>(F h).choose,λh=>(F h).choose_spec⟩;have fU:∀h∈b,b7 l (a8 h)=h:=λh Ys=>by
  have:=Ym.get (a8 h);rw[bY.small (i h Ys).1 (i h Ys).2.1,(i h Ys).2.2]at this;exact (Option.some.inj this).symm
 let⟨@n,a2⟩:=Cn B j;have o:∀h∈b,p h∈Yz:=λh Ys=>(pY<|k h Ys).2;have G:∀h∈b,(p h).1+(p h).2<(l.length:Int):=λh Ys=>by
  have:=KP (λH:ew=>df (l.length:Int) H.1 H.2) (k h Ys);rw[show ((fc<|b.map a8).zip Yz).flatMap (λH:ew=>df (l.length:Int) H.1 H.2)=iG (l.length:Int) n (l.length:Int).toNat from a2,EY]at this;rw[show (df (l.length:Int) (a8 h)<|p h).length=((p h).1+(p h).2+1).toNat by rw[df,ba,gh]]at this;lia
 have bd:=Xc Ym B j ah (by rw[YL.length_eq,ba]) λh Ys=>⟨(i h Ys).2.2,(i h Ys).1,k h Ys⟩;refine⟨l,a8,p,t,⟨Ym,fU,λh Ys=>⟨(i h Ys).1,(i h Ys).2.1⟩,λh Ys=>⟨(j.pos _<|o h Ys).1,(j.pos _<|o h Ys).2,G h Ys⟩,λh Ys=>j.most _<|o h Ys,?_,bd⟩,s,⋯,C,?_,fz,λh Ys=>?_⟩
 ·let⟨@cd,v,c⟩:=j.mr;let⟨a,T,be⟩:=kF.mp v;have J:a<(fc<|b.map a8).length:=⋯
  let⟨@h,Ys,Q⟩:=cW.mp (YL.mem_iff.mp<|sN J);refine⟨h,Ys,?_⟩;have z:=k h Ys;let⟨r,bi,w⟩:=kF.mp z;rw[D1]at w;have L:r<(fc<|b.map a8).length:=by rw[ll]at bi;lia
  have ce:r<Yz.length:=⋯
  have bm:(fc<|b.map a8)[r]=(fc<|b.map a8)[a]:=(congrArg Prod.fst w).trans Q;have bn:(fc<|b.map a8).Nodup:=YL.nodup_iff.mpr u;have:r=a:=(J7 L bn).mp (by rw[dz L,dz J,bm]);subst this;have bs:Yz[r]=p h:=congrArg Prod.snd w;rw[<-bs,be];exact c
 ·refine R4 Ym C a1 ⟨?_,λh Ys=>(i h Ys).2.2,λh Ys=>(i h Ys).1,λh Ys=>?_,λh Ys=>(j.pos _<|o h Ys).1,λh Ys=>(j.pos _<|o h Ys).2,G⟩ aZ
  ·rw[eP];show (((fc<|b.map a8).zip Yz).map (λH:ew=>b7 l H.1)).Nodup;rw[show (λH:ew=>b7 l H.1)=b7 l ∘ (λH:ew=>H.1) from rfl,<-eP,show ((fc<|b.map a8).zip Yz).map (λH:ew=>H.1)=fc (b.map a8) from HM ⋯];exact yW Ym (YL.nodup_iff.mpr u) B.nx
  ·exact cW.mpr ⟨_,k h Ys,by show (b7 l<|a8 h,p h)=_;rw[fU h Ys]⟩
 ·have:=Ym.idx (i h Ys).2.2;rw[show (((a8 h).toNat:Nat):Int)=a8 h by have:=(i h Ys).1;lia]at this;exact this
end G
namespace L2
open Spec PyProof.Rows
end L2
namespace L2
open Spec PyProof.Rows PySem.W SeqAt
variable{o G:Pos}{c m:bz}
def Sw{az:gW}{O:bA}{Yq:ab->ai->Prop}{Zh:Type}{d:Nat}{F:Nat->Zh->dA (ForInStep Zh)}(A:Nat->Zh->ai->Prop){B:Zh->ai->Prop}(j:∀a n h,a<d->A a n h->wpAny az O (F a n) (λs Yn=>match s with | .done c=>B c Yn | .yield c=>A (a+1) c Yn) Yq h)(k:∀n h,A d n h->B n h){n:Zh}{h:ai}(e:A 0 n h):wpAny az O (forIn [0:d] n F) B Yq h:=by
 rw[Xr];have l:([0:d]:Std.Legacy.Range).size=d:=by simp[Std.Legacy.Range.size]
 show wpAny az O (forIn (range' 0 ([0:d]:Std.Legacy.Range).size 1) n F) B Yq h;rw[l];refine nF F (λt n h=>∃a,a<=d/\t=range' a (d-a) 1/\A a n h) B ?_ ?_ _ n ⟨0,g0 _,rfl,e⟩
 ·rintro f c_ n h ⟨a,T,b,g⟩;have m:a<d:=by
   rcases gS a d with R|R
   ·exact R
   ·rw[show d-a=0 by lia]at b;simp at b
  obtain⟨w,i⟩:∃w,d-a=w+1:=⟨d-a-1,⋯⟩;rw[i,Jc]at b;let@⟨rfl,rfl⟩:=List.cons.inj b;refine g7 (j f n h m g) (λs Yn R=>?_) λ_ W D=>D;cases s with
  |done c=>exact R
  |yield c=>exact⟨f+1,⋯,by congr 1;lia,R⟩
 ·rintro n h ⟨a,T,b,g⟩;have:a=d:=by
   rcases gS a d with R|R
   ·obtain⟨w,i⟩:∃w,d-a=w+1:=⟨d-a-1,⋯⟩;rw[i,Jc]at b;simp at b
   ·lia
  subst this;exact k _ _ g
def RV(t:ag)(b:a3)(YJ:Array ab)(w:Nat)(f:ab)(c:ab->Bool)(r:Nat)(p:r<YJ.size)(hd:b.data=.seq YJ w)(i:c YJ[r]=aa)(j:∀k (q:k<YJ.size),k<r->c YJ[k]=au):
  Meets (aY.«tuple.index» ⟨[.ref t,f],[]⟩)
   (λO Ym h=>h.heap.get? t=Z b/\(∀H,H∈YJ->EqAt O.in1 h H f (c H))/\Ym (.ok<|.ret<|.int r h.toks) {h with toks:=h.toks+1}):=by
 intro Yw l O Ym h e;let@⟨m,o,e⟩:=e;unfold aY.«tuple.index»;refine ao (m:=selfAndSome _ _ _ _ _) (og (a:=(ab.ref t,[f])) (by first|rfl|(simp[selfAndSome];rfl)) ?_);refine ao (E6 m hd ?_);refine ao (m:=pure _) (aM<|ao (m:=pure _)<|aM ?_);dsimp only;rw[xc];refine ao (Sw (λa n Yn=>n=(Y,())/\Yn=h/\a<=r) ?_ ?_ ⟨rfl,rfl,g0 _⟩)
 ·rintro a n Yn T ⟨rfl,rfl,d⟩;rw[jN T];refine ao (o _ (Array.getElem_mem T) Yw l _ _ ?_);by_cases D:a=r
  ·subst D;rw[i,aE rfl];refine ao ?_;unfold retInt
   wp_walk
   exact e
  ·rw[j a T ⋯,aH dj];exact aM ⟨rfl,rfl,⋯⟩
 ·rintro n Yn ⟨rfl,rfl,d⟩;exact absurd d ⋯
section
variable{b:aO}
def Vi(an:b.A.units+20<bQ):uz b "tuple.index" (λf Yl j B=>∃(u:V) (I:List V) (H:av) (r:Nat),Yl=[H]/\cH j u H/\cH j (.tup I) f/\V.bo 8 u=aa/\V.cQ 8 I=aa/\lE I u=Z r/\B (.int r) j):=by
 intro M h C j f Yl v YM B A t y e;let⟨u,I,H,@r,rfl,G,J,YK,YR,c,p⟩:=e;let⟨@L,rfl,P⟩:=y.one;let⟨g,@x,rfl,z,E⟩:=J;cases t;let@⟨D,⟨@Yy,Q,⟨@m,i,n,⟨@w,R⟩⟩⟩⟩:=(show fi b.prog b.w j h.heap g (.tup x) from A.a4 g _ z);have o:=E.fb A.a4 Q;let⟨@l,S,T,U⟩:=Cv YR o c;let⟨@al,a⟩:=eA.mp S;refine my Fg ⟨_,i,(Prod.mk.inj n).1⟩ F.entry_tuple_index (F.args_tuple_index_2 _ _) (RV g m Yy.toArray w L (kS h.heap u) r ⇑al R (by simpa [a] using T) (λk ap am=>U k _ am ↥0)) ⟨i,λl a=>?_,?_⟩
 ·let⟨@D,q,s⟩:=p7 YR o ⇑a;rw[nP q s];exact ic 8 q YK (by show b.A.units+1+8+1<bQ;lia) s (G.fb A.a4 P)
 ·exact⟨.int r,j,A.kept (YU:=h.toks+1) λd m c=>c,⟨_,rfl⟩,p⟩
def PA(s:av->List av->ay->cS->Prop)(k:cC)(i:ei):cC:=(λC j B=>k C j λf Yx=>(∃g x,f=.ref g/\Yx g=Z (.tup x))/\i C Yx λYl YO=>s f Yl YO B)
def NH{Q:List bz}{k:cC}{i:ei}{name:aG}{id:String}{s:av->List av->ay->cS->Prop}(Zx:Slot "tuple" name id)(u:ug (.builtin id)=pure (.type "method_descriptor"))(y:uz b id s)(z:cj b m k)(E:gR b (c::Q) i)(H:ue m name b.env (b0 m b.env)=b0 m b.env:=by rfl)(J:((gp o<|bH (c::Q) b.env).all (λf=>!f.1)&&(wu o<|vB [] b.env).all (λf=>f.1.isSome)
   && decide ((c::Q).length+([]:List mB).length+(if ([]:List mB).isEmpty then 0 else 1)<30))=aa:=by rfl)(L:(G.endLine==o.line)=aa:=by rfl)(Ys:bH (c::Q) b.env=(au,b0 c b.env)::bH Q b.env:=by rfl)(O:(gp o<|bH Q b.env).any (·.1)=au:=by rfl):
  cj b (.Call (.Attribute m name G) (c::Q) [] o) (PA s k i):=by
 intro M h C j B A e;refine JJ H J L rfl (cn (z M h C j _ A e) λv p a=>?_);let⟨f,@Yx,q,P,⟨g,@x,I,R⟩,S⟩:=a;subst I;cases (show v=ab.ref g from P);let@⟨D,⟨@Yy,ap,⟨@m,r,n,⟨@w,as⟩⟩⟩⟩:=(show fi b.prog b.w Yx p.heap g (.tup x) from q.a4 g _ R);refine⟨"tuple",id,F.plainAttrs_tuple,Zx,u,⟨m,r,(Prod.mk.inj n).1⟩,λd T=>?_,?_⟩
 ·cases T;exact⟨m,r,(Prod.mk.inj n).2⟩
 have t:=E o M p C Yx _ q S;rw[Ys]at t ⊢;refine H7 (by show (au || (gp o<|bH Q b.env).any (·.1))=au;rw[O]<;>rfl) (FF ?_);refine cn t λYM U a=>?_;let⟨Yl,@YO,al,am,an⟩:=a;exact y M U C YO (.ref g) Yl (.ref g) YM B al rfl am an
def Ti{g d u:aj}(e:iP g d=Z u):∃I a r,g=.im (.tup I)/\d=.im a/\V.bo 8 a=aa/\V.cQ 8 I=aa/\lE I a=Z r/\u=.im (.int (r:Nat)):=by
 unfold iP at e;split at e
 ·rename_i I a;split at e
  ·rename_i b;let⟨@r,c,f⟩:=cB.mp e;rw[cU]at b;exact⟨I,a,r,rfl,rfl,b.1.1,b.1.2,c,f.symm⟩
  ·cases e
 ·cases e
def zq(J:az bw):Prop:=(∀y s YN,J y=Z (s,YN)->YN=y)
def q_{a:Nat}:zq (af a):=by
 intro y s YN e;unfold af at e;split at e
 ·cases e;rfl
 ·cases e
def qo{go Zp:az bw}(w:b.A.units+20<bQ)(D:dZ b m go)(h:dZ b c Zp)(J:zq Zp)(P:ue m "index" b.env (b0 m b.env)=b0 m b.env:=by rfl)(Q:((gp o<|bH [c] b.env).all (λf=>!f.1)&&(wu o<|vB [] b.env).all (λf=>f.1.isSome)
   && decide ([c].length+([]:List mB).length+(if ([]:List mB).isEmpty then 0 else 1)<30))=aa:=by rfl)(R:(G.endLine==o.line)=aa:=by rfl)(Ys:bH [c] b.env=(au,b0 c b.env)::bH [] b.env:=by rfl)(S:(gp o<|bH [] b.env).any (·.1)=au:=by rfl):
  cI b (.Call (.Attribute m "index" G) [c] [] o) (aw iP go Zp):=by
 refine eW (NH Fg F.type_tuple_index (Vi w) D (mL h k_ Ys) P Q R Ys S) λC j B T=>?_;let⟨y,N,s,@YN,X,ah,d,p⟩:=T;unfold aw at d;let⟨@⟨f,Yv⟩,h,d⟩:=bC.mp d;let⟨@⟨H,M⟩,q,d⟩:=bC.mp d;let⟨@Y2,z,d⟩:=bC.mp d;let⟨@Y8,E,d⟩:=bC.mp d;let⟨@u,U,d⟩:=cB.mp d;cases d;have al:M=Yv:=J _ _ _ q;subst al;let⟨I,am,@r,rfl,rfl,an,Y6,ap,rfl⟩:=Ti U;refine⟨y,N,f,_,X,ah,h,λv Yx YI as t A k=>⟨?_,_,YI,[H],_,t,(d0.mp k.ah).1,by unfold aq;rw[q];rfl,λYl YO YY b9 l Y4 n=>?_⟩⟩
 ·let⟨@Ym,⟨g,@x,rfl,a1,W⟩,W⟩:=A.read t z;exact⟨g,x,rfl,a1⟩
 ·let⟨L,Zd,a2,@bn,rfl,Y4,@⟨rfl,rfl⟩,rfl⟩:=Y4;have bd:=A.mono n.tup λg h m c=>n.keep g m c λe=>(d0.mp k.ah).2.2 g e g h rfl;have be:=bd.read l z;have bi:=Y4.read l E;refine⟨am,I,L,r,rfl,bi.i,be.i,an,Y6,ap,?_⟩;refine p (.int r) YO YY [] l ⟨rfl,rfl⟩ ?_;have bm:=k.trans n A.chg;exact bm.less (aP:=a2++as) ↥0
end
end L2
namespace L2
open Spec PyProof.Rows PySem.W
variable{u:V}{j:ay}
def bb.one{x:List av}(e:bb j [u] x):∃v,x=[v]/\cH j u v:=by
 let⟨v,@s,rfl,z,E⟩:=e;cases (show s=[] from E);exact⟨v,rfl,z⟩
theorem bb.rep{j:ay}{u:V}{v:av}(e:cH j u v):∀w:Nat,bb j (List.replicate w u) (List.replicate w [v]).flatten
 |0=>rfl
 |w+1=>⟨v,_,rfl,e,bb.rep e w⟩
section
variable{b:aO}
def jJ:gi:=(λg d=>match g,d with
 |.lst [u],.im (.int o)=>if decide (0<=o/\o<=100000)=aa then Z (.lst<|List.replicate o.toNat u) else Y
 |_,_=>Y)
def pQ:fQ b (gr .Mult) jJ:=by
 refine U_.imp λf H j B e=>?_;let⟨Y2,Y8,@u,g,h,c,p⟩:=e;unfold jJ at c;split at c
 ·rename_i u o;split at c
  ·rename_i d;cases c;have d:=gf d;let⟨W,q,@x,rfl,z,E,W⟩:=g;let⟨v,rfl,k⟩:=E.one;exact⟨q,o,[v],rfl,h.i,z,⋯,⋯,l8 (by rw[mw];lia),λw m=>ck.l p m<|bb.rep k _⟩
  ·cases c
 ·cases c
def Gb{M:List (ag×a3)}{C:a5}{h:ai}(A:aF b M C j h){g:ag}{m:a3}{x:List av}{I:List V}(z:j g=Z (.dF m<|.lst x))(E:bb j I x):∃(Yy:List ab) (w:Nat),h.heap.get? g=Z (listOf Yy.toArray w)/\bS x Yy/\dM h.heap I Yy/\Yy.length=I.length/\x.length<=sizeLine:=by
 let@⟨D,⟨Yy,@w,a,c⟩⟩:=(A.a4 g _ z).2;have:=E.fb A.a4 a;exact⟨Yy,w,c,a,this,this.length.symm,D⟩
def wh:gi:=(λg d=>match g,d with
 |.lst f,.dv H=>if (V.cQ 8 f&&V.cQ 8 H)=aa then Z (.im<|.aB<|!eU f H) else Y
 |_,_=>Y)
def W2(a2:b.A.units+20<bQ):fQ b (eS .NotEq) wh:=by
 intro M h C j f H v L B A P R S;let⟨Y2,Y8,@u,k,m,c,p⟩:=S;unfold wh at c;split at c
 ·rename_i g d;split at c
  ·rename_i n;cases c;rw[cU]at n;let⟨W,q,@x,rfl,z,E,W⟩:=k;let⟨W,T,YA,@Y7,rfl,U,al,W⟩:=m;cases P;cases R;let⟨@am,s,an,o⟩:=oE A z E;let⟨t,@ap,as,W,a1,Zq,W⟩:=Gb A U al;have y:h.heap.IsList T t.toArray:=⟨_,as,rfl,ap,rfl⟩;by_cases e:g.length=d.length
   ·have:=DN (A:=b.A) (e:=λr=>ct (g.getD r .aV)<|d.getD r .aV) s y (by rw[cv,cv,o,Zq];exact e) ⋯ λr D F=>by
     let⟨@Y2,G,k⟩:=an.get (r:=r) (v:=am.toArray[r]) (by simp at D;simp[D]);let⟨@Y8,J,m⟩:=a1.get (r:=r) (v:=t.toArray[r]) (by simp at F;simp[F]);rw[cG,G,cG,J];exact ic 8 (i8 n.1 G) (i8 n.2 J) (by show b.A.units+1+8+1<bQ;lia) k m
    refine this b.prog b.w _ _ ⟨.aB _,j,A,rfl,?_⟩;have N:=qK (I:=g) (Q:=d) (c:=λr=>ct (g.getD r .aV)<|d.getD r .aV) (λr f H g d=>by rw[cG,g,cG,d];rfl);rw[<-e,xc,l5,y9]at N;rw[cv,o,N];exact ck.i p rfl
   ·refine GA (A:=b.A) s y (by rw[cv,cv,o,Zq];simpa using e) ⋯ b.prog b.w _ _ ⟨.aB _,j,A,rfl,?_⟩;rw[vw e]at p;exact ck.i p rfl
  ·cases c
 ·cases c
def uM:aj->List aj->Option (aj×aj):=(λn I=>match n,I with
 |.lst x,[.dv YA]=>if x.length+YA.length<=100000 then Z (.im .aV,.lst<|x++YA) else Y
 |_,_=>Y)
def Rz:rF b "list.extend" uM:=by
 intro M h C j f Yl v YM B A l o q;let⟨n,I,s,P,Ym,@YB,r,u,ah,c,p⟩:=q;unfold uM at c;split at c
 ·split at c
  ·rename_i x;cases c;let⟨t,@YA,rfl,z,E,rfl⟩:=r;let⟨H,i,Q,@R,rfl,⟨d,S,@m,rfl,F,e,rfl⟩,@⟨rfl,rfl⟩,rfl⟩:=u;have n:gX j t:=⟨_,z,(λ_ c=>by cases c),(λ_ W c=>by cases c)⟩;cases l;let⟨@L,rfl,G⟩:=o.one;cases G;let@⟨D,⟨Yy,@w,s,T,c⟩⟩:=A.hC z;let⟨a,@Zq,J,g,W,U,al⟩:=Gb A F e;have am:=g.length;have an:YA.length+S.length<=sizeLine:=l8 (by rw[<-E.length,<-e.length];exact x);have N:Yy.toArray.size+a.toArray.size<=sizeLine:=by rw[cv,cv];lia
   have O:¬ (!Yy.toArray.isEmpty&&aY.List.listTooLong (Yy.toArray.size+a.toArray.size))=aa:=by
    rw[ym N,BE];exact dj
   refine my EP ⟨_,c,rfl⟩ H3 (Lb _ _)
    (Lr t Yy.toArray w d a.toArray Zq O (by rw[cv];lia) ⋯) ⟨c,J,?_⟩;refine⟨.aV,_,A.vj (y:=Yy++a) z c ↥0 (s.append g) (by rw[c6];lia),rfl,p .aV _ [] [t] ⟨rfl,rfl⟩ ?_ (br.chg (.head _) n (f9 _ _) λf k=>by
    rw[ih]at k;exact gd _ k)⟩
   exact⟨t,_,rfl,e8,(E.app e).mono<|cH.nA n,rfl⟩
  ·cases c
 ·cases c
def T6{a:Nat}:zq (ae<|aw bx (af a)<|ae<|aA u):=by
 intro y s YN e;let⟨@⟨g,Yv⟩,b,c⟩:=cB.mp e;cases c;unfold aw at b;let⟨@⟨f,M⟩,z,YK⟩:=bC.mp b;let⟨@⟨H,R⟩,E,YR⟩:=bC.mp YK;let⟨@Y2,W,d⟩:=bC.mp YR;let⟨@Y8,W,h⟩:=bC.mp d;let⟨@j,W,i⟩:=cB.mp h;cases i;have:=q_ _ _ _ z;subst this;cases E;rfl
end
end L2
namespace G
open L2
variable{t n d f g:Int}{p:aC->Int×Int}{a8:aC->Int}{b aJ Q P l:List aC}{Yp:dt}{B:Option aj}{y:a6}{u:Bool}
def u2:bB:=((a_ (bP 7<|aw fT (ae<|aw fy (ae<|aw iP (af 0)<|af 6)<|ae<|aw iP (af 0)<|af 5)<|af 2)<|a_ (dT (cb<|aw lP (af 7)<|ae<|d6<|aq (ae<|aA<|.int 1)<|aq (ae<|aw fy (af 2)<|ae<|aA<|.int 1) aD) (cV<|aA .aV) eM)<|h4<|gG hD 4 hu<|aq (ae<|aw gP (af 7)<|ae<|aA<|.int 1) aD))
def yZ:az aj:=((aw bx (af 1)<|ae<|aw fT (ae<|aw cD (af 2)<|af 0)<|af 3))
def z0:bB:=((a_ (bP 10<|aw fy (af 8)<|af 9)<|a_ (bP 11<|aw cD (ae<|aw cD (ae<|aw jJ (ae<|dO<|aq (ae<|aA<|.aB au) aD)<|af 9)<|ae<|aw jJ (ae<|dO<|aq (ae<|aA<|.aB aa) aD)<|af 9)<|ae<|aw jJ (ae<|dO<|aq (ae<|aA<|.aB aa) aD)<|af 10)<|a_ (dT (cb<|aw i_ (af 10)<|af 9) (bP 11<|aw cD (ae<|aw cD (ae<|aw jJ (ae<|dO<|aq (ae<|aA<|.aB aa) aD)<|af 10)<|ae<|aw jJ (ae<|dO<|aq (ae<|aA<|.aB au) aD)<|af 10)<|ae<|aw jJ (ae<|dO<|aq (ae<|aA<|.aB au) aD)<|af 9) eM)<|dT (cb<|aw gP (af 4)<|af 11) (a_ (bP 12<|fN 1 [0,3,2] (oi<|aq (ae<|hn<|f3 9)<|aq (ae<|aw cD (af 10)<|ae<|aA<|.int 1) aD) (b5 0) fD G.yZ)<|cV<|d6<|aq (af 9)<|aq (af 10)<|aq (ae<|tY<|b3 hA<|aq (af 12) aD) aD) eM))
def K8:bB:=((a_ (bP 2<|b3 e7<|aq (af 0) aD)<|a_ (bP 3<|aw iP (af 0)<|ae<|aw bx (af 1)<|ae<|aA<|.int 0)<|a_ (bP 4<|dO aD)<|a_ (hz (nh<|aq (af 1)<|aq (ae<|ie (af 1) (j3<|aA<|.int 1) jA) aD) (fl 2<|dW (b5 5)<|dW (b5 6) g6) G.u2)<|a_ (bP 8<|aw fy (ae<|tB<|aq (af 1) aD)<|ae<|aA<|.int 1)<|a_ (hz (kd<|aq (ae<|aw cD (af 8)<|ae<|aA<|.int 1) aD) (b5 9) G.z0)<|cV<|aA .aV))
def rN:dn:=(dG 2 13 [0,1] K8)
def CN(Yp:dt):az aj:=((aw k8 (af 0)<|af 1))
def v7(Yp:dt):bB:=((a_ (dT (mf (m1<|kG<|ae<|Bq "tuple"<|af 8)<|mf (cb<|aw gP (ae<|b3 e7<|aq (af 8) aD)<|ae<|aA<|.int 0)<|cb<|aw i3 (ae<|aw bx (af 8)<|ae<|aA<|.int 0)<|af 7) (cV<|aA<|.aB au) eM)<|a_ (dT (m1<|kG<|ae<|b3 rS<|aq (ae<|fN 1 [0] (gO<|af 8) (b5 0) fD<|G.CN Yp) aD) (cV<|aA<|.aB au) eM)<|a_ (bP 9<|b_ 2 G.rN<|aq (af 3)<|aq (af 8) aD)<|a_ (dT (mf (cb<|aw (pC au) (af 9)<|ae<|aA .aV)<|cb<|aw wh (ae<|sS<|aq (af 8) aD)<|ae<|tT<|aw bx (af 9)<|ae<|aA<|.int 2) (cV<|aA<|.aB au) eM)<|a_ (h4<|gG hD 5 uM<|aq (ae<|tT<|aw bx (af 9)<|ae<|aA<|.int 2) aD)<|bP 6<|b3 nk<|aq (af 6)<|aq (ae<|aw fy (ae<|b3 e7<|aq (af 8) aD)<|ae<|aA<|.int 1) aD))
def HD(Yp:dt):az aj:=((aw iP (af 1)<|af 0))
def Di(Yp:dt):bB:=((a_ (bP 3<|b_ 2 (G.n2 Yp)<|aq (af 0)<|aq (af 1) aD)<|a_ (bP 4<|b_ 3 (G.rB Yp)<|aq (af 0)<|aq (af 1)<|aq (af 2) aD)<|a_ (dT (mf (m1<|kG<|ae<|Bq "tuple"<|af 4)<|cb<|aw i3 (ae<|b3 e7<|aq (af 4) aD)<|ae<|b3 e7<|aq (af 2) aD) (cV<|aA<|.aB au) eM)<|a_ (n5 5 6<|aq (ae<|dO aD)<|aq (ae<|aA<|.int 0) aD)<|a_ (hz (nh<|aq (af 2)<|aq (af 4) aD) (fl 2<|dW (b5 7)<|dW (b5 8) g6)<|G.v7 Yp)<|a_ (bP 10<|b3 iy<|aq (ae<|b3 oU<|aq (ae<|fN 1 [3] (gO<|af 2) (b5 0) fD<|G.HD Yp) aD) aD)<|cV<|kE<|iH (cb<|aw gP (ae<|b3 hA<|aq (af 5) aD)<|ae<|b3 wR<|aq (af 0) aD)<|cb<|aw gP (af 6)<|ae<|b_ 2 G.mF<|aq (ae<|b3 e7<|aq (af 0) aD)<|aq (af 10) aD))
def w3(Yp:dt):dn:=(dG 3 11 [0,1,2] (Di Yp))
def w7(Yp:dt):bB:=((a_ (bP 2<|b_ 2 G.xi<|aq (af 0)<|aq (af 1) aD)<|a_ (bP 3<|b_ 2 G.uL<|aq (af 2)<|aq (ae<|aA<|.int 24) aD)<|a_ (n5 4 5<|aq (ae<|b_ 1 G.xh<|aq (af 3) aD)<|aq (ae<|b_ 2 G.ur<|aq (af 2)<|aq (af 3) aD) aD)<|dT (m1<|kG<|ae<|b_ 3 (G.w3 Yp)<|aq (af 4)<|aq (af 5)<|aq (ae<|b_ 2 G.w9<|aq (af 2)<|aq (af 4) aD) aD) (cV<|aA<|.aB au) eM))
def GW(Yp:dt):bB:=((a_ (hz (kd<|aq (ae<|b3 nk<|aq (ae<|aA<|.int 1)<|aq (ae<|b3 qG<|aq (ae<|aA<|.int 6)<|aq (ae<|b3 e7<|aq (af 0) aD) aD) aD) aD) (b5 1)<|G.w7 Yp)<|cV<|aA<|.aB aa))
def qL(Yp:dt):dn:=(dG 1 6 [0] (GW Yp))
def cR(u:Bool):Int:=(if u then 1 else -1)
def b2(f:Int):List Bool->List Int
 |[]=>[f]
 |u::I=>f::b2 (f+cR u) I
def kk(k w:Nat)(u:Bool):List Bool:=(List.replicate k u++(List.replicate k (!u)++List.replicate w (!u)))
def er(g d:Nat):List Bool:=(if d<g then kk d g aa else kk g d au)
def gU(f u:Int)(k:Nat):List Int:=((range k).map λ(o:Nat)=>f+u*(o:Int))
def zu(f u:Int)(k:Nat):gU f u (k+1)=f::gU (f+u) u k:=by
 unfold gU;rw[Ay,cy,eP];rw[show f+u*((0:Nat):Int)=f by simp];congr 1;exact kH λo W=>by show f+u*((o+1:Nat):Int)=_;rw[z4,xg];simp;ac_rfl
def EH(f u:Int)(k:Nat):gU f u (k+1)=gU f u k++[f+u*k]:=by
 unfold gU;rw[JP,eX];rfl
theorem vd(u:Bool)(I:List Bool):∀(k:Nat) (f:Int),b2 f (List.replicate k u++I)=gU f (cR u) k++b2 (f+cR u*k) I
 |0,f=>by simp[gU]
 |k+1,f=>by
  rw[qE,pP,b2,vd u I k,zu,pP];congr 3;rw[z4,xg];simp;ac_rfl
theorem DS(f u:Int):∀k:Nat,(gU f u k).reverse=gU (f+u*k-u) (-u) k
 |0=>rfl
 |k+1=>by
  rw[EH,List.reverse_append,DS f u k,List.reverse_singleton,Gx,show f+u*((k+1:Nat):Int)-u=f+u*k by rw[z4,xg];simp;lia,zu];congr 2
def KS(l:List aC)(f u:Int)(k:Nat):eR l f u k=(gU (f+u) u k).map (b7 l):=by
 unfold eR gU;rw[eP];exact kH λo W=>by show b7 l _=b7 l _;congr 1;rw[xg];simp;ac_rfl
def Ox(u:Bool):cR (!u) = -cR u:=by cases u<;>rfl
def Bz(H c:Int)(k:Nat):gU H c k++[H+c*k]=H::gU (H+c) c k:=by rw[<-EH,zu]
def Ui(f:Int)(k w:Nat)(u:Bool):b2 f (kk k w u)=gU f (cR u) k++[f+cR u*k]++(gU f (cR u) k).reverse++gU (f-cR u) (-cR u) w:=by
 unfold kk;rw[vd,vd,<-cA (List.replicate w<|!u),vd,b2,Ox,Bz,DS];have a:f+cR u*k + -cR u*k=f:=by rw[Int.neg_mul];lia
 have b:∀t,gU (f+cR u*k) (-cR u) k++(f+cR u*k + -cR u*k)::t=(f+cR u*k)::(gU (f+cR u*k + -cR u) (-cR u) k++t):=λt=>by
  rw[List.append_cons,Bz];rfl
 rw[b,a];simp[Int.sub_eq_add_neg]
def J4(e:0<=g):((g.toNat:Nat):Int)=g:=KO e
def Ux{q:Int×Int}(hc:0<=q.1)(ef:0<=q.2):et l (b7 l f) f q=(b2 f<|er q.1.toNat q.2.toNat).map (b7 l):=by
 have S:∀(k w:Nat) (u:Bool),(b2 f<|kk k w u).map (b7 l)=(b7 l f::eR l f (cR u) k)++(b7 l f::eR l f (cR u) k).dropLast.reverse++eR l f (-cR u) w:=λk w u=>by
  have c:b7 l f::eR l f (cR u) k=(gU f (cR u) k).map (b7 l)++[b7 l (f+cR u*k)]:=by
   rw[KS,<-cy,<-Bz,eX];rfl
  rw[c,List.dropLast_concat,Ui,eX,eX,eX,CU,KS l f (-cR u) w];rfl
 unfold et gw iY er;by_cases e:q.1<=q.2
 ·rw[aE e,aE e,aH ⋯,S];rfl
 ·rw[aH e,aH e,aE ⋯,S];rfl
theorem Fp:∀(f:Int) (I:List Bool),(b2 f I).length=I.length+1
 |_,[]=>rfl
 |f,u::I=>by rw[b2,c8,Fp,c8]
def M_(k w:Nat)(u:Bool):(kk k w u).length=k+(k+w):=by
 unfold kk;rw[c6,c6,mK,mK,mK]
def Hu(g d:Nat):(er g d).length=g+d+(if d<g then d else g):=by
 unfold er;split<;>rw[M_]<;>lia
def pV(k w:Nat)(u:Bool):(kk k w u).count u=k:=by
 unfold kk;rw[w8,w8,Bf,yy,yy,aH (by cases u<;>decide),aH (by cases u<;>decide)];rfl
def Ec(k w:Nat)(u:Bool):(kk k w u).count (!u)=k+w:=by
 unfold kk;rw[w8,w8,Bf,Bf,yy,aH (by cases u<;>decide)];lia
def RH{g d a b:Nat}(e:g+d=a+b)(c:er g d=er a b):g=a:=by
 unfold er at c;split at c<;>split at c
 ·have:=congrArg (List.count aa) c;rw[pV,pV]at this;lia
 ·have:=congrArg (List.count aa) c;rw[pV,show aa=!au from rfl,Ec]at this;lia
 ·have:=congrArg (List.count aa) c;rw[pV,show aa=!au from rfl,Ec]at this;lia
 ·have:=congrArg (List.count au) c;rw[pV,pV]at this;exact this
abbrev gs(X:List Bool):aj:=.lst (X.map V.aB)
def bY.xY(Ym:bY l)(f:Int):iP (aK l) (.im<|ak<|b7 l f)=Z (ar<|f%(l.length:Int)):=by
 have:=Ym.idx (Ym.get f);rw[J4 (Ym.mod f).1]at this;exact this
def PI(H o:Int):lP (ar H) (.im<|.tup [.int 1,.int o])=Z (.im<|.aB<|!((1==H) || ((o==H) || false))):=rfl
def Uj{X:List Bool}(e:X.length<1000):hu (gs X) [.im (.aB u)]=Z (.im .aV,gs<|X++[u]):=by
 show _=Z (aj.im .aV,aj.lst<|(X++[u]).map V.aB);rw[eX];exact wz (by rw[ba];lia)
def Vv{w:Int}(e:3<=w)(u:Bool):cR u%w=if u then 1 else w-1:=by
 cases u
 ·show (-1:Int)%w=w-1;rw[<-DL,ry ⋯ ⋯];lia
 ·exact ry (a:=1) ∅ ⋯
theorem Ud(g d w:Int):(g%w-d%w)%w=(g-d)%w:=(Int.sub_emod g d w).symm
abbrev e5(l P:List aC)(f:Int)(X:List Bool)(Y_ Zv Zn C O B Zj a:Option aj):a6:=[Z (aK l),Z<|aK P,Z<|ar (l.length:Int),Z<|ar f,Z<|gs X,Y_,Zv,Zn,C,O,B,Zj,a]
def Vj(Ym:bY l)(e:3<=l.length){f Zm:Int}{X:List Bool}{u:Bool}(b:X.length<1000){Zn C O B Zj a:Option aj}:
  u2 (e5 l P Zm X (Z<|.im<|ak<|b7 l f) (Z<|.im<|ak<|b7 l<|f+cR u) Zn C O B Zj a)=Z (.aU,e5 l P Zm (X++[u]) (Z<|.im<|ak<|b7 l f) (Z<|.im<|ak<|b7 l<|f+cR u) (Z<|ar<|cR u%(l.length:Int)) C O B Zj a):=by
 have k:fT (ar<|(f+cR u)%(l.length:Int)-f%(l.length:Int)) (ar (l.length:Int))=Z (ar<|cR u%(l.length:Int)):=by
  rw[jj ⋯,Ud,show f+cR u-f=cR u by lia]
 have Ys:=Vv (w:=(l.length:Int)) ⋯ u;have c:lP (ar<|cR u%(l.length:Int)) (.im<|.tup [.int 1,.int<|(l.length:Int)-1])=Z (.im<|.aB au):=by
  rw[PI,Ys];cases u<;>simp
 have d:gP (ar<|cR u%(l.length:Int)) (ar 1)=Z (.im<|.aB u):=by
  rw[yk,Ys];cases u
  ·rw[dC (by show ¬ (l.length:Int)-1=1;lia)]
  ·rfl
 unfold u2;refine bT (Yv:=e5 l P Zm X (Z<|.im<|ak<|b7 l f) (Z<|.im<|ak<|b7 l<|f+cR u) (Z<|ar<|cR u%(l.length:Int)) C O B Zj a) (d9 (bR (aW<|bR (aW<|cc<|Ym.xY _) (aW<|cc<|Ym.xY _) rfl rfl rfl) rfl rfl rfl k) (ed rfl) rfl) ?_;refine bT (gD (fK (bR rfl (aW (sM (bt rfl<|bt (aW<|bR rfl rfl rfl rfl rfl) rfl) rfl (show 2<=100000 by decide) rfl)) rfl rfl c)) rfl) ?_;exact lL (j_ rfl rfl (bt (aW<|cc d) rfl) rfl rfl (Uj b) rfl)
def pT(l:List aC)(f:Int):List Bool->List V
 |[]=>[]
 |u::I=>.tup [ak (b7 l f),ak<|b7 l<|f+cR u]::pT l (f+cR u) I
theorem Gp(l:List aC):∀(f:Int) (I:List Bool),eg ((b2 f I).map (b7 l) |>.map ak) (((b2 f I).map (b7 l) |>.map ak).drop 1)=pT l f I
 |f,[]=>rfl
 |f,u::I=>by
  have a:=Gp l (f+cR u) I;rw[pT,<-a];cases I<;>rfl
theorem Dl{l P:List aC}(Ym:bY l)(e:3<=l.length){Zm:Int}{C O B Zj a:Option aj}:∀(I:List Bool) (f:Int) (X:List Bool) (Y_ Zv Zn:Option aj),X.length+I.length<1000->
  ∃b c d,dX (fl 2<|dW (b5 5)<|dW (b5 6) g6) u2 (pT l f I) (e5 l P Zm X Y_ Zv Zn C O B Zj a)=Z (.aU,e5 l P Zm (X++I) b c d C O B Zj a)
 |[],f,X,Y_,Zv,Zn,_=>⟨Y_,Zv,Zn,by rw[cA];rfl⟩
 |u::I,f,X,Y_,Zv,Zn,h=>by
  rw[c8]at h;let⟨b,c,d,g⟩:=Dl (P:=P) Ym e (Zm:=Zm) (C:=C) (O:=O) (B:=B) (Zj:=Zj) (a:=a) I (f+cR u) (X++[u]) (Z<|.im<|ak<|b7 l f) (Z<|.im<|ak<|b7 l<|f+cR u) (Z<|ar<|cR u%(l.length:Int)) (by rw[c6,mw];lia);refine⟨b,c,d,?_⟩;rw[bq,Gx]at g;exact qg (Yv:=e5 l P Zm X (Z<|.im<|ak<|b7 l f) (Z<|.im<|ak<|b7 l<|f+cR u) Zn C O B Zj a) rfl (Vj Ym e ⋯) g
def Sf{YT:fk}{d:bB}{f:V}{x:List V}{Yv M:a6}{s:aj}(a:YT (.im f) y=Z Yv)(b:d Yv=Z (.dD s,M)):dX YT d (f::x) y=Z (.dD s,M):=by
 rw[dX];show (YT (.im f) y).bind _=_;rw[a];show (d Yv).bind _=_;rw[b];rfl
def CZ(G:Int)(k:Nat):fV G (k+1)=.int G::fV (G+1) k:=by
 unfold fV;rw[Ay,cy,eP,show G+((0:Nat):Int)=G by simp];congr 1;exact kH λo W=>by show V.int _=V.int _;congr 1;show G+((o+1:Nat):Int)=G+1+o;lia
theorem z_:∀t:List Bool,V.cQ 8 (t.map V.aB)=aa
 |[]=>rfl
 |d::t=>z_ t
theorem Km:∀g d:List Bool,eU (g.map V.aB) (d.map V.aB)=decide (g=d)
 |[],[]=>rfl
 |[],_::_=>rfl
 |_::_,[]=>rfl
 |f::g,H::d=>by
  show (f==H&&eU (g.map V.aB) (d.map V.aB))=_;rw[Km g d];by_cases e:f=H
  ·subst e;simp
  ·rw[u5.mpr e,dC<|λc=>e (List.cons.inj c).1];rfl
def GN(g d:List Bool):gP (gs g) (gs d)=Z (.im<|.aB<|decide (g=d)):=by
 rw[<-Km];exact aE (by rw[z_,z_];rfl)
def Fw{g d:List Bool}(e:g.length+d.length<=100000):cD (gs g) (gs d)=Z (gs<|g++d):=by
 show (if (g.map V.aB).length+(d.map V.aB).length<=100000 then Z (aj.lst<|g.map V.aB++d.map V.aB) else Y)=_;rw[aE (by rw[ba,ba];exact e),<-eX]
def Aw{o:Int}(a:0<=o)(z:o<=1000):jJ (gs [u]) (ar o)=Z (gs<|List.replicate o.toNat u):=by
 show (if decide (0<=o/\o<=100000)=aa then Z (aj.lst<|List.replicate o.toNat<|V.aB u) else Y)=_;rw[aE (dx ⟨a,⋯⟩)];show _=Z (aj.lst<|(List.replicate o.toNat u).map V.aB);rw[List.map_replicate]
def tJ(u c F:Bool)(a r o:Nat):az aj:=(aw cD (ae<|aw cD (ae<|aw jJ (ae<|dO<|aq (ae<|aA<|.aB u) aD)<|af a)<|ae<|aw jJ (ae<|dO<|aq (ae<|aA<|.aB c) aD)<|af r) (ae<|aw jJ (ae<|dO<|aq (ae<|aA<|.aB F) aD)<|af o))
def JC{c F:Bool}{a r o:Nat}(b:y[a]?=Z (Z<|ar g))(f:y[r]?=Z (Z<|ar d))(h:y[o]?=Z (Z<|ar n))(i:0<=g)(j:g<=1000)(k:0<=d)(aQ:d<=1000)(l:0<=n)(m:n<=1000):
  tJ u c F a r o y=Z (gs<|List.replicate g.toNat u++List.replicate d.toNat c++List.replicate n.toNat F,y):=by
 have aZ:∀{a:Nat}{g:Int},y[a]?=Z (Z<|ar g)->af a y=Z (.aZ a,y)/\eY y (.aZ a)=Z (ar g):=λe=>by
  constructor
  ·unfold af;rw[e]
  ·show (y[_]?).getD Y=_;rw[e];rfl
 exact bR (aW (bR (aW<|bR (aW (u:=gs [u]) rfl) (aZ b).1 rfl (aZ b).2 (Aw i j)) (aW<|bR (aW (u:=gs [c]) rfl) (aZ f).1 rfl (aZ f).2 (Aw k aQ)) rfl rfl (Fw (by rw[mK,mK];lia)))) (aW<|bR (aW (u:=gs [F]) rfl) (aZ h).1 rfl (aZ h).2 (Aw l m)) rfl rfl (Fw (by rw[c6,mK,mK,mK];lia))
def GI{a:Int}{I:List Bool}{b c h Zj i:Option aj}{e:bB}{k:Option (nB×a6)}(j:0<=a)(q:a<=n)(r:n<=1000)(o:e (e5 l P f I b c h (Z<|ar n) (Z<|ar a) (Z<|ar<|n-a) (Z<|gs<|er a.toNat (n-a).toNat) i)=k):
  a_ (bP 10<|aw fy (af 8)<|af 9) (a_ (bP 11<|tJ au aa aa 9 9 10)<|a_ (dT (cb<|aw i_ (af 10)<|af 9) (bP 11<|tJ aa au au 10 10 9) eM) e) (e5 l P f I b c h (Z<|ar n) (Z<|ar a) B Zj i)=k:=by
 refine bT (Yv:=e5 l P f I b c h (Z<|ar n) (Z<|ar a) (Z<|ar<|n-a) Zj i) rfl ?_;refine bT (Yv:=e5 l P f I b c h (Z<|ar n) (Z<|ar a) (Z<|ar<|n-a) (Z<|gs<|kk a.toNat (n-a).toNat au) i) (d9 (JC (g:=a) (d:=a) (n:=n-a) rfl rfl rfl j ⋯ j ⋯ ⋯ ⋯) (ed rfl) (by rw[bq];rfl)) ?_;have lt:∀m,cb (aw i_ (af 10)<|af 9) (e5 l P f I b c h (Z<|ar n) (Z<|ar a) (Z<|ar<|n-a) m i)=Z (decide (n-a<a),e5 l P f I b c h (Z<|ar n) (Z<|ar a) (Z<|ar<|n-a) m i):=λm=>fK (bR rfl rfl rfl rfl rfl);unfold er at o;by_cases p:n-a<a
 ·rw[aE (show (n-a).toNat<a.toNat by lia)]at o;refine bT (kj ((lt _).trans (by rw[dx p])) (d9 (JC (g:=n-a) (d:=n-a) (n:=a) rfl rfl rfl ⋯ ⋯ ⋯ ⋯ j ⋯) (ed rfl) (by rw[bq];rfl))) o
 ·rw[aH (show ¬ (n-a).toNat<a.toNat by lia)]at o;exact bT (gD ((lt _).trans (by rw[dC p])) rfl) o
def H4:bB:=(dT (cb<|aw gP (af 4)<|af 11) (a_ (bP 12<|fN 1 [0,3,2] (oi<|aq (ae<|hn<|f3 9)<|aq (ae<|aw cD (af 10)<|ae<|aA<|.int 1) aD) (b5 0) fD G.yZ)<|cV<|d6<|aq (af 9)<|aq (af 10)<|aq (ae<|tY<|b3 hA<|aq (af 12) aD) aD) eM)
def JU:z0=a_ (bP 10<|aw fy (af 8)<|af 9) (a_ (bP 11<|tJ au aa aa 9 9 10)<|a_ (dT (cb<|aw i_ (af 10)<|af 9) (bP 11<|tJ aa au au 10 10 9) eM) H4):=rfl
def hT(l:List aC)(f g:Int)(k:Nat):List aC:=((range k).map λ(o:Nat)=>b7 l (f+(-g+(o:Int))))
def Nf{k:Nat}:bj (hT l f g k)=.lst ((range k).map λ(o:Nat)=>ak<|b7 l<|f+(-g+(o:Int))):=by
 unfold hT;show aj.lst _=_;rw[eP];rfl
def OI(Ym:bY l){f g d:Int}{b e h C Zj i:Option aj}{I:List Bool}(t:0<=g)(v:0<=d)(vs:g+d<1000)(j:Q.Perm (hT l f g (g+d+1).toNat))(ah:Q.Nodup)(k:eL Q)(hd:I=er g.toNat d.toNat):
  ∃M,H4 (e5 l P f I b e h C (Z<|ar g) (Z<|ar d) (Z<|gs<|er g.toNat d.toNat) i)=Z (.dD<|.im<|.tup [.int g,.int d,.aR<|Q.map ak],M)/\M=e5 l P f I b e h C (Z<|ar g) (Z<|ar d) (Z<|gs<|er g.toNat d.toNat) (Z<|bj<|hT l f g (g+d+1).toNat):=by
 have p:=l4 (own:=1) (YT:=b5 0) (n:=fD) (c:=yZ) (aP:=[Z (aK l),Z<|ar f,Z<|ar (l.length:Int)]) (λ(o:Nat)=>V.int<|-g+(o:Int)) (λ(o:Nat)=>ak<|b7 l<|f+(-g+(o:Int))) (range (g+d+1).toNat) (λo W=>by
  have w:=Ym.pos;refine⟨[Z (ar<|-g+(o:Int)),Z<|aK l,Z<|ar f,Z<|ar (l.length:Int)],_,[Z (ar<|-g+(o:Int)),Z<|aK l,Z<|ar f,Z<|ar (l.length:Int)],rfl,rfl,?_,rfl⟩;exact bR rfl (aW (bR (aW<|bR rfl rfl rfl rfl rfl) rfl rfl rfl (jj ⋯))) rfl rfl (Ym.a8 _)) (by rw[gh];lia)
 have q:(hT l f g (g+d+1).toNat).Nodup:=j.nodup_iff.mp ah;have s:hA [bj (hT l f g (g+d+1).toNat)]=Z (bj Q):=by
  rw[vm λu hd=>by
   let⟨n,W,rfl⟩:=cW.mp hd;exact⟨_,rfl⟩]
  exact Gh j k (by unfold hT;rw[ba,gh];lia) q
 refine⟨_,kj (fK (bR rfl rfl rfl rfl (by rw[hd];exact (GN _ _).trans (by rw[dx rfl])))) (bT (Yv:=e5 l P f I b e h C (Z<|ar g) (Z<|ar d) (Z<|gs<|er g.toNat d.toNat) (Z<|bj<|hT l f g (g+d+1).toNat)) (d9 (kM (x:=(range (g+d+1).toNat).map λ(o:Nat)=>V.int<|-g+(o:Int)) (m:=Y) (Yv:=e5 l P f I b e h C (Z<|ar g) (Z<|ar d) (Z<|gs<|er g.toNat d.toNat) i) (Gi (a := -g) (r:=d+1) (bt (aW<|JR (a:=g) rfl)<|bt (aW<|bR rfl rfl rfl rfl rfl) rfl) rfl ⟨⋯,⋯⟩ ⟨⋯,⋯⟩ (by rw[show d+1 - -g=g+d+1 by lia];rfl)) p rfl) (ed rfl) (by rw[Nf];rfl)) (eE (sM (bt rfl<|bt rfl<|bt (aW<|O0<|fe (bt rfl rfl) rfl s) rfl) rfl (show 3<=100000 by decide) rfl))),rfl⟩
theorem C2{l P Q:List aC}(Ym:bY l){f g d:Int}{h i j:Option aj}(m:0<=g)(t:0<=d)(vs:g+d<1000)(u:Q.Perm (hT l f g (g+d+1).toNat))(ah:Q.Nodup)(v:eL Q):
  ∀(r:Nat) (a:Int) (k:Nat) (O B Zj b:Option aj),0<=a->a+r=g->r<k->∃n p q s,dX (b5 9) z0 (fV a k) (e5 l P f (er g.toNat d.toNat) h i j (Z<|ar<|g+d) O B Zj b)=Z (.dD<|.im<|.tup [.int g,.int d,.aR<|Q.map ak],e5 l P f (er g.toNat d.toNat) h i j (Z<|ar<|g+d) n p q s)
 |0,a,k,O,B,Zj,b,w,c,e=>by
  obtain⟨k,rfl⟩:∃o,k=o+1:=⟨k-1,⋯⟩;have:a=g:=⋯
  subst this;let⟨W,x,rfl⟩:=OI (P:=P) (b:=h) (e:=i) (h:=j) (C:=Z (ar<|a+d)) (Zj:=Zj) (i:=b) Ym m t vs u ah v rfl;refine⟨Z<|ar a,Z<|ar d,Z<|gs<|er a.toNat d.toNat,Z<|bj<|hT l f a (a+d+1).toNat,?_⟩;rw[CZ];refine Sf (Yv:=e5 l P f (er a.toNat d.toNat) h i j (Z<|ar<|a+d) (Z<|ar a) B Zj b) rfl ?_;rw[JU];exact GI m ⋯ ⋯ (by rw[show a+d-a=d by lia];exact x)
 |r+1,a,k,O,B,Zj,b,w,c,e=>by
  obtain⟨k,rfl⟩:∃o,k=o+1:=⟨k-1,⋯⟩;let⟨n,p,q,s,y⟩:=C2 Ym m t vs u ah v r (a+1) k (Z<|ar a) (Z<|ar<|g+d-a) (Z<|gs<|er a.toNat (g+d-a).toNat) b ⋯ ⋯ ⋯;refine⟨n,p,q,s,?_⟩;rw[CZ];refine qg (Yv:=e5 l P f (er g.toNat d.toNat) h i j (Z<|ar<|g+d) (Z<|ar a) B Zj b) rfl ?_ y;rw[JU];have ne:¬ er g.toNat d.toNat=er a.toNat (g+d-a).toNat:=λD=>by
   have:=RH ⋯ D;lia
  exact GI w ⋯ ⋯ (gD (fK (cc ((GN _ _).trans (by rw[dC ne])))) rfl)
def TP(f:Int)(I:List Bool):∃ZC,b2 f I=f::ZC:=by
 cases I with
 |nil=>exact⟨_,rfl⟩
 |cons u I=>exact⟨_,rfl⟩
def Q4(Ym:bY l)(j:3<=l.length){f g d:Int}(Zm:0<=f)(k:f<(l.length:Int))(n:0<=g)(o:0<=d)(A:g+d<(l.length:Int))(e:P=(b2 f<|er g.toNat d.toNat).map (b7 l))(h:Q.Perm (hT l f g (g+d+1).toNat))(ah:Q.Nodup)(p:eL Q)(aZ:∀{y Yv:a6}{J:az (List bw)}{YG:List bw},J y=Z (YG,Yv)->eF Yv YG=Z [aK P]->tB J y=Z (ar (Q.length:Int),Yv)):
  rN [aK l,aK P]=Z (.im<|.tup [.int g,.int d,.aR<|Q.map ak],[aK l,aK P]):=by
 have E:=Ym.len;have fz:Q.length=(g+d+1).toNat:=by rw[h.length_eq];unfold hT;rw[ba,gh]
 let⟨ZC,bG⟩:=TP f (er g.toNat d.toNat);have q:P=b7 l f::ZC.map (b7 l):=by rw[e,bG];rfl
 have s:bx (aK P) (ar 0)=Z (.im<|ak<|b7 l f):=by
  show (dN (P.map ak) 0).map aj.im=_;rw[m4 ∅ (by rw[q];rfl)];rfl
 have a8:iP (aK l) (.im<|ak<|b7 l f)=Z (ar f):=by rw[Ym.xY f,bY.small Zm k]
 have dl:=Hu g.toNat d.toNat;have dl:(er g.toNat d.toNat).length<1000:=by
  split at dl<;>lia
 let⟨a,b,c,i⟩:=Dl (P:=P) Ym j (Zm:=f) (C:=Y) (O:=Y) (B:=Y) (Zj:=Y) (a:=Y) (er g.toNat d.toNat) f [] Y Y Y (by rw[ik];lia);rw[ih]at i;let⟨t,u,v,w,z⟩:=C2 (P:=P) (h:=a) (i:=b) (j:=c) Ym n o ⋯ h ah p g.toNat 0 (g+d+1).toNat Y Y Y Y (hl _) ⋯ ⋯;have D:eg (P.map ak) (e6 (P.map ak) (Z 1) Y)=pT l f (er g.toNat d.toNat):=by
  rw[show e6 (P.map ak) (Z 1) Y=(P.map ak).drop 1 from B6 _ 1,e];exact Gp l f _
 unfold rN K8;refine e3 (y:=e5 l P f (er g.toNat d.toNat) a b c (Z<|ar<|g+d) t u v w) rfl ?_ rfl;refine bT (Yv:=[Z (aK l),Z<|aK P,Z<|ar (l.length:Int),Y,Y,Y,Y,Y,Y,Y,Y,Y,Y]) (d9 (fe (bt rfl rfl) rfl<|lO l) (ed rfl) rfl) ?_;refine bT (Yv:=[Z (aK l),Z<|aK P,Z<|ar (l.length:Int),Z<|ar f,Y,Y,Y,Y,Y,Y,Y,Y,Y]) (d9 (bR rfl (aW<|cc s) rfl rfl a8) (ed rfl) rfl) ?_;refine bT (Yv:=e5 l P f [] Y Y Y Y Y Y Y Y) rfl ?_;refine bT (kl (x:=pT l f (er g.toNat d.toNat)) (m:=Y) (Yv:=e5 l P f [] Y Y Y Y Y Y Y Y) (by rw[<-D];exact uG (bt rfl<|bt (aW<|uD rfl rfl rfl rfl rfl) rfl) rfl) i rfl) ?_;refine bT (Yv:=e5 l P f (er g.toNat d.toNat) a b c (Z<|ar<|g+d) Y Y Y Y) (d9 (bR (aW<|aZ (YG:=[.aZ 1]) rfl rfl) rfl rfl rfl (by show Z (ar<|(Q.length:Int)-1)=_;rw[fz,J4 ⋯];congr 3;lia)) (ed rfl) rfl) ?_;exact oB (kl (m:=Y) (sG (r:=g+d+1) (bt (aW<|bR rfl rfl rfl rfl rfl) rfl) rfl ⟨⋯,⋯⟩) z rfl)
def HF(aJ:List aC):eU (aJ.map ak) (aJ.map ak)=aa:=by
 induction aJ with
 |nil=>rfl
 |cons g s a=>
  show (ct (ak g) (ak g)&&eU (s.map ak) (s.map ak))=aa;rw[kZ,a,dx rfl];rfl
def QV(r:List aC)(i:r.length<=290):∃Q:List aC,Q.Nodup/\eL Q/\(∀f,f∈Q↔f∈r)/\(∀{y Yv:a6}{J:az (List bw)}{YG:List bw},J y=Z (YG,Yv)->eF Yv YG=Z [aK r]->sS J y=Z (bj Q,Yv))/\∀{y Yv:a6}{J:az (List bw)}{YG:List bw},J y=Z (YG,Yv)->eF Yv YG=Z [aK r]->tB J y=Z (ar (Q.length:Int),Yv):=by
 let⟨a,c,ah,g⟩:=F2 r;have o:a.length<=r.length:=BP ah λf j=>(g f).mp j;have k:(a.map c4).map V.tup=a.map ak:=by rw[eP];rfl
 let⟨Q,l,b,m⟩:=CD ah ⋯;let⟨h,n,W,W⟩:=Oq i;refine⟨Q,b.nodup_iff.mpr ah,qS.mpr m,λf=>b.mem_iff.trans<|g f,λd e=>?_,λd e=>?_⟩
 ·unfold sS;rw[d];show (eF _ _).bind _=_;rw[e];show (nM<|r.map ak).bind _=_;rw[show r.map ak=(r.map c4).map .tup by rw[eP];rfl,zZ];refine (aE ⟨h,n⟩).trans ?_;rw[c,k,l]
 ·unfold tB;rw[d];show (eF _ _).bind _=_;rw[e];show (nM<|r.map ak).bind _=_;rw[show r.map ak=(r.map c4).map .tup by rw[eP];rfl,zZ];refine (aE h).trans ?_;rw[c,ba,b.length_eq]
def Tv(Q:List aC):wh (bj Q) (.dv<|Q.map ak)=Z (.im<|.aB au):=by
 show (if (V.cQ 8 (Q.map ak)&&V.cQ 8 (Q.map ak))=aa then Z (aj.im<|.aB<|!eU (Q.map ak) (Q.map ak)) else Y)=_;rw[n6,HF];rfl
def V9{f H:List aC}(e:f.length+H.length<=100000):uM (bj f) [.dv (H.map ak)]=Z (.im .aV,bj<|f++H):=by
 show (if (f.map ak).length+(H.map ak).length<=100000 then Z (aj.im .aV,aj.lst<|f.map ak++H.map ak) else Y)=_;rw[aE (by rw[ba,ba];exact e),<-eX]
def Rh(n:aC):i3 (.im<|ak n) (.im<|ak n)=Z (.im<|.aB au):=by
 show (if (V.bo 8 (ak n)&&V.bo 8 (ak n))=aa then Z (aj.im<|.aB<|!ct (ak n) (ak n)) else Y)=_;rw[kZ,dx rfl];rfl
def U5(aJ:List aC):gP (bj aJ) (bj aJ)=Z (.im<|.aB aa):=by
 show (if (V.cQ 8 (aJ.map ak)&&V.cQ 8 (aJ.map ak))=aa then Z (aj.im<|.aB<|eU (aJ.map ak)<|aJ.map ak) else Y)=_;rw[n6,HF];rfl
def Rq(g d:Int):nk [ar g,ar d]=Z (ar<|max g d):=by rw[<-DR];rfl
structure su(l aJ:List aC)(h:aC)(F Q:List aC)(g d:Int):Prop where
 hd:∃ZC,F=h::ZC
 sub:∀n∈F,n∈aJ
 len:F.length<=290
 fz:Q.length<=290
 R_:rN [aK l,aK F]=Z (.im<|.tup [.int g,.int d,.aR<|Q.map ak],[aK l,aK F])
 el:∀{y Yv:a6}{J:az (List bw)}{YG:List bw},J y=Z (YG,Yv)->eF Yv YG=Z [aK F]->sS J y=Z (bj Q,Yv)
abbrev ip(aJ:List aC)(A Y4:Option aj)(l:List aC)(Y9:Option aj)(a:List aC)(G:Int)(Zn C O B:Option aj):a6:=[Z (aK aJ),A,Y4,Z<|aK l,Y9,Z<|bj a,Z<|ar G,Zn,C,O,B]
def Xm{F a:List aC}{h:aC}{G:Int}{A Y4 Y9 O:Option aj}(W:su l aJ h F Q g d)(p:a.length<=50000):
  v7 Yp (ip aJ A Y4 l Y9 a G (Z<|.im<|ak h) (Z<|aK F) O B)=Z (.aU,ip aJ A Y4 l Y9 (a++Q) (max G<|(F.length:Int)-1) (Z<|.im<|ak h) (Z<|aK F) (Z<|.im<|.tup [.int g,.int d,.aR<|Q.map ak]) B):=by
 have aR:=W.len;have fz:=W.fz;let⟨ZC,bG⟩:=W.hd;have e:bx (aK F) (ar 0)=Z (.im<|ak h):=by
  show (dN (F.map ak) 0).map aj.im=_;rw[m4 ∅ (by rw[bG];rfl)];rfl
 have f:gP (ar (F.length:Int)) (ar 0)=Z (.im<|.aB au):=by
  rw[yk,dC (by rw[bG,c8];lia)]
 have i:=l4 (own:=1) (YT:=b5 0) (n:=fD) (c:=CN Yp) (aP:=[Z (aK aJ)]) ak (λn=>.aB<|decide (n∈aJ)) F (λn U=>⟨[Z (.im<|ak n),Z<|aK aJ],_,[Z (.im<|ak n),Z<|aK aJ],rfl,rfl,cc<|VF aJ n,rfl⟩) ⋯;have j:(F.all λn=>decide (n∈aJ))=aa:=k9.mpr λn k=>dx (W.sub n k);have o:rS [.lst (F.map λn=>.aB<|decide (n∈aJ))]=Z (.im<|.aB aa):=by
  have:=US (λn=>decide (n∈aJ)) F;rw[j]at this;exact this
 have b:∀m,aw bx (af 9) (ae<|aA<|.int 2) (ip aJ A Y4 l Y9 a G (Z<|.im<|ak h) (Z<|aK F) (Z<|.im<|.tup [.int g,.int d,.aR<|Q.map ak]) m)=Z (.im<|.aR<|Q.map ak,ip aJ A Y4 l Y9 a G (Z<|.im<|ak h) (Z<|aK F) (Z<|.im<|.tup [.int g,.int d,.aR<|Q.map ak]) m):=λm=>bR rfl rfl rfl rfl rfl;unfold v7;refine bT (gD (wY (vW<|wW rfl rfl rfl)<|wY (fK<|bR (aW<|fe (bt rfl rfl) rfl<|lO F) rfl rfl rfl f)<|fK<|bR (aW<|cc e) rfl rfl rfl<|Rh h) rfl) ?_;refine bT (gD (vW<|wW (aW<|fe (bt (aW<|kM (x:=F.map ak) (m:=Y) (Yv:=ip aJ A Y4 l Y9 a G (Z<|.im<|ak h) (Z<|aK F) O B) rfl i rfl) rfl) rfl o) rfl rfl) rfl) ?_;refine bT (Yv:=ip aJ A Y4 l Y9 a G (Z<|.im<|ak h) (Z<|aK F) (Z<|.im<|.tup [.int g,.int d,.aR<|Q.map ak]) B) (d9 (dp (YG:=[.aZ 3,.aZ 8]) rfl rfl rfl W.R_ rfl) (ed rfl) rfl) ?_;refine bT (gD (wY (fK<|bR rfl rfl rfl rfl rfl)<|fK<|bR (aW<|W.el (rfl:aq (af 8) aD _=Z ([.aZ 8],_)) rfl) (aW<|HJ<|b _) rfl rfl<|Tv Q) rfl) ?_;refine bT (Yv:=ip aJ A Y4 l Y9 (a++Q) G (Z<|.im<|ak h) (Z<|aK F) (Z<|.im<|.tup [.int g,.int d,.aR<|Q.map ak]) B) (lL (j_ rfl rfl (bt (aW<|HJ<|b _) rfl) rfl rfl (V9 ⋯) rfl)) ?_;exact d9 (fe (bt rfl<|bt (aW<|bR (aW<|fe (bt rfl rfl) rfl<|lO F) rfl rfl rfl rfl) rfl) rfl<|Rq _ _) (ed rfl) rfl
theorem HK{Yp:dt}{l aJ:List aC}{A Y4 Y9 B:Option aj}{F J:aC->List aC}{g d:aC->Int}:∀(a b:List aC) (G:Int) (Zn C O:Option aj),(∀h∈a,su l aJ h (F h) (J h) (g h)<|d h)->b.length+300*a.length<=50000->
  ∃c e f,dX (fl 2<|dW (b5 7)<|dW (b5 8) g6) (v7 Yp) (a.map λh=>.tup [ak h,lW<|F h]) (ip aJ A Y4 l Y9 b G Zn C O B)=Z (.aU,ip aJ A Y4 l Y9 (b++a.flatMap J) (a.foldl (λk h=>max k<|((F h).length:Int)-1) G) c e f B)
 |[],b,G,Zn,C,O,_,_=>⟨Zn,C,O,by rw[Bv,cA];rfl⟩
 |h::a,b,G,Zn,C,O,j,n=>by
  rw[c8]at n;have W:=j h (.head _);have fz:=W.fz;let⟨c,e,f,m⟩:=HK (Yp:=Yp) (A:=A) (Y4:=Y4) (Y9:=Y9) (B:=B) (F:=F) a (b++J h) (max G<|((F h).length:Int)-1) (Z<|.im<|ak h) (Z<|aK<|F h) (Z<|.im<|.tup [.int (g h),.int<|d h,.aR<|(J h).map ak]) (λi bG=>j i<|.tail _ bG) (by rw[c6];lia);refine⟨c,e,f,?_⟩;rw[bq]at m;exact qg (Yv:=ip aJ A Y4 l Y9 b G (Z<|.im<|ak h) (Z<|aK<|F h) O B) rfl (Xm W ⋯) m
theorem Kv{YH Zh:Type}{N:YH->List Zh}:∀{t:List YH}{h:YH},(t.flatMap N).Nodup->h∈t->(N h).Nodup
 |g::t,h,e,Ys=>by
  rw[jE,d0]at e;rcases bW.mp Ys with rfl|Ys
  ·exact e.1
  ·exact Kv e.2.1 Ys
theorem JX{YH Zh:Type}{N j:YH->List Zh}:∀{t:List YH},(∀h∈t,(N h).Perm<|j h)->(t.flatMap N).Perm (t.flatMap j)
 |[],_=>.refl _
 |g::t,e=>by
  rw[jE,jE];exact (e g<|.head _).append (JX λh Ys=>e h<|.tail _ Ys)
theorem Cy{YH:Type}{N:YH->Int}{t:Int}:∀{b:List YH}{G:Int},G<=t->(∀h∈b,N h<=t)->((∃h∈b,N h=t)\/G=t)->b.foldl (λk h=>max k<|N h) G=t
 |[],G,_,_,e=>e.elim (λ⟨_,D,_⟩=>nomatch D) id
 |g::b,G,a,z,e=>by
  have d:=z g (.head _);refine Cy (b:=b) ⋯ (λh Ys=>z h<|.tail _ Ys) ?_;rcases e with ⟨h,Ys,c⟩|c
  ·rcases bW.mp Ys with rfl|Ys
   ·exact .inr ⋯
   ·exact .inl ⟨h,Ys,c⟩
  ·exact .inr ⋯
def PF(Ym:bY l)(a:Int):b7 l a∈l:=fL (Ym.get a)
def R0(l:List aC)(f:Int)(q:Int×Int):hT l f q.1 (q.1+q.2+1).toNat=(df (l.length:Int) f q).map (b7 l):=by
 unfold hT df;rw[eP];exact kH λo W=>(sq l _).symm
def MV(YB:zY l b a8 p t)(k:l.Perm aJ)(m:l.length<=160)(o:3<=l.length){h:aC}(Ys:h∈b):
  ∃Q,su l aJ h (et l h (a8 h)<|p h) Q (p h).1 (p h).2/\Q.Perm ((df (l.length:Int) (a8 h)<|p h).map<|b7 l)/\((et l h (a8 h)<|p h).length:Int)-1=dH (p h).1 (p h).2:=by
 have Ym:=YB.R;let⟨hc,ef,d⟩:=YB.hc h Ys;have e:=YB.at_ h Ys;have c:et l h (a8 h) (p h)=(b2 (a8 h)<|er (p h).1.toNat (p h).2.toNat).map (b7 l):=by
  have:=Ux (l:=l) (f:=a8 h) hc ef;rw[e]at this;exact this
 have aR:(et l h (a8 h)<|p h).length<=290:=QU hc ef d m;let⟨Q,ah,r,g,el,aZ⟩:=QV _ aR;have i:Q.Perm ((df (l.length:Int) (a8 h)<|p h).map<|b7 l):=(Az ah<|Kv (YB.parts.nodup_iff.mpr Ym.ah) Ys).mpr λn=>(g n).trans (by
  have:=XH (l:=l) (n:=n) (f:=a8 h) (q:=p h) hc ef;rw[e]at this;exact this)
 refine⟨Q,⟨⟨_,rfl⟩,λn j=>?_,aR,?_,?_,el⟩,i,?_⟩
 ·rw[c]at j;let⟨a,W,rfl⟩:=cW.mp j;exact k.mem_iff.mp (PF Ym a)
 ·exact fa (BP ah λf s=>(g f).mp s) aR
 ·exact Q4 Ym o (YB.x0 h Ys).1 (YB.x0 h Ys).2 hc ef d c (by rw[R0];exact i) ah r aZ
 ·rw[c,ba,Fp,Hu];unfold dH;split<;>split<;>lia
def LZ{a:V}(YB:zY l b a8 p t)(o:l.Perm aJ)(z:l.length<=160)(E:3<=l.length)(H:eL aJ)(ah:b.Nodup)(aZ:b.length<=8)(ne:b≠[])(I:n2 Yp [aK aJ,.im a]=Z (aK l,[aK aJ,.im a]))(Q:rB Yp [aK aJ,.im a,aK b]=Z (.im<|.tup<|b.map λh=>lW<|et l h (a8 h)<|p h,[aK aJ,.im a,aK b]))(fz:mF [ar (l.length:Int),bV<|fc<|b.map a8]=Z (ar t,[ar (l.length:Int),bV<|fc<|b.map a8]))(T:∀h∈b,iP (aK l) (.im<|ak h)=Z (ar<|a8 h)):
  w3 Yp [aK aJ,.im a,aK b]=Z (.im<|.aB aa,[aK aJ,.im a,aK b]):=by
 have Ym:=YB.R;have w:∀h:aC,∃Q:List aC,h∈b->su l aJ h (et l h (a8 h)<|p h) Q (p h).1 (p h).2/\Q.Perm ((df (l.length:Int) (a8 h)<|p h).map<|b7 l)/\((et l h (a8 h)<|p h).length:Int)-1=dH (p h).1 (p h).2:=λh=>by
  by_cases e:h∈b
  ·let⟨Q,g⟩:=MV YB o z E e;exact⟨Q,λ_=>g⟩
  ·exact⟨[],λD=>absurd D e⟩
 obtain⟨J,f⟩:∃J:aC->List aC,∀h,h∈b->su l aJ h (et l h (a8 h)<|p h) (J h) (p h).1 (p h).2/\(J h).Perm ((df (l.length:Int) (a8 h)<|p h).map<|b7 l)/\((et l h (a8 h)<|p h).length:Int)-1=dH (p h).1 (p h).2:=⟨λh=>(w h).choose,λh=>(w h).choose_spec⟩;let⟨q,r,s,i⟩:=HK (Yp:=Yp) (l:=l) (aJ:=aJ) (A:=Z (.im a)) (Y4:=Z (aK b)) (Y9:=Z (.im<|.tup<|b.map λh=>lW<|et l h (a8 h)<|p h)) (B:=Y) (F:=λh=>et l h (a8 h)<|p h) (J:=J) (g:=λh=>(p h).1) (d:=λh=>(p h).2) b [] 0 Y Y Y (λh Ys=>(f h Ys).1) (by rw[ik];lia);rw[ih]at i;have bL:(b.flatMap J).Perm l:=(JX λh Ys=>(f h Ys).2.1).trans YB.parts;have G:b.foldl (λk h=>max k<|((et l h (a8 h)<|p h).length:Int)-1) 0=t:=by
  let⟨U,j,L⟩:=YB.mr;refine Cy (N:=λh=>((et l h (a8 h)<|p h).length:Int)-1) ?_ (λh Ys=>by rw[(f h Ys).2.2];exact YB.most h Ys) (.inl ⟨U,j,by rw[(f U j).2.2];exact L⟩);let⟨ZC,bG⟩:=(f U j).1.hd;have:=(f U j).2.2;rw[bG,c8]at this;lia
 rw[G]at i;have C:(b.flatMap J).Nodup:=bL.nodup_iff.mpr Ym.ah;have M:hA [bj (b.flatMap J)]=Z (bj aJ):=by
  rw[vm λu hd=>by
   let⟨n,W,rfl⟩:=cW.mp hd;exact⟨_,rfl⟩]
  exact Gh (o.symm.trans bL.symm) H (by rw[bL.length_eq];lia) C
 have O:=l4 (own:=1) (YT:=b5 0) (n:=fD) (c:=HD Yp) (aP:=[Z (aK l)]) ak (λn=>.int<|a8 n) b (λn P=>⟨[Z (.im<|ak n),Z<|aK l],_,[Z (.im<|ak n),Z<|aK l],rfl,rfl,cc<|T n P,rfl⟩) ⋯;have S:(b.map a8).Nodup:=nv ah λg al d am c=>by rw[<-YB.at_ g al,<-YB.at_ d am,c]
 have an:oU [.lst (b.map λn=>.int<|a8 n)]=Z (bU<|fc<|b.map a8):=by
  rw[show (b.map λn=>V.int<|a8 n)=(b.map a8).map .int by rw[eP];rfl];show (k5<|(b.map a8).map .int).bind _=_;rw[ES];show (if (b.map a8).Nodup/\(b.map a8).length<=1000 then _ else _)=_;rw[aE ⟨S,by rw[ba];lia⟩,xn]
 have aR:(aJ.length:Int)=(l.length:Int):=by rw[o.length_eq]
 generalize v:aj.im (.tup<|b.map λh=>lW<|et l h (a8 h)<|p h)=az at Q i;have ap:e7 [az]=Z (ar (b.length:Int)):=by
  rw[<-v];show Z (ar (((b.map λh=>lW<|et l h (a8 h)<|p h).length:Nat):Int))=_;rw[ba]
 unfold w3 Di;refine e3 (y:=ip aJ (Z<|.im a) (Z<|aK b) l (Z az) (b.flatMap J) t q r s (Z<|bV<|fc<|b.map a8)) rfl ?_ rfl;refine bT (Yv:=[Z (aK aJ),Z<|.im a,Z<|aK b,Z<|aK l,Y,Y,Y,Y,Y,Y,Y]) (d9 (dp (YG:=[.aZ 0,.aZ 1]) rfl rfl rfl I rfl) (ed rfl) rfl) ?_;refine bT (Yv:=[Z (aK aJ),Z<|.im a,Z<|aK b,Z<|aK l,Z az,Y,Y,Y,Y,Y,Y]) (d9 (dp (YG:=[.aZ 0,.aZ 1,.aZ 2]) rfl rfl rfl Q rfl) (ed rfl) rfl) ?_;refine bT (gD (wY (vW (wW (aW (u:=.im (.aB aa)) (by rw[<-v];rfl)) rfl rfl)) (fK (bR (aW<|fe (bt rfl rfl) rfl ap) (aW<|fe (bt rfl rfl) rfl<|lO b) rfl rfl ((QP _ _).trans (by rw[dx rfl];rfl))))) rfl) ?_;refine bT (Yv:=ip aJ (Z<|.im a) (Z<|aK b) l (Z az) [] 0 Y Y Y Y) rfl ?_;refine bT (kl (x:=b.map λh=>.tup [ak h,lW<|et l h (a8 h)<|p h]) (m:=Y) (Yv:=ip aJ (Z<|.im a) (Z<|aK b) l (Z az) [] 0 Y Y Y Y) (by
  rw[<-IK,<-v];exact uG (bt rfl<|bt rfl rfl) rfl) i rfl) ?_
 refine bT (Yv:=ip aJ (Z<|.im a) (Z<|aK b) l (Z az) (b.flatMap J) t q r s (Z<|bV<|fc<|b.map a8)) (d9 (pl<|fe (bt (aW<|kM (x:=b.map ak) (m:=Y) (Yv:=ip aJ (Z<|.im a) (Z<|aK b) l (Z az) (b.flatMap J) t q r s Y) rfl O rfl) rfl) rfl an) (ed rfl) rfl) ?_;exact eE (AK (oq (fK<|bR (aW<|fe (bt rfl rfl) rfl M) (aW (u:=bj aJ) rfl) rfl rfl<|U5 aJ) (fK (bR rfl (aW (dp (YG:=[.cp (ar (l.length:Int)),.aZ 10]) (bt (aW (fe (bt rfl rfl) rfl ((lO aJ).trans (by rw[aR]))))<|bt rfl rfl) rfl rfl fz rfl)) rfl rfl ((yk t t).trans (by rw[dx rfl]))))))
def RZ(f:qR Yp){YP:List Int}{o:Int}{Y4 Zf Y9 Y_:Option aj}(g:0<=o)(F:o<6):
  ∃M,w7 Yp [Z (.dv<|YP.map .int),Z<|ar o,Y4,Zf,Y9,Y_]=Z (.aU,M)/\∃Y6 h i j,M=[Z (.dv<|YP.map .int),Z<|ar o,Y6,h,i,j]:=by
 let⟨G,k,a⟩:=SO (YP:=YP) g ⋯;let⟨z,Yr,m,Yx,Zb,H,W⟩:=Ub (w:=999000) a;let⟨aJ,n,YZ,c⟩:=L_ Zb;let⟨E,U,I,q,r,YO,s,i4,u⟩:=Vf (w:=998900) Zb Yx;have fn:aJ.Nodup:=YZ.nodup_iff.mpr Zb.zM;have aR:aJ.length=4*Yr.length:=by rw[YZ.length_eq,sl]
 have aB:=Zb.len;have J:=jg.mpr Zb.ne;let⟨L,b,v,x,ne,ah,aZ,sub⟩:=Xi (w:=998880) YO (λD=>by rw[D,ik]at aR;lia) fn ⋯;let⟨l,a8,p,t,YB,d,y,A,Q,fz,T⟩:=U1 f Zb YZ c s i4 u ne ah aZ sub;have B:=LZ YB d y (by rw[d.length_eq];lia) c ah aZ ne A Q fz T;let⟨ef,rfl⟩:=fq a;let⟨C,rfl⟩:=fq Yx;let⟨e,rfl⟩:=fq YO;let⟨N,rfl⟩:=fq x;unfold w7;refine xZ (Yv:=[Z (.dv<|YP.map .int),Z<|ar o,Z<|.lst ef,Zf,Y9,Y_]) (d9 (dp (YG:=[.aZ 0,.aZ 1]) rfl rfl rfl k rfl) (ed rfl) rfl) ?_;refine xZ (Yv:=[Z (.dv<|YP.map .int),Z<|ar o,Z<|.lst C,Z<|bj Yr,Y9,Y_]) (jD (dp (YG:=[.aZ 2,.cp<|ar 24]) rfl rfl rfl m rfl) (ed rfl) rfl) ?_;refine xZ (Yv:=[Z (.dv<|YP.map .int),Z<|ar o,Z<|.lst e,Z<|bj Yr,Z<|aK aJ,Z<|.im<|.tup<|U.map cN]) (xO (M:=[Z (.dv<|YP.map .int),Z<|ar o,Z<|.lst e,Z<|bj Yr,Y9,Y_]) (c9 (dP<|dp (YG:=[.aZ 3]) rfl rfl rfl n rfl)<|c9 (dP<|dp (YG:=[.aZ 2,.aZ 3]) rfl rfl rfl r rfl) rfl) rfl (ed rfl) (ed rfl) rfl) ?_;exact⟨_,gD (vW<|zH (dP<|dp (YG:=[.aZ 4,.aZ 5,.cp<|aK b]) (c9 rfl<|c9 rfl<|c9 (dP<|dp (YG:=[.aZ 2,.aZ 4]) rfl rfl rfl v rfl) rfl) rfl rfl B rfl) rfl rfl) rfl,_,_,_,_,rfl⟩
def P5(b:qR Yp)(YP:List Int)(l:YP.length<100000):∃i,qL Yp [.dv (YP.map .int)]=Z (.im<|.aB aa,i):=by
 obtain⟨k,e,n,cm⟩:∃k:Int,k=(if (if (YP.length:Int)<6 then (YP.length:Int) else 6)>1 then (if (YP.length:Int)<6 then (YP.length:Int) else 6) else 1)/\1<=k/\k<=6:=⟨_,rfl,by split<;>lia,by split<;>(try split)<;>lia⟩;let⟨YN,g,⟨A,Y4,Zf,Y9,Y_,rfl⟩⟩:=B9 (YT:=b5 1) (d:=w7 Yp) (x:=fV 0 k.toNat) (λa y=>∃A Y4 Zf Y9 Y_,y=[Z (.dv<|YP.map .int),A,Y4,Zf,Y9,Y_]) (y:=[Z (.dv<|YP.map .int),Y,Y,Y,Y,Y]) ⟨Y,Y,Y,Y,Y,rfl⟩
  (λa f y h j=>by
   let⟨A,Y4,Zf,Y9,Y_,rfl⟩:=j;let⟨T,rfl⟩:=x6 h;let⟨W,c,⟨Y6,p,q,s,rfl⟩⟩:=RZ b (YP:=YP) (o:=0+(a:Int)) (Y4:=Y4) (Zf:=Zf) (Y9:=Y9) (Y_:=Y_) ⋯ ⋯;exact⟨_,.aU,_,rfl,c,.inl rfl,_,_,_,_,_,rfl⟩)
 refine⟨[.dv (YP.map .int)],?_⟩;unfold qL GW;refine e3 (y:=[Z (.dv<|YP.map .int),A,Y4,Zf,Y9,Y_]) rfl (bT (kl (m:=Y) (sG (r:=k) (bt (aW (fe (bt rfl<|bt (aW<|fe (bt rfl<|bt (aW<|fe (bt rfl rfl) rfl<|Rn YP) rfl) rfl rfl) rfl) rfl (by rw[e];rfl))) rfl) rfl ⟨⋯,⋯⟩) g rfl)<|eE rfl) rfl
end G
namespace L2
end L2
namespace L2
open Spec PyProof.Rows
variable{e Zk Zp:az bw}{d g c:bz}{Q:List bz}{YD q:Pos}{k o w:Nat}{J:az (List bw)}{Y3:List Nat}{Y0 Yz:List aG}{F:ag}{Zr f:aG}{Yo:Φ}{S:dn}
def s7:List (ag×a3)->Bool
 |[]=>aa
 | (_,m)::s=>(match m.data with
  |.seq _ _=>(match m.cls with | .type w=>w != "list" |_=>aa)
  |_=>aa)&&s7 s
def Ow{Yo:List (ag×a3)}{g:ag}{m:a3}{Yy:Array ab}(e:s7 Yo=aa)(c:Yo.lookup g=Z m)(a:m.cls=.type "list")(hd:m.data=.seq Yy w):False:=by
 induction Yo with
 |nil=>cases c
 |cons q s b=>
  let⟨d,f⟩:=q;rw[s7,cU]at e;simp only[List.lookup]at c;split at c
  ·cases c;have z:=e.1;rw[hd]at z;dsimp only at z;rw[a]at z;exact absurd z ∅
  ·exact b e.2 c
theorem EA{j:ay}:∀YP:List Int,bb j (YP.map .int) (YP.map av.int)
 |[]=>rfl
 |w::s=>⟨.int w,_,rfl,rfl,EA s⟩
def QR(a:s7 Yo=aa)(j:ay)(g:ag)(YP:List Int)(b:ux j)(d:de Yo j g (YP.map av.int))(bG:∃i,S [.dv (YP.map .int)]=Z (.im<|.aB aa,i)){Yq:hs}:lH 1 S [.ref g] j (λv W=>v=.aB aa) Yq:=by
 let⟨@i,bG⟩:=bG;have f:∃m,j g=Z (.dF m<|.lst<|YP.map av.int):=by
  rcases d with (e|e)|⟨m,Yy,w,z,E,l,h,_⟩
  ·rcases b g with c|⟨m,x,c⟩
   ·rw[c]at e;cases e
   ·rw[c]at e;cases e
  ·exact e
  ·exact (Ow a z E h).elim
 let⟨@m,k⟩:=f;refine⟨rfl,[.dv (YP.map .int)],[],.im<|.aB aa,i,⟨_,_,[],[],rfl,⟨g,_,m,rfl,k,EA YP,rfl⟩,⟨rfl,rfl⟩,rfl⟩,kR,bG,λv P Ym n e W W=>?_⟩;exact e.1
def k4{YM:List ab}(e:YM.length=w+1):∃g s,YM=g::s/\s.length=w:=by
 cases YM with
 |nil=>cases e
 |cons g s=>exact⟨g,s,rfl,Nat.succ.inj e⟩
def hk.Sz{X:cf}{fd:hL}(N:hk Yo f Zr X F fd)(e:∀(cK y YZ:ab) (R:Option ag) (D cx:ab) (g:ab),lQ (Ξ f Zr (iW X) (ho X) (eV X) .none cK y YZ R D cx) ⟨[g],[]⟩=pure (Yz.zip [g]))(b:Yz.length=1:=by rfl):j8 Yo fd Yz []:=
 N.binds λcK y YZ R D cx YM a=>by
  replace a:=a.trans b;let⟨g,@c,rfl,z⟩:=k4 a;obtain rfl:=oy z;exact e cK y YZ R D cx g
def hk.SU{X:cf}{fd:hL}(N:hk Yo f Zr X F fd)(e:∀(cK y YZ:ab) (R:Option ag) (D cx:ab) (g d:ab),lQ (Ξ f Zr (iW X) (ho X) (eV X) .none cK y YZ R D cx) ⟨[g,d],[]⟩=pure (Yz.zip [g,d]))(b:Yz.length=2:=by rfl):j8 Yo fd Yz []:=
 N.binds λcK y YZ R D cx YM a=>by
  replace a:=a.trans b;let⟨g,@c,rfl,z⟩:=k4 a;let⟨d,@h,rfl,E⟩:=k4 z;obtain rfl:=oy E;exact e cK y YZ R D cx g d
def hk.NG{X:cf}{fd:hL}(N:hk Yo f Zr X F fd)(e:∀(cK y YZ:ab) (R:Option ag) (D cx:ab) (g d n:ab),lQ (Ξ f Zr (iW X) (ho X) (eV X) .none cK y YZ R D cx) ⟨[g,d,n],[]⟩=pure (Yz.zip [g,d,n]))(b:Yz.length=3:=by rfl):j8 Yo fd Yz []:=
 N.binds λcK y YZ R D cx YM a=>by
  replace a:=a.trans b;let⟨g,@h,rfl,z⟩:=k4 a;let⟨d,@i,rfl,E⟩:=k4 z;let⟨n,@j,rfl,c⟩:=k4 E;obtain rfl:=oy c;exact e cK y YZ R D cx g d n
def hk.OW{X:cf}{fd:hL}(N:hk Yo f Zr X F fd)(e:∀(cK y YZ:ab) (R:Option ag) (D cx:ab) (g d n u:ab),lQ (Ξ f Zr (iW X) (ho X) (eV X) .none cK y YZ R D cx) ⟨[g,d,n,u],[]⟩=pure (Yz.zip [g,d,n,u]))(b:Yz.length=4:=by rfl):j8 Yo fd Yz []:=
 N.binds λcK y YZ R D cx YM a=>by
  replace a:=a.trans b;let⟨g,@i,rfl,z⟩:=k4 a;let⟨d,@j,rfl,E⟩:=k4 z;let⟨n,@k,rfl,c⟩:=k4 E;let⟨u,@l,rfl,h⟩:=k4 c;obtain rfl:=oy h;exact e cK y YZ R D cx g d n u
structure ep where
 P:bO
 w:bh
 K:Φ
 aI:aG->Option ab
 base:aX
def dJ(Yo:Φ)(f:aG)(X:cf)(F:ag):Prop:=(∃fd,hk Yo f f X F fd/\Ψ Yo dV f=Z (Z<|.ref F))
def d3(Yo:Φ)(aI:aG->Option ab)(f:aG)(X:cf)(F:ag)(Yz:List aG):Prop:=(∃fd,hk Yo f f X F fd/\j8 Yo fd Yz []/\aI f=Z (.ref F))
def nZ(YC:bO)(l:bh)(Yo:Φ)(aI:aG->Option ab)(YF:aX)(o:Nat)(f:aG)(X:cf)(F:ag)(Yz:List aG)(w:Nat)(S:dn):Prop:=(∃fd,hk Yo f f X F fd/\j8 Yo fd Yz []/\aI f=Z (.ref F)/\js YC l Yo aI YF iO o F fd Yz (lH w S))
abbrev eJ(n:ep):=nZ n.P n.w n.K n.aI n.base
def Ka{X:cf}{E:ab}{z R:Option ag}{T:Array (Option ab)}{cK y YZ D cx:ab}(g:Ψ Yo dV f=Z (Z<|.ref F))(t:Yo.lookup F=Z ⟨E,z,.func<|Ξ f f (iW X) (ho X) (eV X) .none cK y YZ R D cx,T⟩)(n:Δ Yo D f=aa)(o:Θ Yo (.ref F)=aa):dJ Yo f X F:=⟨_,NC t n o,g⟩
section
variable{YC:bO}{l:bh}{Yo:Φ}{aI:aG->Option ab}{YF e:aX}{o w:Nat}{f:aG}{X:cf}{F:ag}{Yz:List aG}{S:dn}
def dJ.aQ(s:dJ Yo f X F)(b:Yo.In e)(c:e.Ns dV aI)(d:∀(cK y YZ:ab) (R:Option ag) (D cx g:ab),lQ (Ξ f f (iW X) (ho X) (eV X) .none cK y YZ R D cx) ⟨[g],[]⟩=pure (Yz.zip [g]):=by intros;rfl)(h:Yz.length=1:=by rfl):d3 Yo aI f X F Yz:=
 have ⟨_,a,g⟩:=s
 ⟨_,a,a.Sz d h,mg b c g⟩
def dJ.aS(s:dJ Yo f X F)(b:Yo.In e)(c:e.Ns dV aI)(h:∀(cK y YZ:ab) (R:Option ag) (D cx g d:ab),lQ (Ξ f f (iW X) (ho X) (eV X) .none cK y YZ R D cx) ⟨[g,d],[]⟩=pure (Yz.zip [g,d]):=by intros;rfl)(i:Yz.length=2:=by rfl):d3 Yo aI f X F Yz:=
 have ⟨_,a,g⟩:=s
 ⟨_,a,a.SU h i,mg b c g⟩
def dJ.mS(s:dJ Yo f X F)(b:Yo.In e)(c:e.Ns dV aI)(h:∀(cK y YZ:ab) (R:Option ag) (D cx g d n:ab),lQ (Ξ f f (iW X) (ho X) (eV X) .none cK y YZ R D cx) ⟨[g,d,n],[]⟩=pure (Yz.zip [g,d,n]):=by intros;rfl)(i:Yz.length=3:=by rfl):d3 Yo aI f X F Yz:=
 have ⟨_,a,g⟩:=s
 ⟨_,a,a.NG h i,mg b c g⟩
def dJ.nD(s:dJ Yo f X F)(b:Yo.In e)(c:e.Ns dV aI)(h:∀(cK y YZ:ab) (R:Option ag) (D cx g d n u:ab),lQ (Ξ f f (iW X) (ho X) (eV X) .none cK y YZ R D cx) ⟨[g,d,n,u],[]⟩=pure (Yz.zip [g,d,n,u]):=by intros;rfl)(i:Yz.length=4:=by rfl):d3 Yo aI f X F Yz:=
 have ⟨_,a,g⟩:=s
 ⟨_,a,a.OW h i,mg b c g⟩
def nZ.fd{fd:hL}(aP:nZ YC l Yo aI YF o f X F Yz w S)(b:hk Yo f f X F fd):js YC l Yo aI YF iO o F fd Yz (lH w S):=by
 let⟨@e,d,W,W,J⟩:=aP;let⟨E,z,cK,y,YZ,R,D,cx,@T,c,t,W⟩:=b.ex;let⟨g,h,i,j,k,m,n,p,@q,r,a,W⟩:=d.ex;rw[t]at a;cases a;exact J
def Mx(s:dJ Yo f X F)(b:Yo.In e)(i:e.Ns dV aI){a:ag}(j:aI f=Z (.ref a)){q:aG}(k:∀(cK y YZ:ab) (R:Option ag) (D cx:ab) (h:ai) (v:ab),nC h (Ξ f f (iW X) (ho X) (eV X) .none cK y YZ R D cx) ⟨[v],[]⟩ [(q,v)])(aP:∀YF,nZ YC l Yo aI YF o f X F [q] w S):
  ∃fd:hL,(∀(h:ai) (v:ab),nC h fd ⟨[v],[]⟩ [(q,v)])/\∀YF:aX,Yo.In YF->YF.Ns dV aI->js YC l Yo aI YF iO o a fd [q] (lH w S):=by
 let⟨@fd,c,g⟩:=s;cases j.symm.trans (mg b i g);refine⟨fd,?_,λd U U=>(aP d).fd c⟩;let⟨E,z,cK,y,YZ,R,D,cx,@T,rfl,t,U⟩:=c.ex;exact k cK y YZ R D cx
def NP{J:bB}(N:d3 Yo aI f X F Yz)(YB:oO Y0 Yz (eV X))(c:Yz.length=w)(e:∀a∈Y3,a<w)(g:Y0.Nodup->∀(D:ab) (O:bA) (G:List fA) (h:ai) (j:ay) (Yq:hs),fO o (O.deeper<|jR f (eV X) h.heap.objs.size F D)->jm (mc iO YC l Yo aI YF Y0 f (eV X) F D O G h j Yq).pL Y3 (ho X) J):
  nZ YC l Yo aI YF (o+1) f X F Yz w (dG w Y0.length Y3 J):=
 have ⟨_,b,d,k⟩:=N
 ⟨_,b,d,k,Rm b YB c e<|g YB.ah⟩
end
section
variable{b:aO}
def Pk{X:cf}(aP:nZ b.prog b.w b.K b.aI b.base o f X F Yz w S)(a:fO k b.A)(e:dE b f)(g:fJ b (c::Q) J)(h:o<=k:=by decide)(i:(f==("__debug__" : aG))=au:=by decide)(j:bH (c::Q) b.env=(au,b0 c b.env)::bH Q b.env:=by rfl)(m:(gp YD<|bH Q b.env).any (·.1)=au:=by rfl):
  cI b (.Call (.Name f q) (c::Q) [] YD) (b_ w S J):=
 have ⟨_,n,d,k,N⟩:=aP
 Rd N (a.mono h) e k n.da d g i j m
def a9{a:Int}{r YD}:dZ b (.Constant (.int a) r YD) (ae<|aA<|.int a):=a0 hh
def ax(a:Nat){f:aG}{YD:Pos}(c:b.N[a]?=Z f:=by rfl)(d:vg b.env.scope f:=by first|exact Or.inl rfl|exact Or.inr (Or.inl rfl)|exact Or.inr (Or.inr rfl))(hd:(f==("__debug__" : aG))=au:=by decide)(e:(f==("__classdict__" : aG))=au:=by decide):dZ b (.Name f YD) (af a):=Uk (GP c d hd e)
def b8{J:az bw}(a:dZ b c J)(Ys:bH [c] b.env=(au,b0 c b.env)::bH [] b.env:=by rfl):fJ b [c] (aq J aD):=mL a k_ Ys
def lp(a:fO k b.A)(c:dZ b g Zp)(e:dZ b d Zk)(Ys:wt d:=by exact λ_ W=>rfl):cI b (.Subscript g d YD) (aw bx Zp Zk):=jc (Fq (by have:=a.un;lia)) c e Ys
def b1{F:bz}{J:az bw}(a:dZ b c J)(d:dZ b F e)(Ys:bH [c,F] b.env=(au,b0 c b.env)::bH [F] b.env:=by rfl)(E:bH [F] b.env=(au,b0 F b.env)::bH [] b.env:=by rfl):fJ b [c,F] (aq J<|aq e aD):=mL a (b8 d E) Ys
def hE{F u:bz}{J o:az bw}(a:dZ b c J)(d:dZ b F e)(hd:dZ b u o)(Ys:bH [c,F,u] b.env=(au,b0 c b.env)::bH [F,u] b.env:=by rfl)(z:bH [F,u] b.env=(au,b0 F b.env)::bH [u] b.env:=by rfl)(E:bH [u] b.env=(au,b0 u b.env)::bH [] b.env:=by rfl):fJ b [c,F,u] (aq J<|aq e<|aq o aD):=mL a (b1 d hd z E) Ys
def c5(a:Nat){f:aG}{c:bz}{J:az aj}{YD i:Pos}(d:b.N.Nodup)(e:cI b c J)(T:b.N[a]?=Z f:=by rfl)(g:ks b.env.scope f:=by exact Or.inl rfl)(h:a∉Y3:=by decide)(Ys:oQ c (Z<|.Name f i) YD.line b.env=pure au:=by rfl)(j:b.fn f=aa\/b.env.scope.names.lookup f=Z .local:=by first|exact .inl rfl|exact .inr rfl|assumption):iN b Y3 (.Assign [.Name f i] c YD) (bP a J):=oP d T g e h Ys j
def gb(a:Nat){f:aG}{YD:Pos}(c:b.N.Nodup)(T:b.N[a]?=Z f:=by rfl)(d:ks b.env.scope f:=by exact Or.inl rfl)(e:a∉Y3:=by decide)(g:b.fn f=aa\/b.env.scope.names.lookup f=Z .local:=by first|exact .inl rfl|exact .inr rfl|assumption):hZ b Y3 (.Name f YD) (b5 a):=It c T d e g
def uO:List aG->Bool
 |[]=>aa
 |f::t=>!t.contains f&&uO t
theorem I_:∀{t:List aG},uO t=aa->t.Nodup
 |[],_=>kR
 |f::t,e=>by
  rw[uO,cU,uV]at e;refine g5.mpr ⟨λD=>?_,I_ e.2⟩;rw[List.contains_iff_mem.mpr D]at e;cases e.1
def ja(a:Nat){f:aG}{YD:Pos}(T:b.N[a]?=Z f:=by rfl)(c:uO b.N=aa:=by kernel_rfl)(d:ks b.env.scope f:=by exact Or.inl rfl)(e:a∉Y3:=by decide)(g:b.fn f=aa\/b.env.scope.names.lookup f=Z .local:=by first|exact .inl rfl|exact .inr rfl|assumption):hZ b Y3 (.Name f YD) (b5 a):=It (I_ c) T d e g
def n1{YT Zl ZA:bz}{YS:hO}(own:List aG)(Y1:List Nat){l:jb}{H:fk}{ZF:az aj}(T:l6 b YT Zl l)(c:∀a,hZ (b.df (gB b own Y1) YS a) (qx own.length Y1.length) YT H)(d:∀a,cI (b.df (gB b own Y1) YS a) ZA ZF)(YB:za b.env.scope b.N YS Y1=aa:=by kernel_rfl)(e:b.calm=aa:=by rfl)(ah:Y1.Nodup:=by decide)(Ys:∀f,me Zl b.env f=pure f:=by intro W;rfl):cI b (.ListComp ZA [⟨YT,Zl,[],0⟩] YS YD) (fN own.length Y1 l H fD ZF):=
 Cs e (w1 _ _ YB rfl rfl) ah T c (λ_=>yC) d Ys
def lC{J e:fk}{a}(c:hZ b Y3 g J)(f:hZ b Y3 d e)(h:b.calm=aa:=by rfl)(z:(hM [g,d] b.env).map (·.2)=ju g b.env::(hM [d] b.env).map (·.2):=by rfl)(E:(hM [d] b.env).map (·.2)=ju d b.env::(hM [] b.env).map (·.2):=by rfl)(i:(hM [g,d] b.env).length=2:=by rfl)(j:(hM [g,d] b.env).findIdx? (·.1)=Y:=by rfl):hZ b Y3 (.Tuple [g,d] a YD) (fl 2<|dW J<|dW e g6):=MK h (E9 c (E9 f Q3 E) z) i j
def ec{id:String}{Zc:List aj->Option aj}(a:hJ b (.builtin id) Zc)(d:b.aI f=Y)(e:e4 f=Z (.builtin id))(g:fJ b (c::Q) J)(h:dE b f:=by rfl)(i:f ≠ "__name__" := by decide)(j:(f==("__debug__" : aG))=au:=by decide)(k:bH (c::Q) b.env=(au,b0 c b.env)::bH Q b.env:=by rfl)(l:(gp YD<|bH Q b.env).any (·.1)=au:=by rfl):
  cI b (.Call (.Name f q) (c::Q) [] YD) (b3 Zc J):=VM a h d e g i j k l
def dc{X:cf}(aP:nZ b.prog b.w b.K b.aI b.base o f X F Yz w S)(a:fO k b.A)(d:fJ b (c::Q) J)(e:dE b f:=by rfl)(g:o<=k:=by decide)(h:(f==("__debug__" : aG))=au:=by decide)(i:bH (c::Q) b.env=(au,b0 c b.env)::bH Q b.env:=by rfl)(j:(gp YD<|bH Q b.env).any (·.1)=au:=by rfl):
  cI b (.Call (.Name f q) (c::Q) [] YD) (b_ w S J):=Pk aP a e d g h i j
def en(a:fO k b.A)(c:dZ b g Zp)(e:dZ b d Zk)(Ys:wt d:=by exact λ_ W=>rfl):dZ b (.Subscript g d YD) (ae<|aw bx Zp Zk):=a0 (lp a c e Ys)
def bX{Zc:AZ}{F:aj->aj->Option aj}(a:fQ b (gr Zc) F)(c:dZ b g Zp)(e:dZ b d Zk):dZ b (.BinOp g Zc d YD) (ae<|aw F Zp Zk):=a0 (gg a c e)
def hN{a}(e:fJ b Q J):dZ b (.Tuple Q a YD) (ae<|d6 J):=a0 (pg e)
end
section
variable{YC:bO}{l:bh}{Yo:Φ}{aI:aG->Option ab}{YF e:aX}{o w:Nat}{f:aG}{X:cf}{F:ag}{Yz:List aG}{S:dn}
def PL{YC:List aG}{i:hO}(g:i.kind=.function:=by rfl)(d:i.isCoroutine=au:=by rfl)(n:i.isGenerator=au:=by rfl)(u:Y0.Nodup:=by decide +kernel)(c:Y0.take YC.length=YC:=by rfl)(F:∀f∈YC,i.names.lookup f=Z .local\/i.names.lookup f=Z .cell:=by decide +kernel)(J:∀H∈i.names,H.2≠.free:=by decide +kernel):oO Y0 YC i:=⟨g,d,n,u,c,F,J⟩
def eI{J:bB}(Y0:List aG)(N:d3 Yo aI f X F Yz)(b:Y0.Nodup->∀(D:ab) (O:bA) (G:List fA) (h:ai) (j:ay) (Yq:hs),fO o (O.deeper<|jR f (eV X) h.heap.objs.size F D)->jm (mc iO YC l Yo aI YF Y0 f (eV X) F D O G h j Yq).pL Y3 (ho X) J)(YB:oO Y0 Yz (eV X):=by exact PL)(c:Yz.length=w:=by rfl)(d:∀a∈Y3,a<w:=by decide):nZ YC l Yo aI YF (o+1) f X F Yz w (dG w Y0.length Y3 J):=NP N YB c d b
end
end L2
namespace K49
open L2 PyProof.Rows
variable{F:ag}{n:ep}{o:Nat}{O:bA}
def dR(a:Nat):cf:=(PySem.Challenge.pw_mowfloor_k49_several_walks.main.body.getD a (.Pass ⟨0,0,0,0⟩))
structure eG(aI:aG->Option ab):Prop where
 ME:aI "all" = Y
 Tc:aI "dict" = Y
 XM:aI "int" = Y
 JN:aI "isinstance" = Y
 h3:aI "len" = Y
 AS:aI "list" = Y
 tU:aI "max" = Y
 xt:aI "min" = Y
 oZ:aI "range" = Y
 Nq:aI "reversed" = Y
 Cj:aI "set" = Y
 mM:aI "sorted" = Y
 jo:aI "tuple" = Y
 qT:aI "zip" = Y
 Qg:∃i,aI "LEFT" = Z (.int (-1) i)
 VZ:∃i,aI "RIGHT" = Z (.int 1 i)
 zF:∃i,aI "SIDE" = Z (.int 2 i)
def Vo:e4 "all" = Z (.builtin "all"):=by decide +kernel
def Rp:e4 "dict" = Z (.type "dict"):=by decide +kernel
def Rr:e4 "int" = Z (.type "int"):=by decide +kernel
def IM:e4 "isinstance" = Z (.builtin "isinstance"):=by decide +kernel
def iL:e4 "len" = Z (.builtin "len"):=by decide +kernel
def KU:e4 "list" = Z (.type "list"):=by decide +kernel
def sW:e4 "max" = Z (.builtin "max"):=by decide +kernel
def wb:e4 "min" = Z (.builtin "min"):=by decide +kernel
def m7:e4 "sorted" = Z (.builtin "sorted"):=by decide +kernel
def jU:e4 "tuple" = Z (.type "tuple"):=by decide +kernel
def c7(a:fO o O):O.units+20<bQ:=by have:=a.un;omega
def Br(a:fO o O):O.units+30<bQ:=by have:=a.un;omega
abbrev yO:cf:=dR 1
abbrev Ul:List aG:=["one","other"]
abbrev BB:cf:=dR 4
abbrev Xk:List aG:=["field","cell"]
abbrev AP:cf:=dR 7
abbrev Ol:List aG:=["cell","way","many"]
abbrev B0:cf:=dR 8
abbrev Oj:List aG:=["field","tree","cell","block","ways"]
abbrev BJ:cf:=dR 9
abbrev Oz:List aG:=["field","tree","walk"]
abbrev yR:cf:=dR 11
abbrev RF:List aG:=["many","spots"]
abbrev A2:cf:=dR 12
abbrev W4:List aG:=["time","left"]
abbrev AE:cf:=dR 13
abbrev U9:List aG:=["spaces","time"]
abbrev Bj:cf:=dR 14
abbrev Va:List aG:=["spaces","time","left","row","space","right"]
abbrev Bb:cf:=dR 15
abbrev OP:List aG:=["spaces","time","row","right"]
abbrev xX:cf:=dR 16
abbrev N2:List aG:=["spaces","time"]
abbrev wc:cf:=dR 17
abbrev G1:List aG:=["spaces","time"]
abbrev AL:cf:=dR 18
abbrev Lz:List aG:=["many","spots","spaces","least","enough","middle"]
abbrev xb:cf:=dR 19
abbrev CL:List aG:=["many","spots","spaces","lefts","rights"]
abbrev zw:cf:=dR 23
abbrev Un:List aG:=["walk","starts"]
abbrev yI:cf:=dR 24
abbrev SA:List aG:=["walk","starts","spots","found","spot","share"]
abbrev BQ:cf:=dR 25
abbrev Pm:List aG:=["walk","start","way","many","spot"]
abbrev xH:cf:=dR 26
abbrev Sa:List aG:=["walk","start","share","left","right","fewer","more","out"]
abbrev zo:cf:=dR 27
abbrev Rl:List aG:=["field","tree","starts","walk","found"]
abbrev yF:cf:=dR 29
abbrev Qi:List aG:=["_law_script","_law_k","_law_cell","_law_bound","_law_digits"]
abbrev y1:cf:=dR 30
abbrev Od:List aG:=["_law_hand_here","_law_many","_law_digit","_law_turn","_law_mixed","_law_odd"]
abbrev B3:cf:=dR 31
abbrev N4:List aG:=["_law_hand_here","_law_some"]
abbrev AI:cf:=dR 32
abbrev RJ:List aG:=["_law_hand_here","_law_most","_law_top","_law_side","_law_bricks","_law_turn","_law_row","_law_column","_law_down","_law_right_here","_law_block"]
abbrev zT:cf:=dR 33
abbrev Tx:List aG:=["_law_bricks","_law_cells","_law_row","_law_column"]
abbrev AU:cf:=dR 34
abbrev KE:List aG:=["_law_hand_here","_law_bricks","_law_pairs","_law_row","_law_column","_law_other","_law_lots","_law_tree_here","_law_one","_law_old","_law_new","_law_block"]
abbrev Ca:cf:=dR 35
abbrev XO:List aG:=["_law_hand_here","_law_field_here","_law_left","_law_starts_here","_law_turn"]
abbrev wK:cf:=dR 36
abbrev Hy:List aG:=["_law_around","_law_walk","_law_many","_law_spot","_law_steps","_law_one","_law_other","_law_way","_law_cells","_law_left","_law_right_here","_law_due","_law_ends"]
abbrev BM:cf:=dR 37
abbrev Ny:List aG:=["_law_field_here","_law_tree_here","_law_starts_here","_law_around","_law_told","_law_cells","_law_longest","_law_start","_law_walk","_law_sides_here","_law_spots"]
abbrev y4:cf:=dR 38
abbrev VI:List aG:=["_law_script","_law_k","_law_hand_here","_law_bricks","_law_field_here","_law_tree_here"]
section
variable{YC:bO}{l:bh}{Yo:Φ}{aI:aG->Option ab}{YF:aX}
abbrev Kh(n:ep)(F:ag):Prop:=eJ n 1 "lesser_first" yO F ["one","other"] 2 G.sT
def WK(N:d3 n.K n.aI "lesser_first" yO F ["one","other"])(U:eG n.aI):Kh n F:=by
 refine eI Ul N λah D O G h j Yq a=>?_;exact (cq<|dw<|pg<|b1 (a0<|ec (S1 rfl<|c7 a) U.xt wb<|b1 (ax 0)<|ax 1)<|a0<|ec (Mm rfl<|c7 a) U.tU sW<|b1 (ax 0)<|ax 1)
abbrev FH(n:ep)(F:ag):Prop:=eJ n 1 "block_of" BB F ["field","cell"] 2 G.sz
def Xw(N:d3 n.K n.aI "block_of" BB F ["field","cell"])(U:eG n.aI):FH n F:=by
 refine eI Xk N λah D O G h j Yq a=>?_;exact (cq<|dw<|pg<|b1 (bX ht (en a (ax 1) a9)<|bX jx (bX ht (en a (ax 1) a9)<|en a (en a (ax 0) a9) a9)<|a0<|ta rfl U.zF.choose_spec)<|bX ht (en a (ax 1) a9)<|bX jx (bX ht (en a (ax 1) a9)<|en a (en a (ax 0) a9) a9)<|a0<|ta rfl U.zF.choose_spec)
abbrev F5(n:ep)(Yp:dt)(F:ag):Prop:=eJ n 1 "moved" AP F ["cell","way","many"] 3 (G.mm Yp)
def Uv(N:d3 n.K n.aI "moved" AP F ["cell","way","many"])(U:eG n.aI){Yp:dt}(di:lK n.K n.P n.w Yp.kt Yp.cT)(b:n.aI "WAYS" = Z (.ref Yp.fU)):F5 n Yp F:=by
 refine eI Ol N λah D O G h j Yq a=>?_;exact (cq<|dw<|pg<|b1 (bX dK (a0<|jc (jQ (c7 a) di) (ax 0) a9<|λ_ W=>rfl)<|bX hI (a0<|jc (jQ (c7 a) di) (ax 1) a9<|λ_ W=>rfl)<|ax 2)<|bX dK (a0<|jc (jQ (c7 a) di) (ax 0) a9<|λ_ W=>rfl)<|bX hI (a0<|jc (jQ (c7 a) di) (ax 1) a9<|λ_ W=>rfl)<|ax 2)
abbrev Ew(n:ep)(Yp:dt)(F:ag):Prop:=eJ n 2 "next_round" B0 F ["field","tree","cell"] 3 (G.qc Yp)
def P2(N:d3 n.K n.aI "next_round" B0 F ["field","tree","cell"])(U:eG n.aI){Yp:dt}(di:lK n.K n.P n.w Yp.kt Yp.cT)(c:n.aI "WAYS" = Z (.ref Yp.fU)){d:ag}(e:FH n d){f:ag}(g:Kh n f){i:ag}(b:F5 n Yp i):Ew n Yp F:=by
 refine eI Oj N λah D O G h j Yq a=>?_;exact (bK (c5 3 ah<|dc e a<|b1 (ax 0)<|ax 2)<|bK (c5 4 ah<|jc (jQ (c7 a) di) (a0<|Wx rfl c) (hN<|b1 (bX ht (a0<|jc (jQ (c7 a) di) (ax 2) a9<|λ_ W=>rfl)<|a0<|jc (jQ (c7 a) di) (ax 3) a9<|λ_ W=>rfl)<|bX ht (a0<|jc (jQ (c7 a) di) (ax 2) a9<|λ_ W=>rfl)<|a0<|jc (jQ (c7 a) di) (ax 3) a9<|λ_ W=>rfl)<|λ_ W=>rfl)<|bK (gY (fo (Bd<|c7 a) (a0<|dc g a<|b1 (ax 3)<|a0<|dc b a<|hE (ax 3) (a0<|jc (jQ (c7 a) di) (ax 4) a9<|λ_ W=>rfl)<|a0<|ta rfl U.zF.choose_spec) (ax 1) rfl) (cq<|dw<|dc b a<|hE (ax 2) (a0<|jc (jQ (c7 a) di) (ax 4) a9<|λ_ W=>rfl) a9) hg)<|cq<|dw<|dc b a<|hE (ax 2) (a0<|jc (jQ (c7 a) di) (ax 4) a9<|λ_ W=>rfl) a9)
abbrev yf(n:ep)(Yp:dt)(F:ag):Prop:=eJ n 3 "ring" BJ F ["field","tree"] 2 (G.n2 Yp)
def OV(N:d3 n.K n.aI "ring" BJ F ["field","tree"])(U:eG n.aI){Yp:dt}(di:lK n.K n.P n.w Yp.kt Yp.cT)(d:n.aI "WAYS" = Z (.ref Yp.fU)){b:ag}(c:Ew n Yp b):yf n Yp F:=by
 refine eI Oz N λah D O G h j Yq a=>?_;exact (bK (c5 2 ah<|fF<|b8<|en a (ax 0) a9)<|bK (yS 1000000 iI (fo tK (a0<|ec ia U.h3 iL<|b8<|ax 2) (a0<|ec ia U.h3 iL<|b8<|ax 0)<|e2 _)<|cq<|k7<|ka ki jI oV o7 oz (eK 2)<|b8<|a0<|dc c a<|hE (ax 0) (ax 1)<|en a (ax 2)<|a0<|lS hh)<|cq<|dw<|iR lM rfl U.jo jU<|b8<|ax 2)
abbrev zP(n:ep)(F:ag):Prop:=eJ n 1 "between" yR F ["many","spots"] 2 G.wX
def UI(N:d3 n.K n.aI "between" yR F ["many","spots"])(U:eG n.aI):zP n F:=by
 refine eI RF N λah D O G h j Yq b=>?_;exact (cq<|dw<|n1 ["ahead" ,"behind"] [0] (vi rfl U.qT<|b1 (ax 1)<|bX dK (a0<|oX (ax 1) (pe hh) pD)<|a0<|oX (ax 1) pD<|pe hh) (λa=>(lC (ja 0)<|ja 1))<|λa=>(gg jx (bX ht (bX ht (ax 1)<|ax 0) a9)<|ax 2))
abbrev zr(n:ep)(F:ag):Prop:=eJ n 1 "room" A2 F ["time","left"] 2 G.p3
def Nk(N:d3 n.K n.aI "room" A2 F ["time","left"])(U:eG n.aI):zr n F:=by
 refine eI W4 N λah D O G h j Yq a=>?_;exact (bK (gY (fo Kn (ax 1) (ax 0)<|e2 _) (cq<|dw ra) hg)<|bK (gY (fo yU (bX hI (ax 1) a9) (ax 0)<|e2 _) (cq<|dw<|gg ht (ax 0)<|bX hI (ax 1) a9) hg)<|cq<|dw<|gg tj (bX ht (ax 0)<|ax 1) a9)
abbrev Ky(n:ep)(F:ag):Prop:=eJ n 1 "greatest_left" AE F ["spaces","time"] 2 G.sU
def OB(N:d3 n.K n.aI "greatest_left" AE F ["spaces","time"])(U:eG n.aI):Ky n F:=by
 refine eI U9 N λah D O G h j Yq a=>?_;exact (cq<|dw<|ec (AB rfl) U.xt wb<|b1 (ax 1)<|en a (ax 0)<|a0<|lS hh)
abbrev Fz(n:ep)(F:ag):Prop:=eJ n 2 "row_from" Bj F ["spaces","time","left"] 3 G.z1
def PN(N:d3 n.K n.aI "row_from" Bj F ["spaces","time","left"])(U:eG n.aI){b:ag}(c:zr n b):Fz n F:=by
 refine eI Va N λah D O G h j Yq a=>?_;exact (bK (c5 3 ah<|fF<|b8<|ax 2) (bK (kv (Zg:=[0,1,2]) iI rfl (k2<|a0<|oX (ax 0) pD<|pe<|lS hh) (gb 4 ah) (bK (c5 5 ah<|dc c a<|b1 (ax 1)<|en a (ax 3)<|a0<|lS hh)<|bK (gY (fo D_ (ax 5) (a0 ra)<|e2 _) (cq<|dw<|iR lM rfl U.jo jU<|b8<|ax 3) hg)<|cq<|k7<|ka ki jI oV o7 oz (eK 3)<|b8<|a0<|ec (vC rfl) U.tU sW<|b1 a9<|bX ht (ax 4)<|ax 5) ∅ FJ)<|cq<|dw<|iR lM rfl U.jo jU<|b8<|ax 3))
abbrev Gm(n:ep)(F:ag):Prop:=eJ n 2 "goes_through" Bb F ["spaces","time","row"] 3 G.xS
def WT(N:d3 n.K n.aI "goes_through" Bb F ["spaces","time","row"])(U:eG n.aI){b:ag}(c:zr n b):Gm n F:=by
 refine eI OP N λah D O G h j Yq a=>?_;exact (bK (c5 3 ah<|dc c a<|b1 (ax 1)<|en a (ax 2)<|a0<|lS hh)<|cq<|dw<|KY (u9<|pf Vg (ax 3) (a0 ra)<|e2 _)<|u9<|Kb<|pf zl (bX dK (ax 3)<|en a (ax 2) a9) (en a (ax 0)<|a0<|lS hh)<|e2 _)
abbrev Jy(n:ep)(F:ag):Prop:=eJ n 3 "rows_of" xX F ["spaces","time"] 2 G.ub
def Nd(N:d3 n.K n.aI "rows_of" xX F ["spaces","time"])(U:eG n.aI){b:ag}(c:Ky n b){d:ag}(e:Fz n d):Jy n F:=by
 refine eI N2 N λah D O G h j Yq a=>?_;exact (cq<|dw<|n1 ["left"] [0,1] (r9 rfl U.oZ<|b8<|bX dK (a0<|dc c a<|b1 (ax 0)<|ax 1) a9) (λf=>(ja 0))<|λf=>(dc e a<|hE (ax 1) (ax 2)<|ax 0))
abbrev AD(n:ep)(F:ag):Prop:=eJ n 4 "rows_through" wc F ["spaces","time"] 2 G.tb
def Wy(N:d3 n.K n.aI "rows_through" wc F ["spaces","time"])(U:eG n.aI){c:ag}(d:Jy n c){e:ag}(f:Gm n e):AD n F:=by
 refine eI G1 N λah D O G h j Yq a=>?_;exact (cq (dw (Cs (own:=["row"]) (Y1:=[0,1]) rfl (w1 (eV wc) G1 (by decide +kernel)) ∅ (k2<|a0<|dc d a<|b1 (ax 0)<|ax 1) (λb=>(ja 0)) (λb=>(Ry<|q1<|a0<|dc f a<|hE (ax 1) (ax 2)<|ax 0))<|λb=>(je<|eK 0))))
abbrev yv(n:ep)(F:ag):Prop:=eJ n 5 "least_time" AL F ["many","spots"] 2 G.mF
def RU(N:d3 n.K n.aI "least_time" AL F ["many","spots"])(U:eG n.aI){b:ag}(c:zP n b){d:ag}(e:AD n d):yv n F:=by
 refine eI Lz N λah D O G h j Yq a=>?_;exact (bK (c5 2 ah<|dc c a<|b1 (ax 0)<|ax 1)<|bK (c5 3 ah hh)<|bK (c5 4 ah<|gg ht (ax 0) a9)<|bK (yS 1000000 iI (fo tK (ax 3) (ax 4)<|e2 _)<|bK (c5 5 ah<|gg tj (bX dK (ax 3)<|ax 4) a9)<|cq<|gY (q1<|a0<|dc e a<|b1 (ax 2)<|ax 5) (cq<|c5 4 ah<|je<|eK 5)<|cq<|c5 3 ah<|gg dK (ax 5) a9)<|cq<|dw<|je<|eK 3)
abbrev Hc(n:ep)(F:ag):Prop:=eJ n 6 "shares" xb F ["many","spots"] 2 G.tx
def Rg(N:d3 n.K n.aI "shares" xb F ["many","spots"])(U:eG n.aI){d:ag}(e:zP n d){f:ag}(g:AD n f){i:ag}(k:yv n i):Hc n F:=by
 refine eI CL N λah D O G h j Yq b=>?_;exact (bK (c5 2 ah<|dc e b<|b1 (ax 0)<|ax 1) (bK (c5 3 ah<|lp b (a0<|dc g b<|b1 (ax 2)<|a0<|dc k b<|b1 (ax 0)<|ax 1) a9) (bK (H9 (a:=4) (own:=["space" ,"left"]) (Y1:=[]) ah rfl (Or.inl rfl) rfl (w1 (eV xb) CL (by decide +kernel)) ∅ (QF rfl U.qT<|b1 (ax 2)<|bX dK (a0<|oX (ax 3) (pe hh) pD)<|a0<|oX (ax 3) pD<|pe hh) (λc=>(lC (ja 0)<|ja 1)) (λc=>yC) (λc=>(gg ht (ax 0)<|ax 1)) ∅)<|cq<|dw<|Mu rfl U.jo rfl U.qT<|b1 (ax 3)<|ax 4)))
abbrev Ln(n:ep)(F:ag):Prop:=eJ n 1 "spots_of" zw F ["walk","starts"] 2 G.rR
def VV(N:d3 n.K n.aI "spots_of" zw F ["walk","starts"])(U:eG n.aI):Ln n F:=by
 refine eI Un N λah D O G h j Yq a=>?_;exact (cq<|dw<|iR lM rfl U.jo jU<|b8<|a0<|ec (BL rfl<|c7 a) U.mM m7<|b8<|a0<|n1 ["start"] [0] (k2<|ax 1) (λb=>(ja 0))<|λb=>(qo (c7 a) (ax 1) (ax 0) q_))
abbrev J1(n:ep)(F:ag):Prop:=eJ n 7 "shares_by_start" yI F ["walk","starts"] 2 G.rK
def LI(N:d3 n.K n.aI "shares_by_start" yI F ["walk","starts"])(U:eG n.aI){b:ag}(c:Ln n b){d:ag}(e:Hc n d):J1 n F:=by
 refine eI SA N λah D O G h j Yq a=>?_;exact (bK (c5 2 ah<|dc c a<|b1 (ax 0)<|ax 1) (bK (c5 3 ah Mb) (bK (kv (Zg:=[0,1]) iI rfl (vi rfl U.qT<|b1 (ax 2)<|a0<|dc e a<|b1 (a0<|ec ia U.h3 iL<|b8<|ax 0)<|ax 2) (lC (gb 4 ah)<|gb 5 ah) (cq<|ph (je<|eK 5)<|u6 (eK 3) (lp a (ax 0)<|ax 4)<|Kl<|c7 a) ∅ ys)<|cq<|dw<|je<|eK 3)))
abbrev Et(n:ep)(F:ag):Prop:=eJ n 1 "side" BQ F ["walk","start","way","many"] 4 G.so
def RX(N:d3 n.K n.aI "side" BQ F ["walk","start","way","many"])(U:eG n.aI):Et n F:=by
 refine eI Pm N λah D O G h j Yq b=>?_;exact (bK (oP (a:=4) ah rfl (Or.inr rfl) (qo (c7 b) (ax 0) (ax 1) q_) ∅)<|cq<|dw<|n1 ["step"] [0,4,2] (IU rfl U.oZ<|b1 a9<|bX dK (ax 3) a9) (λc=>(ja 0))<|λc=>(lp b (ax 1)<|bX jx (bX dK (ax 2)<|bX hI (ax 3)<|ax 0)<|a0<|ec ia U.h3 iL<|b8<|ax 1))
abbrev Kw(n:ep)(F:ag):Prop:=eJ n 2 "walk_of_share" xH F ["walk","start","share"] 3 G.zg
def R3(N:d3 n.K n.aI "walk_of_share" xH F ["walk","start","share"])(U:eG n.aI){c:ag}(b:Et n c):Kw n F:=by
 refine eI Sa N λah D O G h j Yq a=>?_;exact (bK (c5 3 ah<|dc b a<|mL (ax 0)<|hE (ax 1) (a0<|ta rfl U.Qg.choose_spec)<|en a (ax 2) a9)<|bK (c5 4 ah<|dc b a<|mL (ax 0)<|hE (ax 1) (a0<|ta rfl U.VZ.choose_spec)<|en a (ax 2) a9)<|bK (c5 5 ah<|DH (fo yU (en a (ax 2) a9) (en a (ax 2) a9)<|e2 _) (je<|eK 3)<|je<|eK 4)<|bK (c5 6 ah<|DH (fo yU (en a (ax 2) a9) (en a (ax 2) a9)<|e2 _) (je<|eK 4)<|je<|eK 3)<|bK (c5 7 ah<|gg dK (a0<|fF<|b8<|ax 1)<|ax 5)<|cq<|dw<|iR lM rfl U.jo jU<|b8<|bX dK (bX dK (ax 7)<|a0<|R7 rfl U.AS rfl U.Nq<|b8<|a0<|oX (ax 7) pD<|pe<|lS hh)<|ax 6)
abbrev La(n:ep)(Yp:dt)(F:ag):Prop:=eJ n 8 "several" zo F ["field","tree","starts"] 3 (G.rB Yp)
def SI(N:d3 n.K n.aI "several" zo F ["field","tree","starts"])(U:eG n.aI){Yp:dt}(di:lK n.K n.P n.w Yp.kt Yp.cT)(m:n.aI "WAYS" = Z (.ref Yp.fU)){c:ag}(d:yf n Yp c){e:ag}(f:J1 n e){g:ag}(i:Kw n g):La n Yp F:=by
 refine eI Rl N λah D O G h j Yq b=>?_;exact (bK (oP (a:=3) ah rfl (Or.inr rfl) (dc d b<|b1 (ax 0)<|ax 1) ∅) (bK (oP (a:=4) ah rfl (Or.inr rfl) (dc f b<|b1 (ax 3)<|ax 2) ∅)<|cq<|dw<|iR lM rfl U.jo jU<|b8<|a0<|n1 ["start"] [3,4] (k2<|ax 2) (λk=>(ja 0))<|λk=>(dc i b<|hE (ax 1) (ax 0)<|en b (ax 2)<|ax 0)))
abbrev Lw(n:ep)(F:ag):Prop:=eJ n 1 "_law_hand" yF F ["_law_script","_law_k"] 2 G.xi
def Mt(N:d3 n.K n.aI "_law_hand" yF F ["_law_script","_law_k"])(U:eG n.aI):Lw n F:=by
 refine eI Qi N λah D O G h j Yq a=>?_;exact (bK (c5 2 ah hh)<|bK (gY (fo tK (ax 1) (a0<|ec ia U.h3 iL<|b8<|ax 0)<|e2 _) (cq<|c5 2 ah<|lp a (ax 0)<|ax 1) hg)<|bK (c5 3 ah<|gg hI (bX hI (bX vx a9 a9)<|bX vx a9 a9)<|bX vx a9 a9)<|bK (c5 4 ah<|gg hI (bX jx (ax 2)<|ax 3)<|a0<|iR LN rfl U.XM Rr<|b8<|a0<|pf zl (ax 2) (bX vx a9 a9)<|e2 _)<|cq<|dw<|fF<|hE (ax 4) (bX dK (bX dK (bX jx (ax 2) a9)<|bX hI a9<|ax 1) a9) a9)
abbrev r5(n:ep)(F:ag):Prop:=eJ n 1 "_law_take" y1 F ["_law_hand_here","_law_many"] 2 G.kh
def Tj(N:d3 n.K n.aI "_law_take" y1 F ["_law_hand_here","_law_many"])(U:eG n.aI):r5 n F:=by
 refine eI Od N λah D O G h j Yq a=>?_;exact (bK (gY (fo Kn (en a (ax 0) a9) a9<|e2 _) (bK (c5 2 ah<|gg jx (en a (ax 0) a9)<|ax 1)<|bK (ph (gg tj (en a (ax 0) a9)<|ax 1)<|u6 (eK 0) hh<|D3<|c7 a)<|cq<|dw<|je<|eK 2) hg)<|bK (ph (gg dK (en a (ax 0) a9) a9)<|u6 (eK 0) hh<|D3<|c7 a)<|bK (c5 3 ah<|lp a (ax 0) a9)<|bK (c5 4 ah<|gg jx (bX hI (en a (ax 0) a9)<|bX dK (bX dK a9<|bX hI (bX hI a9<|ax 3)<|ax 3)<|bX hI a9<|ax 3) a9)<|bK (c5 5 ah<|gg dK (bX dK (bX jx (ax 4) a9)<|bX hI (ax 3) a9) a9)<|bK (c5 4 ah<|gg jx (bX hI (ax 4)<|ax 5) a9)<|cq<|dw<|gg jx (bX dK (bX tj (ax 4) a9)<|bX tj (ax 4) a9)<|ax 1)
abbrev y5(n:ep)(F:ag):Prop:=eJ n 2 "_law_of" B3 F ["_law_hand_here","_law_some"] 2 G.nr
def T8(N:d3 n.K n.aI "_law_of" B3 F ["_law_hand_here","_law_some"])(U:eG n.aI){b:ag}(c:r5 n b):y5 n F:=by
 refine eI N4 N λah D O G h j Yq a=>?_;exact (cq<|dw<|lp a (ax 1)<|a0<|dc c a<|b1 (ax 0)<|a0<|ec ia U.h3 iL<|b8<|ax 1)
abbrev C0(n:ep)(F:ag):Prop:=eJ n 3 "_law_blocks" AI F ["_law_hand_here","_law_most"] 2 G.uL
def Tz(N:d3 n.K n.aI "_law_blocks" AI F ["_law_hand_here","_law_most"])(U:eG n.aI){e:ag}(c:y5 n e){f:ag}(d:r5 n f):C0 n F:=by
 refine eI RJ N λah D O G h j Yq b=>?_;exact (bK (va (a:=2) (r:=3) rfl ah rfl rfl ∅ rfl rfl (b1 (a0<|dc c b<|b1 (ax 0)<|a0<|fF<|hE a9 a9 a9)<|a0<|dc c b<|b1 (ax 0)<|a0<|fF<|hE a9 a9 a9) ∅ ∅ rfl) (bK (c5 4 ah<|fF<|b8<|hN<|b1 (bX dK (ax 2)<|bX hI a9<|a0<|dc d b<|b1 (ax 0) a9)<|bX dK (ax 3)<|bX hI a9<|a0<|dc d b<|b1 (ax 0) a9) (bK (kv (Zg:=[0,1]) iI rfl (r9 rfl U.oZ<|b8<|a0<|dc d b<|b1 (ax 0)<|ax 1) (gb 5 ah) (bK (ph (dc c b<|b1 (ax 0)<|ax 4)<|lC (gb 6 ah)<|gb 7 ah)<|bK (ph (dc c b<|b1 (ax 0)<|a0<|fF<|mL (hN<|b1 a9 a9)<|hE (hN<|b1 a9 a9) (hN<|b1 (a0<|lS hh) a9)<|hN<|b1 a9<|a0<|lS hh)<|lC (gb 8 ah)<|gb 9 ah)<|bK (c5 10 ah<|pg<|b1 (bX dK (ax 6)<|ax 8)<|bX dK (ax 7)<|ax 9)<|cq<|gY (jS.vM<|GR (fo zl (a0<|ec (S5 rfl) U.xt wb<|b8<|ax 10) a9<|e2 _)<|GR (fo tK (a0<|ec (Nu rfl) U.tU sW<|b8<|ax 10) a9<|e2 _)<|SE<|fo (E4<|c7 b) (ax 10) (ax 4) rfl) (cq<|k7<|ka ki jI oV o7 oz (eK 4)<|b8<|ax 10) hg) ∅ wx)<|cq<|dw<|ec (qW rfl<|c7 b) U.mM m7<|b8<|ax 4)))
abbrev ED(n:ep)(F:ag):Prop:=eJ n 1 "_law_field" zT F ["_law_bricks"] 1 G.xh
def Xv(N:d3 n.K n.aI "_law_field" zT F ["_law_bricks"])(U:eG n.aI):ED n F:=by
 refine eI Tx N λah D O G h j Yq a=>?_;exact (bK (c5 1 ah<|fF k_) (bK (kv (Zg:=[0]) iI rfl (k2<|ax 0) (lC (gb 2 ah)<|gb 3 ah) (bK (k7<|ka ki jI AQ y8 I7 (eK 1)<|b8<|a0<|fF<|b1 (hN<|b1 (ax 2)<|ax 3)<|hN<|b1 (ax 2)<|bX dK (ax 3) a9)<|cq<|k7<|ka ki jI AQ y8 I7 (eK 1)<|b8<|a0<|fF<|b1 (hN<|b1 (bX dK (ax 2) a9)<|ax 3)<|hN<|b1 (bX dK (ax 2) a9)<|bX dK (ax 3) a9) ∅ (G9 ∅))<|cq<|dw<|iR lM rfl U.jo jU<|b8<|a0<|ec (qW rfl<|c7 a) U.mM m7<|b8<|ax 1))
abbrev HR(n:ep)(F:ag):Prop:=eJ n 2 "_law_tree" AU F ["_law_hand_here","_law_bricks"] 2 G.ur
def Oy(N:d3 n.K n.aI "_law_tree" AU F ["_law_hand_here","_law_bricks"])(U:eG n.aI){c:ag}(d:r5 n c):HR n F:=by
 refine eI KE N λah D O G h j Yq b=>?_;exact (bK (c5 2 ah<|fF k_) (bK (M7 (Zg:=[0,1]) iI rfl (ax 1) (lC (gb 3 ah)<|gb 4 ah) (cq (kv (Zg:=[0,1]) iI rfl (k2<|hN<|b1 (hN<|b1 (ax 3)<|bX dK (ax 4) a9)<|hN<|b1 (bX dK (ax 3) a9)<|ax 4) (gb 5 ah) (cq<|gY (fo (Bd<|c7 b) (ax 5) (ax 1) rfl) (cq<|k7<|ka ki jI oV o7 oz (eK 2)<|b8<|hN<|b1 (hN<|b1 (ax 3)<|ax 4)<|ax 5) hg) ∅ FJ)) ∅ ∅) (bK (c5 6 ah<|iR (NK rfl<|Br b) rfl U.Tc Rp<|b8<|a0<|n1 ["_law_block"] [] (k2<|ax 1) (λe=>(ja 0))<|λe=>(pg<|b1 (ax 0)<|ax 0)) (bK (c5 7 ah<|fF k_) (bK (yS 1000000 iI (fo (sQ<|c7 b) (ax 2) (a0<|fF k_)<|e2 _) (bK (ph (ka ki jI HC Dc JQ (eK 2)<|b8<|a0<|dc d b<|b1 (ax 0)<|a0<|ec ia U.h3 iL<|b8<|ax 2)<|lC (gb 8 ah)<|gb 5 ah) (bK (va (a:=9) (r:=10) rfl ah rfl rfl ∅ rfl rfl (b1 (en b (ax 6)<|ax 8)<|en b (ax 6)<|ax 5) ∅ ∅ rfl) (cq (gY (fo (sQ<|c7 b) (ax 9) (ax 10)<|e2 _) (bK (k7<|ka ki jI oV o7 oz (eK 7)<|b8<|hN<|b1 (ax 8)<|ax 5) (cq (kv (Zg:=[0,1]) iI rfl (k2<|ax 1) (gb 11 ah) (cq<|gY (fo (q0<|c7 b) (en b (ax 6)<|ax 11) (ax 9)<|e2 _) (cq<|ph (je<|eK 10)<|u6 (eK 6) (je<|eK 11)<|Kl<|c7 b) hg) ∅ (G9 ∅)))) hg)))))<|cq<|dw<|iR lM rfl U.jo jU<|b8<|a0<|ec (qW rfl<|c7 b) U.mM m7<|b8<|ax 7)))))
abbrev DB(n:ep)(F:ag):Prop:=eJ n 3 "_law_starts" Ca F ["_law_hand_here","_law_field_here"] 2 G.w9
def Xl(N:d3 n.K n.aI "_law_starts" Ca F ["_law_hand_here","_law_field_here"])(U:eG n.aI){c:ag}(b:r5 n c){d:ag}(e:y5 n d):DB n F:=by
 refine eI XO N λah D O G h j Yq a=>?_;exact (bK (c5 2 ah<|iR Fi rfl U.AS KU<|b8<|ax 1) (bK (c5 3 ah<|fF k_) (bK (kv (Zg:=[0,1]) iI rfl (r9 rfl U.oZ<|b8<|bX dK a9<|a0<|dc b a<|b1 (ax 0)<|a0<|dc e a<|b1 (ax 0)<|a0<|fF<|mL a9<|mL a9<|hE a9 a9 a9) (gb 4 ah) (cq<|gY (fo (sQ<|c7 a) (ax 2) (a0<|fF k_)<|e2 _) (cq<|k7<|ka ki jI oV o7 oz (eK 3)<|b8<|a0<|ka ki jI HC Dc JQ (eK 2)<|b8<|a0<|dc b a<|b1 (ax 0)<|a0<|ec ia U.h3 iL<|b8<|ax 2) hg) ∅ wx)<|cq<|dw<|iR lM rfl U.jo jU<|b8<|a0<|ec (qW rfl<|c7 a) U.mM m7<|b8<|ax 3)))
abbrev IH(n:ep)(F:ag):Prop:=eJ n 1 "_law_sides" wK F ["_law_around","_law_walk"] 2 G.rN
def Ua(N:d3 n.K n.aI "_law_sides" wK F ["_law_around","_law_walk"])(U:eG n.aI):IH n F:=by
 refine eI Hy N λah D O G h j Yq b=>?_;exact (bK (oP (a:=2) ah rfl (Or.inr rfl) (ec ia U.h3 iL<|b8<|ax 0) ∅) (bK (oP (a:=3) ah rfl (Or.inr rfl) (qo (c7 b) (ax 0) (en b (ax 1) a9) T6) ∅) (bK (c5 4 ah<|fF k_) (bK (kv (Zg:=[0,1]) iI rfl (vi rfl U.qT<|b1 (ax 1)<|a0<|oX (ax 1) (pe hh) pD) (lC (gb 5 ah)<|gb 6 ah) (bK (c5 7 ah<|gg jx (bX ht (a0<|qo (c7 b) (ax 0) (ax 6) q_)<|a0<|qo (c7 b) (ax 0) (ax 5) q_)<|ax 2)<|bK (gY (fo (E4<|c7 b) (ax 7) (hN<|b1 a9<|bX ht (ax 2) a9) rfl) (cq<|dw ra) hg)<|cq<|k7<|ka ki jI oV o7 oz (eK 4)<|b8<|a0<|pf (q0<|c7 b) (ax 7) a9<|e2 _) ∅ ys) (bK (c5 8 ah<|gg ht (a0<|OC (Br b) rfl U.h3 rfl U.Cj<|b8<|ax 1) a9) (bK (kv (Zg:=[0,1]) iI rfl (r9 rfl U.oZ<|b8<|bX dK (ax 8) a9) (gb 9 ah) (bK (c5 10 ah<|gg ht (ax 8)<|ax 9) (bK (c5 11 ah<|gg dK (bX dK (bX pQ (a0<|fF<|b8<|a0 jH)<|ax 9)<|bX pQ (a0<|fF<|b8<|a0 jH)<|ax 9)<|bX pQ (a0<|fF<|b8<|a0 jH)<|ax 10) (bK (gY (fo tK (ax 10) (ax 9)<|e2 _) (cq<|c5 11 ah<|gg dK (bX dK (bX pQ (a0<|fF<|b8<|a0 jH)<|ax 10)<|bX pQ (a0<|fF<|b8<|a0 jH)<|ax 10)<|bX pQ (a0<|fF<|b8<|a0 jH)<|ax 9) hg) (cq (gY (fo (q0<|c7 b) (ax 4) (ax 11)<|e2 _) (bK (H9 (a:=12) (own:=["_law_k"]) (Y1:=[0,3,2]) ah rfl (Or.inl rfl) rfl (w1 (eV wK) Hy (by decide +kernel)) ∅ (IU rfl U.oZ<|b1 (a0<|lS<|je<|eK 9)<|bX dK (ax 10) a9) (λc=>(ja 0)) (λc=>yC) (λc=>(lp b (ax 1)<|bX jx (bX dK (ax 2)<|ax 0)<|ax 3)) ∅)<|cq<|dw<|pg<|hE (ax 9) (ax 10)<|a0<|XA<|ec (qW rfl<|c7 b) U.mM m7<|b8<|ax 12) hg))))) ∅ wx)<|cq<|dw ra))))))
abbrev Lj(n:ep)(Yp:dt)(F:ag):Prop:=eJ n 9 "_law_right" BM F ["_law_field_here","_law_tree_here","_law_starts_here"] 3 (G.w3 Yp)
def P6(N:d3 n.K n.aI "_law_right" BM F ["_law_field_here","_law_tree_here","_law_starts_here"])(U:eG n.aI){Yp:dt}(di:lK n.K n.P n.w Yp.kt Yp.cT)(p:n.aI "WAYS" = Z (.ref Yp.fU)){d:ag}(e:yf n Yp d){f:ag}(g:La n Yp f){i:ag}(k:IH n i){m:ag}(o:yv n m):Lj n Yp F:=by
 refine eI Ny N λah D O G h j Yq b=>?_;exact (bK (oP (a:=3) ah rfl (Or.inr rfl) (dc e b<|b1 (ax 0)<|ax 1) ∅) (bK (c5 4 ah<|dc g b<|hE (ax 0) (ax 1)<|ax 2) (bK (gY (jS.vM<|vZ (uW<|q1<|a0<|J_ rfl U.JN IM rfl U.jo jU<|ax 4)<|Cc<|fo (sQ<|c7 b) (a0<|ec ia U.h3 iL<|b8<|ax 4) (a0<|ec ia U.h3 iL<|b8<|ax 2)<|e2 _) (cq<|dw jH) hg) (bK (va (a:=5) (r:=6) rfl ah rfl rfl ∅ rfl rfl (b1 (a0<|fF k_) a9) ∅ ∅ rfl) (bK (kv (Zg:=[0,1,2]) iI rfl (vi rfl U.qT<|b1 (ax 2)<|ax 4) (lC (gb 7 ah)<|gb 8 ah) (bK (gY (jS.vM<|vZ (uW<|q1<|a0<|J_ rfl U.JN IM rfl U.jo jU<|ax 8)<|vZ (fo (q0<|c7 b) (a0<|ec ia U.h3 iL<|b8<|ax 8) a9<|e2 _)<|Cc<|fo (sQ<|c7 b) (en b (ax 8) a9) (ax 7)<|e2 _) (cq<|dw jH) hg)<|bK (gY (uW<|q1<|a0<|ec (Ma rfl) U.ME Vo<|b8<|a0<|n1 ["_law_cell"] [0] (k2<|ax 8) (λc=>(ja 0))<|λc=>(pf (Bd<|c7 b) (ax 0) (ax 1) rfl)) (cq<|dw jH) hg)<|bK (c5 9 ah<|dc k b<|b1 (ax 3)<|ax 8)<|bK (gY (jS.vM<|vZ (fo D_ (ax 9) (a0 ra)<|e2 _)<|Cc<|fo (W2<|c7 b) (a0<|Nz (Br b) rfl U.mM rfl U.Cj<|b8<|ax 8) (a0<|IL<|lp b (ax 9) a9)<|e2 _) (cq<|dw jH) hg)<|bK (k7<|ka ki jI AQ y8 Rz (eK 5)<|b8<|a0<|IL<|lp b (ax 9) a9)<|cq<|c5 6 ah<|ec (vC rfl) U.tU sW<|b1 (ax 6)<|bX ht (a0<|ec ia U.h3 iL<|b8<|ax 8) a9) ∅ ys)<|bK (c5 10 ah<|iR lM rfl U.jo jU<|b8<|a0<|ec (BL rfl<|c7 b) U.mM m7<|b8<|a0<|n1 ["_law_start"] [3] (k2<|ax 2) (λc=>(ja 0))<|λc=>(qo (c7 b) (ax 1) (ax 0) q_))<|cq<|dw<|KY (u9<|pf (q0<|c7 b) (a0<|ec (qW rfl<|c7 b) U.mM m7<|b8<|ax 5) (a0<|iR Fi rfl U.AS KU<|b8<|ax 0)<|e2 _)<|u9<|Kb<|pf (q0<|c7 b) (ax 6) (a0<|dc o b<|b1 (a0<|ec ia U.h3 iL<|b8<|ax 0)<|ax 10)<|e2 _)))))
abbrev QN(n:ep)(Yp:dt)(F:ag):Prop:=eJ n 10 "law" y4 F ["_law_script"] 1 (G.qL Yp)
def Md(N:d3 n.K n.aI "law" y4 F ["_law_script"])(U:eG n.aI){Yp:dt}(di:lK n.K n.P n.w Yp.kt Yp.cT)(t:n.aI "WAYS" = Z (.ref Yp.fU)){c:ag}(d:Lw n c){e:ag}(f:C0 n e){g:ag}(i:HR n g){k:ag}(m:ED n k){o:ag}(p:Lj n Yp o){q:ag}(s:DB n q):QN n Yp F:=by
 refine eI VI N λah D O G h j Yq b=>?_;exact (bK (kv (Zg:=[0]) iI rfl (r9 rfl U.oZ<|b8<|a0<|ec (vC rfl) U.tU sW<|b1 a9<|a0<|ec (AB rfl) U.xt wb<|b1 a9<|a0<|ec ia U.h3 iL<|b8<|ax 0) (gb 1 ah) (bK (c5 2 ah<|dc d b<|b1 (ax 0)<|ax 1) (bK (c5 3 ah<|dc f b<|b1 (ax 2) a9) (bK (va (a:=4) (r:=5) rfl ah rfl rfl ∅ rfl rfl (b1 (a0<|dc m b<|b8<|ax 3)<|a0<|dc i b<|b1 (ax 2)<|ax 3) ∅ ∅ rfl)<|cq<|gY (uW<|q1<|a0<|dc p b<|hE (ax 4) (ax 5)<|a0<|dc s b<|b1 (ax 2)<|ax 4) (cq<|dw jH) hg))) ∅ wx)<|cq<|dw jH)
end
end K49
namespace L2
open Spec PyProof.Rows
section
variable{Yo:Φ}
variable{g:ag}{u:Option ag}{w:Nat}{h:Array (Option ab)}
def kpm{a r:Int}{i L:hY}(e:Yo.lookup g=Z ⟨.type "tuple",u,.seq #[.int a i,.int r L] w,h⟩):hK Yo g a r:=⟨_,_,_,_,_,e⟩
def krm{f H:ag}(e:Yo.lookup g=Z ⟨.type "tuple",u,.seq #[.ref f,.ref H] w,h⟩):o3 Yo g f H:=⟨_,_,_,e⟩
end
end L2
namespace K49
open L2 PyProof.Rows
variable{t:PySem.W.OpenLaw}
def all_mk{l:bh}{Yo:Φ}{e:aX}{aI:aG->Option ab}{f w x y z A B C D E F H I J L M N O P Q R T al am an ap as a1 a2 bd:ag}(b:Yo.In e)(a:e.Ns dV aI)(be:aI "law" = Z (.ref f)){g i j:hY}(bi:dJ Yo "lesser_first" yO w)(bm:dJ Yo "block_of" BB x)(bn:dJ Yo "moved" AP y)(bs:dJ Yo "next_round" B0 z)(bv:dJ Yo "ring" BJ A)(ca:dJ Yo "between" yR B)(cd:dJ Yo "room" A2 C)(ce:dJ Yo "greatest_left" AE D)(ch:dJ Yo "row_from" Bj E)(ci:dJ Yo "goes_through" Bb F)(cl:dJ Yo "rows_of" xX H)(co:dJ Yo "rows_through" wc I)(cr:dJ Yo "least_time" AL J)(cs:dJ Yo "shares" xb L)(db:dJ Yo "spots_of" zw M)(ds:dJ Yo "shares_by_start" yI N)(dL:dJ Yo "side" BQ O)(eq:dJ Yo "walk_of_share" xH P)(ev:dJ Yo "several" zo Q)(ex:dJ Yo "_law_hand" yF R)(fn:dJ Yo "_law_take" y1 T)(fr:dJ Yo "_law_of" B3 al)(f0:dJ Yo "_law_blocks" AI am)(f1:dJ Yo "_law_field" zT an)(f2:dJ Yo "_law_tree" AU ap)(f4:dJ Yo "_law_starts" Ca as)(f8:dJ Yo "_law_sides" wK a1)(ga:dJ Yo "_law_right" BM a2)(k:dJ Yo "law" y4 bd){Yp:dt}{m:ag}(ge:Ψ Yo dV "WAYS" = Z (Z<|.ref m))(gl:Yp.fU=m)(di:lK Yo t.prog l Yp.kt Yp.cT)(go:Ψ Yo dV "LEFT" = Z (Z<|.int (-1) g))(gt:Ψ Yo dV "RIGHT" = Z (Z<|.int 1 i))(g1:Ψ Yo dV "SIDE" = Z (Z<|.int 2 j))(g2:Ψ Yo dV "all" = Z Y)(g3:Ψ Yo dV "dict" = Z Y)(hd:Ψ Yo dV "int" = Z Y)(he:Ψ Yo dV "isinstance" = Z Y)(hf:Ψ Yo dV "len" = Z Y)(hm:Ψ Yo dV "list" = Z Y)(hw:Ψ Yo dV "max" = Z Y)(h0:Ψ Yo dV "min" = Z Y)(ii:Ψ Yo dV "range" = Z Y)(im:Ψ Yo dV "reversed" = Z Y)(io:Ψ Yo dV "set" = Z Y)(it:Ψ Yo dV "sorted" = Z Y)(jp:Ψ Yo dV "tuple" = Z Y)(kw:Ψ Yo dV "zip" = Z Y):
  ∃fd:hL,(∀(h:ai) (v:ab),nC h fd ⟨[v],[]⟩ [("_law_script",v)])/\∀YF:aX,Yo.In YF->YF.Ns dV aI->js t.prog l Yo aI YF iO 10 f fd ["_law_script"] (lH 1<|G.qL Yp):=by
 have U:eG aI:=⟨iZ b a g2,iZ b a g3,iZ b a hd,iZ b a he,iZ b a hf,iZ b a hm,iZ b a hw,iZ b a h0,iZ b a ii,iZ b a im,iZ b a io,iZ b a it,iZ b a jp,iZ b a kw,⟨g,mg b a go⟩,⟨i,mg b a gt⟩,⟨j,mg b a g1⟩⟩;have c:=mg b a ge;rw[<-gl]at c;refine Mx k b a be (λ_ S S S S S S S=>.of_eq rfl) λYF=>?_;let n:ep:=⟨t.prog,l,Yo,aI,YF⟩
 have lc:=WK (n:=n) (bi.aS b a) U;have lf:=Xw (n:=n) (bm.aS b a) U;have li:=Uv (n:=n) (bn.mS b a) U di c;have lm:=P2 (n:=n) (bs.mS b a) U di c lf lc li;have o:=OV (n:=n) (bv.aS b a) U di c lm;have p:=UI (n:=n) (ca.aS b a) U;have q:=Nk (n:=n) (cd.aS b a) U;have ln:=OB (n:=n) (ce.aS b a) U;have ls:=PN (n:=n) (ch.mS b a) U q;have lv:=WT (n:=n) (ci.mS b a) U q;have lw:=Nd (n:=n) (cl.aS b a) U ln ls;have r:=Wy (n:=n) (co.aS b a) U lw lv;have s:=RU (n:=n) (cr.aS b a) U p r;have mb:=Rg (n:=n) (cs.aS b a) U p r s;have mo:=VV (n:=n) (db.aS b a) U;have mp:=LI (n:=n) (ds.aS b a) U mo mb;have ms:=RX (n:=n) (dL.nD b a) U;have m0:=R3 (n:=n) (eq.mS b a) U ms;have na:=SI (n:=n) (ev.mS b a) U di c o mp m0;have nb:=Mt (n:=n) (ex.aS b a) U;have d:=Tj (n:=n) (fn.aS b a) U;have u:=T8 (n:=n) (fr.aS b a) U d;have ne:=Tz (n:=n) (f0.aS b a) U u d;have nl:=Xv (n:=n) (f1.aQ b a) U;have nm:=Oy (n:=n) (f2.aS b a) U d;have nn:=Xl (n:=n) (f4.aS b a) U d u;have no:=Ua (n:=n) (f8.aS b a) U;have np:=P6 (n:=n) (ga.mS b a) U di c o na no s;exact Md (n:=n) (k.aQ b a) U di c nb ne nm nl np nn
def walk{a b Zm c A d i Y4 k m Zf n r:ag}{p:bO}{x:List aG}{y:(aG->Option ab)->aX->Prop}{s:bh->aX->Prop}{u:DefRec}{Yo:uv->Φ}(z:t.most=Z 63)(C:u.params.defaults=[])(E:∀(l:bh) (e:aX),s l e->(Yo l.params).In e)(H:∀q,s7 (Yo q)=aa)(N:∀(l:bh) (aI:aG->Option ab) (v:ag) (e:aX),(Yo l.params).In e->e.Ns dV aI->aI u.name=Z (.ref v)->
   ∃fd:hL,(∀(h:ai) (L:ab),nC h fd ⟨[L],[]⟩ [("_law_script",L)])/\∀YF:aX,(Yo l.params).In YF->YF.Ns dV aI->js t.prog l (Yo l.params) aI YF iO 10 v fd ["_law_script"] (lH 1<|G.qL<|o2 a b Zm c A d i Y4 k m Zf n r))(I:G.qR (o2 a b Zm c A d i Y4 k m Zf n r)):
  PySem.W.WalkO p x y s t.row.toRowW u [] (λF Yl=>PySem.call F Yl):=
 L2.Qf (w:=63) (o:=10) (f := "_law_script") (Zy:=λ_=>iO) (YL:=λl=>lH 1<|G.qL<|o2 a b Zm c A d i Y4 k m Zf n r) z ∅ C ⟨rfl,by decide,by decide,rfl⟩ E N (λl j g YP J M O=>QR (H l.params) j g YP M O (G.P5 I YP (vh J ∅))) λ_ U U U U D=>D
end K49
namespace PySem.W.Fast
def tw10870635753854001062:=(0)
def tw7328292156985427232:=(0)
def tw13161001982793671040:=(0)
def tw7760072839891225024:=(0)
def tw2698881158161283712:=(0)
def tw10779059344976297345:=(0)
def tw7021926136729002593:=(0)
def tw14666615494229882625:=(0)
def tw14681688260210959297:=(0)
def tw17001558028254630274:=(0)
def tw9292379320313514339:=(0)
def tw13423057564456082051:=(0)
def tw8915471386607993635:=(0)
def tw1617382991544063811:=(0)
def tw1007807762399997188:=(0)
def tw13485784949099215364:=(0)
def tw7734612780650101668:=(0)
def tw2446506110968815877:=(0)
def tw762935374799095109:=(0)
def tw4591319339498917:=(0)
def tw17708607322266065413:=(0)
def tw12646813850423063430:=(0)
def tw13811694562705846407:=(0)
def tw4177745111564318151:=(0)
def tw13676696569466547751:=(0)
def tw8817162893494102663:=(0)
def tw2511782098685752103:=(0)
def tw2556698645084571656:=(0)
def tw3552617960110270600:=(0)
def tw4367588751696796872:=(0)
def tw9437014016336268616:=(0)
def tw16683381255218645416:=(0)
def tw5906367349287469864:=(0)
def tw14437387012365978472:=(0)
def tw14556008482524831656:=(0)
def tw9526260890705738858:=(0)
def tw11003626363291821226:=(0)
def tw12474277543704961962:=(0)
def tw17466739052163685419:=(0)
def tw3304278551002977067:=(0)
def tw6767588555247552459:=(0)
def tw9843217233121557901:=(0)
def tw13017287318519445037:=(0)
def tw13494307322065084045:=(0)
def tw12703414706154315405:=(0)
def tw5972863474502148270:=(0)
def tw3307249137590939982:=(0)
def tw17243928907457281390:=(0)
def tw7000487434152472942:=(0)
def tw16319446865890917902:=(0)
def tw11049747167590786638:=(0)
def tw2900165711559605487:=(0)
def tw9033018214004608591:=(0)
def tw11150728690868877360:=(0)
def tw13583608786321095537:=(0)
def tw6962824792441347090:=(0)
def tw13406164156590796882:=(0)
def tw5685393424389269394:=(0)
def tw10572307193257587634:=(0)
def tw804598101937292274:=(0)
def tw8721048776316087635:=(0)
def tw7358897516114353523:=(0)
def tw12340602860605260659:=(0)
def tw4422836156630140084:=(0)
def tw17398361844754283828:=(0)
def tw12672451782819411316:=(0)
def tw11279439914876375508:=(0)
def tw11043007167329832500:=(0)
def tw6952522067066653301:=(0)
def tw16454626771075560213:=(0)
def tw13472052681595899829:=(0)
def tw15839838909495238613:=(0)
def tw17993893080546401526:=(0)
def tw17714929368075738518:=(0)
def tw2059677924969430263:=(0)
def tw9288369446865122647:=(0)
def tw9162704008279345815:=(0)
def tw6042800165394124471:=(0)
def tw14935840104366462807:=(0)
def tw15241659859655474039:=(0)
def tw1583210122108437720:=(0)
def tw16630641136222170616:=(0)
def tw4296740781467345496:=(0)
def tw908730428110636856:=(0)
def tw4114040683543911737:=(0)
def tw12942292878916795801:=(0)
def tw12001411879248699865:=(0)
def tw14049143403101386233:=(0)
def tw8331411434488280793:=(0)
def tw371705799221478201:=(0)
def tw15450258779487811417:=(0)
def tw3511946161431931354:=(0)
def tw3980972157234471418:=(0)
def tw6683793966533184090:=(0)
def tw12343200444848576186:=(0)
def tw10191059179866857242:=(0)
def tw370853756742366074:=(0)
def tw17397251216899394715:=(0)
def tw14170949948347367931:=(0)
def tw12210500932566570587:=(0)
def tw12186501188159133148:=(0)
def tw9685598635581285852:=(0)
def tw1414435126421103548:=(0)
def tw3078045365118135805:=(0)
def tw10129862635043530685:=(0)
def tw15097689271765681182:=(0)
def tw1146871169983142494:=(0)
def tw8198553291521548222:=(0)
def tw16071135581891148959:=(0)
def tw8471596741525256575:=(0)
def tw16754717456167138175:=(0)
def tw18210256086287526911:=(0)
end PySem.W.Fast
end
open PySem PySem.W PyProof.Rows
set_option maxRecDepth 100000 in
set_option maxHeartbeats 0 in
theorem PySem.Challenge.cw_mowfloor_k49_several_walks_holds : PySem.Challenge.rw_mowfloor_k49_several_walks.Holds := by
  w_on; o_law; k_head; (case hw => w_witness2)
  k_fill
  refine' K49.walk (t := PySem.Challenge.rw_mowfloor_k49_several_walks) rfl rfl (fun w h Y => PySem.W.kIn_of Y) ?hK ?F ?KO
  case hK => intro p; rfl
  case F =>
   intro w mg fa h KX G hmg
   apply K49.all_mk KX G hmg
   iterate 29 (apply L2.Ka; iterate 4 k_is)
   k_is
   rfl
   apply L2.FS
   k_is
   iterate 4 kernel_rfl
   iterate 4 (apply L2.kpm; k_is)
   iterate 4 (apply L2.krm; k_is)
   iterate 8 (apply L2.kpm; k_is)
   iterate 17 k_is
  case KO => refine'⟨?_,?_,?_,?_⟩<;>exact⟨_,_,_,rfl,rfl,rfl,rfl,rfl,rfl,rfl⟩
