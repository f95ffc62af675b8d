import PyProof.Rows.All
import Wide.All
import OpenK.AllK
import Wide.FinOn
import Lean
import PyProof.EqAt
import PyProof.EqKinds
import PyProof.TupleCall
import PyProof.IsiNone
import PyProof.NeKinds
import PyProof.MaxThree
import PyProof.Rows.SetFrom
import PyProof.WalksMore
import PyProof.CallStr
import KE.KRevIter
import PySem.Challenge.RW_mowfloor_k50_whose_cells
set_option maxHeartbeats 4000000
set_option Elab.async false
open List (range range')
open Nat (beq)
noncomputable section
local macro_rules|`(tactic|let $p:term:=$e)=>do
 let q:=p.raw
 let X (s:Lean.Syntax):=s.isOfKind ``Lean.Parser.Term.explicit
 let I (s:String):=Lean.mkIdent (.mkSimple s)
 let l:=(if X q then q[1] else q)[1].getSepArgs
 let n:=l.size
 let j:=if X q then 0 else ((l.findIdx? X).map (·+1)).getD 99
 let mut b:Array Lean.Ident:=#[]
 let mut t:Array (Lean.TSyntax `tactic):=#[]
 let w:=I "ζ"
 let c:=j<99&&e.raw.isIdent&&l.any fun s=>s.getId==e.raw.getId||s[1].getId==e.raw.getId
 let h:=I "ξ"
 let u:=e.raw.getId.toString
 let u:=if u.startsWith "ζ" then u else "ζ"
 let d:Lean.Term:=if c then h else e
 let r ←if c then `(tactic|(revert $(⟨e⟩):ident;intro $h:ident)) else `(tactic|skip)
 if j<99&&e.raw.isIdent then t:=t.push (←`(tactic|try clear $(⟨d⟩):ident))
 for i in [0:n] do
  let s:=if i+1==j then l[i]![1] else l[i]!
  let z:=I s!"{u}{i}"
  if s.isIdent&&(j==99||s.getId != `rfl) then b:=b.push ⟨s⟩
  else
   b:=b.push z
   if s.isIdent then t:=t.push (←`(tactic|subst $z))
   else if !s.isOfKind ``Lean.Parser.Term.hole then t:=t.push (←`(tactic|let $(⟨s⟩):term:=$z))
 let A:=b.extract j n
 let B:=b.extract 0 j
 if j==99 then `(tactic|(obtain ⟨$[$b:ident],*⟩:=$e;$t;*)) else if j==0 then `(tactic|($r;refine $(I s!"xA{n}") ($d :) fun $b* =>?_;$t;*)) else if j+1==n then `(tactic|($r;refine $(I s!"xE{j}") ($d :) fun $b* =>?_;$t;*)) else `(tactic|($r;refine $(I s!"xE{j}") ($d :) fun $B* $w=>?_;refine $(I s!"xA{n-j}") $w fun $A* =>?_;clear $w;$t;*))
local macro_rules|`(⋯)=>`(by lia)
open PySem renaming wpAny_bind->ak,wpAny_pure->aK,wpAny_newObj_type->gh,wpAny_holding->fl,wpAny_seqItems->gJ,wpAny_call_entry->hA,wpAny_callSpecial?_slot->lK,codeAny_builtin->hD,wpAny_field->gd,plainId_quiet->hP,wpAny_mono->gT,wpAny_setState_of->la,builtinLookup_eq_fast->o5,wpAny_rule->h7,wpAny_specialOf->my,wpAny_updateSeq->l1,wpAny_forIn_list->nc,wpAny_setField_rec->oZ,wpAny_typeNameOfWhole_keyiter->wZ,wpAny_isInstance->ow,wpAny_Call_Name_kw->pE,wpAny_passesOwn->oM,typeLookup_type->o8,wpAny_truthy_bool->qW,wpAny_setEntries_of->r8,wpAny_setField->oP,wpAny_attempt->oA,wpAny_fieldsOf->p1,wpAny_letGo->mT,isSubtype_type->q5,wpAny_of_eq->oW,wpAny_tryCatch->tc,wpAny_updateSeq_pair->zY,wpAny_execs_nil->wY,codeAny_mono->s8,call_meets->q4,isSubtype_stop->vu,wpAny_pyIter_slot->y9,wpAny_dictEntries->Bq,wpAny_standAt->ur,wpAny_newList->vl,wpAny_onRaise->w0,filterMap_getElem?_range->DV,noFill_tuple_add->zG,wpAny_pyIter_zip->zx,wpAny_askSetting->xw,wpAny_Call_method_late->Fe,richCompare_meets_room->JO,wpAny_dictEpoch->AB,codeAny_of_tree->zD,wpAny_ite_split->zO,wpAny_notOrdered_dict->Il,wpAny_isOneOf_keyiter->H4,seqIndex_of->vO,wpAny_pyIter_keyiter->Fc,wpAny_newTuple->yj,wpAny_runValue->AU,callType_codes->ym,codeAny_extend_loopS->Ce,seq_tuple_add->yx,wpAny_handled->Aw,wpAny_tupleItemsOf->C7,wpAny_load->vn,wpAny_getItem_heap->II,eqIsQuiet_byValue->Ct,wpAny_assign_Name->DO,concat_meets->yL,wpAny_sequenceKey->FT,seqIndex_neg->yU,slot_list_getitem->CK,list_append->C_,wpAny_storeSet_of->Hi,wpAny_setEpoch_of->BG,wpAny_pyHash_int->HH,wpAny_pyHash_str->EI,wpAny_execs_cons->Kt,entryFor_of_tree->D0,sizeLine_eq->xK,wpAny_throw->yW,wpAny_Name->xq,wpAny_bindName->Fh,entryFor_alias->BN,evalPart_none->GP,call_list_seq->CN,intBits_le_64->Kb,signature?_of->ED,callType_new->BV
open Option renaming bind_eq_some_iff->bG,map_eq_some_iff->cD,getD_some->sq,bind_some->sv,map_some->wi,isSome_map->yJ,isSome_iff_exists->Di,getD_none->IL
open PySem.Heap renaming get?_push_of_some->bH,get?_push_size->cI,lt_size->bI,get?_update_other->gw,get?_update_self->jq,size_push->gN,get?_none_of_le->Ay
open List renaming append_assoc->bt,length_map->a9,getD_eq_getElem?_getD->cM,mem_cons->bO,mem_singleton->cK,getElem?_eq_getElem->dv,size_toArray->cO,append_nil->cC,perm_append_comm->dx,length_append->c7,getElem?_eq_some_iff->ek,map_cons->cw,length_cons->c3,nodup_append->dN,mem_map->cN,getElem?_map->dZ,pairwise_singleton->fP,mem_append_right->fj,take_append_drop->fT,mem_of_getElem?->fH,mem_append->ee,mem_append_left->gc,length_drop->e4,mem_range->eJ,not_mem_nil->fO,pairwise_cons->gB,map_map->eD,map_append->fQ,length_take->gv,getElem?_append_right->jS,length_range->gU,drop_eq_getElem_cons->jH,getElem?_append_left->kb,nodup_cons->g5,flatMap_cons->ip,length_pos_iff->jk,length_nil->hF,getElem?_zip_eq_some->mi,mem_iff_getElem->ks,eq_nil_of_length_eq_zero->o3,pairwise_iff_getElem->nF,lookup_cons->jf,mem_nil_iff->i8,mem_cons_of_mem->lp,find?_cons->jn,nil_append->jb,nodup_nil->iH,all_eq_true->jT,getElem?_drop->k9,drop_of_length_le->mO,mem_cons_self->mA,mem_of_mem_drop->m3,getElem?_take->l4,map_congr_left->mL,length_singleton->nX,map_drop->jG,map_take->jy,length_zip->lR,getElem?_set_ne->ox,mem_of_mem_take->n5,drop_zero->k0,foldl_cons->lT,any_eq_true->ny,length_dropLast->q1,length_reverse->ri,perm_ext_iff_of_nodup->wM,getElem?_eq_none->rJ,getElem?_toArray->r3,getElem_drop->pw,ext_getElem?->pT,pairwise_map->pC,any_cons->ni,filterMap_cons->rD,mem_map_of_mem->so,drop_drop->oR,take_length->rl,getElem?_set_self->vM,take_of_length_le->vy,of_mem_zip->pN,getLast?_cons_of_ne_nil->y7,take_sublist->th,getElem?_of_mem->uV,mem_erase_of_ne->v_,length_eraseIdx->uZ,dropLast_subset->t7,nodup_range->rC,getElem_mem->r6,mem_flatMap->sT,filterMap_cons_some->AJ,forIn_cons->sg,mem_filterMap->uF,getElem?_cons_succ->Ba,getElem_take->tY,drop_take->rN,drop_sublist->uD,take_succ_eq_append_getElem->IJ,eraseIdxIfInBounds_toArray->Dx,cons_append->vP,any_toArray->wO,flatMap_nil->vq,map_eq_cons_iff->z7,mem_filter->wb,length_set->we,map_nil->r5,take_take->wz,take_zero->wR,setIfInBounds_toArray->Ju,forIn_nil->w4,zip_cons_cons->zl,length_eraseIdx_of_lt->J6,mem_of_find?_eq_some->HW,getLast?_eq_none_iff->Gg,foldl_append->yd,mem_of_mem_eraseIdx->J3,length_erase_of_mem->Gs,drop_length->zK,zipIdx_cons->z2,ext_getElem->xX,filter_cons->zk,length_eq_zero_iff->GN,pairwise_lt_range->BO,length_pos_of_mem->Ko,pairwise_append->E5,extract_toArray->Gj,perm_cons_erase->BI,getElem?_range->Jb,map_eq_nil_iff->Gm,set_comm->xr,map_filterMap->F2,all_map->Am,getElem?_set->JR,set_set->xu,reverse_cons->EV,any_map->Bh,getElem?_inj->B0,getElem_inj->B8,map_toArray->E7,getElem_map->IV,countP_cons->D7,map_fst_zip->HG,map_flatMap->Ht,getElem_zip->Kf,range'_succ->I2,map_id->xP,zipIdx_nil->Ca,find?_some->GQ,zip_append->Fv
open Nat renaming le_refl->ba,ne_of_lt->cZ,le_of_ble_eq_true->ft,lt_of_lt_of_le->fI,le_trans->e0,lt_or_ge->gz,zero_le->gC,le_add_right->jU,lt_succ_self->kE,ne_of_gt->iM,lt_irrefl->jJ,le_of_lt->lV,min_eq_left->rj,not_lt_zero->qR,lt_trichotomy->rO,le_of_lt_succ->rY,lt_of_le_of_lt->va,lt_trans->qz,lt_succ_of_lt->uN,lt_of_succ_lt_succ->yM,add_assoc->sX,add_comm->tb,succ_pos->sW,not_lt->qY,mod_lt->qO,eq_zero_or_pos->z5,lt_add_of_pos_right->Fq,mod_eq_of_lt->xb,sub_zero->vw,eq_of_beq_eq_true->B7,sub_self->Br,min_self->Ao,mod_self->AN,lt_succ_of_le->Fx,min_eq_right->GZ,le_succ->zi,add_zero->GI,zero_add->D6,min_def->HR
open Bool renaming and_eq_true->cU,false_ne_true->dy,false_eq_true->gQ,eq_iff_iff->lD,not_true->q2,or_eq_true->t8,not_eq_true'->yS,and_false->GK,false_bne->Iz,false_or->Iy,and_true->GD,true_bne->CY,or_false->Gr,true_or->B9,or_true->BF
open PySem.W renaming kasC_pure->bf,kasC_bind->bh,mg_none_of->hS,kasC_range->gi,mg_of->ml,kasC_modify->k2,kasC_get->km,kasC_lift->oB,cellsFrom_some->I0,ktu_apart->IE,kat_item->tP,kas_swaps_map->IW
open Array renaming length_toList->dr,getElem?_toList->eS,getElem?_eq_getElem->ju,getElem?_eq_some_iff->oi,forIn_toList->px,ext'->lN,getElem?_eq_none->xf,toList_push->wk,toList_filterMap->ze,getD_eq_getD_getElem?->Io,perm_iff_toList_perm->JA,getElem_toList->Dg,size_map->x_,mem_toList_iff->Hc,size_push->Ei
open List.Perm renaming append_left->d5,append_right->fs,map->vt,eq_of_pairwise->Qu,flatMap_right->TY,cons_inv->TF
open PySem.Around renaming under_plainId->iD
open PySem.F renaming plainAttrs_list->jO,slot_list_append->pD,type_list_append->qB,slot_dict_keyiterator_next->sG,called_set->mP,slot_tuple_iterator_next->tT,slot_list_extend->wc,type_list_extend->w5,plain_extend_loop->rB,slot_zip_next->qI,slot_tuple_hash->sy,args_tuple_add_2->xi,slot_list_getattribute->zW,entry_tuple_add->yC,slot_tuple_add->y6,args_dict_keyiterator_next_1->E8,entry_dict_keyiterator_next->Je,args_tuple_iterator_next_1->Jd,entry_tuple_iterator_next->DR,slot_dict_getitem->Ie,plain_extend_loop->Jj,args_zip_next_1->z6,entry_zip_next->yz,plain_list_iadd->Ir,plain_set_new->Cq,slot_set_iter->HT,slot_list_pop->GU,type_list_pop->Dq,args_list_append_2->CM,args_object_init_3->I9,called_tuple->Bd,entry_list_append->GF,entry_extend_loop->IP,slot_list_append->CO,slot_tuple_index->CQ,plain_list_iadd->H7,plain_tuple_new->CP,slot_dict_iter->Hg,typeCall_zip_2->BU,newCall_zip_2->Ji,entry_zip_new->D8,called_zip->GG
open PyProof.Rows renaming callWith_type1->mc,slot_tuple_getitem->qJ,callWith_builtin1->EW,assignInOrder_cons->z3,subscriptTail_builtinR->BX,entry_list_sort->y1,slot_list_sort->x4,args_list_sort->z_,entry_tuple_getitem->JH,args_tuple_getitem->JN,assignInOrder_nil->Eo,plain_sorted->yD,entry_sorted->yI,args_sorted1->BA,kind_sorted->A2,get?_update_seq->Hk,slicePart_none->Ig,elem'_eq->wL,tupleItemsOf_->Jt,listUpdate_at->G5,Call_->rb,tail_any->xC,lt_int->LN,gt_int->TH
open PySem.PassesOwn renaming never->hV
open Prod renaming ext->e2
open PySem.Heap.SameBut renaming update->l0
open Int renaming le_refl->hB,toNat_natCast->kV,emod_lt_of_pos->nh,emod_nonneg->mv,le_trans->mY,emod_eq_of_lt->vh,not_lt->vF,le_of_lt->DX,mul_one->B1
open Ne renaming symm->eN
open Classical renaming byContradiction->sx
open PyProof.Rows.F renaming plain_set_update_loop->yw,entry_set_update_loop->Fw
open PySem.Obj renaming data_mapFields->p9,isFreed_of_fields->xe,cls_mapFields->As
open PySem.Calls renaming call_function_entry->za,spliced_cons->uz,spliced_nil->wt,Name_function_global->Iv,callWith_builtin->D9,evalArgs_plain->Kc
open PySem.AutoSeq1 renaming sub_tuple_tuple->E6
open List.Pairwise renaming imp_of_mem->Dl,sublist->FG,map->Dw,filterMap->PB,filter->MU,imp₂->LP
open PySem.SetTable renaming toList_insertAt->I_
open Std.Legacy.Range renaming forIn_eq_forIn_range'->VY
open PyProof.Rows.LSm renaming kept_iter->xt
open Prod.mk renaming injEq->AV
open PySem.SeqAt.EqAt renaming int_str->Ea,str_int->D_,none_tuple->UM,bool_tuple->Rc,tuple_none->OZ,tuple_bool->Oe,none_bool->Rj,bool_none->Rb,bool_bool->RG,int_tuple->Wc,str_tuple->Vc,tuple_int->OQ,tuple_str->La,none_int->S0,none_str->UY,bool_int->Nl,bool_str->SX,int_none->QB,int_bool->UD,str_none->Uk,str_bool->PV,int_int->O2,str_str->UB,of_refs->Pb
open PySem.SeqAt.RcAt renaming tuples->BQ,lists_lengths->PG,none_tuple->Rt,bool_tuple->Sr,tuple_none->UA,tuple_bool->LR,none_none->SN,none_bool->PZ,bool_none->OK,bool_bool->TC,int_tuple->UZ,str_tuple->S2,tuple_int->Mc,tuple_str->MZ,none_int->PJ,none_str->Wi,bool_int->RI,bool_str->PX,int_none->P0,int_bool->Ql,str_none->Lj,str_bool->Uz,int_int->OW,int_str->NH,str_int->Vb,str_str->U6,lists->Po
open PySem.IsL renaming update->E2
open PySem.SeqAt.RcNeAt renaming lists_lengths->Ml,none_tuple->Lq,bool_tuple->NF,tuple_none->Lk,tuple_bool->Qz,none_none->Wq,none_bool->RF,bool_none->Mp,bool_bool->Vk,int_tuple->VZ,str_tuple->Wg,tuple_int->KI,tuple_str->S8,none_int->V1,none_str->Sd,bool_int->Uj,bool_str->Ma,int_none->TL,int_bool->QG,str_none->Vm,str_bool->V4,int_int->S9,int_str->SE,str_int->SF,str_str->Sx,tuples->Th,lists->RD
open PySem.W.Looks renaming of_pure->Iq
open List.Sublist renaming append_left->MM
open PySem renaming Scope->hI,Str->aB,Heap->aV,Value->ab,CmpOp->mI,Sem->dz,Addr->af,Stmt->b8,Expr->bx,Obj->a0,Shared->ah,Around->bw,World->bc,Program->bJ,Builtin->aX,cLine->bU,model->aM,isInstance->xB,Tok->hO,Paired->dY,sysModules->j4,mainGlobals->dH,builtinsNs->AF,bootBuiltins->eT,Env->fu,GenState->u5,Model->gA,eval->bZ,isTrue->qT,backTo->f3,starEach->bL,swapsWith->oY,assign->js,assignInOrder->z8,assignEach->hz,setItem->uT,swapsWithSole->vZ,swappedStores->vg,bindName->vi,PassesOwn->qZ,pyNext->ff,letOwnedTupleGo->tE,pyIter->oz,rawInt->ey,Walks->h1,foldedSetIterable->mH,Operator->zf,binaryOp->gF,compareOp->eQ,behindInMarks->qA,recursionLimit->CH,Result->oV,FuncData->hj,BindsTo->mW,bindArgs->k7,Keyword->l9,NameKind->dJ,cellsFrom->xY,richCompare->oK,IsPart->kY,getItem->nA,typeLookup->n4,seqIndex?->xa,sliceBounds->nW,typeOf->ud,attributeBase->wI,backToKw->uQ,keywordEach->wX,valueAt->oG,atKey->kG,Params->uY,callerA->pe,cellOf->uX,compEnvC->ue,comprehension->yq,newList->n3,setField->vv,newExc->qQ,newTuple->r_,firstArgMember->rd,field->jc,seqItems?->nq,shortFactorBits->w6,checkCount->Bc,ZipApart->lr,IsZip->jY,IsPair->gg,updateSeq->nf,collect->vK,checkBuiltinCall->Df,getattributeRaised->BY,entryFor->qP,table->rk,argsOk->tD,PyData->tJ,SetTable->aT,hashByValue->vE,ofAClassStatement->wW,searchCouldBeSeen->ID,carriedByValue->Cm,setSearchFrom->D2,drawOrder->ya,setNext->mV,setEntries->vb,pickOrder->jI,ItemsOf->uP,argBest->t6
open Bool renaming true->aa,false->au
open Option renaming some->Z,none->Y
open PyProof.Rows renaming IsTup->pg,AllBare->md,envOfC->jF,subscriptTail->FH,IntsAre->sA,bubble->tF,SortKind->g9,Keyed->bj,SortSt->bB,pendingOf->iA,failedOf->iE,mergeAt'->uv,ltAt'->nY,reverseSlice'->sm,seqObj->fN,keyKind'->yu,tuples'->pQ
open PySem.W renaming WData->ta,WShape->ry,kas_rev->nR,kas_cmp->fK,kas_item->bg,kas_st->vV
abbrev aA:=@if_pos
abbrev aI:=@if_neg
abbrev d3:=@decide_eq_false
abbrev dU:=@decide_eq_true
abbrev fD:=@of_decide_eq_true
abbrev gE:=@decide_eq_true_iff
abbrev eY:=@or_false
abbrev kH:=@beq_self_eq_true
abbrev fx:=@if_false
abbrev ie:=@if_true
abbrev yN:=@decide_eq_false_iff_not
abbrev t_:=@decide_eq_true_eq
abbrev oQ:=@beq_iff_eq
abbrev xU:=@beq_eq_false_iff_ne
abbrev oT:=@not_or
variable{Xx:Sort _}{p:Prop}
theorem xE1{o:Xx->Prop}(c:∃g,o g)(q:∀g,o g->p):p:=have ⟨g,C⟩:=c;q g C
variable{Ya:Sort _}
theorem xE2{o:Xx->Ya->Prop}(c:∃g e,o g e)(q:∀g e,o g e->p):p:=have ⟨g,e,C⟩:=c;q g e C
variable{YB:Sort _}
theorem xE3{o:Xx->Ya->YB->Prop}(c:∃g e n,o g e n)(q:∀g e n,o g e n->p):p:=have ⟨g,e,n,C⟩:=c;q g e n C
variable{YC:Sort _}
theorem xE4{o:Xx->Ya->YB->YC->Prop}(c:∃g e n v,o g e n v)(q:∀g e n v,o g e n v->p):p:=have ⟨g,e,n,v,C⟩:=c;q g e n v C
variable{YE:Sort _}
theorem xE5{o:Xx->Ya->YB->YC->YE->Prop}(c:∃g e n v d,o g e n v d)(q:∀g e n v d,o g e n v d->p):p:=have ⟨g,e,n,v,d,C⟩:=c;q g e n v d C
variable{YF:Sort _}
theorem xE6{o:Xx->Ya->YB->YC->YE->YF->Prop}(c:∃g e n v d F,o g e n v d F)(q:∀g e n v d F,o g e n v d F->p):p:=have ⟨g,e,n,v,d,F,C⟩:=c;q g e n v d F C
variable{YG:Sort _}
theorem xE7{o:Xx->Ya->YB->YC->YE->YF->YG->Prop}(c:∃g e n v d F I,o g e n v d F I)(q:∀g e n v d F I,o g e n v d F I->p):p:=have ⟨g,e,n,v,d,F,I,C⟩:=c;q g e n v d F I C
variable{XG:Sort _}
theorem xE8{o:Xx->Ya->YB->YC->YE->YF->YG->XG->Prop}(c:∃g e n v d F I a,o g e n v d F I a)(q:∀g e n v d F I a,o g e n v d F I a->p):p:=have ⟨g,e,n,v,d,F,I,a,C⟩:=c;q g e n v d F I a C
theorem xE9{b:Sort _}{o:Xx->Ya->YB->YC->YE->YF->YG->XG->b->Prop}(c:∃g e n v d F I a r,o g e n v d F I a r)(q:∀g e n v d F I a r,o g e n v d F I a r->p):p:=have ⟨g,e,n,v,d,F,I,a,r,C⟩:=c;q g e n v d F I a r C
variable{g e:Prop}
theorem xA2(c:g/\e)(q:g->e->p):p:=q c.1 c.2
variable{n:Prop}
theorem xA3(c:g/\e/\n)(q:g->e->n->p):p:=q c.1 c.2.1 c.2.2
variable{v:Prop}
theorem xA4(c:g/\e/\n/\v)(q:g->e->n->v->p):p:=q c.1 c.2.1 c.2.2.1 c.2.2.2
variable{d:Prop}
theorem xA5(c:g/\e/\n/\v/\d)(q:g->e->n->v->d->p):p:=q c.1 c.2.1 c.2.2.1 c.2.2.2.1 c.2.2.2.2
variable{F:Prop}
theorem xA6(c:g/\e/\n/\v/\d/\F)(q:g->e->n->v->d->F->p):p:=q c.1 c.2.1 c.2.2.1 c.2.2.2.1 c.2.2.2.2.1 c.2.2.2.2.2
variable{I:Prop}
theorem xA7(c:g/\e/\n/\v/\d/\F/\I)(q:g->e->n->v->d->F->I->p):p:=q c.1 c.2.1 c.2.2.1 c.2.2.2.1 c.2.2.2.2.1 c.2.2.2.2.2.1 c.2.2.2.2.2.2
theorem xA8{a:Prop}(c:g/\e/\n/\v/\d/\F/\I/\a)(q:g->e->n->v->d->F->I->a->p):p:=q c.1 c.2.1 c.2.2.1 c.2.2.2.1 c.2.2.2.2.1 c.2.2.2.2.2.1 c.2.2.2.2.2.2.1 c.2.2.2.2.2.2.2
set_option linter.all false
set_option maxRecDepth 100000
namespace L2
open PySem PySem.Spec PyProof.Rows
variable{XI:hI}{Yi h:aB}{Xv c:aV}{aH:aB->Option ab}{Xo XW:List aB}{X7:mI}{F:ab->ab->dz ab}{cb Yo:List af}{o Xu:Pos}{Yt:List b8}{r w q a XM:Nat}{I:Int->Int->Int}{XK n d:bx}{S:List bx}{Xd:PySem.W.Frag}{G:List (af×a0)}{f Xe:ah}{B Xg:ab->ah->Prop}{O:bw}{Xj e g:af}{l:bc}{Xs:bJ}{L:ab}{XE:List ab}
inductive V where
 | aW|aG (e:Bool)|int (a:Int)|str (h:aB)|tup (J:List V)|fn (g:af)|aU (J:List V)|fd
mutual
noncomputable def V.beq:V->V->Bool
 |.aW,.aW=>aa
 |.aG g,.aG e=>g==e
 |.int a,.int r=>decide (a=r)
 |.str h,.str H=>decide (h=H)
 |.tup g,.tup e=>V.mB g e
 |.fn g,.fn e=>decide (g=e)
 |.aU g,.aU e=>V.mB g e
 |.fd,.fd=>aa
 |_,_=>au
noncomputable def V.mB:List V->List V->Bool
 |[],[]=>aa
 |g::s,e::i=>V.beq g e&&V.mB s i
 |_,_=>au
end
mutual
theorem V.beq_iff:∀g e:V,V.beq g e=aa↔g=e
 |.aW,e=>by cases e<;>simp[V.beq]
 |.aG g,e=>by cases e<;>simp[V.beq]
 |.int a,e=>by cases e<;>simp[V.beq]
 |.str h,e=>by cases e<;>simp[V.beq]
 |.tup h,e=>by
  cases e with
  |tup H=>rw[V.beq,V.x2 h H];simp
  |_=>simp[V.beq]
 |.fn g,e=>by cases e<;>simp[V.beq]
 |.aU h,e=>by
  cases e with
  |aU H=>rw[V.beq,V.x2 h H];simp
  |_=>simp[V.beq]
 |.fd,e=>by cases e<;>simp[V.beq]
theorem V.x2:∀g e:List V,V.mB g e=aa↔g=e
 |[],e=>by cases e<;>simp[V.mB]
 |h::s,e=>by
  cases e with
  |nil=>simp[V.mB]
  |cons H i=>rw[V.mB,cU,V.beq_iff h H,V.x2 s i];simp
end
noncomputable instance:DecidableEq V:=λg e=>decidable_of_iff (V.beq g e=aa) (V.beq_iff g e)
mutual
def dM(c:aV):V->ab->Prop
 |.aW,u=>u=.none
 |.aG e,u=>u=.bool e
 |.int a,u=>∃i,u=.int a i
 |.str h,u=>∃i,u=.str h i
 |.fn g,u=>u=.ref g
 |.aU _,u=>∃g,u=.ref g
 |.fd,u=>∃g,u=.ref g
 |.tup J,u=>∃g m Xy w,u=.ref g/\c.get? g=Z m/\m.cls=.type "tuple" /\ m.data=.seq Xy w/\dI c J Xy.toList
def dI(c:aV):List V->List ab->Prop
 |[],Xc=>Xc=[]
 |v::J,Xc=>∃u s,Xc=u::s/\dM c v u/\dI c J s
end
mutual
noncomputable def V.key:Nat->V->Bool
 |_,.int _=>aa
 |_,.str _=>aa
 |w+1,.tup J=>V.keys w J
 |_,_=>au
noncomputable def V.keys:Nat->List V->Bool
 |_,[]=>aa
 |w,v::J=>V.key w v&&V.keys w J
end
mutual
noncomputable def c_(l:bc):V->Int
 |.int a=>hashInt a
 |.str h=>hashStr l h
 |.tup J=>reduceHash (aX.Tuple.tupleHashOf<|iW l J)
 |_=>0
noncomputable def iW(l:bc):List V->List Int
 |[]=>[]
 |v::J=>c_ l v::iW l J
end
mutual
noncomputable def wh:V->Nat
 |.tup J=>kI J+1
 |_=>1
noncomputable def kI:List V->Nat
 |[]=>0
 |v::J=>wh v+kI J
end
theorem Bt(l:bc):∀g e:List V,iW l (g++e)=iW l g++iW l e
 |[],e=>rfl
 |v::g,e=>by rw[vP,iW,iW,Bt l g e,vP]
theorem zJ:∀g e:List V,kI (g++e)=kI g+kI e
 |[],e=>by simp[kI]
 |v::g,e=>by rw[vP,kI,kI,zJ g e];lia
theorem Fy{w:Nat}:∀{g e:List V},V.keys w (g++e)=aa->V.keys w e=aa
 |[],e,c=>c
 |v::g,e,c=>by rw[vP,V.keys,cU]at c;exact Fy c.2
theorem dI.length{c:aV}:∀{J:List V}{Xc:List ab},dI c J Xc->J.length=Xc.length
 |[],Xc,d=>by rw[show Xc=[] from d];rfl
 |v::J,Xc,d=>by
  let⟨u,@s,rfl,W,d⟩:=d;rw[c3,c3,dI.length d]
def vm(c M:aV):Prop:=∀g m Xy w,c.get? g=Z m->m.cls=.type "tuple" -> m.data=.seq Xy w->M.get? g=Z m
mutual
theorem dM.keep{c M:aV}(q:vm c M):∀{v:V}{u:ab},dM c v u->dM M v u
 |.aW,_,d=>d
 |.aG _,_,d=>d
 |.int _,_,d=>d
 |.str _,_,d=>d
 |.fn _,_,d=>d
 |.aU _,_,d=>d
 |.fd,_,d=>d
 |.tup J,_,d=>by
  let⟨g,m,Xy,@w,rfl,z,E,a,b⟩:=d;exact⟨g,m,Xy,w,rfl,q g m Xy w z E a,E,a,dI.keep q b⟩
theorem dI.keep{c M:aV}(q:vm c M):∀{J:List V}{Xc:List ab},dI c J Xc->dI M J Xc
 |[],_,d=>d
 |v::J,_,d=>by
  let⟨u,@s,rfl,z,E⟩:=d;exact⟨u,s,rfl,dM.keep q z,dI.keep q E⟩
end
theorem GC{c:aV}:∀(w:Nat) {h H:V}{u:ab},V.key w h=aa->V.key w H=aa->dM c h u->dM c H u->h=H
 |w,.int a,H,u,_,a6,f,b=>by
  let⟨@i,rfl⟩:=f;cases H with
  |int r=>let⟨@L,d⟩:=b;injection d with d;rw[d]
  |str C=>let⟨@L,d⟩:=b;cases d
  |tup J=>let⟨W,W,W,@W,d,W⟩:=b;cases d
  |_=>cases w<;>cases a6
 |w,.str C,H,u,_,a6,f,b=>by
  let⟨@i,rfl⟩:=f;cases H with
  |int r=>let⟨@L,d⟩:=b;cases d
  |str C=>let⟨@L,d⟩:=b;injection d with d;rw[d]
  |tup J=>let⟨W,W,W,@W,d,W⟩:=b;cases d
  |_=>cases w<;>cases a6
 |w+1,.tup J,H,u,n,a6,f,b=>by
  let⟨g,m,Xy,@k,rfl,z,E,o,t⟩:=f;cases H with
  |int r=>let⟨@L,d⟩:=b;cases d
  |str C=>let⟨@L,d⟩:=b;cases d
  |tup S=>
   let⟨B,R,D,@F,d,l,G,j,x⟩:=b;cases d;rw[z]at l;cases l;rw[o]at j;injection j with j _;subst j;have all:∀(J S:List V) (Xc:List ab),V.keys w J=aa->V.keys w S=aa->dI c J Xc->dI c S Xc->J=S:=by
    intro J;induction J with
    |nil=>
     intro S Xc W W g e;cases S with
     |nil=>rfl
     |cons d S=>let⟨W,@W,p,W⟩:=e;rw[show Xc=[] from g]at p;cases p
    |cons v J y=>
     intro S Xc XF XH g e;let⟨u,@s,rfl,A,Yb⟩:=g;cases S with
     |nil=>cases (show u::s=[] from e)
     |cons d S=>
      let⟨I,@X9,p,aQ,aR⟩:=e;cases p;rw[V.keys,cU]at XF XH;rw[GC w XF.1 XH.1 A aQ,y S s XF.2 XH.2 Yb aR]
   rw[all J S _ n a6 t x]
  |_=>cases a6
 |_,.aW,_,_,q,_,_,_=>by cases ‹Nat›<;>cases q
 |_,.aG _,_,_,q,_,_,_=>by cases ‹Nat›<;>cases q
 |_,.fn _,_,_,q,_,_,_=>by cases ‹Nat›<;>cases q
 |_,.aU _,_,_,q,_,_,_=>by cases ‹Nat›<;>cases q
 |_,.fd,_,_,q,_,_,_=>by cases ‹Nat›<;>cases q
 |0,.tup _,_,_,q,_,_,_=>by cases q
section
variable{Xm:bJ}{l:bc}
theorem FA:∀(w:Nat) {O:bw}{Xg:ab->ah->Prop}{f:ah}{v:V}{u:ab}{B:Int->ah->Prop},V.key w v=aa->O.units+w<bU->dM f.heap v u->B (c_ l v) {f with toks:=f.toks+wh v}->
  wpAny (aM Xm l) O (pyHash u) B Xg f
 |w,O,Xg,f,.int a,u,B,_,_,b,c=>by
  let⟨@i,rfl⟩:=b;exact HH c
 |w,O,Xg,f,.str a,u,B,_,_,b,c=>by
  let⟨@i,rfl⟩:=b;exact EI c
 |w+1,O,Xg,f,.tup J,u,B,q,y,b,c=>by
  let⟨g,m,Xy,@k,rfl,r,x,hd,U⟩:=b;have j:f.TypeIs (.ref g) "tuple" := ⟨m,r,x⟩;unfold pyHash;first|unfold pyHashByItsType|skip
  first|refine ak (wpAny_cRoomFor_or (.inr ⋯) ?_)|skip
  refine ak (my j sy.lookup ?_);show wpAny _ _ (if (Z (ab.builtin "tuple.__hash__")==Z ab.none)=aa then _ else _) B Xg f;rw[aI (by rw[beq_builtin_none];exact dy)];refine ak (my j sy.lookup ?_);show wpAny _ _ (callSpecialIfBoundUnlessNone? (.ref g) "__hash__" _ >>= _) B Xg f;refine ak (wpAny_callSpecialIfBoundUnlessNone?_slot j sy<|hA sy j F.entry_tuple_hash ?_<|F.args_tuple_hash_1 _);show wpAny _ _ (aX.Tuple.tupleItemsOf (.ref g) >>= _) _ _ f;refine ak (C7 r hd ?_);refine ak ?_;rw[<-px];refine nc _
   (λc4 (e:Array Int) Xe=>∃done left,J=done++left/\dI f.heap left c4/\e.toList=iW l done/\Xe={f with toks:=f.toks+kI done})
   _ ?_ ?_ _ _ ⟨[],J,rfl,U,rfl,rfl⟩
  ·rintro h c4 e Xe ⟨done,left,rfl,n,o,rfl⟩;cases left with
   |nil=>cases (show h::c4=[] from n)
   |cons v left=>
    let⟨u,@s,d,z,t⟩:=n;cases d;have XH:=Fy (g:=done) (show V.keys w (done++v::left)=aa from q);rw[V.keys,cU]at XH;refine ak (FA w XH.1 (by show O.units+1+w<bU;lia) z ?_);first
     | exact aK ⟨done++[v],left,by simp,t,by simp[o,Bt,iW],by simp[zJ,kI,sX]⟩
     | exact ak (aK (aK ⟨done++[v],left,by simp,t,by simp[o,Bt,iW],by simp[zJ,kI,sX]⟩))
  ·rintro e Xe ⟨done,left,rfl,n,o,rfl⟩;cases left with
   |cons v left=>let⟨W,@W,d,W⟩:=n;cases d
   |nil=>
   rw[cC]at c;show wpAny _ _ (retInt<|aX.Tuple.tupleHashOf e.toList) _ _ _;rw[o];refine wpAny_ret_mkInt ?_;show wpAny _ _ (if (decide (-(2:Int)^63<=aX.Tuple.tupleHashOf (iW l done))&&decide (aX.Tuple.tupleHashOf (iW l done)<2^63))=aa then _ else _) B Xg _;rw[c_,wh]at c;unfold reduceHash at c;by_cases p:(decide (-(2:Int)^63<=aX.Tuple.tupleHashOf (iW l done))&&decide (aX.Tuple.tupleHashOf (iW l done)<2^63))=aa
   ·rw[aA p];rw[aA p]at c;exact aK (by simpa [sX] using c)
   ·rw[aI p];rw[aI p]at c;exact ak (h7 (aK (by simpa [sX] using c)))
 |_,_,_,_,.aW,_,_,q,_,_,_=>by cases ‹Nat›<;>cases q
 |_,_,_,_,.aG _,_,_,q,_,_,_=>by cases ‹Nat›<;>cases q
 |_,_,_,_,.fn _,_,_,q,_,_,_=>by cases ‹Nat›<;>cases q
 |_,_,_,_,.aU _,_,_,q,_,_,_=>by cases ‹Nat›<;>cases q
 |_,_,_,_,.fd,_,_,q,_,_,_=>by cases ‹Nat›<;>cases q
 |0,_,_,_,.tup _,_,_,q,_,_,_=>by cases q
mutual
noncomputable def cy:V->V->Bool
 |.aW,.aW=>aa
 |.aG g,.aG e=>g==e
 |.aG g,.int r=>(if g then 1 else 0)==r
 |.int a,.aG e=>a==(if e then 1 else 0)
 |.int a,.int r=>a==r
 |.str h,.str H=>h==H
 |.tup g,.tup e=>fC g e
 |_,_=>au
noncomputable def fC:List V->List V->Bool
 |[],[]=>aa
 |g::s,e::i=>cy g e&&fC s i
 |_,_=>au
end
mutual
noncomputable def V.bo:Nat->V->Bool
 |_,.aW=>aa
 |_,.aG _=>aa
 |_,.int _=>aa
 |_,.str _=>aa
 |w+1,.tup J=>V.c2 w J
 |_,_=>au
noncomputable def V.c2:Nat->List V->Bool
 |_,[]=>aa
 |w,v::J=>V.bo w v&&V.c2 w J
end
theorem kD{w:Nat}:∀{J:List V}{r:Nat}{v:V},V.c2 w J=aa->J[r]?=Z v->V.bo w v=aa
 |[],r,v,_,c=>by simp at c
 |d::J,0,v,q,c=>by
  rw[V.c2,cU]at q;simp at c;subst c;exact q.1
 |d::J,r+1,v,q,c=>by
  rw[V.c2,cU]at q;exact kD q.2 (by simpa using c)
theorem dI.get{c:aV}:∀{J:List V}{Xc:List ab}{r:Nat}{u:ab},dI c J Xc->Xc[r]?=Z u->∃v,J[r]?=Z v/\dM c v u
 |[],Xc,r,u,g,d=>by rw[show Xc=[] from g]at d;simp at d
 |v::J,Xc,0,u,g,d=>by
  let⟨L,@s,rfl,a,Yb⟩:=g;simp at d;subst d;exact⟨v,rfl,a⟩
 |v::J,Xc,r+1,u,g,d=>by
  let⟨L,@s,rfl,a,Yb⟩:=g;let⟨@b,z,E⟩:=dI.get (r:=r) Yb (by simpa using d);exact⟨b,by simpa using z,E⟩
theorem J5{c:aV}:∀(w:Nat) {h H:V}{u:ab},V.bo w h=aa->V.bo w H=aa->dM c h u->dM c H u->cy h H=aa
 |w,.aW,H,u,_,a6,f,b=>by
  cases (show u=.none from f);cases H with
  |aW=>rfl
  |aG e=>cases b
  |int r=>let⟨@L,d⟩:=b;cases d
  |str C=>let⟨@L,d⟩:=b;cases d
  |tup J=>let⟨W,W,W,@W,d,W⟩:=b;cases d
  |fn g=>cases w<;>cases a6
  |aU g=>cases w<;>cases a6
  |fd=>cases w<;>cases a6
 |w,.aG e,H,u,_,a6,f,b=>by
  cases (show u=.bool e from f);cases H with
  |aW=>cases b
  |aG n=>cases b;simp[cy]
  |int r=>let⟨@L,d⟩:=b;cases d
  |str C=>let⟨@L,d⟩:=b;cases d
  |tup J=>let⟨W,W,W,@W,d,W⟩:=b;cases d
  |fn g=>cases w<;>cases a6
  |aU g=>cases w<;>cases a6
  |fd=>cases w<;>cases a6
 |w,.int a,H,u,_,a6,f,b=>by
  let⟨@i,rfl⟩:=f;cases H with
  |aW=>cases b
  |aG n=>cases b
  |int r=>let⟨@L,d⟩:=b;cases d;simp[cy]
  |str C=>let⟨@L,d⟩:=b;cases d
  |tup J=>let⟨W,W,W,@W,d,W⟩:=b;cases d
  |fn g=>cases w<;>cases a6
  |aU g=>cases w<;>cases a6
  |fd=>cases w<;>cases a6
 |w,.str a,H,u,_,a6,f,b=>by
  let⟨@i,rfl⟩:=f;cases H with
  |aW=>cases b
  |aG n=>cases b
  |int r=>let⟨@L,d⟩:=b;cases d
  |str C=>let⟨@L,d⟩:=b;cases d;simp[cy]
  |tup J=>let⟨W,W,W,@W,d,W⟩:=b;cases d
  |fn g=>cases w<;>cases a6
  |aU g=>cases w<;>cases a6
  |fd=>cases w<;>cases a6
 |w+1,.tup J,H,u,o,a6,f,b=>by
  let⟨g,m,Xy,@k,rfl,z,E,t,x⟩:=f;cases H with
  |aW=>cases b
  |aG n=>cases b
  |int r=>let⟨@L,d⟩:=b;cases d
  |str C=>let⟨@L,d⟩:=b;cases d
  |fn g=>cases a6
  |aU g=>cases a6
  |fd=>cases a6
  |tup S=>
   let⟨D,R,F,@G,d,l,I,j,y⟩:=b;cases d;rw[z]at l;cases l;rw[t]at j;injection j with j _;subst j;have all:∀(J S:List V) (Xc:List ab),V.c2 w J=aa->V.c2 w S=aa->dI c J Xc->dI c S Xc->fC J S=aa:=by
    intro J;induction J with
    |nil=>
     intro S Xc W W g e;cases S with
     |nil=>rfl
     |cons d S=>let⟨W,@W,p,W⟩:=e;rw[show Xc=[] from g]at p;cases p
    |cons v J A=>
     intro S Xc XF XH g e;let⟨u,@s,rfl,B,Yb⟩:=g;cases S with
     |nil=>cases (show u::s=[] from e)
     |cons d S=>
      let⟨M,@X9,p,aQ,aR⟩:=e;cases p;rw[V.c2,cU]at XF XH;rw[fC,J5 w XF.1 XH.1 B aQ,A S s XF.2 XH.2 Yb aR];rfl
   rw[cy];exact all J S _ o a6 x y
 |w,.fn _,_,_,q,_,_,_=>by cases w<;>cases q
 |w,.aU _,_,_,q,_,_,_=>by cases w<;>cases q
 |w,.fd,_,_,q,_,_,_=>by cases w<;>cases q
 |0,.tup _,_,_,q,_,_,_=>by cases q
theorem sj{d:Nat->Bool}:∀{J S:List V},(∀(r:Nat) (h H:V),J[r]?=Z h->S[r]?=Z H->d r=cy h H)->((range<|min J.length S.length).all d&&J.length==S.length)=fC J S:=by
 have Q:∀(J S:List V) (F:Nat->Bool),(∀(r:Nat) (h H:V),J[r]?=Z h->S[r]?=Z H->F r=cy h H)->((range<|min J.length S.length).all F&&J.length==S.length)=fC J S:=by
  intro J;induction J with
  |nil=>intro S F W;cases S<;>simp[fC]
  |cons v J a=>
   intro S F c;cases S with
   |nil=>simp[fC]
   |cons n S=>
    have:=a S (λr=>F<|r+1) λr h H g e=>c (r+1) h H (by simpa using g) (by simpa using e);rw[fC,<-this,<-c 0 v n rfl rfl];rw[c3,c3,show min (J.length+1) (S.length+1)=min J.length S.length+1 by lia,List.range_succ_eq_map,List.all_cons,Am,Bool.and_assoc];congr 2;rw[lD];simp
 exact λ{J S} c=>Q J S d c
theorem iO{f:ah}:∀(w:Nat) {O:bw}{h H:V}{L u:ab},V.bo w h=aa->V.bo w H=aa->O.units+w+1<bU->dM f.heap h L->dM f.heap H u->SeqAt.EqAt O f L u (cy h H)
 |w,O,.aW,H,L,u,_,a6,o,j,b=>by
  cases (show L=.none from j);cases H with
  |aW=>cases (show u=.none from b);exact SeqAt.EqAt.same _
  |aG e=>cases (show u=.bool e from b);exact Rj e
  |int r=>let⟨@i,rfl⟩:=b;exact S0 r i
  |str C=>let⟨@i,rfl⟩:=b;exact UY C i
  |tup J=>let⟨g,m,Xy,@k,rfl,z,E,l,W⟩:=b;exact UM ⟨m,z,E,k,l⟩ ⋯
  |fn g=>cases w<;>cases a6
  |aU g=>cases w<;>cases a6
  |fd=>cases w<;>cases a6
 |w,O,.aG e,H,L,u,_,a6,o,j,b=>by
  cases (show L=.bool e from j);cases H with
  |aW=>cases (show u=.none from b);exact Rb e
  |aG n=>cases (show u=.bool n from b);exact RG e n
  |int r=>let⟨@i,rfl⟩:=b;exact Nl e r i
  |str C=>let⟨@i,rfl⟩:=b;exact SX e C i
  |tup J=>let⟨g,m,Xy,@k,rfl,z,E,l,W⟩:=b;exact Rc e ⟨m,z,E,k,l⟩ ⋯
  |fn g=>cases w<;>cases a6
  |aU g=>cases w<;>cases a6
  |fd=>cases w<;>cases a6
 |w,O,.int a,H,L,u,_,a6,o,j,b=>by
  let⟨@c,rfl⟩:=j;cases H with
  |aW=>cases (show u=.none from b);exact QB a c
  |aG n=>cases (show u=.bool n from b);exact UD a c n
  |int r=>let⟨@i,rfl⟩:=b;exact O2 a c r i
  |str C=>let⟨@i,rfl⟩:=b;exact Ea a c C i
  |tup J=>let⟨g,m,Xy,@k,rfl,z,E,l,W⟩:=b;exact Wc a c ⟨m,z,E,k,l⟩ ⋯
  |fn g=>cases w<;>cases a6
  |aU g=>cases w<;>cases a6
  |fd=>cases w<;>cases a6
 |w,O,.str a,H,L,u,_,a6,o,j,b=>by
  let⟨@c,rfl⟩:=j;cases H with
  |aW=>cases (show u=.none from b);exact Uk a c
  |aG n=>cases (show u=.bool n from b);exact PV a c n
  |int r=>let⟨@i,rfl⟩:=b;exact D_ a c r i
  |str C=>let⟨@i,rfl⟩:=b;exact UB a c C i
  |tup J=>let⟨g,m,Xy,@k,rfl,z,E,l,W⟩:=b;exact Vc a c ⟨m,z,E,k,l⟩ ⋯
  |fn g=>cases w<;>cases a6
  |aU g=>cases w<;>cases a6
  |fd=>cases w<;>cases a6
 |w+1,O,.tup J,H,L,u,t,a6,o,j,b=>by
  have F:=j;let⟨g,m,Xy,@k,rfl,z,E,l,v⟩:=j;have X4:f.heap.IsTuple g Xy:=⟨m,z,E,k,l⟩;cases H with
  |aW=>cases (show u=.none from b);exact OZ X4 ⋯
  |aG n=>cases (show u=.bool n from b);exact Oe n X4 ⋯
  |int r=>let⟨@i,rfl⟩:=b;exact OQ r i X4 ⋯
  |str C=>let⟨@i,rfl⟩:=b;exact La C i X4 ⋯
  |fn g=>cases a6
  |aU g=>cases a6
  |fd=>cases a6
  |tup S=>
   have G:=b;let⟨e,R,s,@I,rfl,M,N,P,x⟩:=b;by_cases d:g=e
   ·subst d;rw[J5 (w+1) t a6 F G];exact SeqAt.EqAt.same _
   ·have Ym:f.heap.IsTuple e s:=⟨R,M,N,I,P⟩;have y:=v.length;have A:=x.length;have Q:Xy.toList.length=Xy.size:=by simp
    have T:s.toList.length=s.size:=by simp
    rw[Q]at y;rw[T]at A;have p:=Pb (A:=O) d (BQ (e:=λr=>cy (J.getD r .aW)<|S.getD r .aW) X4 Ym ⋯ λr U al=>by
     let⟨@XY,B,am⟩:=v.get (r:=r) (u:=Xy[r]) (by rw[eS];simp[U]);let⟨@X1,D,an⟩:=x.get (r:=r) (u:=s[r]) (by rw[eS];simp[al]);rw[cM,B,cM,D];exact iO w (kD t B) (kD a6 D) (by show O.units+1+w+1<bU;lia) am an)
    rw[<-y,<-A,sj (J:=J) (S:=S) (λr h H g e=>by rw[cM,g,cM,e];rfl)]at p;rw[cy];exact p
 |w,O,.fn _,_,_,_,q,_,_,_,_=>by cases w<;>cases q
 |w,O,.aU _,_,_,_,q,_,_,_,_=>by cases w<;>cases q
 |w,O,.fd,_,_,_,q,_,_,_,_=>by cases w<;>cases q
 |0,O,.tup _,_,_,_,q,_,_,_,_=>by cases q
mutual
theorem zM:∀{w:Nat}{v:V},V.key w v=aa->V.bo w v=aa
 |w,.int _,_=>by cases w<;>rfl
 |w,.str _,_=>by cases w<;>rfl
 |w+1,.tup J,c=>by rw[V.key]at c;rw[V.bo];exact Ff c
 |0,.tup _,c=>by cases c
 |w,.aW,c=>by cases w<;>cases c
 |w,.aG _,c=>by cases w<;>cases c
 |w,.fn _,c=>by cases w<;>cases c
 |w,.aU _,c=>by cases w<;>cases c
 |w,.fd,c=>by cases w<;>cases c
theorem Ff:∀{w:Nat}{J:List V},V.keys w J=aa->V.c2 w J=aa
 |w,[],_=>by rw[V.c2]
 |w,v::J,c=>by rw[V.keys,cU]at c;rw[V.c2,zM c.1,Ff c.2];rfl
end
mutual
theorem Hz:∀{w:Nat}{h H:V},V.key w h=aa->V.key w H=aa->cy h H=decide (h=H)
 |w,.int a,H,_,b=>by
  cases H with
  |int r=>rw[cy];by_cases d:a=r<;>simp[d]
  |str C=>simp[cy]
  |tup C=>simp[cy]
  |_=>cases w<;>cases b
 |w,.str a,H,_,b=>by
  cases H with
  |int r=>simp[cy]
  |str C=>rw[cy];by_cases d:a=C<;>simp[d]
  |tup C=>simp[cy]
  |_=>cases w<;>cases b
 |w+1,.tup J,H,e,b=>by
  cases H with
  |int r=>simp[cy]
  |str C=>simp[cy]
  |tup S=>
   rw[V.key]at e b;rw[cy,yt e b];simp
  |_=>cases b
 |0,.tup _,_,c,_=>by cases c
 |w,.aW,_,c,_=>by cases w<;>cases c
 |w,.aG _,_,c,_=>by cases w<;>cases c
 |w,.fn _,_,c,_=>by cases w<;>cases c
 |w,.aU _,_,c,_=>by cases w<;>cases c
 |w,.fd,_,c,_=>by cases w<;>cases c
theorem yt:∀{w:Nat}{h H:List V},V.keys w h=aa->V.keys w H=aa->fC h H=decide (h=H)
 |w,[],H,_,_=>by cases H<;>simp[fC]
 |w,v::J,[],_,_=>by simp[fC]
 |w,v::J,d::S,a,b=>by
  rw[V.keys,cU]at a b;rw[fC,Hz a.1 b.1,yt a.2 b.2];by_cases z:v=d<;>by_cases E:J=S<;>simp[z,E]
end
theorem vd:∀(w:Nat) {O:bw}{Xg:ab->ah->Prop}{f:ah}{v:V}{u:ab}{B:Bool->ah->Prop},V.key w v=aa->dM f.heap v u->B aa f->wpAny (aM Xm l) O (eqIsQuiet w u) B Xg f
 |w,O,Xg,f,.int a,u,B,_,b,c=>by
  let⟨@i,rfl⟩:=b;rw[Ct w rfl];exact aK c
 |w,O,Xg,f,.str a,u,B,_,b,c=>by
  let⟨@i,rfl⟩:=b;rw[Ct w rfl];exact aK c
 |w+1,O,Xg,f,.tup J,u,B,q,b,c=>by
  let⟨g,m,Xy,@k,rfl,j,p,hd,U⟩:=b;have n:f.TypeIs (.ref g) "tuple" := ⟨m,j,p⟩;unfold eqIsQuiet;refine ak (my n F.slot_tuple_eq.lookup ?_);show wpAny _ _ (xB (.ref g) (.type "tuple") >>= _) _ _ f;refine ak (ow n isSubtype_tuple_tuple ?_);simp only[q2,gQ,fx];refine ak (gJ j hd ?_);refine ak ?_;show wpAny _ _ (forIn Xy _ _) _ _ f;rw[<-px];rw[V.key]at q;refine nc _ (λc4 s Xe=>s.1=Y/\Xe=f/\∃left,V.keys w left=aa/\dI f.heap left c4) _ ?_ ?_ _ _ ⟨rfl,rfl,J,q,U⟩
  ·rintro u c4 s Xe ⟨e,rfl,left,h,o⟩;cases left with
   |nil=>cases (show u::c4=[] from o)
   |cons v left=>
    let⟨t,@X9,d,z,r⟩:=o;cases d;rw[V.keys,cU]at h;refine ak (vd w h.1 z ?_);simp only[q2,gQ,fx];exact aK ⟨rfl,rfl,left,h.2,r⟩
  ·rintro⟨x,y⟩ Xe ⟨e,rfl,W⟩;simp only at e;subst e;exact aK c
 |_,_,_,_,.aW,_,_,q,_,_=>by cases ‹Nat›<;>cases q
 |_,_,_,_,.aG _,_,_,q,_,_=>by cases ‹Nat›<;>cases q
 |_,_,_,_,.fn _,_,_,q,_,_=>by cases ‹Nat›<;>cases q
 |_,_,_,_,.aU _,_,_,q,_,_=>by cases ‹Nat›<;>cases q
 |_,_,_,_,.fd,_,_,q,_,_=>by cases ‹Nat›<;>cases q
 |0,_,_,_,.tup _,_,_,q,_,_=>by cases q
def eC(Xm:bJ)(l:bc):HeapKind Xm l (List V) where
 is:=λc J g=>V.keys 7 J=aa/\dM c (.tup J) (.ref g)
 hash:=λJ=>c_ l (.tup J)
 draws:=λJ=>wh (.tup J)
 room:=λO=>O.units+10<bU
 inj:=λa b=>by
  have:=GC 8 (h:=.tup _) (H:=.tup _) a.1 b.1 a.2 b.2;injection this
 keeps:=λ{c M q g v m S XN} h n hd Xi=>⟨h.1,h.2.keep λe L Xy w i r k=>by
  have o:e≠v:=by
   rintro rfl;rw[n]at i;cases i;rw[hd]at k;cases k
  exact (Xi.2 e o).trans i⟩
 pyHash:=λj d c=>FA 8 (v:=.tup _) d.1 (show _<_ by have:_+10<bU:=j;lia) d.2 c
 eqBool:=λ{O Xg f h H g e B} j a b c=>by
  have p:=iO (f:=f) 8 (O:=O) (h:=.tup h) (H:=.tup H) (zM (w:=8) (v:=.tup h) a.1) (zM (w:=8) (v:=.tup H) b.1) (show _<_ by have:O.units+10<bU:=j;lia) a.2 b.2;rw[Hz (w:=8) (h:=.tup h) (H:=.tup H) a.1 b.1]at p;exact p _ _ Xg B (by simpa using c)
 quiet:=λd c=>vd 8 (v:=.tup _) d.1 d.2 c
end
abbrev eG:=Sum Int aB
noncomputable def qs:eG->ab->Bool
 |.inl q,u=>ab.isInt q u
 |.inr h,u=>ab.isStrOf h u
noncomputable def QZ(l:bc):eG->Int
 |.inl q=>hashInt q
 |.inr h=>hashStr l h
theorem mr:∀{q:eG}{u:ab},qs q u=aa->(∃a i,q=Sum.inl a/\u=ab.int a i)\/(∃h i,q=Sum.inr h/\u=ab.str h i)
 |.inl a,u,c=>by
  let⟨@i,d⟩:=ab.isInt_shape (k:=a) (v:=u) c;exact .inl ⟨a,i,rfl,d⟩
 |.inr h,u,c=>by
  let⟨@i,d⟩:=ab.isStrOf_shape (x:=h) (v:=u) c;exact .inr ⟨h,i,rfl,d⟩
theorem TM(a:Int)(i:hO):qs (.inl a) (.int a i)=aa:=by simp[qs,ab.isInt]
theorem T_(h:aB)(i:hO):qs (.inr h) (.str h i)=aa:=by simp[qs,ab.isStrOf]
theorem P5(g e:Int):decide ((Sum.inl g:eG)=Sum.inl e)=(g==e):=by
 by_cases d:g=e
 ·subst d;simp
 ·have c:¬ (Sum.inl g:eG)=Sum.inl e:=λp=>d (Sum.inl.inj p);rw[d3 c];exact (xU.mpr d).symm
theorem LX(g e:aB):decide ((Sum.inr g:eG)=Sum.inr e)=decide (g=e):=by
 by_cases d:g=e
 ·subst d;simp
 ·have c:¬ (Sum.inr g:eG)=Sum.inr e:=λp=>d (Sum.inr.inj p);rw[d3 c,d3 d]
theorem U7(g:Int)(e:aB):decide ((Sum.inl g:eG)=Sum.inr e)=au:=d3 (λp=>nomatch p)
theorem KU(g:aB)(e:Int):decide ((Sum.inr g:eG)=Sum.inl e)=au:=d3 (λp=>nomatch p)
def nK(Xm:bJ)(l:bc):PySem.KeyKind Xm l eG where
 is:=qs
 hash:=QZ l
 inj:=λu g e k j=>by
  rcases mr k with ⟨a,i,rfl,rfl⟩|⟨h,i,rfl,rfl⟩
  ·rcases mr j with ⟨r,L,rfl,d⟩|⟨H,L,rfl,d⟩
   ·injection d with b _;rw[b]
   ·exact nomatch d
  ·rcases mr j with ⟨r,L,rfl,d⟩|⟨H,L,rfl,d⟩
   ·exact nomatch d
   ·injection d with b _;rw[b]
 byValue:=λq u c=>by
  rcases mr c with ⟨a,i,rfl,rfl⟩|⟨h,i,rfl,rfl⟩<;>rfl
 pyHash:=λf c=>by
  rcases mr f with ⟨a,i,rfl,rfl⟩|⟨h,i,rfl,rfl⟩
  ·exact HH c
  ·exact EI c
 eqBool:=λm f c=>by
  rcases mr m with ⟨a,i,rfl,rfl⟩|⟨h,i,rfl,rfl⟩
  ·rcases mr f with ⟨r,L,rfl,rfl⟩|⟨H,L,rfl,rfl⟩
   ·rw[P5]at c;exact wpAny_eqBool_int c
   ·rw[U7]at c;exact Ea a i H L _ _ _ _ c
  ·rcases mr f with ⟨r,L,rfl,rfl⟩|⟨H,L,rfl,rfl⟩
   ·rw[KU]at c;exact D_ h i r L _ _ _ _ c
   ·rw[LX]at c;exact wpAny_eqBool_str c
 «strs»:=λq h i u c=>by
  rcases mr c with ⟨a,L,rfl,d⟩|⟨H,L,rfl,d⟩
  ·exact nomatch d
  ·injection d with b _;subst b;cases u<;>rfl
theorem T6(Xm:bJ)(l:bc)(a:Int)(i:hO):(nK Xm l).is (.inl a) (.int a i)=aa:=TM a i
theorem Wl(Xm:bJ)(l:bc)(h:aB)(i:hO):(nK Xm l).is (.inr h) (.str h i)=aa:=T_ h i
inductive ar where
 | aW|aG (e:Bool)|int (a:Int)|str (h:aB)|tx (e:Array UInt8)|xN (e:UInt64)|ref (g:af)|ty (w:String)
 deriving DecidableEq
variable{Xc x:List ar}{H u:ar}
def cq:ar->ab->Prop
 |.aW,L=>L=ab.none
 |.aG e,L=>L=ab.bool e
 |.int a,L=>∃i,L=ab.int a i
 |.str h,L=>∃i,L=ab.str h i
 |.tx e,L=>∃i,L=ab.bytes e i
 |.xN e,L=>∃i,L=ab.float e i
 |.ref g,L=>L=ab.ref g
 |.ty w,L=>L=ab.type w
abbrev bY:List ar->List ab->Prop:=dY cq
theorem bY.length(s:bY x XE):x.length=XE.length:=dY.length s
theorem bY.get:∀{x:List ar}{XE:List ab}{a:Nat}{h:ar},bY x XE->x[a]?=Z h->∃L,XE[a]?=Z L/\cq h L
 |_,_,_,_,.nil,d=>by simp at d
 |_,_,0,_,.cons s _,d=>by simp at d;subst d;exact⟨_,rfl,s⟩
 |_,_,a+1,h,.cons _ i,d=>by
  let⟨@L,z,E⟩:=bY.get (a:=a) (h:=h) i (by simpa using d);exact⟨L,by simpa using z,E⟩
theorem bY.set{h:ar}{L:ab}(s:cq h L):∀{x:List ar}{XE:List ab} (a:Nat),bY x XE->bY (x.set a h) (XE.set a L)
 |_,_,_,.nil=>.nil
 |_,_,0,.cons _ i=>.cons s i
 |_,_,a+1,.cons p i=>.cons p (bY.set s a i)
theorem bY.append:∀{x Xp:List ar}{XE a:List ab},bY x XE->bY Xp a->bY (x++Xp) (XE++a)
 |_,_,_,_,.nil,f=>f
 |_,_,_,_,.cons s i,f=>.cons s (bY.append i f)
theorem bY.take:∀{x:List ar}{XE:List ab} (w:Nat),bY x XE->bY (x.take w) (XE.take w)
 |_,_,0,_=>.nil
 |_,_,_+1,.nil=>.nil
 |_,_,w+1,.cons s i=>.cons s (bY.take w i)
theorem bY.drop:∀{x:List ar}{XE:List ab} (w:Nat),bY x XE->bY (x.drop w) (XE.drop w)
 |_,_,0,s=>s
 |_,_,_+1,.nil=>.nil
 |_,_,w+1,.cons _ i=>bY.drop w i
def k8:Option ar->Option ab->Prop
 |some u,Z L=>cq u L
 |none,Y=>True
 |_,_=>False
def gj{XG:Type}:List (XG×ar)->List (XG×ab)->Prop:=dY λ(o:XG×ar) (p:XG×ab)=>o.1=p.1/\cq o.2 p.2
noncomputable def cG:eG->ar
 |.inl a=>.int a
 |.inr h=>.str h
inductive gG where
 | lst (x:List ar)
 | tup (x:List ar)
 | dQ (Xt:List (eG×ar))|a_ (Xt:List (List V×ar))
 | set (Xr:Int->Bool) (w:Nat)
 | ins (aP k:af) (aN:List (aB×ar))
 | own (h:af)
 | A8 (aN:List (aB×ar))
 | met (F h:af)
 | nZ (R U:Int)
 | dk (m:a0) (L:gG)
 | o7 (Xo:Array ab)
 | ext (W9:aV->Prop)
variable{m:gG}
abbrev aw:=af->Option gG
variable{N j:aw}
def upd(j:aw)(g:af)(m:gG):aw:=λe=>if e=g then Z m else j e
theorem e_:upd j g m g=Z m:=by unfold upd;rw[aA rfl]
theorem dp(c:e≠g):upd j g m e=j e:=by unfold upd;rw[aI c]
theorem SY{L:gG}(c:j g=Z m)(M:j e=Z L)(v:m≠L):g≠e:=by
 intro d;subst d;rw[c]at M;exact v (Option.some.inj M)
theorem hC(c:j g=Z m)(M:j e=Y):g≠e:=by
 intro d;subst d;rw[c]at M;cases M
mutual
def cL(j:aw):V->ar->Prop
 |.aW,u=>u=.aW
 |.aG e,u=>u=.aG e
 |.int a,u=>u=.int a
 |.str h,u=>u=.str h
 |.fn g,u=>u=.ref g
 |.aU J,u=>∃g x m,u=.ref g/\j g=Z (.dk m<|.lst x)/\br j J x
 |.fd,u=>∃g m,u=.ref g/\j g=Z (.dk m<|.a_ [])
 |.tup J,u=>∃g x,u=.ref g/\j g=Z (.tup x)/\br j J x
def br(j:aw):List V->List ar->Prop
 |[],Xc=>Xc=[]
 |v::J,Xc=>∃u s,Xc=u::s/\cL j v u/\br j J s
end
def rq(j N:aw):Prop:=∀g x,j g=Z (.tup x)->N g=Z (.tup x)
structure p3(j N:aw):Prop where
 t:rq j N
 z:∀g m L,j g=Z (.dk m L)->N g=Z (.dk m L)
noncomputable instance {j N:aw}:CoeFun (p3 j N) (λ_=>∀g x,j g=Z (.tup x)->N g=Z (.tup x)):=⟨λi=>i.t⟩
mutual
theorem cL.mono{j N:aw}(q:p3 j N):∀{v:V}{u:ar},cL j v u->cL N v u
 |.aW,_,d=>d
 |.aG _,_,d=>d
 |.int _,_,d=>d
 |.str _,_,d=>d
 |.fn _,_,d=>d
 |.tup J,_,d=>by
  let⟨g,@x,rfl,z,E⟩:=d;exact⟨g,x,rfl,q.t g x z,br.mono q E⟩
 |.aU J,_,d=>by
  let⟨g,x,@m,rfl,z,E⟩:=d;exact⟨g,x,m,rfl,q.z g _ _ z,br.mono q E⟩
 |.fd,_,d=>by
  let⟨g,@m,rfl,z⟩:=d;exact⟨g,m,rfl,q.z g _ _ z⟩
theorem br.mono{j N:aw}(q:p3 j N):∀{J:List V}{Xc:List ar},br j J Xc->br N J Xc
 |[],_,d=>d
 |v::J,_,d=>by
  let⟨u,@s,rfl,z,E⟩:=d;exact⟨u,s,rfl,cL.mono q z,br.mono q E⟩
end
def hX(j:aw)(q:List V)(e:af):Prop:=V.keys 7 q=aa/\cL j (.tup q) (.ref e)
mutual
theorem cL.tn{j N:aw}(q:rq j N):∀{v:V}{w:Nat}{u:ar},V.key w v=aa->cL j v u->cL N v u
 |.aW,_,_,_,d=>d
 |.aG _,_,_,_,d=>d
 |.int _,_,_,_,d=>d
 |.str _,_,_,_,d=>d
 |.fn _,_,_,_,d=>d
 |.tup J,w+1,_,p,d=>by
  let⟨g,@x,rfl,z,E⟩:=d;exact⟨g,x,rfl,q g x z,br.tn q p E⟩
 |.tup J,0,_,p,d=>nomatch p
 |.aU J,0,_,p,d=>nomatch p
 |.aU J,w+1,_,p,d=>nomatch p
 |.fd,0,_,p,d=>nomatch p
 |.fd,w+1,_,p,d=>nomatch p
theorem br.tn{j N:aw}(q:rq j N):∀{J:List V}{w:Nat}{Xc:List ar},V.keys w J=aa->br j J Xc->br N J Xc
 |[],_,_,_,d=>d
 |v::J,w,_,p,d=>by
  let⟨u,@s,rfl,z,E⟩:=d;rw[V.keys,cU]at p;exact⟨u,s,rfl,cL.tn q p.1 z,br.tn q p.2 E⟩
end
theorem hX.mono{q:List V}(c:hX j q e)(i:rq j N):hX N q e:=by
 let@⟨a,⟨g,@x,d,z,E⟩⟩:=c;exact⟨a,g,x,d,i g x z,E.tn i a⟩
def nJ(c:aV)(g:af)(Xy:Array ab):Prop:=∃m,c.get? g=Z m/\(m.cls,m.dict)=(.type "tuple",Y)/\∃w,m.data=.seq Xy w
theorem nJ.tup{Xy:Array ab}(h:nJ c g Xy):pg c g Xy:=let ⟨m,d,n,s⟩:=h;⟨m,d,(Prod.mk.inj n).1,s⟩
theorem nJ.new(c:aV)(Xy:Array ab):nJ (c.push {cls:=.type "tuple",data:=.seq Xy}) c.objs.size Xy:=⟨_,cI _ rfl,rfl,_,rfl⟩
section
variable(Xs:bJ)(l:bc)
def ep(j:aw)(c:aV)(g:af):gG->Prop
 |.lst x=>x.length<=sizeLine/\∃(Xq:List ab) (w:Nat),bY x Xq/\c.get? g=Z {cls:=.type "list",data:=.seq Xq.toArray w}
 |.tup x=>x.length<=sizeLine/\∃Xq:List ab,bY x Xq/\nJ c g Xq.toArray
 |.dQ Xt=>Xt.length<=sizeLine/\(g==j4)=au/\∃Xc,gj Xt Xc/\c.DictOf (nK Xs l) g Xc
 |.a_ Xt=>Xt.length<=sizeLine/\(g==j4)=au/\∃x:List (List V×af×ab),
   dY (λ(o:List V×ar) (p:List V×af×ab)=>o.1=p.1/\hX j o.1 p.2.1/\cq o.2 p.2.2) Xt x/\
   ∃m S XN,c.get? g=Z m/\m.ExactDict/\m.data=.dict S XN/\S.toList=x.map (entryOfKey<|eC Xs l)/\(x.map (·.1)).Nodup
 |.set Xr w=>c.SetOf (intKind Xs l) g Xr w
 |.ins aP k aN=>j k=Z (.own g)/\aN.length<=1000/\k≠g/\c.get? g=Z (PySem.W.instObj aP k)/\
   ∃A,c.Ns1 k A/\(∀F,k8 (aN.lookup F)<|A F)/\PySem.Within A (aN.map (·.1))
 |.own _=>∃m,c.get? g=Z m
 |.A8 aN=>∃A,c.Ns1 g A/\∀F,k8 (aN.lookup F) (A F)
 |.nZ R U=>∃i L u,c.get? g=Z {cls:=.type "range",data:=.fields #[.int R i,.int U L,.int 1 u]}
 |.dk m L=>c.get? g=Z m/\ep j c g L
 |.o7 Xo=>c.get? g=Z {cls:=.none,data:=.fields Xo}
 |.met F h=>c.get? g=Z (PySem.W.methodObj (.ref F)<|.ref h)
 |.ext a=>a c/\(∃m,c.get? g=Z m)/\∀z E:aV,a z->(∀m,z.get? g=Z m->E.get? g=Z m)->a E
def ej(j:aw)(c:aV):Prop:=∀g m,j g=Z m->ep Xs l j c g m
end
section
variable{Xs:bJ}{l:bc}{j N:aw}{c M:aV}{g:af}{m:gG}
theorem ep.lt(h:ep Xs l j c g m):g<c.objs.size:=by
 cases m with
 |lst x=>let@⟨_,⟨_,@_,_,d⟩⟩:=h;exact bI d
 |tup x=>let@⟨_,⟨@_,_,o⟩⟩:=h;exact o.tup.lt
 |dQ Xt=>let@⟨_,_,⟨@_,_,⟨m,_,@_,d,_⟩⟩⟩:=h;exact bI d
 |a_ Xt=>let@⟨_,_,⟨@_,_,⟨m,_,@_,d,_⟩⟩⟩:=h;exact bI d
 |set Xr w=>let⟨m,W,W,@W,d,W⟩:=h;exact bI d
 |ins aP k aN=>let@⟨_,_,_,d,_⟩:=h;exact bI d
 |own H=>let⟨@W,d⟩:=h;exact bI d
 |A8 aN=>let⟨@W,⟨W,W,@W,d,W⟩,W⟩:=h;exact bI d
 |nZ R U=>let⟨W,W,@W,d⟩:=h;exact bI d
 |dk a L=>let@⟨d,_⟩:=h;exact bI d
 |o7 Xo=>exact bI (show c.get? g=Z _ from h)
 |met F H=>exact bI (show c.get? g=Z _ from h)
 |ext b=>let@⟨_,⟨@_,d⟩,_⟩:=h;exact bI d
theorem dY.v9{Xx Ya:Type}{P Q:Xx->Ya->Prop}:∀{a:List Xx}{b:List Ya},dY P a b->(∀g e,P g e->Q g e)->dY Q a b
 |_,_,.nil,_=>.nil
 |_,_,.cons s i,F=>.cons (F _ _ s) (dY.v9 i F)
theorem ep.ht(h:ep Xs l j c g m)(q:∀e L,(e=g\/j e=Z (.own g))->c.get? e=Z L->M.get? e=Z L)(b:∀e,j e=Z (.own g)->N e=Z (.own g))(bQ:∀e x,j e=Z (.tup x)->N e=Z (.tup x)):ep Xs l N M g m:=by
 induction m with
 |lst x=>let@⟨C,⟨Xq,@w,s,d⟩⟩:=h;exact⟨C,Xq,w,s,q _ _ (.inl rfl) d⟩
 |tup x=>let@⟨C,⟨@Xq,s,⟨@a,d,n⟩⟩⟩:=h;exact⟨C,Xq,s,a,q _ _ (.inl rfl) d,n⟩
 |dQ Xt=>let@⟨C,H,⟨@Xc,s,⟨a,S,@XN,d,n⟩⟩⟩:=h;exact⟨C,H,Xc,s,a,S,XN,q _ _ (.inl rfl) d,n⟩
 |a_ Xt=>
  let@⟨C,H,⟨@x,s,⟨a,S,@XN,d,n⟩⟩⟩:=h;exact⟨C,H,x,dY.v9 s λo p C=>⟨C.1,C.2.1.mono bQ,C.2.2⟩,a,S,XN,q _ _ (.inl rfl) d,n⟩
 |set Xr w=>let⟨a,S,XN,@i,d,n⟩:=h;exact⟨a,S,XN,i,q _ _ (.inl rfl) d,n⟩
 |ins aP k aN=>
  let@⟨v,C,ne,d,⟨@A,⟨z,S,@XN,f,n⟩,s⟩⟩:=h;exact⟨b _ v,C,ne,q _ _ (.inl rfl) d,A,⟨z,S,XN,q _ _ (.inr v) f,n⟩,s⟩
 |own H=>let⟨@a,d⟩:=h;exact⟨a,q _ _ (.inl rfl) d⟩
 |A8 aN=>let⟨@A,⟨z,S,@XN,d,n⟩,s⟩:=h;exact⟨A,⟨z,S,XN,q _ _ (.inl rfl) d,n⟩,s⟩
 |nZ R U=>let⟨i,L,@u,d⟩:=h;exact⟨i,L,u,q _ _ (.inl rfl) d⟩
 |dk a L r=>let@⟨d,p⟩:=h;exact⟨q _ _ (.inl rfl) d,r p⟩
 |o7 Xo=>
  have d:c.get? g=Z {cls:=.none,data:=.fields Xo}:=h;show M.get? g=Z {cls:=.none,data:=.fields Xo};exact q g _ (.inl rfl) d
 |met F H=>
  have d:c.get? g=Z (PySem.W.methodObj (.ref F)<|.ref H):=h;show M.get? g=Z (PySem.W.methodObj (.ref F)<|.ref H);exact q g _ (.inl rfl) d
 |ext t=>let@⟨o,⟨@m,d⟩,X⟩:=h;exact⟨X _ _ o λm p=>q _ _ (.inl rfl) p,⟨m,q _ _ (.inl rfl) d⟩,X⟩
theorem ej.lt(h:ej Xs l j c)(d:j g=Z m):g<c.objs.size:=(h g m d).lt
theorem ej.fresh(h:ej Xs l j c)(d:c.objs.size<=g):j g=Y:=by
 cases p:j g with
 |none=>rfl
 |some L=>exact absurd (fI (h.lt p) d) (jJ _)
theorem ej.kept(h:ej Xs l j c)(q:∀e L,c.get? e=Z L->M.get? e=Z L):ej Xs l j M:=λg m d=>
 (h g m d).ht (λe L W p=>q e L p) (λ_ p=>p) λ_ W p=>p
theorem ej.laid(h:ej Xs l j c)(q:∀e L,c.get? e=Z L->M.get? e=Z L)(f:c.objs.size<=g)(new:ep Xs l (upd j g m) M g m):ej Xs l (upd j g m) M:=λe L d=>by
 have a:=h.fresh f;by_cases b:e=g
 ·subst b;rw[e_]at d;cases d;exact new
 ·rw[dp b]at d;exact (h e L d).ht (λn u W p=>q n u p) (λn p=>by rw[dp (hC p a)];exact p) λn x p=>by rw[dp (hC p a)];exact p
end
def lJ(j:aw)(g:af)(L:gG):Prop:=j g=Z L\/∃m,j g=Z (.dk m L)
theorem lJ.ok{L:gG}(s:lJ j g L)(h:ej Xs l j c):ep Xs l j c g L:=by
 rcases s with s|⟨m,s⟩
 ·exact h g L s
 ·let@⟨_,p⟩:=h g _ s;exact p
def sL:Option gG->Prop
 |some (.lst _)=>True
 |some (.dQ _)=>True
 |some (.a_ _)=>True
 |some (.set _ _)=>True
 |some (.ins _ _ _)=>True
 |some (.ext _)=>True
 |_=>False
section
variable{Xs:bJ}{l:bc}{j:aw}{c M:aV}{h d:af}{R:gG}
theorem ej.write(ok:ej Xs l j c)(a:sL (j h))(i:d=h\/j d=Z (.own h))(q:∀e L,e≠d->c.get? e=Z L->M.get? e=Z L)(o:∃L,M.get? d=Z L)(new:ep Xs l (upd j h R) M h R):ej Xs l (upd j h R) M:=λe L p=>by
 have k:∀n H,j n=Z (.own H)->n≠h:=λn H s C=>by subst C;rw[s]at a;exact a
 have r:∀n x,j n=Z (.tup x)->n≠h:=λn x s C=>by subst C;rw[s]at a;exact a
 by_cases b:e=h
 ·subst b;rw[e_]at p;cases p;exact new
 ·rw[dp b]at p;by_cases f:e=d
  ·have m:j e=Z (.own h):=by
    rcases i with C|C
    ·exact absurd (f.trans C) b
    ·rw[f];exact C
   rw[p]at m;cases m;let⟨@u,t⟩:=o;exact⟨u,by rw[f];exact t⟩
  ·refine (ok e L p).ht (λn u g s=>q n u ?_ s) (λn s=>by rw[dp (k n e s)];exact s) λn x s=>by rw[dp (r n x s)];exact s
   rcases g with rfl|g
   ·exact f
   ·rintro rfl;rcases i with C|C
    ·exact k n e g C
    ·rw[g]at C;cases C;exact b rfl
end
structure fG(aN J:List af)(j N:aw)(c M:aV):Prop where
 keep:∀e m,c.get? e=Z m->j e=Y->e∉aN->e∉J->M.get? e=Z m
 slot:∀e m,c.get? e=Z m->j e=Y->e∈aN->e∉J->∃aY,M.get? e=Z {m with slots:=aY}
 free:∀e m,c.get? e=Z m->j e=Y->e∉J->N e=Y
 there:∀e m,c.get? e=Z m->e∉J->∃R,M.get? e=Z R
 k5:∀e x,j e=Z (.tup x)->N e=Z (.tup x)
 kJ:∀e m L,j e=Z (.dk m L)->N e=Z (.dk m L)
 lX:∀e Xo,j e=Z (.o7 Xo)->∃more,N e=Z (.o7<|Xo++more)
section
variable{aN i J b:List af}{j Xn XD:aw}{c z E M:aV}{g h d:af}{m:gG}
theorem fG.any(L:fG aN J j Xn c z){e:af}{a:a0}(p:c.get? e=Z a)(w:j e=Y)(b:e∉J):∃aY,z.get? e=Z {a with slots:=aY}:=by
 by_cases d:e∈aN
 ·exact L.slot e a p w d b
 ·exact⟨a.slots,L.keep e a p w d b⟩
theorem fG.kept(q:∀e L,c.get? e=Z L->M.get? e=Z L):fG aN J j j c M:=
 ⟨λe a p W W W=>q e a p,λe a p W W W=>⟨a.slots,q e a p⟩,λ_ W W w W=>w,λe a p W=>⟨a,q e a p⟩,λ_ W p=>p,λ_ W W p=>p,λ_ Xo p=>⟨#[],by rw[p];simp⟩⟩
theorem fG.refl:fG aN J j j c c:=fG.kept λ_ W p=>p
theorem fG.laid(q:∀e L,c.get? e=Z L->M.get? e=Z L)(b:c.objs.size<=g)(a:j g=Y):fG aN J j (upd j g m) c M where
 keep:=λe L p W W W=>q e L p
 slot:=λe L p W W W=>⟨L.slots,q e L p⟩
 free:=λe L p w W=>by rw[dp (cZ<|fI (bI p) b)];exact w
 there:=λe L p W=>⟨L,q e L p⟩
 k5:=λe x p=>by rw[dp (hC p a)];exact p
 kJ:=λe L x p=>by rw[dp (hC p a)];exact p
 lX:=λe Xo p=>⟨#[],by rw[dp (hC p a),p];simp⟩
theorem fG.write(a:sL (j h))(k:d=h\/j d=Z (.own h))(q:∀e L,e≠d->c.get? e=Z L->M.get? e=Z L)(l:∃L,M.get? d=Z L):fG aN J j (upd j h m) c M:=by
 have f:∀e,j e=Y->e≠h:=λe w C=>by subst C;rw[w]at a;exact a
 have g:∀e,j e=Y->e≠d:=λe w C=>by
  subst C;rcases k with s|s
  ·exact f e w s
  ·rw[w]at s;cases s
 have b:∀e L,j e=Z L->¬ sL (Z L)->e≠h:=λe L p t C=>by subst C;rw[p]at a;exact t a
 refine⟨λe L p w W W=>q e L (g e w) p,λe L p w W W=>⟨L.slots,q e L (g e w) p⟩,λe L p w W=>by rw[dp (f e w)];exact w,λe L p W=>?_,
  λe x p=>by rw[dp (b e _ p λC=>C)];exact p,λe L x p=>by rw[dp (b e _ p λC=>C)];exact p,λe Xo p=>⟨#[],by rw[dp (b e _ p λC=>C),p];simp⟩⟩;by_cases i:e=d
 ·subst i;exact l
 ·exact⟨L,q e L i p⟩
end
def wB(c:aV)(j:aw):List af:=(range c.objs.size).filter λg=>(j g).isSome
def ma(c:aV)(j:aw):aV:=PySem.W.hideAll c (wB c j)
theorem Mr(c:aV)(j:aw):(ma c j).objs.size=c.objs.size:=PySem.W.hideAll_size _ _
theorem UK{m:a0}(d:c.get? e=Z m)(w:j e=Y):(ma c j).get? e=Z m:=
 PySem.W.hideAll_get _ d λa=>by
  have p:(j e).isSome=aa:=(wb.mp a).2;rw[w]at p;simp at p
theorem O6{m:a0}(d:(ma c j).get? e=Z m):c.get? e=Z m/\j e=Y:=by
 have a:c.get? e=Z m:=PySem.W.of_hideAll (wB c j) d;refine⟨a,?_⟩;cases p:j e with
 |none=>rfl
 |some h=>
  have b:e∈wB c j:=wb.mpr ⟨eJ.mpr<|bI a,by simp[p]⟩;have C:(ma c j).get? e=Y:=PySem.W.hideAll_none (wB c j) b;rw[C]at d;cases d
noncomputable def KR(I c:aV)(X3:af):List (af×a0):=(range c.objs.size).filterMap λg=>if g=X3\/(I.get? g).isSome=aa then Y else (c.get? g).map λm=>(g,m)
def c4(I c:aV)(X3 v:af):List (af×a0):=(KR I c X3).filter λo=>decide (o.1≠v)
structure Mod(Xd:PySem.W.Frag)(aH:aB->Option ab)(Xv:aV):Prop where
 y2:Xd.In Xv
 glob:Xv.Ns dH aH
 blt:∃HY,Xv.Ns AF HY/\∀h:aB,h ≠ "__name__" -> HY h=eT h
 nolimit:Xv.NoLimit
structure aO where
 prog:bJ
 w:bc
 K:PySem.W.Frag
 aH:aB->Option ab
 base:aV
 A:bw
 N:List aB
 fo:ah
 pG:aw
 env:fu
 outer:List fu
 stack:List fu
 ex:List af
 fn:aB->Bool
 calm:Bool
 lE:List (af×a0)
 cW:ab->ah->Prop
variable{b:aO}
def iL(t:List fu):List af:=t.filterMap (·.frame)
abbrev aO.aN(b:aO):List af:=iL b.outer
def uu(i:hI)(h:aB):Prop:=i.names.lookup h=Z .local\/i.names.lookup h=Z .cell\/i.names.lookup h=Z .free
def lS(i:hI)(h:aB):Prop:=i.names.lookup h=Z .local\/i.names.lookup h=Z .cell
def PK(Xk:fu)(c:aV)(k:aB->Option ab)(h:aB)(L:ab):Prop:=
 (Xk.kindOf h=Z .local/\k h=Z L)\/((Xk.kindOf h=Z .cell\/Xk.kindOf h=Z .free)/\∃n,Xk.cells.lookup h=Z n/\c.IsCell n (Z L))
structure aO.Ok(b:aO):Prop where
 mod:Mod b.K b.aH b.base
 kind:b.env.scope.kind=.function
 glob:b.env.globals=dH
 blt:b.env.builtins=AF
 above:b.fo.heap.objs.size<=b.env.locals
 inj:∀h H n,b.env.cells.lookup h=Z n->b.env.cells.lookup H=Z n->h=H
 has:∀h,(b.env.kindOf h=Z .cell\/b.env.kindOf h=Z .free)->∃n,b.env.cells.lookup h=Z n
 qU:∀h n,b.fn h=aa->b.env.cells.lookup h=Z n->b.fo.heap.objs.size<=n
 hd:b.calm=aa->b.A.handled=Y
 frames:b.A.frames=Z b.stack
 rv:b.stack=b.outer\/(b.stack=b.env::b.outer/\b.env.frame=Z b.env.locals)
 ys:∀e∈b.ex,e≠b.env.locals/\∀h n,b.env.cells.lookup h=Z n->n≠e
 bs:∀e m,b.base.get? e=Z m->b.fo.heap.get? e=Z m/\b.pG e=Y
 mx:b.base.objs.size<=b.fo.heap.objs.size
 qk:∀e m,b.base.get? e=Z m->e∉b.ex
 q8:∀e∈b.ex,e∉b.aN
 i0:b.fo.heap.FunFrames b.base b.outer
 oE:∀e∈b.aN,b.pG e=Y
structure aE(b:aO)(G:List (af×a0))(D:List (Option ar))(j:aw)(f:ah):Prop where
 ok:b.Ok
 os:f.os=b.fo.os
 bare:md f.gens
 base:fG b.aN b.ex b.pG j b.fo.heap f.heap
 loc:∃k,f.heap.Ns b.env.locals k/\∀(a:Nat) (h:aB) (u:ar),b.N[a]?=Z h->D[a]?=Z (Z u)->uu b.env.scope h->∃L,cq u L/\PK b.env f.heap k h L
 cell:∀h n,b.env.cells.lookup h=Z n->∃u,f.heap.IsCell n u
 free:j b.env.locals=Y
 jj:∀h n,b.env.cells.lookup h=Z n->j n=Y
 pin:∀o∈b.lE++G,f.heap.get? o.1=Z o.2/\j o.1=Y/\o.1≠b.env.locals/\o.1∉b.aN/\∀u,o.2.data≠.cell u
 aZ:ej b.prog b.w j f.heap
 len:D.length=b.N.length
section
variable{b:aO}{G:List (af×a0)}{D:List (Option ar)}{j N:aw}{f:ah}{M:aV}
theorem aO.Ok.RO(ok:b.Ok){e:af}{m:a0}(d:b.base.get? e=Z m):e∉b.aN:=λa=>by
 have:=(ok.i0.mem a).1;rw[d]at this;cases this
theorem aE.bs(A:aE b G D j f):∀e m,b.base.get? e=Z m->f.heap.get? e=Z m/\j e=Y:=λe m d=>
 ⟨A.base.keep e m (A.ok.bs e m d).1 (A.ok.bs e m d).2 (A.ok.RO d) (A.ok.qk e m d),A.base.free e m (A.ok.bs e m d).1 (A.ok.bs e m d).2 (A.ok.qk e m d)⟩
theorem aE.f_(A:aE b G D j f):∀e m,b.base.get? e=Z m->f.heap.get? e=Z m:=λe m d=>(A.bs e m d).1
theorem aE.mod(A:aE b G D j f):Mod b.K b.aH b.base:=A.ok.mod
theorem aE.nV(A:aE b G D j f):b.K.In f.heap:=A.ok.mod.y2.keeps A.f_
theorem aE.lt(A:aE b G D j f):b.env.locals<f.heap.objs.size:=let ⟨_,a,_⟩:=A.loc;a.lt
theorem aE.jx(A:aE b G D j f):b.fo.heap.objs.size<=f.heap.objs.size:=e0 A.ok.above (lV A.lt)
theorem aE.U0(A:aE b G D j f){g:af}(c:f.heap.objs.size<=g):g∉b.aN:=λa=>by
 let@⟨_,⟨@m,d,_⟩⟩:=A.ok.i0.mem a;exact absurd (fI (bI d)<|e0 A.jx c) (jJ _)
theorem aE.n1(A:aE b G D j f):∀h n,b.env.cells.lookup h=Z n->n≠b.env.locals:=λh n d C=>by
 let⟨u,@m,a,hd⟩:=A.cell h n d;let⟨@k,⟨R,S,@XN,c,e,W⟩,W⟩:=A.loc;rw[C,c]at a;cases a;rw[e]at hd;cases hd
theorem aE.i0(A:aE b G D j f):f.heap.FunFrames b.base b.outer:=by
 have all:∀(t:List fu),(∀e∈iL t,e∈b.aN)->b.fo.heap.FunFrames b.base t->f.heap.FunFrames b.base t:=by
  intro t;induction t with
  |nil=>intro W W;trivial
  |cons Xk s h=>
   intro Xi i;let@⟨k,⟨X3,@m,a,l,n,hd⟩,o⟩:=i;have c:X3∈b.aN:=Xi X3 (by unfold iL;rw[rD,a];exact mA);let⟨@aY,d⟩:=A.base.slot X3 m n (A.ok.oE X3 c) c λC=>A.ok.q8 X3 C c;exact⟨k,⟨X3,_,a,l,d,hd⟩,h (λe g=>Xi e (by unfold iL;rw[rD,a];exact lp _ g)) o⟩
 exact all b.outer (λ_ g=>g) A.ok.i0
theorem aE.stack(A:aE b G D j f):f.heap.FunFrames b.base b.stack:=by
 rcases A.ok.rv with d|⟨d,a⟩
 ·rw[d];exact A.i0
 ·rw[d];let⟨@k,c,W⟩:=A.loc;refine .cons (by rw[A.ok.kind];decide) a c ?_ A.i0;exact Ay (e0 A.ok.mx A.ok.above)
theorem aE.Bi(A:aE b G D j f):∀e∈iL b.stack,e∈b.env.locals::b.aN:=λe a=>by
 rcases A.ok.rv with d|⟨d,c⟩
 ·rw[d]at a;exact lp _ a
 ·rw[d]at a;unfold iL at a;rw[rD,c]at a;exact a
theorem aE.Hh(A:aE b G D j f):∀e∈iL b.stack,j e=Y:=λe a=>by
 rcases bO.mp (A.Bi e a) with d|a
 ·rw[d];exact A.free
 ·let@⟨_,⟨@m,c,_⟩⟩:=A.ok.i0.mem a;exact A.base.free e m c (A.ok.oE e a) λC=>A.ok.q8 e C a
theorem aE.step{H:Array u5}{XM:Nat}{T:Drawn}{Yo:List af}(A:aE b G D j f)(y:∀e∈Yo,(e∈b.ex\/b.fo.heap.objs.size<=e)/\e≠b.env.locals/\(∀h n,b.env.cells.lookup h=Z n->n≠e)/\∀o∈b.lE++G,o.1≠e)(keep:∀e m,e≠b.env.locals->e∉b.aN->e∉Yo->f.heap.get? e=Z m->j e=Y->M.get? e=Z m)(Yp:∀e m,e≠b.env.locals->e∈b.aN->e∉Yo->f.heap.get? e=Z m->j e=Y->∃aY,M.get? e=Z {m with slots:=aY})(E:∀e m,e∉Yo->f.heap.get? e=Z m->j e=Y->N e=Y)(U:∀e m,e∉Yo->f.heap.get? e=Z m->∃R,M.get? e=Z R)(k5:∀e x,j e=Z (.tup x)->N e=Z (.tup x))(kJ:∀e m L,j e=Z (.dk m L)->N e=Z (.dk m L))(lX:∀e Xo,j e=Z (.o7 Xo)->∃al,N e=Z (.o7<|Xo++al))(XA:∀k,f.heap.Ns b.env.locals k->M.Ns b.env.locals k)(aZ:ej b.prog b.w N M)(am:md H):
  aE b G D N {f with heap:=M,gens:=H,drawn:=T,toks:=XM}:=by
 have I:∀e m,b.fo.heap.get? e=Z m->e≠b.env.locals:=λe m d=>cZ (fI (bI d) A.ok.above);have F:∀e m,b.fo.heap.get? e=Z m->e∉b.ex->e∉Yo:=λe m d c i=>by
  rcases (y e i).1 with C|C
  ·exact c C
  ·exact absurd (fI (bI d) C) (jJ _)
 have O:∀h n,b.env.cells.lookup h=Z n->∀u,f.heap.IsCell n u->M.IsCell n u:=λh n d u ⟨m,r,hd⟩=>by
  have z:n∉Yo:=λC=>(y n C).2.2.1 h n d rfl;by_cases P:n∈b.aN
  ·let⟨@aY,p⟩:=Yp n m (A.n1 h n d) P z r (A.jj h n d);exact⟨_,p,hd⟩
  ·exact⟨m,keep n m (A.n1 h n d) P z r<|A.jj h n d,hd⟩
 refine⟨A.ok,A.os,am,⟨λe m d w i c=>?_,λe m d w i c=>?_,λe m d w c=>?_,λe m d c=>?_,λe x d=>k5 e x<|A.base.k5 e x d,λe m x d=>kJ e m x<|A.base.kJ e m x d,λe Xo d=>?_⟩,?_,λh n d=>?_,?_,λh n d=>?_,λo Q=>?_,aZ,A.len⟩
 ·exact keep e m (I e m d) i (F e m d c) (A.base.keep e m d w i c) (A.base.free e m d w c)
 ·let⟨@aY,g⟩:=A.base.slot e m d w i c;let⟨@an,B⟩:=Yp e _ (I e m d) i (F e m d c) g (A.base.free e m d w c);exact⟨an,B⟩
 ·let⟨@R,g⟩:=A.base.there e m d c;exact E e R (F e m d c) g (A.base.free e m d w c)
 ·let⟨@R,g⟩:=A.base.there e m d c;exact U e R (F e m d c) g
 ·let⟨@cf,g⟩:=A.base.lX e Xo d;let⟨@ap,B⟩:=lX e _ g;exact⟨cf++ap,by rw[B,Array.append_assoc]⟩
 ·let⟨@k,as,a1⟩:=A.loc;refine⟨k,XA k as,λa h u g B a2=>?_⟩;let⟨@L,s,t⟩:=a1 a h u g B a2;refine⟨L,s,?_⟩;rcases t with t|⟨q,n,d,C⟩
  ·exact .inl t
  ·exact .inr ⟨q,n,d,O h n d _ C⟩
 ·let⟨@u,C⟩:=A.cell h n d;exact⟨u,O h n d u C⟩
 ·let⟨@k,⟨m,W,@W,r,W⟩,W⟩:=A.loc;exact E _ m (λC=>(y _ C).2.1 rfl) r A.free
 ·let⟨u,@m,r,hd⟩:=A.cell h n d;exact E n m (λC=>(y n C).2.2.1 h n d rfl) r (A.jj h n d)
 ·let@⟨d,w,ne,S,v⟩:=A.pin o Q;have z:o.1∉Yo:=λC=>(y o.1 C).2.2.2 o Q rfl;exact⟨keep o.1 o.2 ne S z d w,E o.1 o.2 z d w,ne,S,v⟩
theorem aE.un(A:aE b G D j f)(L:fG b.aN [] j N f.heap M)(aZ:ej b.prog b.w N M):aE b G D N {f with heap:=M,toks:=XM}:=by
 let⟨@k,⟨m,S,@XN,c,s⟩,W⟩:=id A.loc;let⟨@aY,h⟩:=L.any c A.free (by simp);exact A.step (H:=f.gens) (T:=f.drawn) (Yo:=[]) (λ_ C=>nomatch C) (λe m W a W d w=>L.keep e m d w a (by simp)) (λe m W a W d w=>L.slot e m d w a (by simp)) (λe m W d w=>L.free e m d w (by simp)) (λe m W d=>L.there e m d (by simp)) L.k5 L.kJ L.lX (λr i=>by
  let⟨R,n,@o,g,X9⟩:=i;rw[c]at g;cases g;exact⟨_,n,o,h,X9⟩) aZ A.bare
theorem aE.call{g:Array u5}{r:Drawn}(A:aE b G D j f)(L:fG (iL b.stack) Yo j N f.heap M)(aZ:ej b.prog b.w N M)(t:md g)(i:∀e∈Yo,(e∈b.ex\/b.fo.heap.objs.size<=e)/\e≠b.env.locals/\(∀h n,b.env.cells.lookup h=Z n->n≠e)/\∀o∈b.lE++G,o.1≠e):
  aE b G D N {f with heap:=M,gens:=g,drawn:=r,toks:=XM}:=by
 let⟨@k,⟨m,S,@XN,p,s⟩,W⟩:=id A.loc;let⟨@aY,c⟩:=L.any p A.free λC=>(i _ C).2.1 rfl;exact A.step (Yo:=Yo) i (λe m c u a d w=>L.keep e m d w (λC=>(bO.mp<|A.Bi e C).elim c u) a) (λe m W W a d w=>L.any d w a) (λe m a d w=>L.free e m d w a) (λe m a d=>L.there e m d a) L.k5 L.kJ L.lX (λz v=>by
  let⟨R,x,@y,q,X9⟩:=v;rw[p]at q;cases q;exact⟨_,x,y,c,X9⟩) aZ t
theorem aE.turned(A:aE b G D j f)(q:∀e m,e≠Xj->f.heap.get? e=Z m->M.get? e=Z m)(i:j Xj=Y)(c:Xj≠b.env.locals)(z:Xj∈b.ex\/b.fo.heap.objs.size<=Xj)(E:∀h n,b.env.cells.lookup h=Z n->n≠Xj)(l:∀o∈b.lE++G,o.1≠Xj):aE b G D j {f with heap:=M,toks:=XM}:=by
 have g:∀e L,j e=Z L->e≠Xj:=λe L d C=>by rw[C,i]at d;cases d
 refine A.step (H:=f.gens) (T:=f.drawn) (Yo:=[Xj]) (λe r=>?_) (λe m W W a d W=>q e m (λC=>a (by simp[C])) d) (λe m W W a d W=>⟨m.slots,q e m (λC=>a (by simp[C])) d⟩) (λ_ W W W w=>w)
  (λe m a d=>⟨m,q e m (λC=>a (by simp[C])) d⟩) (λ_ W d=>d) (λ_ W W d=>d) (λe Xo d=>⟨#[],by rw[d];simp⟩) (λk t=>?_) (λe L d=>?_) A.bare
 ·have d:e=Xj:=by simpa using r
  subst d;exact⟨z,c,E,l⟩
 ·let⟨m,S,@XN,v,s⟩:=t;exact⟨m,S,XN,q _ m (eN c) v,s⟩
 ·refine (A.aZ e L d).ht (λn u a p=>q n u ?_ p) (λ_ p=>p) λ_ W p=>p;rcases a with C|C
  ·rw[C];exact g e L d
  ·exact g n _ C
theorem aE.tok(A:aE b G D j f)(i:Nat):aE b G D j {f with toks:=i}:=A.un (M:=f.heap) (XM:=i) fG.refl A.aZ
theorem aE.kept(A:aE b G D j f)(q:∀e L,f.heap.get? e=Z L->M.get? e=Z L):aE b G D j {f with heap:=M,toks:=XM}:=A.un (fG.kept q) (A.aZ.kept q)
theorem aE.laid(A:aE b G D j f)(q:∀e L,f.heap.get? e=Z L->M.get? e=Z L)(a:f.heap.objs.size<=g)(new:ep b.prog b.w (upd j g m) M g m):
  aE b G D (upd j g m) {f with heap:=M,toks:=XM}:=A.un (fG.laid q a<|A.aZ.fresh a) (A.aZ.laid q a new)
theorem aE.write{h d:af}(A:aE b G D j f)(a:sL (j h))(c:d=h\/j d=Z (.own h))(q:∀e L,e≠d->f.heap.get? e=Z L->M.get? e=Z L)(g:∃L,M.get? d=Z L)(new:ep b.prog b.w (upd j h m) M h m):aE b G D (upd j h m) {f with heap:=M,toks:=XM}:=A.un (fG.write a c q g) (A.aZ.write a c q g new)
theorem aE.weak{c:List (Option ar)}(A:aE b G D j f)(d:c.length=D.length)(l:∀(a:Nat) u,c[a]?=Z (Z u)->D[a]?=Z (Z u)):aE b G c j f:=
 ⟨A.ok,A.os,A.bare,A.base,let ⟨k,e,g⟩:=A.loc;⟨k,e,λa h u i m n=>g a h u i (l a u m) n⟩,A.cell,A.free,A.jj,A.pin,A.aZ,d.trans A.len⟩
theorem aE.pX{a:List (af×a0)}(A:aE b G D j f)(c:∀o∈a,f.heap.get? o.1=Z o.2/\j o.1=Y/\o.1≠b.env.locals/\o.1∉b.aN/\∀u,o.2.data≠.cell u):aE b a D j f:=
 ⟨A.ok,A.os,A.bare,A.base,A.loc,A.cell,A.free,A.jj,λo d=>(ee.mp d).elim (λC=>A.pin o<|gc _ C)<|c o,A.aZ,A.len⟩
theorem JQ(b:XW.Nodup){a r:Nat}{h:aB}(g:XW[a]?=Z h)(e:XW[r]?=Z h):a=r:=by
 let⟨@z,c⟩:=ek.mp g;let⟨@E,d⟩:=ek.mp e;exact (B8 b).mp (c.trans d.symm)
variable{B:Unit->ah->Prop}
theorem H3{az:gA}(A:aE b G D j f)(as:b.N.Nodup)(U:b.N[a]?=Z h)(x:lS b.env.scope h)(s:cq u L)(c:∀Xe,aE b G (D.set a<|Z u) j Xe->(∃g,aV.SameBut g f.heap Xe.heap/\(g=b.env.locals\/b.env.cells.lookup h=Z g))->B () Xe)(bs:b.fn h=aa\/b.env.scope.names.lookup h=Z .local:=by first|exact .inl rfl|exact .inr rfl|assumption):wpAny az O (storeName b.env h L) B Xg f:=by
 let⟨@k,Q,a1⟩:=id A.loc;have bv:(b.env.scope.kind==.class || (b.env.scope.kind==.module&&b.env.locals != b.env.globals))=au:=by rw[A.ok.kind];rfl
 have a2:a<D.length:=by rw[A.len];exact (ek.mp U).1
 have n1:=A.n1;have bd:∀{g:af}{M:aV},(∃m,f.heap.get? g=Z m/\j g=Y)->aV.SameBut g f.heap M->ej b.prog b.w j M:=λ{g M} ca Xi e cd d=>by
  let⟨@W,W,be⟩:=ca;refine (A.aZ e cd d).ht (λn J t p=>(Xi.2 n ?_).trans p) (λ_ p=>p) λ_ W p=>p;rintro rfl;rcases t with rfl|t
  ·rw[be]at d;cases d
  ·rw[be]at t;cases t
 rcases x with z|z
 ·refine wpAny_storeName_local z Q (λM ce Xi=>?_) bv;let⟨ch,W,@W,ci,W⟩:=id Q;refine c _ ⟨A.ok,A.os,A.bare,⟨λe m d w F x=>?_,λe m d w F x=>?_,A.base.free,λe m d x=>?_,A.base.k5,A.base.kJ,A.base.lX⟩,⟨_,ce,λr H S i y T=>?_⟩,λH n d=>?_,A.free,A.jj,λo al=>?_,bd ⟨ch,ci,A.free⟩ Xi,by simpa using A.len⟩ ⟨_,Xi,.inl rfl⟩
  ·exact (Xi.2 e<|cZ<|fI (bI d) A.ok.above).trans (A.base.keep e m d w F x)
  ·let⟨@aY,i⟩:=A.base.slot e m d w F x;exact⟨aY,(Xi.2 e<|cZ<|fI (bI d) A.ok.above).trans i⟩
  ·let⟨@R,i⟩:=A.base.there e m d x;exact⟨R,(Xi.2 e<|cZ<|fI (bI d) A.ok.above).trans i⟩
  ·by_cases I:r=a
   ·subst I;rw[U]at i;cases i;rw[vM a2]at y;cases y;exact⟨L,s,.inl ⟨z,by simp⟩⟩
   ·rw[ox (eN I)]at y;let⟨@am,X9,p⟩:=a1 r H S i y T;refine⟨am,X9,?_⟩;rcases p with ⟨q,d⟩|⟨q,n,d,C⟩
    ·refine .inl ⟨q,?_⟩;have:H≠h:=λd=>I (JQ as i<|d ▸ U);simp[this,d]
    ·exact .inr ⟨q,n,d,C.sameBut Xi<|n1 H n d⟩
  ·let⟨@J,C⟩:=A.cell H n d;exact⟨J,C.sameBut Xi<|n1 H n d⟩
  ·let@⟨d,w,ne,an,v⟩:=A.pin o al;exact⟨(Xi.2 o.1 ne).trans d,w,ne,an,v⟩
 ·have ap:b.fn h=aa:=by
   rcases bs with C|C
   ·exact C
   ·rw[C]at z;cases z
  let⟨@n,t⟩:=A.ok.has h (.inl z);let⟨@J,C⟩:=A.cell h n t;refine wpAny_storeName_cell A.ok.kind z t C (λM bi Xi=>?_);let⟨@E,bm,cl⟩:=id C;refine c {f with heap:=M} ⟨A.ok,A.os,A.bare,⟨λe m d w F x=>?_,λe m d w F x=>?_,A.base.free,λe m d x=>?_,A.base.k5,A.base.kJ,A.base.lX⟩,⟨k,Q.sameBut Xi<|eN<|n1 h n t,λr H S i y T=>?_⟩,λH P d=>?_,A.free,A.jj,λo al=>?_,bd ⟨E,bm,A.jj h n t⟩ Xi,by simpa using A.len⟩ ⟨n,Xi,.inr t⟩
  ·exact (Xi.2 e<|cZ<|fI (bI d)<|A.ok.qU h n ap t).trans (A.base.keep e m d w F x)
  ·let⟨@aY,i⟩:=A.base.slot e m d w F x;exact⟨aY,(Xi.2 e<|cZ<|fI (bI d)<|A.ok.qU h n ap t).trans i⟩
  ·let⟨@R,i⟩:=A.base.there e m d x;exact⟨R,(Xi.2 e<|cZ<|fI (bI d)<|A.ok.qU h n ap t).trans i⟩
  ·by_cases I:r=a
   ·subst I;rw[U]at i;cases i;rw[vM a2]at y;cases y;exact⟨L,s,.inr ⟨.inl z,n,t,bi⟩⟩
   ·rw[ox (eN I)]at y;let⟨@am,X9,p⟩:=a1 r H S i y T;refine⟨am,X9,?_⟩;rcases p with p|⟨q,P,d,co⟩
    ·exact .inl p
    ·refine .inr ⟨q,P,d,co.sameBut Xi ?_⟩;rintro rfl;exact I (JQ as i<|A.ok.inj _ _ _ d t ▸ U)
  ·by_cases bn:P=n
   ·subst bn;exact⟨_,bi⟩
   ·let⟨@da,cr⟩:=A.cell H P d;exact⟨da,cr.sameBut Xi bn⟩
  ·let@⟨d,w,ne,an,v⟩:=A.pin o al;refine⟨(Xi.2 o.1 ?_).trans d,w,ne,an,v⟩;intro p;rw[p,bm]at d;have cs:E=o.2:=Option.some.inj d;exact v J (by rw[<-cs];exact cl)
theorem uE{az:gA}(A:aE b G D j f)(d:b.N.Nodup)(U:b.N[a]?=Z h)(e:lS b.env.scope h)(s:cq u L)(c:∀Xe,aE b G (D.set a<|Z u) j Xe->B () Xe)(g:b.fn h=aa\/b.env.scope.names.lookup h=Z .local:=by first|exact .inl rfl|exact .inr rfl|assumption):wpAny az O (storeName b.env h L) B Xg f:=
 H3 A d U e s (λXe i W=>c Xe i) g
theorem aE.Sp(A:aE b G D j f)(g:Xe.os=f.os)(L:fG (iL b.stack) Yo j N f.heap Xe.heap)(aZ:ej b.prog b.w N Xe.heap)(i:md Xe.gens)(k:∀e∈Yo,(e∈b.ex\/b.fo.heap.objs.size<=e)/\e≠b.env.locals/\(∀h n,b.env.cells.lookup h=Z n->n≠e)/\∀o∈b.lE++G,o.1≠e):aE b G D N Xe:=by
 let⟨M,a,c,XM,R⟩:=Xe;have d:R=f.os:=g;subst d;exact A.call (g:=a) (XM:=XM) (r:=c) L aZ i k
end
abbrev hc:=ab->Option af->aw->Prop
abbrev a3:=List (Option ar)
variable{D:a3}
abbrev cP:=ar->aw->Prop
abbrev cn:=a3->aw->cP->Prop
variable{Yk:cn}
abbrev eu:=a3->aw->(Bool->aw->Prop)->Prop
variable{YD:eu}
abbrev en:=a3->aw->(List ar->aw->Prop)->Prop
variable{X4:en}
structure pf where
 aS:a3->aw->Prop
 dT:cP
 f_:a3->aw->Prop:=λ_ _=>False
 cx:a3->aw->Prop:=λ_ _=>False
abbrev fy:=pf->a3->aw->Prop
variable{Ym:fy}
def eM(b:aO)(G:List (af×a0))(D:a3)(B:cP)(L:ab)(Xe:ah):Prop:=∃u N,aE b G D N Xe/\cq u L/\B u N
def vA(b:aO)(G:List (af×a0))(D:a3)(B:Bool->aw->Prop)(e:Bool)(Xe:ah):Prop:=∃N,aE b G D N Xe/\B e N
def KH(b:aO)(G:List (af×a0))(D:a3)(B:List ar->aw->Prop)(XE:List ab)(Xe:ah):Prop:=∃Xc N,aE b G D N Xe/\bY Xc XE/\B Xc N
def er(b:aO)(G:List (af×a0))(y:pf)(F:Flow)(Xe:ah):Prop:=
 match F with
 |.next=>∃a N,aE b G a N Xe/\y.aS a N
 |.brk=>∃a N,aE b G a N Xe/\y.f_ a N
 |.cont=>∃a N,aE b G a N Xe/\y.cx a N
 |.ret L=>∃u a N,aE b G a N Xe/\cq u L/\y.dT u N
def xA(b:aO)(d:bx)(i:cn)(G:List (af×a0)):Prop:=
 ∀(f:ah) (D:a3) (j:aw) (B:cP),aE b G D j f->i D j B->wpAny (aM b.prog b.w) b.A (bZ d b.env) (eM b G D B) b.cW f
def b6(b:aO)(d:bx)(i:cn):Prop:=∀G,xA b d i G
def Ck(b:aO)(d:bx)(i:eu)(G:List (af×a0)):Prop:=
 ∀(f:ah) (D:a3) (j:aw) (B:Bool->aw->Prop),aE b G D j f->i D j B->wpAny (aM b.prog b.w) b.A (qT d b.env<|bZ d b.env) (vA b G D B) b.cW f
def ic(b:aO)(d:bx)(i:eu):Prop:=∀G,Ck b d i G
def DU(b:aO)(d:bx)(i:eu)(a:dz ab):Prop:=
 ∀(G:List (af×a0)) (f:ah) (D:a3) (j:aw) (B:Bool->aw->Prop),aE b G D j f->i D j B->wpAny (aM b.prog b.w) b.A (qT d b.env a) (vA b G D B) b.cW f
def kf(b:aO)(d:bx)(i:eu):Prop:=∀a,DU b d i a
theorem kf.pt{i:eu}(c:kf b d i):ic b d i:=c _
def BE(b:aO)(S:List bx)(i:en)(Xu:Pos):Prop:=
 ∀(G:List (af×a0)) (f:ah) (D:a3) (j:aw) (B:List ar->aw->Prop),aE b G D j f->i D j B->wpAny (aM b.prog b.w) b.A (spliced<|f3 Xu<|bL S b.env) (KH b G D B) b.cW f
def gM(b:aO)(S:List bx)(i:en):Prop:=∀Xu,BE b S i Xu
def It(b:aO)(X:b8)(i:fy)(G:List (af×a0)):Prop:=
 ∀(f:ah) (D:a3) (j:aw) (y:pf),aE b G D j f->i y D j->wpAny (aM b.prog b.w) b.A (exec X b.env) (er b G y) b.cW f
def iN(b:aO)(X:b8)(i:fy):Prop:=∀G,It b X i G
def B2(b:aO)(X:List b8)(i:fy)(G:List (af×a0)):Prop:=
 ∀(f:ah) (D:a3) (j:aw) (y:pf),aE b G D j f->i y D j->wpAny (aM b.prog b.w) b.A (execs X b.env) (er b G y) b.cW f
def ia(b:aO)(X:List b8)(i:fy):Prop:=∀G,B2 b X i G
theorem cc{Xx:Type}{i:dz Xx}{B a:Xx->ah->Prop}{az:gA}(c:wpAny az O i B Xg f)(b:∀g f,B g f->a g f):wpAny az O i a Xg f:=gT c b λ_ W h=>h
section
variable{b:aO}
def qf(a:Nat):cn:=λD j B=>∃u,D[a]?=Z (Z u)/\B u j
def pU(u:ar):cn:=λ_ j B=>B u j
theorem Jq(m:b.N[a]?=Z h)(o:uu b.env.scope h)(hd:(h==("__debug__" : aB))=au:=by decide)(p:(h==("__classdict__" : aB))=au:=by decide):b6 b (.Name h Xu) (qf a):=by
 intro G f D j B A c;let⟨@u,d,c⟩:=c;let⟨@k,q,r⟩:=A.loc;let⟨@L,s,t⟩:=r a h u m d o;have g:eM b G D B L f:=⟨u,j,A,s,c⟩;rcases t with ⟨e,v⟩|⟨e,n,i,l⟩
 ·exact xq (wpAny_loadName_local A.ok.kind e q v g) hd
 ·rcases e with e|e
  ·exact xq (wpAny_loadName_cell A.ok.kind e i l g) hd
  ·exact xq (wpAny_loadName_free A.ok.kind e i l g p) hd
theorem Uv{a r Xu}:b6 b (.Constant (.int a) r Xu) (pU<|.int a):=λ_ W W j W A c=>wpAny_Constant_int ⟨.int a,j,A.tok _,⟨_,rfl⟩,c⟩
theorem Ss{e r Xu}:b6 b (.Constant (.bool e) r Xu) (pU<|.aG e):=λ_ W W j W A c=>Constant_bool ⟨.aG e,j,A,rfl,c⟩
theorem Lh{r Xu}:b6 b (.Constant .none r Xu) (pU .aW):=λ_ W W j W A c=>Constant_none ⟨.aW,j,A,rfl,c⟩
def dS(b:aO)(h:aB):Prop:=b.env.kindOf h=Z .globalImplicit
theorem C0(A:aE b G D j f)(a:dS b h)(d:b.aH h=Z L)(c:B L f)(hd:(h==("__debug__" : aB))=au:=by decide):wpAny (aM b.prog b.w) b.A (bZ (.Name h Xu) b.env) B Xg f:=
 Iv A.ok.kind a (Calls.loadGlobal_global (by rw[A.ok.glob];exact A.mod.glob.keeps A.f_) d c) hd
theorem jt(A:aE b G D j f)(a:dS b h)(d:b.aH h=Y)(e:eT h=Z L)(c:B L f)(g:h ≠ "__name__" := by decide)(hd:(h==("__debug__" : aB))=au:=by decide):wpAny (aM b.prog b.w) b.A (bZ (.Name h Xu) b.env) B Xg f:=by
 let⟨@i,z,E⟩:=A.mod.blt;exact Iv A.ok.kind a (Calls.loadGlobal_builtin (by rw[A.ok.glob];exact A.mod.glob.keeps A.f_) d (by rw[A.ok.blt];exact z.keeps A.f_) ((E h g).trans e) c) hd
theorem BS(a:dS b h)(d:b.aH h=Z L)(s:cq u L)(hd:(h==("__debug__" : aB))=au:=by decide):b6 b (.Name h Xu) (pU u):=
 λ_ W W j W A c=>C0 A a d ⟨u,j,A,s,c⟩ hd
theorem V2(a:dS b h)(d:b.aH h=Y)(e:eT h=Z L)(s:cq u L)(f:h ≠ "__name__" := by decide)(hd:(h==("__debug__" : aB))=au:=by decide):b6 b (.Name h Xu) (pU u):=
 λ_ W W j W A c=>jt A a d e ⟨u,j,A,s,c⟩ f hd
variable{g e:bx}{X4 Ym:cn}{Xu:Pos}
variable{hq k:eu}{c4:List bx}
def JS(i L:eu):eu:=λD j B=>i D j λn Xn=>if n=aa then L D Xn B else B au Xn
def Ek(i L:eu):eu:=λD j B=>i D j λn Xn=>if n=aa then B aa Xn else L D Xn B
def NL(i:eu):eu:=λD j B=>i D j λn Xn=>B (!n) Xn
theorem Qk(a:ic b g hq):kf b (.BoolOp .And [g] Xu) hq:=by
 intro e G f D j B A c;refine isTrue_and (cc (a G f D j B A c) λn h d=>?_);cases n with
 |true=>exact isTrue_and_nil d
 |false=>exact d
theorem O4(a:ic b g hq):kf b (.BoolOp .Or [g] Xu) hq:=by
 intro e G f D j B A c;refine isTrue_or (cc (a G f D j B A c) λn h d=>?_);cases n with
 |false=>exact isTrue_or_nil d
 |true=>exact d
theorem Nu(h:ic b g hq)(i:kf b (.BoolOp .And (e::c4) Xu) k):kf b (.BoolOp .And (g::e::c4) Xu) (JS hq k):=by
 intro l G f D j B A c;refine isTrue_and (cc (h G f D j _ A c) λn m o=>?_);let⟨@Xn,a,d⟩:=o;cases n with
 |true=>exact i l G m D Xn B a d
 |false=>exact⟨Xn,a,d⟩
theorem Ts(h:ic b g hq)(i:kf b (.BoolOp .Or (e::c4) Xu) k):kf b (.BoolOp .Or (g::e::c4) Xu) (Ek hq k):=by
 intro l G f D j B A c;refine isTrue_or (cc (h G f D j _ A c) λn m o=>?_);let⟨@Xn,a,d⟩:=o;cases n with
 |true=>exact⟨Xn,a,d⟩
 |false=>exact i l G m D Xn B a d
theorem Lf(a:ic b g hq):ic b (.UnaryOp .Not g Xu) (NL hq):=by
 intro G f D j B A c;exact isTrue_not (a G f D j (λn Xn=>B (!n) Xn) A c)
noncomputable def P2(X4 Ym:cn):cn:=λD j B=>X4 D j λh Xn=>∃n,h=.aG n/\if n=aa then Ym D Xn B else B (.aG au) Xn
def V7(X4:cn):cn:=λD j B=>X4 D j λh Xn=>∃n,h=.aG n/\B (.aG<|!n) Xn
theorem RW{X7}{i:cn}(c:b6 b g i):b6 b (.BoolOp X7 [g] Xu) i:=λG f D j B A a=>BoolOp_one (c G f D j B A a)
theorem LU(i:b6 b g X4)(k:b6 b (.BoolOp .And (e::c4) Xu) Ym):b6 b (.BoolOp .And (g::e::c4) Xu) (P2 X4 Ym):=by
 intro G f D j B A c;refine BoolOp_and (cc (i G f D j _ A c) λu l m=>?_);let⟨h,@Xn,d,o,a⟩:=m;let⟨@n,rfl,a⟩:=a;cases o;refine qW ?_;cases n with
 |true=>exact k G l D Xn B d a
 |false=>exact⟨.aG au,Xn,d,rfl,a⟩
theorem K2(d:b6 b g X4):b6 b (.UnaryOp .Not g Xu) (V7 X4):=by
 intro G f D j B A c;refine UnaryOp_ (cc (d G f D j _ A c) λu l e=>?_);let⟨h,@Xn,i,k,a⟩:=e;let⟨@n,rfl,a⟩:=a;cases k;exact not_of (qW ⟨.aG<|!n,Xn,i,rfl,a⟩)
def Q0(i:eu)(X4 Ym:cn):cn:=λD j B=>i D j λn Xn=>if n=aa then X4 D Xn B else Ym D Xn B
theorem KW(i:ic b n hq)(k:b6 b g X4)(l:b6 b e Ym):b6 b (.IfExp n g e Xu) (Q0 hq X4 Ym):=by
 intro G f D j B A c;refine wpAny_IfExp (cc (i G f D j _ A c) λv a m=>?_);let⟨@Xn,d,h⟩:=m;cases v with
 |true=>exact k G a D Xn B d h
 |false=>exact l G a D Xn B d h
end
def df(Xd:PySem.W.Frag)(j:aw)(g:af)(x:List ar):Prop:=
 lJ j g (.lst x)\/
  ∃(m:a0) (Xq:Array ab) (w:Nat),Xd.lookup g=Z m/\m.cls=.type "list" /\ m.dict=Y/\m.data=.seq Xq w/\Xq.size<=sizeLine/\bY x Xq.toList
def cH(Xd:PySem.W.Frag)(j:aw)(g:af)(x:List ar):Prop:=
 lJ j g (.tup x)\/
  ∃(m:a0) (Xq:Array ab) (w:Nat),Xd.lookup g=Z m/\m.cls=.type "tuple" /\ m.data=.seq Xq w/\Xq.size<=sizeLine/\bY x Xq.toList
noncomputable def PO:ab->Option ar
 |.none=>Z .aW
 |.bool e=>Z (.aG e)
 |.int a _=>Z (.int a)
 |.str h _=>Z (.str h)
 |.bytes e _=>Z (.tx e)
 |.float e _=>Z (.xN e)
 |.ref g=>Z (.ref g)
 |.type w=>Z (.ty w)
 |_=>Y
theorem cq.abs{h:ar}(s:cq h L):PO L=Z h:=by
 cases h with
 |aW=>cases s;rfl
 |aG _=>cases s;rfl
 |int _=>let⟨@i,rfl⟩:=s;rfl
 |str _=>let⟨@i,rfl⟩:=s;rfl
 |tx _=>let⟨@i,rfl⟩:=s;rfl
 |xN _=>let⟨@i,rfl⟩:=s;rfl
 |ref _=>cases s;rfl
 |ty _=>cases s;rfl
theorem cq.inj{h:ar}(s:cq h L)(p:cq H L):h=H:=Option.some.inj (s.abs.symm.trans p.abs)
theorem bY.inj:∀{x Xp:List ar}{XE:List ab},bY x XE->bY Xp XE->x=Xp
 |_,_,_,.nil,.nil=>rfl
 |_,_,_,.cons s i,.cons X9 XM=>by rw[s.inj X9,bY.inj i XM]
section
variable{b:aO}{G:List (af×a0)}{D:a3}{j:aw}{f:ah}{g:af}{x Xp:List ar}
theorem df.of(c:j g=Z (.lst x)):df Xd j g x:=.inl (.inl c)
theorem cH.of(c:j g=Z (.tup x)):cH Xd j g x:=.inl (.inl c)
theorem aE.list(A:aE b G D j f)(c:df b.K j g x):∃Xq:List ab,bY x Xq/\PlainL f.heap g Xq.toArray/\x.length<=sizeLine:=by
 rcases c with c|⟨m,Xq,w,a,e,hd,Xi,h,s⟩
 ·let@⟨C,⟨Xq,@w,s,d⟩⟩:=c.ok A.aZ;exact⟨Xq,s,⟨_,w,d,rfl,rfl,rfl⟩,C⟩
 ·refine⟨Xq.toList,s,⟨m,w,A.nV g m a,e,hd,by simpa using Xi⟩,?_⟩;have d:=s.length;simp only[dr]at d;lia
theorem aE.tuple(A:aE b G D j f)(c:cH b.K j g x):∃Xq:List ab,bY x Xq/\pg f.heap g Xq.toArray/\x.length<=sizeLine:=by
 rcases c with c|⟨m,Xq,w,a,e,Xi,h,s⟩
 ·let@⟨C,⟨@Xq,s,o⟩⟩:=c.ok A.aZ;exact⟨Xq,s,o.tup,C⟩
 ·refine⟨Xq.toList,s,⟨m,A.nV g m a,e,w,by simpa using Xi⟩,?_⟩;have d:=s.length;simp only[dr]at d;lia
theorem aE.D1(A:aE b G D j f)(c:df b.K j g x)(M:df b.K j g Xp):x=Xp:=by
 let⟨@Xq,s,⟨m,@w,d,W,W,v⟩,W⟩:=A.list c;let⟨@y,X9,⟨R,@h,a,W,W,e⟩,W⟩:=A.list M;rw[d]at a;cases a;rw[v]at e;injection e with XY _;have:Xq=y:=by simpa using congrArg Array.toList XY
 subst this;exact s.inj X9
theorem aE.DW(A:aE b G D j f)(c:cH b.K j g x)(M:cH b.K j g Xp):x=Xp:=by
 let⟨@Xq,s,⟨@m,d,W,⟨@w,v⟩⟩,W⟩:=A.tuple c;let⟨@y,X9,⟨@R,a,W,⟨@h,e⟩⟩,W⟩:=A.tuple M;rw[d]at a;cases a;rw[v]at e;injection e with XY _;have:Xq=y:=by simpa using congrArg Array.toList XY
 subst this;exact s.inj X9
end
abbrev aO.k6(b:aO)(Xg:ab->ah->Prop):aO:={b with cW:=Xg}
abbrev aO.oc(b:aO):aO:=b.k6 λ_ _=>False
theorem aO.Ok.k6(ok:b.Ok)(Xg:ab->ah->Prop):(b.k6 Xg).Ok:=
 ⟨ok.mod,ok.kind,ok.glob,ok.blt,ok.above,ok.inj,ok.has,ok.qU,ok.hd,ok.frames,ok.rv,ok.ys,ok.bs,ok.mx,ok.qk,ok.q8,ok.i0,ok.oE⟩
theorem aO.Ok.mK(ok:(b.k6 Xg).Ok):b.Ok:=
 ⟨ok.mod,ok.kind,ok.glob,ok.blt,ok.above,ok.inj,ok.has,ok.qU,ok.hd,ok.frames,ok.rv,ok.ys,ok.bs,ok.mx,ok.qk,ok.q8,ok.i0,ok.oE⟩
section
variable{b:aO}{G:List (af×a0)}{D:a3}{j:aw}{f:ah}{Xg:ab->ah->Prop}
theorem aE.k6(A:aE b G D j f)(Xg:ab->ah->Prop):aE (b.k6 Xg) G D j f:=⟨A.ok.k6 Xg,A.os,A.bare,A.base,A.loc,A.cell,A.free,A.jj,A.pin,A.aZ,A.len⟩
theorem aE.mK(A:aE (b.k6 Xg) G D j f):aE b G D j f:=⟨A.ok.mK,A.os,A.bare,A.base,A.loc,A.cell,A.free,A.jj,A.pin,A.aZ,A.len⟩
theorem er.mK{y:pf}{F:Flow}(c:er (b.k6 Xg) G y F Xe):er b G y F Xe:=by
 cases F with
 |next=>let⟨a,@N,A,p⟩:=c;exact⟨a,N,A.mK,p⟩
 |brk=>let⟨a,@N,A,p⟩:=c;exact⟨a,N,A.mK,p⟩
 |cont=>let⟨a,@N,A,p⟩:=c;exact⟨a,N,A.mK,p⟩
 |ret L=>let⟨u,a,@N,A,s,p⟩:=c;exact⟨u,a,N,A.mK,s,p⟩
theorem ia.oc{X:List b8}{i:fy}(c:ia b.oc X i):ia b X i:=λG f D j y A a=>
 gT (c G f D j y (A.k6 _) a) (λ_ W p=>p.mK) λ_ W C=>False.elim C
end
section
variable{b:aO}{X:b8}{c4:List b8}{i L:fy}{d:bx}{Yk:cn}{Xu:Pos}
def Pm:fy:=λy D j=>y.aS D j
def JD(i L:fy):fy:=λy D j=>i {y with aS:=L y} D j
theorem WA:ia b [] Pm:=λ_ W D j W A c=>wY ⟨D,j,A,c⟩
theorem Qt(z:iN b X i)(E:ia b c4 L):ia b (X::c4) (JD i L):=by
 intro G f D j y A c;refine Kt (cc (z G f D j {y with aS:=L y} A c) λF a p=>?_);cases F with
 |next=>
  let⟨d,@N,e,p⟩:=p;exact E G a d N y e p
 |ret u=>exact p
 |brk=>exact p
 |cont=>exact p
theorem UH(z:iN b X i):ia b [X] i:=by
 intro G f D j y A c;refine Kt (cc (z G f D j y A c) λF a p=>?_);cases F with
 |next=>exact wY p
 |ret u=>exact p
 |brk=>exact p
 |cont=>exact p
theorem aE.quiet(A:aE b G D j f):interactive b.env=au:=by simp[interactive,A.ok.kind]
def Ws(Yk:cn):fy:=λy D j=>Yk D j λ_ Xn=>y.aS D Xn
theorem Um(a:b6 b d Yk)(Xi:oY d Y Xu.line b.env=pure au:=by rfl):iN b (.Expr d Xu) (Ws Yk):=by
 intro G f D j y A c;exact wpAny_Expr_any (cc (a G f D j _ A c) λu i ⟨h,Xn,e,k,g⟩=>⟨D,Xn,e,g⟩) A.quiet Xi
def QM(Yk:cn):fy:=λy D j=>Yk D j y.dT
theorem TX(a:b6 b d Yk):iN b (.Return (Z d) Xu) (QM Yk):=by
 intro G f D j y A c;exact wpAny_Return_some (cc (a G f D j _ A c) λu k ⟨h,Xn,e,g,i⟩=>⟨h,D,Xn,e,g,i⟩)
def L3(n:eu)(i L:fy):fy:=λy D j=>n D j λe Xn=>if e=aa then i y D Xn else L y D Xn
theorem S5{g e:List b8}(k:ic b n YD)(l:ia b g i)(m:ia b e L):iN b (.If n g e Xu) (L3 YD i L):=by
 intro G f D j y A c;refine wpAny_If (cc (k G f D j _ A c) λv a o=>?_);let⟨@Xn,d,h⟩:=o;cases v with
 |true=>exact l G a D Xn y d h
 |false=>exact m G a D Xn y d h
end
abbrev hh:=ar->a3->aw->(a3->aw->Prop)->Prop
abbrev kX:=List ar->a3->aw->(a3->aw->Prop)->Prop
def Fb(b:aO)(c:bx)(i:hh)(G:List (af×a0)):Prop:=
 ∀(f:ah) (D:a3) (j:aw) (u:ar) (L:ab) (B:a3->aw->Prop),aE b G D j f->cq u L->i u D j B->
  wpAny (aM b.prog b.w) b.A (js c b.env L) (λ_ Xe=>∃a N,aE b G a N Xe/\B a N) b.cW f
def ka(b:aO)(a:bx)(i:hh):Prop:=∀G,Fb b a i G
def J2(b:aO)(J:List bx)(i:kX)(G:List (af×a0)):Prop:=
 ∀(f:ah) (D:a3) (j:aw) (Xc:List ar) (XE:List ab) (B:a3->aw->Prop),aE b G D j f->bY Xc XE->i Xc D j B->
  wpAny (aM b.prog b.w) b.A (z8 ((hz J b.env).map (·.2)) XE) (λ_ Xe=>∃a N,aE b G a N Xe/\B a N) b.cW f
def qq(b:aO)(J:List bx)(i:kX):Prop:=∀G,J2 b J i G
abbrev AR:=ar->ar->ar->aw->(aw->Prop)->Prop
def Bx(b:aO)(i:AR):Prop:=
 ∀(G:List (af×a0)) (f:ah) (D:a3) (j:aw) (m a u:ar) (c d L:ab) (B:aw->Prop),aE b G D j f->cq m c->cq a d->cq u L->i m a u j B->
  wpAny (aM b.prog b.w) b.A (uT c d L) (λ_ Xe=>∃N,aE b G D N Xe/\B N) b.cW f
section
variable{b:aO}{Xu:Pos}
def xG(a:Nat):hh:=λu D j B=>B (D.set a<|Z u) j
theorem Tr(d:b.N.Nodup)(U:b.N[a]?=Z h)(e:lS b.env.scope h)(g:b.fn h=aa\/b.env.scope.names.lookup h=Z .local:=by first|exact .inl rfl|exact .inr rfl|assumption):ka b (.Name h Xu) (xG a):=by
 intro G f D j u L B A s c;exact DO (uE A d U e s (λXe i=>⟨_,j,i,c⟩) g)
def Rx:kX:=λXc D j B=>Xc=[]/\B D j
def UI(i:hh)(L:kX):kX:=λXc D j B=>∃u s,Xc=u::s/\i u D j λa N=>L s a N B
theorem TS:qq b [] Rx:=by
 intro G f D j Xc XE B A s c;let@⟨d,c⟩:=c;subst d;cases s;exact Eo ⟨D,j,A,c⟩
theorem Q6{i:hh}{L:kX}(z:ka b d i)(E:qq b S L)(Xi:(hz (d::S) b.env).map (·.2)=js d b.env::(hz S b.env).map (·.2):=by rfl):qq b (d::S) (UI i L):=by
 intro G f D j Xc XE B A s c;let⟨u,@m,a,c⟩:=c;subst a;cases s with
 |cons s e=>
  rw[Xi];refine z3 (cc (z G f D j _ _ _ A s c) λ_ g h=>?_);let⟨Yy,@Xn,k,l⟩:=h;exact E G g Yy Xn _ _ B k e l
noncomputable def Va(Xd:PySem.W.Frag)(w:Nat)(i:kX):hh:=λu D j B=>∃g x,u=.ref g/\cH Xd j g x/\x.length=w/\i x D j B
theorem QN{i:kX}(k:b.calm=aa)(c:qq b S i)(l:(hz S b.env).length=w:=by rfl)(n:(hz S b.env).findIdx? (·.1)=Y:=by rfl):ka b (.Tuple S q Xu) (Va b.K w i):=by
 intro G f D j u L B A s a;let⟨g,@x,o,p,r,a⟩:=a;subst o;cases s;let⟨@Xq,h,bQ,y⟩:=A.tuple p;refine assign_Tuple_tuple (A.ok.hd k) bQ (by simp[l,<-r,h.length]) n λM t=>?_;have v:aE b G D j {f with heap:=M}:=A.kept (XM:=f.toks) λe m d=>t e m (cZ<|bI d) d;exact c G _ D j x _ B v (by simpa using h) a
def Np(k b:cn)(i:AR):hh:=λu D j B=>k D j λm Xn=>b D Xn λa XD=>i m a u XD λc=>B D c
theorem R0{m a:bx}{k l:cn}{i:AR}(n:b6 b m k)(U:b6 b a l)(Xi:Bx b i)(o:∀u,js (.Subscript m a Xu) b.env u=(do
   let d <-holding [u] (bZ m b.env)
   let e <-holding [u,d] (bZ a b.env)
   standAt Xu
   holding [u,d,e] (uT d e u)
   release [u,d,e] []):=by intro W;rfl):ka b (.Subscript m a Xu) (Np k l i):=by
 intro G f D j u L B A s c;rw[o];refine ak (fl<|cc (n G f D j _ A c) λd p g=>?_);let⟨h,@Xn,q,r,t⟩:=g;refine ak (fl<|cc (U G p D Xn _ q t) λe v g=>?_);let⟨H,@XD,w,x,y⟩:=g;refine ak (ur<|ak<|fl<|cc (Xi G v D XD h H u d e L _ w r x s y) λ_ F g=>?_);let⟨@z,C,E⟩:=g;exact wpAny_release ⟨D,z,C,E⟩
def Ad(Yk:cn)(I:hh):fy:=λy D j=>Yk D j λh Xn=>I h D Xn y.aS
theorem O0{I:hh}(a:b6 b d Yk)(e:ka b XK I)(Xi:vZ [XK] d Xu.line b.env=pure au:=by rfl)(g:vg [XK] d b.env=pure Y:=by rfl)(z:(hz [XK] b.env).map (·.2)=[js XK b.env]:=by rfl):iN b (.Assign [XK] d Xu) (Ad Yk I):=by
 intro G f D j y A c;refine wpAny_Assign_stores (cc (a G f D j _ A c) λu i ⟨h,Xn,k,l,m⟩=>?_) Xi g;rw[z];exact cc (e G i D Xn h u _ k l m) λ_ n p=>p
theorem KY{i:Pos}(e:b.N.Nodup)(U:b.N[a]?=Z h)(g:lS b.env.scope h)(k:b6 b d Yk)(Xi:oY d (Z<|.Name h i) Xu.line b.env=pure au:=by rfl)(l:b.fn h=aa\/b.env.scope.names.lookup h=Z .local:=by first|exact .inl rfl|exact .inr rfl|assumption):
  iN b (.Assign [.Name h i] d Xu) (Ad Yk<|xG a):=by
 intro G f D j y A c;refine wpAny_Assign_Name (cc (k G f D j _ A c) λu q ⟨H,Xn,m,n,o⟩=>?_) Xi;exact uE m e U g n (λr p=>⟨_,Xn,p,o⟩) l
noncomputable def U_(a r:Nat)(X4:en):fy:=λy D j=>X4 D j λXc Xn=>∃u l,Xc=[u,l]/\y.aS ((D.set a<|Z u).set r<|Z l) Xn
theorem VP{H:aB}{g e:bx}{kd q pt:Pos}{X_ XH s}(C:b.calm=aa)(v:b.N.Nodup)(U:b.N[a]?=Z h)(E:b.N[r]?=Z H)(F:a≠r)(x:b.env.scope.names.lookup h=Z .local)(z:b.env.scope.names.lookup H=Z .local)(I:gM b [g,e] X4)(J:vg [.Tuple [.Name h kd,.Name H q] X_ pt] (.Tuple [g,e] XH s) b.env=pure (Z [h,H]))(Xi:vZ [.Tuple [.Name h kd,.Name H q] X_ pt] (.Tuple [g,e] XH s) Xu.line b.env=pure au:=by rfl):
  iN b (.Assign [.Tuple [.Name h kd,.Name H q] X_ pt] (.Tuple [g,e] XH s) Xu) (U_ a r X4):=by
 intro G f D j y A c;rw[exec_Assign_arm];refine ak (ur ?_);rw[Xi];refine ak (aK ?_);rw[aI (by decide)];refine ak (Tuple_<|cc (I _ G f D j _ A c) λXE i L=>?_);let⟨Xc,@Xn,P,Q,t⟩:=L;let⟨u,@l,R,t⟩:=t;subst R;obtain⟨k,n,rfl,S,T⟩:∃k n,XE=[k,n]/\cq u k/\cq l n:=by
  cases Q with
  |cons o p=>
   cases p with
   |cons al am=>
    cases am;exact⟨_,_,rfl,o,al⟩
 refine gh ?_ (by show 2<=sizeLine;decide);have an:aE b G D Xn {i with heap:=i.heap.push {cls:=.type "tuple",data:=.seq [k,n].toArray} }:=P.kept (XM:=i.toks) λe m d=>bH _ d;rw[J];refine ak (aK ?_);show wpAny (aM b.prog b.w) b.A (do rule "assign.swapped-stores";let Xy <-unpackItems (.ref i.heap.objs.size) 2 Y;z8 [λu=>vi b.env H u,λu=>vi b.env h u] Xy.reverse;pure Flow.next) _ _ _;refine ak (h7<|ak<|unpackItems_tuple (items:=#[k,n]) (A.ok.hd C) (pg.new i.heap _) λM ap=>?_);have as:=an.kept (M:=M) (XM:=i.toks) λe m d=>ap e m (cZ<|bI d) d;show wpAny _ _ (z8 [λu=>vi b.env H u,λu=>vi b.env h u] [n,k] >>= λ_=>pure Flow.next) _ _ _;refine ak (z3<|Fh<|uE as v E (.inl z) T (λa2 a1=>?_)<|.inr z);refine z3 (Fh<|uE a1 v U (.inl x) S (λbd B=>Eo<|aK ?_)<|.inr x);rw[xr _ _ (eN F)]at B;exact⟨_,Xn,B,t⟩
end
section
variable{b:aO}{Xu:Pos}
noncomputable def Li(n:eu)(Ym:fy):fy:=λy D j=>∃W:Nat->a3->aw->Prop,(∃k,W k D j)/\∀k D j,W k D j->
 n D j λe Xn=>if e=aa then ∃XW:a3->aw->Prop,(∀a N,XW a N->∃b,b<k/\W b a N)/\Ym {y with aS:=XW,cx:=XW,f_:=y.aS} D Xn else y.aS D Xn
theorem KA(p:qZ (aM b.prog b.w) b.A b.env b.cW)(t:ic b n YD)(v:ia b Yt Ym):iN b (.While n Yt [] Xu) (Li YD Ym):=by
 intro G f D j y A c;let⟨@W,⟨@x,jD⟩,turn⟩:=c;refine wpAny_While (codeAny_whileLoop (λw Xe=>∃q N,aE b G q N Xe/\W w q N) ?_ x ⟨D,j,A,jD⟩);rintro w z ⟨Yy,Xn,B,dw⟩;refine oM p (cc (t G z Yy Xn _ B<|turn w Yy Xn dw) λe C E=>?_);let⟨@XD,r,g⟩:=E;cases e with
 |true=>
  let⟨@XW,s,g⟩:=g;rw[aA rfl];refine oM p (cc (v G C Yy XD _ r g) λF H h=>?_);cases F with
  |next=>
   let⟨a,@d,i,k⟩:=h;let⟨@m,o,d9⟩:=s a d k;exact⟨m,o,a,d,i,d9⟩
  |cont=>
   let⟨a,@d,i,k⟩:=h;let⟨@m,o,d9⟩:=s a d k;exact⟨m,o,a,d,i,d9⟩
  |brk=>exact h
  |ret u=>exact h
 |false=>
  rw[aI dy];exact wY ⟨Yy,XD,r,g⟩
end
structure fq where
 go:Nat->aw->Prop
 rE:Nat->aw->ar->aw->Prop
 stop:Nat->aw->Prop
def gV(b:aO)(G:List (af×a0))(j:aw)(e:af):Prop:=
 j e=Y/\e≠b.env.locals/\e∉b.aN/\(e∈b.ex\/b.fo.heap.objs.size<=e)/\(∀h n,b.env.cells.lookup h=Z n->n≠e)/\∀o∈b.lE++G,o.1≠e
theorem aE.n7(A:aE b G D j f)(a:f.heap.objs.size<=e)(c:N e=Y):gV b G N e:=by
 refine⟨c,iM<|fI A.lt a,A.U0 a,.inr<|e0 A.jx a,λh n d C=>?_,λo g C=>?_⟩
 ·let⟨@u,p⟩:=A.cell h n d;exact absurd (fI p.lt (by rw[C];exact a)) (jJ _)
 ·exact absurd (fI (bI (A.pin o g).1) (by rw[C];exact a)) (jJ _)
structure rf(Xs:bJ)(l:bc)(Xd:PySem.W.Frag)(XK:bx)(Yg:fq)(cb:List af)(Xj:af)(i:Nat->aV->Prop):Prop where
 mem:Xj∈cb
 obj:∀a c,i a c->∀e∈cb,∃m,c.get? e=Z m/\∀u,m.data≠.cell u
 keep:∀a c M,i a c->(∀e∈cb,∀m,c.get? e=Z m->M.get? e=Z m)->i a M
 item:∀(b:aO),b.prog=Xs->b.w=l->b.K=Xd->b.calm=aa->∀(a:Nat) (G:List (af×a0)) (f:ah) (D:a3) (j:aw) (Xg:ab->ah->Prop),aE b G D j f->(∀e∈cb,gV b G j e)->i a f.heap->Yg.go a j->
  wpAny (aM Xs l) b.A (ff<|.ref Xj) (λs s1=>∃L,s=Z L/\
   wpAny (aM Xs l) b.A (tE XK (.ref Xj) L) (λ_ s2=>∃h N,aE b G D N s2/\cq h L/\Yg.rE a j h N/\i (a+1) s2.heap/\∀e∈cb,N e=Y) Xg s1) Xg f
 done:∀(b:aO),b.prog=Xs->b.w=l->b.K=Xd->b.calm=aa->∀(a:Nat) (G:List (af×a0)) (f:ah) (D:a3) (j:aw) (Xg:ab->ah->Prop),aE b G D j f->(∀e∈cb,gV b G j e)->i a f.heap->Yg.stop a j->
  wpAny (aM Xs l) b.A (ff<|.ref Xj) (λs s1=>s=Y/\aE b G D j s1) Xg f
 self:∀(O:bw) (a:Nat) (f:ah) (B:ab->ah->Prop) (Xg:ab->ah->Prop),i a f.heap->B (.ref Xj) f->wpAny (aM Xs l) O (oz<|.ref Xj) B Xg f
abbrev bF:=a3->aw->(fq->aw->Prop)->Prop
def Cr(b:aO)(G:List (af×a0))(D:a3)(XK:bx)(Xf:fq->aw->Prop)(c:ab)(a:ah):Prop:=
 ∃(Xj:af) (cb:List af) (i:Nat->aV->Prop) (Yg:fq) (N:aw),c=.ref Xj/\aE b G D N a/\rf b.prog b.w b.K XK Yg cb Xj i/\i 0 a.heap/\(∀e∈cb,gV b G N e)/\Xf Yg N
def En(b:aO)(XK Ye:bx)(Yw:bF)(G:List (af×a0)):Prop:=
 ∀(f:ah) (D:a3) (j:aw) (Xf:fq->aw->Prop),aE b G D j f->Yw D j Xf->
  wpAny (aM b.prog b.w) b.A (bZ Ye b.env) (λu a=>wpAny (aM b.prog b.w) b.A (oz u) (Cr b G D XK Xf) b.cW a) b.cW f
def jN(b:aO)(XK Ye:bx)(Yw:bF):Prop:=∀G,En b XK Ye Yw G
theorem uO{az:gA}{Xg:ab -> ah -> Prop}{m:a0}{w:String}{Xc:Array ab}{B:Unit -> ah -> Prop}(b:f.heap.get? Xj=Z m)(d:m.cls=.type w)(hd:m.data=.fields Xc)(e:["enumerate", "zip", "dict_itemiterator", "dict_reverseitemiterator", "odict_iterator", "itertools.zip_longest", "itertools.pairwise"].contains w=au)(a:B () f): wpAny az O (tE XK (.ref Xj) L) B Xg f:=by
  unfold tE;cases XK <;> first
    | exact aK a
    | (cases L <;> first
        | exact aK a
        | (refine ak (vn b ?_)
           rw [d,hd];show wpAny az O (if (["enumerate", "zip", "dict_itemiterator", "dict_reverseitemiterator", "odict_iterator", "itertools.zip_longest", "itertools.pairwise"].contains w&&Xc[0]? == Z (ey _))=aa then _ else _) B Xg f;rw [aI (by intro c; rw [e,Bool.false_and]at c; cases c)];exact aK a))
noncomputable def rp(Xd:PySem.W.Frag)(g:af):fq:=
 ⟨λa j=>∃x h,df Xd j g x/\x[a]?=Z h,λa j h N=>N=j/\∀x,df Xd j g x->x[a]?=Z h,λa j=>∃x,df Xd j g x/\x.length<=a⟩
noncomputable def wG(Xd:PySem.W.Frag)(g:af):fq:=
 ⟨λa j=>∃x h,cH Xd j g x/\x[a]?=Z h,λa j h N=>N=j/\∀x,cH Xd j g x->x[a]?=Z h,λa j=>∃x,cH Xd j g x/\x.length<=a⟩
def rL(R:Int)(w:Nat):fq:=⟨λa W=>a<w,λa j h N=>N=j/\h=.int (R+a),λa W=>w<=a⟩
theorem K3(g Xj:af):rf Xs l Xd XK (rp Xd g) [Xj] Xj (λa c=>c.IsListIter Xj g a) where
 mem:=by simp
 obj:=λa c X e i=>by
  have d:e=Xj:=by simpa using i
  subst d;let⟨@m,d,n,v⟩:=X;exact⟨m,d,λu C=>by rw[v]at C;cases C⟩
 keep:=λa c M X q=>X.at λm d=>q Xj (by simp) m d
 item:=by
  intro b r s t I a G f D j Xg A k X w;subst r s t;let⟨x,@h,p,y⟩:=w;let⟨@Xq,z,o,N⟩:=A.list p;let⟨@L,O,P⟩:=z.get y;let@⟨Yl,B,Q,E,F,H⟩:=k Xj (by simp);refine wpAny_pyNext_list_item X o.isList (x:=L) (by simpa using O) λM J cQ=>?_;have R:aE b G D j {f with heap:=M}:=A.turned (XM:=f.toks) (λe m i d=>(cQ.2 e i).trans d) Yl B E F H;let⟨@m,d,n,v⟩:=id J;exact⟨L,rfl,uO (f:={f with heap:=M}) d n v (by decide) ⟨h,j,R,P,⟨rfl,λXp S=>by rw[A.D1 S p];exact y⟩,J,λe i=>(k e i).1⟩⟩
 done:=by
  intro b r s t I a G f D j Xg A k X w;subst r s t;let⟨@x,p,y⟩:=w;let⟨@Xq,z,o,N⟩:=A.list p;let@⟨Yl,B,Q,E,F,H⟩:=k Xj (by simp);have U:=z.length;exact wpAny_pyNext_list_end (A.ok.hd I) X o.isList (by simp;lia) λM T=>⟨rfl,A.turned (XM:=f.toks) (λe m i d=>T e m i d) Yl B E F H⟩
 self:=λ_ W W W W X c=>wpAny_pyIter_listiter X c
theorem VQ(g Xj:af):rf Xs l Xd XK (wG Xd g) [Xj] Xj (λa c=>c.IsTupleIter Xj g a) where
 mem:=by simp
 obj:=λa c X e i=>by
  have d:e=Xj:=by simpa using i
  subst d;let⟨@m,d,n,v⟩:=X;exact⟨m,d,λu C=>by rw[v]at C;cases C⟩
 keep:=λa c M X q=>X.at λm d=>q Xj (by simp) m d
 item:=by
  intro b r s t I a G f D j Xg A k X w;subst r s t;let⟨x,@h,p,y⟩:=w;let⟨@Xq,z,o,N⟩:=A.tuple p;let⟨@L,O,P⟩:=z.get y;let@⟨Yl,B,Q,E,F,H⟩:=k Xj (by simp);refine wpAny_pyNext_tuple_item X (show f.heap.IsTuple g Xq.toArray from o) (x:=L) (by simpa using O) λM J cQ=>?_;have R:aE b G D j {f with heap:=M}:=A.turned (XM:=f.toks) (λe m i d=>(cQ.2 e i).trans d) Yl B E F H;let⟨@m,d,n,v⟩:=id J;exact⟨L,rfl,uO (f:={f with heap:=M}) d n v (by decide) ⟨h,j,R,P,⟨rfl,λXp S=>by rw[A.DW S p];exact y⟩,J,λe i=>(k e i).1⟩⟩
 done:=by
  intro b r s t I a G f D j Xg A k X w;subst r s t;let⟨@x,p,y⟩:=w;let⟨@Xq,z,o,N⟩:=A.tuple p;let@⟨Yl,B,Q,E,F,H⟩:=k Xj (by simp);have U:=z.length;exact wpAny_pyNext_tuple_end (A.ok.hd I) X (show f.heap.IsTuple g Xq.toArray from o) (by simp;lia) λM T=>⟨rfl,A.turned (XM:=f.toks) (λe m i d=>T e m i d) Yl B E F H⟩
 self:=λ_ W W W W X c=>wpAny_pyIter_tupleiter X c
theorem NN(Xj:af)(R:Int)(w:Nat):rf Xs l Xd XK (rL R w) [Xj] Xj (λa c=>IsRangeIter c Xj (R+(a:Nat)*1) ((w:Int)-(a:Nat)) 1) where
 mem:=by simp
 obj:=λa c X e g=>by
  have d:e=Xj:=by simpa using g
  subst d;exact⟨_,X,λu C=>by
   have z:Data.fields _=Data.cell u:=C;cases z⟩
 keep:=λa c M X q=>q Xj (by simp) _ X
 item:=by
  intro b k n o p a G f D j Xg A h X r;subst k n o;let@⟨Yl,s,B,t,v,x⟩:=h Xj (by simp);have W:=h1.range (prog:=b.prog) (w:=b.w) (A.ok.hd p) Xj R 1 w;refine W.item a f _ _ r X λu M XT E y cA=>?_;let⟨@i,rfl⟩:=E;have F:aE b G D j {f with heap:=M,toks:=XT}:=A.turned (λe m g d=>cA e m (by simpa using g) d) Yl s t v x;refine⟨_,rfl,uO (f:={f with heap:=M,toks:=XT}) (w := "range_iterator") y rfl rfl (by decide) ⟨.int<|R+a,j,F,⟨i,?_⟩,⟨rfl,rfl⟩,y,λe g=>(h e g).1⟩⟩;rw[B1]
 done:=by
  intro b k n o p a G f D j Xg A h X r;subst k n o;let@⟨Yl,s,B,t,v,x⟩:=h Xj (by simp);exact wpAny_pyNext_range_end (A.ok.hd p) X (by have:w<=a:=r;lia) λM H=>⟨rfl,A.turned (XM:=f.toks) (λe m g d=>H e m g d) Yl s t v x⟩
 self:=λ_ U U U U X c=>wpAny_pyIter_rangeiter X c
section
variable{b:aO}{XK:bx}
theorem Hr{Xf:fq->aw->Prop}{R U:Int}{i L u:hO}{XT:Nat}(A:aE b G D j f)(z : -(2^62)<=R)(E:R<2^62)(c : -(2^62)<=U)(g:U<2^62)(p:Xf (rL R (U-R).toNat) j):wpAny (aM b.prog b.w) b.A (oz<|.ref f.heap.objs.size) (Cr b G D XK Xf) Xg {f with heap:=f.heap.push {cls:=.type "range",data:=.fields #[.int R i,.int U L,.int 1 u]},toks:=XT}:=by
 refine wpAny_pyIter_range (IsRange.new ..) (small_one z E c g) ?_;have a:aE b G D j {f with heap:=f.heap.push {cls:=.type "range",data:=.fields #[.int R i,.int U L,.int 1 u]},toks:=XT}:=A.kept λe m d=>bH _ d;refine⟨(f.heap.push {cls:=.type "range",data:=.fields #[.int R i,.int U L,.int 1 u]}).objs.size,[(f.heap.push {cls:=.type "range",data:=.fields #[.int R i,.int U L,.int 1 u]}).objs.size],_,_,j,rfl,
  a.kept (XM:=XT) λe m d=>bH _ d,NN _ R (U-R).toNat,?_,λe h=>?_,p⟩
 ·have k:R+((0:Nat):Int)*1=R:=by simp
  have n:(((U-R).toNat:Nat):Int)-((0:Nat):Int)=aX.Range.rangeSize R U 1:=by rw[rangeSize_one];split<;>lia
  show IsRangeIter _ _ (R+((0:Nat):Int)*1) ((((U-R).toNat:Nat):Int)-((0:Nat):Int)) 1;rw[k,n];exact cI _ rfl
 ·have d:e=(f.heap.push {cls:=.type "range",data:=.fields #[.int R i,.int U L,.int 1 u]}).objs.size:=by simpa using h
  subst d;exact a.n7 (ba _) (a.aZ.fresh<|ba _)
def MG(X4:en):bF:=λD j Xf=>X4 D j λXc Xn=>∃r:Int,Xc=[.int r] /\ -(2^62)<=r/\r<2^62/\Xf (rL 0 r.toNat) Xn
def VN(X4:en):bF:=λD j Xf=>X4 D j λXc Xn=>∃a r:Int,Xc=[.int a,.int r]/\(-(2^62)<=a/\a<2^62 /\ -(2^62)<=r/\r<2^62)/\Xf (rL a (r-a).toNat) Xn
variable{g:bx}
theorem UQ(e:dS b "range")(h:b.aH "range" = Y)(k:gM b [g] X4)(Xi:bL [g] b.env=[(au,bZ g b.env)]:=by rfl):jN b XK (.Call (.Name "range" o) [g] [] Xu) (MG X4):=by
 intro G f D j Xf A c;refine rb (jt A e h boot_range<|mc (cc (k Xu G f D j _ A c) λXE t ⟨Xc,Xn,l,m,a⟩=>?_) Xi rfl);let⟨@r,d,a,n,p⟩:=a;subst d;cases m with
 |cons s q=>
  cases q;let⟨@i,rfl⟩:=s;exact call_range_1 (Hr l ⋯ ⋯ a n (by simpa using p))
theorem T8{e:bx}(m:dS b "range")(n:b.aH "range" = Y)(q:gM b [g,e] X4)(Xi:bL [g,e] b.env=[(au,bZ g b.env),(au,bZ e b.env)]:=by rfl)(l:bL [e] b.env=[(au,bZ e b.env)]:=by rfl):
  jN b XK (.Call (.Name "range" o) [g,e] [] Xu) (VN X4):=by
 intro G f D j Xf A c;refine rb (jt A m n boot_range (mc (cc (q Xu G f D j _ A c) λXE y ⟨Xc,Xn,t,u,h⟩=>?_) (by rw[Xi,l]) (by rw[l];rfl)));let⟨a,@r,d,@⟨h,v,w,x⟩,p⟩:=h;subst d;cases u with
 |cons s k=>
  cases k with
  |cons X9 k=>
   cases k;let⟨@i,rfl⟩:=s;let⟨@XM,rfl⟩:=X9;exact call_range_2 (Hr t h v w x p)
noncomputable def Ey(Yw:bF)(I:hh)(Ym:fy):fy:=λy D j=>Yw D j λYg Xn=>∃W:Nat->Nat->a3->aw->Prop,(∃k,W 0 k D Xn)/\∀a k D j,W a k D j->
 (Yg.stop a j/\y.aS D j)\/(Yg.go a j/\∃XW:a3->aw->Prop,(∀b N,XW b N->∃c,c<k/\W (a+1) c b N)/\∀h N,Yg.rE a j h N->I h D N λd XD=>Ym {y with aS:=XW,cx:=XW,f_:=y.aS} d XD)
def nQ(cb:List af)(c:aV):List (af×a0):=cb.filterMap λe=>(c.get? e).map λm=>(e,m)
theorem v3{m:a0}(a:e∈cb)(d:c.get? e=Z m):(e,m)∈nQ cb c:=uF.mpr ⟨e,a,by rw[d];rfl⟩
theorem F7{o:af×a0}(a:o∈nQ cb c):o.1∈cb/\c.get? o.1=Z o.2:=by
 let⟨@e,b,d⟩:=uF.mp a;cases p:c.get? e with
 |none=>rw[p]at d;cases d
 |some m=>
  rw[p]at d;have f:(e,m)=o:=Option.some.inj d;subst f;exact⟨b,p⟩
theorem aE.pinned(A:aE b G D j f)(g:∀e∈cb,gV b G j e)(h:∀e∈cb,∃m,f.heap.get? e=Z m/\∀u,m.data≠.cell u):aE b (G++nQ cb f.heap) D j f:=
 A.pX λo i=>(ee.mp i).elim (λC=>A.pin o<|fj _ C) λC=>by
  let@⟨a,d⟩:=F7 C;let@⟨Yl,k,l,_⟩:=g o.1 a;let⟨@m,c,v⟩:=h o.1 a;rw[d]at c;cases c;exact⟨d,Yl,k,l,v⟩
theorem aE.xT{bo:List (af×a0)}(A:aE b (G++bo) D j f):aE b G D j f:=A.pX λo a=>A.pin o (fj _<|gc _ a)
theorem FI{Ye:bx}{Yw:bF}{I:hh}(t:qZ (aM b.prog b.w) b.A b.env b.cW)(R:b.calm=aa)(U:jN b XK Ye Yw)(a2:ka b XK I)(g:ia b Yt Ym)(Xi:∀h,mH Ye b.env h=pure h:=by intro O;rfl):iN b (.For XK Ye Yt [] Xu) (Ey Yw I Ym):=by
 intro G f D j y A c;refine wpAny_For (cc (U G f D j _ A c) λu fr z=>cc z λf0 f1 E=>?_) Xi;let⟨Xj,cb,i,Yg,@XD,d,bd,T,be,S,⟨@W,⟨@bi,jD⟩,turn⟩⟩:=E;subst d;have J:∀{N:aw},(∀e∈cb,N e=Y)->∀e∈cb,gV b G N e:=λbm e g=>⟨bm e g,(S e g).2⟩;refine codeAny_forLoop_any (λw Xe=>∃a x N,aE b G x N Xe/\i a Xe.heap/\(∀e∈cb,N e=Y)/\W a w x N) ?_ bi ⟨0,D,XD,bd,be,λe g=>(S e g).1,jD⟩;rintro w al ⟨a,B,H,am,an,ap,d9⟩;rcases turn a w B H d9 with ⟨stop,bn⟩|⟨go,XW,bs,step⟩
 ·refine oM t (cc (T.done b rfl rfl rfl R a G al B H b.cW am (J ap) an stop) λs bv r=>?_);let@⟨M,ca⟩:=r;subst M;exact wY ⟨B,H,ca,bn⟩
 ·refine oM t (cc (T.item b rfl rfl rfl R a G al B H b.cW am (J ap) an go) λs bv r=>?_);let⟨@L,M,cd⟩:=r;subst M;refine oM t (cc cd λ_ as r=>?_);let⟨h,@a1,ce,ch,ci,P,cl⟩:=r;have co:=ce.pinned (J cl) (T.obj _ _ P);refine oM t (cc (a2 _ as B a1 h L _ co ch<|step h a1 ci) λ_ cr r=>?_);let⟨cs,@db,ds,dL⟩:=r;refine oM t (cc (g _ cr cs db _ ds dL) λF Q q=>?_);have again:∀{n:a3}{o:aw},aE b (G++nQ cb as.heap) n o Q->XW n o->∃k,k<w/\∃a x N,aE b G x N Q/\i a Q.heap/\(∀e∈cb,N e=Y)/\W a k x N:=λ{n o} p C=>by
   let⟨@eq,ev,ex⟩:=bs n o C;refine⟨eq,ev,a+1,n,o,p.xT,T.keep _ _ _ P λe g m d=>(p.pin (e,m)<|fj _<|fj _<|v3 g d).1,λe g=>?_,ex⟩;let⟨@m,d,v⟩:=T.obj _ _ P e g;exact (p.pin (e,m)<|fj _<|fj _<|v3 g d).2.1
  cases F with
  |next=>let⟨n,@o,p,C⟩:=q;exact again p C
  |cont=>let⟨n,@o,p,C⟩:=q;exact again p C
  |brk=>let⟨n,@o,p,q⟩:=q;exact⟨n,o,p.xT,q⟩
  |ret u=>let⟨fd,n,@o,p,fn,q⟩:=q;exact⟨fd,n,o,p.xT,fn,q⟩
end
abbrev b4:=ar->ar->aw->cP->Prop
variable{s:b4}
def d8(b:aO)(F:ab->ab->dz ab)(s:b4):Prop:=
 ∀(G:List (af×a0)) (f:ah) (D:a3) (j:aw) (h H:ar) (u L:ab) (B:cP),aE b G D j f->cq h u->cq H L->s h H j B->
  wpAny (aM b.prog b.w) b.A (F u L) (eM b G D B) b.cW f
def zm(b:aO)(F:ab->dz ab)(s:ar->aw->cP->Prop):Prop:=
 ∀(G:List (af×a0)) (f:ah) (D:a3) (j:aw) (h:ar) (u:ab) (B:cP),aE b G D j f->cq h u->s h j B->
  wpAny (aM b.prog b.w) b.A (F u) (eM b G D B) b.cW f
def eK(b:aO)(F:ab)(s:List ar->aw->cP->Prop):Prop:=
 ∀(G:List (af×a0)) (f:ah) (D:a3) (j:aw) (x:List ar) (XE:List ab) (B:cP),aE b G D j f->bY x XE->s x j B->
  wpAny (aM b.prog b.w) b.A (call F XE) (eM b G D B) b.cW f
def LF(b:aO)(s:ar->aw->(Bool->aw->Prop)->Prop):Prop:=
 ∀(G:List (af×a0)) (f:ah) (D:a3) (j:aw) (h:ar) (u:ab) (B:Bool->aw->Prop),aE b G D j f->cq h u->s h j B->
  wpAny (aM b.prog b.w) b.A (truthy u) (vA b G D B) b.cW f
def vS(s:b4)(X4 Ym:cn):cn:=λD j B=>X4 D j λh Xn=>Ym D Xn λH XD=>s h H XD B
def LK(s:ar->aw->cP->Prop)(X4:cn):cn:=λD j B=>X4 D j λh Xn=>s h Xn B
noncomputable def qN(aP:Int->Int->Prop)(I:Int->Int->ar):b4:=λh H j B=>∃a r,h=.int a/\H=.int r/\aP a r/\B (I a r) j
def l7(I:Int->Int->ar):b4:=λh H j B=>∃a r,h=.int a/\H=.int r/\B (I a r) j
def Hp(I:Int->ar):ar->aw->cP->Prop:=λh j B=>∃a,h=.int a/\B (I a) j
section
variable{b:aO}{g e n:bx}{X4 Ym YD:cn}{Xu:Pos}
theorem xp(i:b6 b g X4)(k:b6 b e Ym){G:List (af×a0)}{f:ah}{D:a3}{j:aw}{Xf:ar->ar->aw->Prop}(A:aE b G D j f)(c:X4 D j λh Xn=>Ym D Xn λH XD=>Xf h H XD){B:ab->ah->Prop}{F:ab->ab->dz ab}(m:∀u L a h H XD,aE b G D XD a->cq h u->cq H L->Xf h H XD->wpAny (aM b.prog b.w) b.A (F u L) B b.cW a):
  wpAny (aM b.prog b.w) b.A (bZ g b.env) (λu n=>wpAny (aM b.prog b.w) b.A (bZ e b.env) (λL o=>wpAny (aM b.prog b.w) b.A (F u L) B b.cW o) b.cW n) b.cW f:=by
 refine cc (i G f D j _ A c) λu p d=>?_;let⟨h,@Xn,q,r,s⟩:=d;refine cc (k G p D Xn _ q s) λL a d=>?_;let⟨H,@XD,t,v,x⟩:=d;exact m u L a h H XD t r v x
theorem QJ{X7:zf}(a:d8 b (gF X7) s)(d:b6 b g X4)(i:b6 b e Ym):b6 b (.BinOp g X7 e Xu) (vS s X4 Ym):=by
 intro G f D j B A c;exact wpAny_BinOp (xp d i A c λu L k h H XD l m n p=>a G k D XD h H u L B l m n p)
theorem VF{X7:UnaryOp}{s:ar->aw->cP->Prop}(a:zm b (unaryOp X7) s)(d:b6 b g X4):b6 b (.UnaryOp X7 g Xu) (LK s X4):=by
 intro G f D j B A c;exact UnaryOp_ (cc (d G f D j _ A c) λu e ⟨h,Xn,i,k,l⟩=>a G e D Xn h u B i k l)
theorem w8{aP:Int->Int->Prop}(d:∀(a r:Int) (i L:hO) (f:ah) (B:ab->ah->Prop) (Xg:ab->ah->Prop),aP a r->B (.int (I a r) f.toks) {f with toks:=f.toks+1}->wpAny (aM b.prog b.w) b.A (F (.int a i)<|.int r L) B Xg f):
  d8 b F (qN aP λa r=>.int<|I a r):=by
 intro G f D j h H u L B A e g c;let⟨a,@r,rfl,rfl,k,p⟩:=c;let⟨@i,rfl⟩:=e;let⟨@XM,rfl⟩:=g;exact d a r i XM f _ _ k ⟨.int<|I a r,j,A.tok _,⟨_,rfl⟩,p⟩
theorem ER(d:∀(a r:Int) (i L:hO) (f:ah) (B:ab->ah->Prop) (Xg:ab->ah->Prop),B (.int (I a r) f.toks) {f with toks:=f.toks+1}->wpAny (aM b.prog b.w) b.A (F (.int a i)<|.int r L) B Xg f):
  d8 b F (l7 λa r=>.int<|I a r):=by
 intro G f D j h H u L B A e g c;let⟨a,@r,rfl,rfl,p⟩:=c;let⟨@i,rfl⟩:=e;let⟨@XM,rfl⟩:=g;exact d a r i XM f _ _ ⟨.int<|I a r,j,A.tok _,⟨_,rfl⟩,p⟩
theorem wj{I:Int->Int->Bool}(d:∀(a r:Int) (i L:hO) (f:ah) (B:ab->ah->Prop) (Xg:ab->ah->Prop),B (.bool<|I a r) f->wpAny (aM b.prog b.w) b.A (F (.int a i)<|.int r L) B Xg f):
  d8 b F (l7 λa r=>.aG<|I a r):=by
 intro G f D j h H u L B A e g c;let⟨a,@r,rfl,rfl,p⟩:=c;let⟨@i,rfl⟩:=e;let⟨@XM,rfl⟩:=g;exact d a r i XM f _ _ ⟨.aG<|I a r,j,A,rfl,p⟩
def NQ(a r:Int):Prop:=0<r/\r<1073741824
def NY(a r:Int):Prop:=0<=r/\r<=1000000/\a.natAbs<2^64
theorem Sh:d8 b (gF .Add) (l7 λa r=>.int<|a+r):=ER λ_ W W W W W W p=>add_int p
theorem Nt:d8 b (gF .Sub) (l7 λa r=>.int<|a-r):=ER λ_ W W W W W W p=>sub_int p
theorem P8:d8 b (gF .FloorDiv) (qN NQ λa r=>.int<|a/r):=w8 λa r W W W W W c p=>by
 have z:(0:Int)<r:=c.1;have E:r<1073741824:=c.2;exact floordiv_int ⋯ (by rw[Int.fdiv_eq_ediv_of_nonneg a ⋯];exact p) (.inl (PyProof.noPylong_small ⋯))
theorem RR:d8 b (gF .Mod) (qN (λ_ r=>0<r) λa r=>.int<|a%r):=w8 λa r W W W W W c p=>by
 have z:(0:Int)<r:=c;exact mod_int' ⋯ (by rw[Int.fmod_eq_emod_of_nonneg a ⋯];exact p)
theorem P1:d8 b (gF .Pow) (qN NY λa r=>.int<|a^r.toNat):=w8 λ_ W W W W W W c p=>pow_int_small c.1 c.2.1 c.2.2 p
theorem VJ{F:ab->dz ab}{I:Int->Int}(d:∀(a:Int) (i:hO) (f:ah) (B:ab->ah->Prop) (Xg:ab->ah->Prop),B (.int (I a) f.toks) {f with toks:=f.toks+1}->wpAny (aM b.prog b.w) b.A (F<|.int a i) B Xg f):
  zm b F (Hp λa=>.int<|I a):=by
 intro G f D j h u B A e c;let⟨@a,rfl,p⟩:=c;let⟨@i,rfl⟩:=e;exact d a i f _ _ ⟨.int<|I a,j,A.tok _,⟨_,rfl⟩,p⟩
theorem Tv:zm b (unaryOp .USub) (Hp λa=>.int<|-a):=VJ λ_ W W W W p=>neg_int p
end
section
variable{b:aO}{g e n:bx}{X4 Ym YD:cn}{Xu:Pos}
theorem DT{B:cP}{q a:Bool}(A:aE b G D j f)(p:B (.aG q) j)(d:q=a):eM b G D B (.bool a) f:=by
 subst d;exact⟨.aG q,j,A,rfl,p⟩
theorem Ry:d8 b (eQ .Lt) (l7 λa r=>.aG<|decide (a<r)):=wj λ_ W W W W W W p=>lt_int p
theorem V3:d8 b (eQ .LtE) (l7 λa r=>.aG<|decide (a<=r)):=wj λ_ W W W W W W p=>le_int p
theorem U2:d8 b (eQ .Gt) (l7 λa r=>.aG<|decide (r<a)):=wj λ_ W W W W W W p=>gt_int p
theorem Wm:d8 b (eQ .GtE) (l7 λa r=>.aG<|decide (r<=a)):=wj λ_ W W W W W W p=>ge_int p
theorem Qc:d8 b (eQ .Is) (λh H j B=>H=.aW/\B (.aG<|decide (h=.aW)) j):=by
 intro G f D j h H u L B A a d c;let@⟨rfl,p⟩:=c;cases d;refine is_none_gen (DT A p ?_);cases h<;>first
  | (cases a;rfl)
  | (let⟨@i,rfl⟩:=a;rfl)
theorem OA:d8 b (eQ .IsNot) (λh H j B=>H=.aW/\B (.aG<|!decide (h=.aW)) j):=by
 intro G f D j h H u L B A a d c;let@⟨rfl,p⟩:=c;cases d;refine isnot_none_gen (DT A p ?_);cases h<;>first
  | (cases a;rfl)
  | (let⟨@i,rfl⟩:=a;rfl)
theorem d8.or{X9:b4}(c:d8 b F s)(M:d8 b F X9):d8 b F (λh H j B=>s h H j B\/X9 h H j B):=by
 intro G f D j h H u L B A a d p;rcases p with p|p
 ·exact c G f D j h H u L B A a d p
 ·exact M G f D j h H u L B A a d p
theorem fz(e:bx){X7:mI}(c:X7≠.In:=by decide)(E:X7≠.NotIn:=by decide):qA X7 e=au:=by
 have a:(X7==mI.In)=au:=by cases X7<;>first|rfl|exact absurd rfl c
 have b:(X7==mI.NotIn)=au:=by cases X7<;>first|rfl|exact absurd rfl E
 cases e<;>simp[qA,a,b]
theorem SJ(a:d8 b (eQ X7) s)(d:b6 b g X4)(i:b6 b e Ym)(k:qA X7 e=au):b6 b (.Compare g [X7] [e] Xu) (vS s X4 Ym):=by
 intro G f D j B A c;exact wpAny_Compare1 (xp d i A c λu L l h H XD m n o p=>a G l D XD h H u L B m n o p) k
def LY(i:cn):eu:=λD j B=>i D j λh N=>∃q,h=.aG q/\B q N
theorem Uo(a:d8 b (eQ X7) s)(i:b6 b g X4)(k:b6 b e Ym)(l:qA X7 e=au):ic b (.Compare g [X7] [e] Xu) (LY<|vS s X4 Ym):=by
 intro G f D j B A c;refine wpAny_isTrue_Compare1 (cc (i G f D j _ A c) λu m ⟨h,Xn,o,p,r⟩=>cc (k G m D Xn _ o r) λL t ⟨H,XD,v,w,x⟩=>
  cc (a G t D XD h H u L _ v p w x) λn I ⟨C,y,z,E,q,d,F⟩=>?_) l;subst d;cases E;exact qW ⟨y,z,F⟩
def xF(Xd:PySem.W.Frag)(h:ar)(j:aw)(q:Bool):Prop:=
 match h with
 |.aW=>q=au
 |.aG e=>q=e
 |.int a=>q=(a != 0)
 |.str H=>H.length<=sizeLine/\q=((H.length:Int) != 0)
 |.tx H=>H.size<=sizeLine/\q=((H.size:Int) != 0)
 |.ref o=>(∃x,df Xd j o x/\q=!x.isEmpty)\/(∃x,cH Xd j o x/\q=!x.isEmpty)\/∃Xt,j o=Z (.dQ Xt)/\q=!Xt.isEmpty
 |_=>False
theorem Sk{XG:Type}{Xt:List (XG×ar)}{Xc:List (XG×ab)}(s:gj Xt Xc):(!Xc.isEmpty)=!Xt.isEmpty:=by
 cases s<;>rfl
theorem Cf{Xq:List ab}(s:bY x Xq):(!Xq.toArray.isEmpty)=!x.isEmpty:=by
 cases s<;>simp
theorem oq:(sizeLine:Nat)<2^63:=by rw[xK];decide
theorem L5:LF b (λh j B=>∃q,xF b.K h j q/\B q j):=by
 intro G f D j h u B A m c;let⟨@q,d,p⟩:=c;have z:=oq;have Xi:sizeLine=16777216:=xK;cases h with
 |aW=>
  cases m;have g:q=au:=d;subst g;exact truthy_none ⟨j,A,p⟩
 |aG e=>
  cases m;have g:q=e:=d;subst g;exact qW ⟨j,A,p⟩
 |int a=>
  let⟨@i,rfl⟩:=m;have g:q=(a != 0):=d;subst g;exact PySem.P.truthy_int ⟨j,A,p⟩
 |str H=>
  let⟨@i,rfl⟩:=m;obtain⟨v,g⟩:H.length<=sizeLine/\q=((H.length:Int) != 0):=d;subst g;exact PySem.P.truthy_str ⋯ ⟨j,A.tok _,p⟩
 |tx H=>
  let⟨@i,rfl⟩:=m;obtain⟨v,g⟩:H.size<=sizeLine/\q=((H.size:Int) != 0):=d;subst g;exact PySem.W.truthy_bytes ⋯ ⟨j,A.tok _,p⟩
 |ref o=>
  cases m;have g:(∃x,df b.K j o x/\q=!x.isEmpty)\/(∃x,cH b.K j o x/\q=!x.isEmpty)\/∃Xt,j o=Z (.dQ Xt)/\q=!Xt.isEmpty:=d;rcases g with ⟨x,n,g⟩|⟨x,n,g⟩|⟨Xt,n,g⟩
  ·subst g;let⟨@Xq,s,bo,r⟩:=A.list n;have t:=s.length;exact wpAny_truthy_list bo.isList (by simp only[cO];lia) ⟨j,A.tok _,by rw[Cf s];exact p⟩
  ·subst g;let⟨@Xq,s,bo,r⟩:=A.tuple n;have t:=s.length;exact truthy_tuple bo (by simp only[cO];lia) ⟨j,A.tok _,by rw[Cf s];exact p⟩
  ·subst g;obtain⟨r,y,Xc,s,k⟩:Xt.length<=sizeLine/\(o==j4)=au/\∃Xc,gj Xt Xc/\f.heap.DictOf (nK b.prog b.w) o Xc:=A.aZ o _ n;have t:Xt.length=Xc.length:=dY.length s;exact wpAny_truthy_dict y k ⋯ ⟨j,A.tok _,by rw[Sk s];exact p⟩
 |_=>exact (show False from d).elim
theorem NA(d:b6 b g X4)(e:∀a,qT g b.env a=(do let u <-a;standAt g.pos;holding [u] (truthy u))):
  ic b g (λD j B=>X4 D j λh N=>∃q,xF b.K h N q/\B q N):=by
 intro G f D j B A c;exact isTrue_plain (cc (d G f D j _ A c) λu i ⟨h,Xn,k,l,m⟩=>L5 G i D Xn h u B k l m) (e _)
theorem OI:d8 b (gF .Add) (λh H j B=>∃a r,h=.str a/\H=.str r/\a.length+r.length<=sizeLine/\B (.str<|a++r) j):=by
 intro G f D j h H u L B A d e c;let⟨a,@r,rfl,rfl,g,p⟩:=c;let⟨@i,rfl⟩:=d;let⟨@XM,rfl⟩:=e;exact add_str (λXM XT=>⟨.str<|a++r,j,A.tok _,⟨_,rfl⟩,p⟩) g
theorem hK{h:ar}(s:bY [h] XE):∃L,XE=[L]/\cq h L:=by
 cases s with
 |cons a b=>cases b;exact⟨_,rfl,a⟩
theorem pO{h:ar}(s:bY [h,H] XE):∃L a,XE=[L,a]/\cq h L/\cq H a:=by
 cases s with
 |cons b c=>
  cases c with
  |cons d e=>cases e;exact⟨_,_,rfl,b,d⟩
theorem Pn(e:b.calm=aa):eK b (.builtin "max") (λx j B=>∃a r,x=[.int a,.int r]/\B (.int<|if r>a then r else a) j):=by
 intro G f D j x XE B A s c;let⟨a,@r,rfl,p⟩:=c;let⟨L,@g,rfl,⟨@i,rfl⟩,⟨@XM,rfl⟩⟩:=pO s;refine max_two_ints (A.ok.hd e) λM XT q=>⟨_,j,A.kept q,?_,p⟩;by_cases d:r>a
 ·rw[aA d,aA d];exact⟨_,rfl⟩
 ·rw[aI d,aI d];exact⟨_,rfl⟩
theorem RX(e:b.calm=aa):eK b (.builtin "min") (λx j B=>∃a r,x=[.int a,.int r]/\B (.int<|if r<a then r else a) j):=by
 intro G f D j x XE B A s c;let⟨a,@r,rfl,p⟩:=c;let⟨L,@g,rfl,⟨@i,rfl⟩,⟨@XM,rfl⟩⟩:=pO s;refine min_two_ints (A.ok.hd e) λM XT q=>⟨_,j,A.kept q,?_,p⟩;by_cases d:r<a
 ·rw[aA d,aA d];exact⟨_,rfl⟩
 ·rw[aI d,aI d];exact⟨_,rfl⟩
theorem O1:eK b (.type "int") (λx j B=>(∃a,x=[.int a]/\B (.int a) j)\/∃q,x=[.aG q]/\B (.int<|if q then 1 else 0) j):=by
 intro G f D j x XE B A s c;rcases c with ⟨a,rfl,p⟩|⟨q,rfl,p⟩
 ·let⟨@L,rfl,⟨@i,rfl⟩⟩:=hK s;exact call_int_int ⟨.int a,j,A,⟨_,rfl⟩,p⟩
 ·let⟨@L,rfl,d⟩:=hK s;cases d;exact call_int_bool ⟨.int<|if q then 1 else 0,j,A.tok _,⟨_,rfl⟩,p⟩
end
section
variable{Xm:bJ}{l:bc}{O:bw}{Xg:ab->ah->Prop}{f:ah}{Xd:PySem.W.Frag}{h k aP F:af}{A:aB->Option ab}{name:aB}{u:ab}
end
theorem k8.some_of{m:Option ab}(s:k8 (Z u) m):∃L,m=Z L/\cq u L:=by
 cases m with
 |none=>exact (show False from s).elim
 |some L=>exact⟨L,rfl,s⟩
section
variable{Xs:bJ}{l:bc}{j N:aw}{c M:aV}{g aP k:af}{aN i:List (aB×ar)}
end
section
variable{b:aO}{G:List (af×a0)}{D:a3}{j:aw}{f:ah}{g aP k:af}{aN:List (aB×ar)}{F:aB}{u:ar}{O:bw}{Xg:ab->ah->Prop}
end
section
variable{b:aO}{m d k:bx}{F:aB}{Xu i z:Pos}{X4 t:cn}
end
section
variable{b:aO}{G:List (af×a0)}{D:a3}{j:aw}{f:ah}{O:bw}{Xg:ab->ah->Prop}{B:ab->ah->Prop}{n:ab}{e:Bool}
end
structure fk(q:Nat)(O:bw):Prop where
 hd:O.handled=Y
 yc:O.depth+3*q+5<CH
 un:O.units+16*q+200<bU
 CR:O.guards=Z []
theorem fk.mono(s:fk q O)(c:r<=q):fk r O:=⟨s.hd,by have:=s.yc;lia,by have:=s.un;lia,s.CR⟩
theorem fk.deeper(s:fk (q+1) O)(Xk:fu):fk q (O.deeper Xk):=
 ⟨s.hd,by have:=s.yc;show O.depth+1+3*q+5<_;lia,by have:=s.un;show O.units+3+16*q+200<_;lia,s.CR⟩
theorem fk.depth(s:fk q O):O.depth<CH:=by have:=s.yc;lia
def S_:en:=λ_ j B=>B [] j
def Pw(X4:cn)(a:en):en:=λD j B=>X4 D j λh Xn=>a D Xn λx XD=>B (h::x) XD
section
variable{b:aO}{d:bx}{S:List bx}{Yk:cn}{i:en}{Xu:Pos}
theorem CT:gM b [] S_:=λ_ W W W j B A c=>wt ⟨[],j,A,.nil,c⟩
theorem xE(e:b6 b d Yk)(g:gM b S i)(Xi:bL (d::S) b.env=(au,bZ d b.env)::bL S b.env:=by rfl):gM b (d::S) (Pw Yk i):=by
 intro Xu G f D j B A c;rw[Xi];show wpAny _ _ (spliced ((au,bZ d b.env)::f3 Xu (bL S b.env))) _ _ f;refine uz (cc (e G f D j _ A c) λL k a=>?_);let⟨h,@Xn,l,m,n⟩:=a;refine cc (g Xu G k D Xn _ l n) λXE r a=>?_;let⟨x,@XD,o,p,q⟩:=a;exact⟨h::x,XD,o,.cons m p,q⟩
def Py(i:en):cn:=λD j B=>i D j λx Xn=>x.length<=sizeLine/\∀o,Xn o=Y->B (.ref o) (upd Xn o<|.tup x)
def UL(i:en):cn:=λD j B=>i D j λx Xn=>x.length<=sizeLine/\∀o,Xn o=Y->B (.ref o) (upd Xn o<|.lst x)
theorem NT{h}(c:gM b S i):b6 b (.Tuple S h Xu) (Py i):=by
 intro G f D j B A k;refine wpAny_Tuple_spliced (cc (c Xu G f D j _ A k) λXE a ⟨x,Xn,g,s,C,p⟩=>⟨by rw[<-s.length];exact C,?_⟩);have l:Xn a.heap.objs.size=Y:=g.aZ.fresh (ba _);refine⟨.ref a.heap.objs.size,upd Xn a.heap.objs.size<|.tup x,g.laid (XM:=a.toks) (λe L d=>bH _ d) (ba _) ?_,rfl,p _ l⟩;exact⟨C,XE,s,⟨_,cI _ rfl,rfl,_,rfl⟩⟩
theorem Vs(c:gM b S i):b6 b (.List S Xu) (UL i):=by
 intro G f D j B A h;refine wpAny_List_spliced (cc (c Xu G f D j _ A h) λXE a ⟨x,Xn,g,s,C,p⟩=>⟨by rw[<-s.length];exact C,?_⟩);have k:Xn a.heap.objs.size=Y:=g.aZ.fresh (ba _);refine⟨.ref a.heap.objs.size,upd Xn a.heap.objs.size<|.lst x,g.laid (XM:=a.toks) (λe L d=>bH _ d) (ba _) ?_,rfl,p _ k⟩;exact⟨C,XE,0,s,cI _ rfl⟩
end
abbrev m7:=List ar->aw->cP->hc->Prop
abbrev kW:=List fu->aw->ah->hc->ab->ah->Prop
variable{Yr:kW}
structure tS(Xs:bJ)(l:bc)(Xd:PySem.W.Frag)(aH:aB->Option ab)(Xv:aV)(O:bw)(R:List fu)(f:ah)(j:aw):Prop where
 frames:O.frames=Z R
 mod:Mod Xd aH Xv
 bs:∀e m,Xv.get? e=Z m->f.heap.get? e=Z m/\j e=Y
 mx:Xv.objs.size<=f.heap.objs.size
 i0:f.heap.FunFrames Xv R
 oE:∀e∈iL R,j e=Y
 aZ:ej Xs l j f.heap
 bare:md f.gens
def Bf(R:List fu)(Xs:bJ)(l:bc)(j:aw)(f:ah)(B:cP)(L:ab)(Xe:ah):Prop:=
 ∃u N,Xe.os=f.os/\md Xe.gens/\fG (iL R) [] j N f.heap Xe.heap/\ej Xs l N Xe.heap/\cq u L/\B u N
def Rw(Yr:kW)(R:List fu)(Xs:bJ)(l:bc)(j:aw)(f:ah)(B:cP)(Xg:hc)(s:oV)(Xe:ah):Prop:=
 match s with
 |.ok (.ret L)=>Bf R Xs l j f B L Xe
 |.ok _=>False
 |.error d=>Yr R j f Xg d Xe
structure iG(Xs:bJ)(l:bc)(Xd:PySem.W.Frag)(aH:aB->Option ab)(Xv:aV)(Yr:kW)(q:Nat)(F:af)(fd:hj)(Xo:List aB)(XB:m7):Prop where
 len:∀Xc j B Xg,XB Xc j B Xg->Xc.length=Xo.length
 run:∀(O:bw) (R:List fu) (f:ah) (j:aw) (args:Args) (XE:List ab) (Xc:List ar) (B:cP) (Xg:hc),fk q O->tS Xs l Xd aH Xv O R f j->mW f fd args (Xo.zip XE)->bY Xc XE->XB Xc j B Xg->
  codeAny (aM Xs l) O (.call (.ref F) args) (Rw Yr R Xs l j f B Xg) f
section
variable{b:aO}{G:List (af×a0)}{D:a3}{j:aw}{f Xe:ah}
theorem aE.Lg(A:aE b G D j f):tS b.prog b.w b.K b.aH b.base b.A b.stack f j:=
 ⟨A.ok.frames,A.ok.mod,A.bs,e0 A.ok.mx A.jx,A.stack,A.Hh,A.aZ,A.bare⟩
theorem aE.after{B:cP}(A:aE b G D j f)(c:Bf b.stack b.prog b.w j f B L Xe):eM b G D B L Xe:=by
 let⟨u,@N,Xw,a,un,aZ,s,p⟩:=c;let⟨d,I,v,i,g⟩:=Xe;obtain rfl:g=f.os:=Xw;exact⟨u,N,A.call (M:=d) (g:=I) (r:=v) (XM:=i) (Yo:=[]) un aZ a (λe C=>absurd C (by simp)),s,p⟩
end
def DC(XB:m7)(t:List ar)(Xg:hc)(i:en):cn:=λD j B=>i D j λXc Xn=>XB (Xc++t) Xn B Xg
def i6(Xd:PySem.W.Frag)(fd:hj)(Xo:List aB)(J:List ab):Prop:=
 ∀(f:ah) (XE:List ab),Xd.In f.heap->(XE++J).length=Xo.length->mW f fd ⟨XE,[]⟩ (Xo.zip<|XE++J)
theorem i6.all{fd:hj}(c:∀XE:List ab,XE.length=Xo.length->k7 fd ⟨XE,[]⟩=pure (Xo.zip XE)):i6 Xd fd Xo []:=λf XE W a=>by
 rw[cC]at a ⊢;exact .of_eq (c XE a)
def Ak(Yr:kW)(b:aO)(Xg:hc):Prop:=∀(G:List (af×a0)) (D:a3) (j:aw) (f:ah) (d:ab) (Xe:ah),aE b G D j f->Yr b.stack j f Xg d Xe->b.cW d Xe
section
variable{b:aO}{Yr:kW}{q:Nat}{F aP:af}{fd:hj}{Xo:List aB}{XB:m7}{t:List ar}{J:List ab}{Xg:hc}{h k:aB}{o Xu Q:Pos}{d m:bx}{S:List bx}{X4:cn}{i:en}
theorem SR{B:cP}(P:iG b.prog b.w b.K b.aH b.base Yr q F fd Xo XB)(g:fk q b.A)(h:i6 b.K fd Xo J)(hd:bY t J)(i:Ak Yr b Xg)(A:aE b G D j f)(s:bY Xc XE)(c:XB (Xc++t) j B Xg):wpAny (aM b.prog b.w) b.A (call (.ref F) XE) (eM b G D B) b.cW f:=by
 have e:bY (Xc++t) (XE++J):=s.append hd;have k:(XE++J).length=Xo.length:=by rw[<-e.length];exact P.len _ _ _ _ c
 refine wpAny_call (s8 (P.run b.A b.stack f j ⟨XE,[]⟩ (XE++J) (Xc++t) B Xg g A.Lg (h f XE A.nV k) e c) λs Xe a=>?_);cases s with
 |error d=>exact i G D j f d Xe A a
 |ok aU=>
  cases aU with
  |ret L=>exact A.after a
  |next=>exact False.elim a
  |brk=>exact False.elim a
  |cont=>exact False.elim a
theorem UN(P:iG b.prog b.w b.K b.aH b.base Yr q F fd Xo XB)(e:fk q b.A)(g:dS b h)(k:b.aH h=Z (.ref F))(m:PySem.W.keepIn b.K (.ref F)=aa)(n:i6 b.K fd Xo J)(hd:bY t J)(r:Ak Yr b Xg)(u:gM b (d::S) i)(v:(h==("__debug__" : aB))=au:=by decide)(x:bL (d::S) b.env=(au,bZ d b.env)::bL S b.env:=by rfl)(y:(f3 Xu<|bL S b.env).any (·.1)=au:=by rfl):
  b6 b (.Call (.Name h o) (d::S) [] Xu) (DC XB t Xg i):=by
 intro G f D j B A c;refine pE (C0 A g k ?_ v);refine PySem.W.callWith_K (h₀:=b.base) A.ok.mod.y2 m (cc (u Xu G f D j _ A c) λXE C ⟨Xc,Xn,a,s,p⟩=>⟨a.nV,?_⟩) x y;exact SR P e n hd r a s p
end
section
variable{b:aO}{Yr:kW}{q:Nat}{F aP:af}{fd:hj}{Xo Xb:List aB}{XB:m7}{Xg:hc}{h k:aB}{o Xu Q z:Pos}{d m:bx}{S:List bx}{M:List l9}{Yk X4:cn}{i XT:en}{t:Option aB}
variable{I:List ab->List ab->List ab}{y:List ar->List ar->List ar}
end
structure nv(XW Xs:List aB)(i:hI):Prop where
 kind:i.kind=.function
 co:i.isCoroutine=au
 gen:i.isGenerator=au
 ag:XW.Nodup
 pre:XW.take Xs.length=Xs
 par:∀h∈Xs,i.names.lookup h=Z .local\/i.names.lookup h=Z .cell
 Ng:∀H∈i.names,H.2≠.free
theorem Gp{a:aB->Option dJ}{h:aB}:∀{binds:List (aB×ab)}{k:aB->Option ab},(∀u,(h,u)∉binds)->bindL a binds k h=k h
 |[],_,_=>rfl
 | (w,u)::s,k,c=>by
  unfold bindL;rw[Gp λl b=>c l<|lp _ b];split
  ·have:h≠w:=by rintro rfl;exact c u mA
   simp[this]
  ·rfl
theorem Hl{a:aB->Option dJ}{h:aB}:∀{binds:List (aB×ab)}{k:aB->Option ab},(∀u,(h,u)∉binds)->bindC a binds k h=k h
 |[],_,_=>rfl
 | (w,u)::s,k,c=>by
  unfold bindC;rw[Hl λl b=>c l<|lp _ b];split
  ·rfl
  ·have:h≠w:=by rintro rfl;exact c u mA
   simp[this]
theorem Gb{b:aB->Option dJ}{h:aB}{u:ab}:∀{Xs:List aB}{Xc:List ab}{a:Nat}{k:aB->Option ab},Xs.Nodup->Xs[a]?=Z h->Xc[a]?=Z u->b h=Z .local->
  bindL b (Xs.zip Xc) k h=Z u
 |[],_,_,_,_,c,_,_=>by simp at c
 |_::_,[],_,_,_,_,c,_=>by simp at c
 |o::Xs,l::Xc,0,k,ag,z,E,d=>by
  simp at z E;subst z;subst E;show bindL b ((o,l)::Xs.zip Xc) k o=_;unfold bindL;rw[Gp λu e=>(g5.mp ag).1 (pN e).1,aA d];simp
 |o::Xs,l::Xc,a+1,k,ag,z,E,d=>by
  show bindL b ((o,l)::Xs.zip Xc) k h=_;unfold bindL;exact Gb (a:=a) (g5.mp ag).2 (by simpa using z) (by simpa using E) d
theorem HU{b:aB->Option dJ}{h:aB}{u:ab}:∀{Xs:List aB}{Xc:List ab}{a:Nat}{k:aB->Option ab},Xs.Nodup->Xs[a]?=Z h->Xc[a]?=Z u->b h≠Z .local->
  bindC b (Xs.zip Xc) k h=Z u
 |[],_,_,_,_,c,_,_=>by simp at c
 |_::_,[],_,_,_,_,c,_=>by simp at c
 |o::Xs,l::Xc,0,k,ag,z,E,d=>by
  simp at z E;subst z;subst E;show bindC b ((o,l)::Xs.zip Xc) k o=_;unfold bindC;rw[Hl λu e=>(g5.mp ag).1 (pN e).1,aI d];simp
 |o::Xs,l::Xc,a+1,k,ag,z,E,d=>by
  show bindC b ((o,l)::Xs.zip Xc) k h=_;unfold bindC;exact HU (a:=a) (g5.mp ag).2 (by simpa using z) (by simpa using E) d
def k3(XW:List aB)(Xc:List ar):a3:=Xc.map Z++List.replicate (XW.length-Xc.length) Y
noncomputable def lW(Yr:kW)(Xs:bJ)(l:bc)(Xd:PySem.W.Frag)(aH:aB->Option ab)(Xv:aV)(XW:List aB)(Yi:aB)(XI:hI)(F:af)(a:ab)(O:bw)(R:List fu)(f:ah)(j:aw)(Xg:hc):aO where
 prog:=Xs
 w:=l
 K:=Xd
 aH:=aH
 base:=Xv
 A:=O.deeper (jF Yi XI f.heap.objs.size F a)
 N:=XW
 fo:=f
 pG:=j
 env:=jF Yi XI f.heap.objs.size F a
 outer:=R
 stack:=jF Yi XI f.heap.objs.size F a::R
 ex:=[]
 calm:=aa
 fn:=λ_=>aa
 lE:=[]
 cW:=λd Xe=>wpAny (aM Xs l) (O.deeper<|jF Yi XI f.heap.objs.size F a) (leaving (jF Yi XI f.heap.objs.size F a) d) (λ_ b=>Yr R j f Xg d b) (λc b=>Yr R j f Xg c b) Xe
theorem Hn{i:hI}(c:i.names.lookup h=Z .cell):∃n,(xY w i.names []).lookup h=Z n:=by
 have p:=I0 i.names w [] (.inl c);exact Di.mp p
theorem Qv{F:af}{m:ab}{R:List fu}{t:ah}{Xg:hc}(Xr:nv XW Xo XI)(hd:O.handled=Y)(b:tS Xs l Xd aH Xv O R f j)(D:Xc.length=Xo.length)(s:bY Xc XE)(h:InCallC f f.heap.objs.size (bindL (jF Yi XI f.heap.objs.size F m).kindOf (Xo.zip XE) λ_=>Y) (xY (f.heap.objs.size+1) XI.names []) (bindC (jF Yi XI f.heap.objs.size F m).kindOf (Xo.zip XE) λ_=>Y) t):
  aE (lW Yr Xs l Xd aH Xv XW Yi XI F m O R f j Xg) [] (k3 XW Xc) j t:=by
 have G:Xo.length<=XW.length:=by have:=congrArg List.length Xr.pre;rw[gv]at this;lia
 let⟨z,@XT,rfl,v⟩:=h.done;have r:∀e:af,e∉(lW Yr Xs l Xd aH Xv XW Yi XI F m O R f j Xg).ex:=λe C=>absurd (show e∈([]:List af) from C) (by simp);refine⟨⟨b.mod,Xr.kind,rfl,rfl,ba _,λH C n z E=>?_,λH i=>?_,λH n W c=>?_,λ_=>hd,bw.frames_deeper b.frames,.inr ⟨rfl,rfl⟩,λe C=>absurd C<|r e,b.bs,b.mx,λe W W=>r e,λe C=>absurd C<|r e,b.i0,b.oE⟩,
  rfl,b.bare,fG.kept v,⟨_,h.toInCall.ns,λa H u z E I=>?_⟩,λH n c=>⟨_,h.cell H n c⟩,b.aZ.fresh<|ba _,λH n c=>?_,λo k=>absurd (show o∈([]:List (af×a0)) from k) (by simp),b.aZ.kept v,?_⟩
 ·exact name_of_addr h.apart (PySem.mem_of_lookup z) (PySem.mem_of_lookup E)
 ·have i:XI.names.lookup H=Z .cell\/XI.names.lookup H=Z .free:=i;rcases i with i|i
  ·exact Hn i
  ·exact absurd rfl (Xr.Ng _<|PySem.mem_of_lookup i)
 ·exact lV (h.above H n<|PySem.mem_of_lookup c)
 ·have U:a<Xc.length:=by
   unfold k3 at E;by_cases U:a<Xc.length
   ·exact U
   ·rw[jS (by simpa using U)]at E;rw[List.getElem?_replicate]at E;split at E<;>cases E
  have A:Xc[a]?=Z u:=by
   unfold k3 at E;rw[kb (by simpa using U),dZ]at E;cases d:Xc[a]? with
   |none=>rw[d]at E;cases E
   |some g=>rw[d]at E;cases E;rfl
  let⟨@L,x,B⟩:=s.get A;have k:Xo[a]?=Z H:=by
   rw[<-Xr.pre,List.getElem?_take_of_lt ⋯];exact z
  have y:Xo.Nodup:=by rw[<-Xr.pre];exact Xr.ag.sublist (th _ _)
  refine⟨L,B,?_⟩;rcases Xr.par H (fH k) with q|q
  ·exact .inl ⟨q,Gb y k x q⟩
  ·let⟨@n,d⟩:=Hn (w:=f.heap.objs.size+1) q;refine .inr ⟨.inl q,n,d,?_⟩;have p:=h.cell H n d;rw[HU y k x (by show XI.names.lookup H≠_;rw[q];decide)]at p;exact p
 ·exact b.aZ.fresh (lV<|h.above H n<|PySem.mem_of_lookup c)
 ·unfold k3;show _=XW.length;rw[c7,a9,List.length_replicate];lia
theorem Pk{F:af}{name:aB}{k:Arguments}{n cG y XP C cx E:ab}{M z:Option af}{T:Array (Option ab)}{XB:m7}(lk:Xd.lookup F=Z ⟨E,z,.func<|PySem.W.fnOf name Yi k Yt XI n cG y XP M C cx,T⟩)(x:PySem.W.codeIn Xd C Yi=aa)(Xr:nv XW Xo XI)(len:∀Xc j B Xg,XB Xc j B Xg->Xc.length=Xo.length)(D:∀(O:bw) (R:List fu) (f:ah) (j:aw) (Xc:List ar) (B:cP) (Xg:hc),fk q (O.deeper<|jF Yi XI f.heap.objs.size F C)->XB Xc j B Xg->
   ∃i,ia (lW Yr Xs l Xd aH Xv XW Yi XI F C O R f j Xg) Yt i/\i {aS:=λ_ N=>B .aW N,dT:=B} (k3 XW Xc) j):
  iG Xs l Xd aH Xv Yr (q+1) F (PySem.W.fnOf name Yi k Yt XI n cG y XP M C cx) Xo XB:=by
 refine⟨len,λO R f j args XE Xc B Xg c a G s o=>?_⟩;have I:=len _ _ _ _ o;have r:Xd.In f.heap:=a.mod.y2.keeps λe m d=>(a.bs e m d).1;have J:f.heap.NoLimit:=a.mod.nolimit.keeps λe m d=>(a.bs e m d).1;have P:∀H∈Xo.zip XE,XI.names.lookup H.1=Z .local\/(XI.names.lookup H.1=Z .cell/\((xY (f.heap.objs.size+1) XI.names []).lookup H.1).isSome=aa):=λ⟨w,u⟩ Q=>by
  rcases Xr.par w (pN Q).1 with p|p
  ·exact .inl p
  ·exact .inr ⟨p,I0 _ _ _<|.inl p⟩
 refine codeAny_call_function c.depth (r _ _ lk) rfl Xr.co Xr.gen rfl (PySem.W.codeRec_of r x) (G _ _ _ _ ?_);refine wpAny_newFunctionEnv_cells Xr.kind P λXk S t h=>?_;subst S;refine⟨J.keeps h.toInCall.keep,codeAny_func ?_⟩;let⟨@i,bQ,U⟩:=D O R f j Xc B Xg (c.deeper _) o;have A:aE (lW Yr Xs l Xd aH Xv XW Yi XI F C O R f j Xg) [] (k3 XW Xc) j t:=Qv Xr c.hd a I s h;refine gT (bQ [] t (k3 XW Xc) j _ A U) (λaU Xe Xi=>?_) λd Xe Xi=>Xi;have v:∀{b:a3}{N:aw}{u:ar}{L:ab},aE (lW Yr Xs l Xd aH Xv XW Yi XI F C O R f j Xg) [] b N Xe->cq u L->B u N->Bf R Xs l j f B L Xe:=
  λ{b N u L} Yg g p=>⟨u,N,Yg.os,Yg.bare,Yg.base,Yg.aZ,g,p⟩;cases aU with
 |ret L=>
  let⟨u,b,@N,Yg,g,p⟩:=Xi;exact v Yg g p
 |next=>
  let⟨b,@N,Yg,p⟩:=Xi;exact v (u:=ar.aW) (L:=ab.none) Yg rfl p
 |brk=>
  let⟨K,@K,K,p⟩:=Xi;exact False.elim p
 |cont=>
  let⟨K,@K,K,p⟩:=Xi;exact False.elim p
section
variable{b:aO}{h:aB}{o Xu:Pos}{d:bx}{S:List bx}{i:en}{id T:String}{s:List ar->aw->cP->Prop}
def IG(s:List ar->aw->cP->Prop)(i:en):cn:=λD j B=>i D j λXc Xn=>s Xc Xn B
theorem EO(a:eK b (.builtin id) s)(e:dS b h)(g:b.aH h=Y)(k:eT h=Z (.builtin id))(l:gM b (d::S) i)(m:h ≠ "__name__" := by decide)(n:(h==("__debug__" : aB))=au:=by decide)(p:bL (d::S) b.env=(au,bZ d b.env)::bL S b.env:=by rfl)(q:(f3 Xu<|bL S b.env).any (·.1)=au:=by rfl):b6 b (.Call (.Name h o) (d::S) [] Xu) (IG s i):=by
 intro G f D j B A c;refine pE (jt A e g k ?_ m n);exact EW (cc (l Xu G f D j _ A c) λXE r ⟨Xc,Xn,t,u,v⟩=>a G r D Xn Xc XE B t u v) p q
theorem NG(a:eK b (.type T) s)(e:dS b h)(g:b.aH h=Y)(k:eT h=Z (.type T))(l:gM b (d::S) i)(m:h ≠ "__name__" := by decide)(n:(h==("__debug__" : aB))=au:=by decide)(p:bL (d::S) b.env=(au,bZ d b.env)::bL S b.env:=by rfl)(q:(f3 Xu<|bL S b.env).any (·.1)=au:=by rfl):b6 b (.Call (.Name h o) (d::S) [] Xu) (IG s i):=by
 intro G f D j B A c;refine pE (jt A e g k ?_ m n);exact mc (cc (l Xu G f D j _ A c) λXE r ⟨Xc,Xn,t,u,v⟩=>a G r D Xn Xc XE B t u v) p q
end
end L2
namespace dj
open PySem PyProof.Rows
variable{U R:Option Int}{C b5:ab}{aY i:af}{B:ab->ah->Prop}
theorem Tx(O:bw)(f:ah)(g:Int)(i:hO)(n:Int)(L:hO)(Xm:bJ)(l:bc)(Xg:ab->ah->Prop)(B:ab->ah->Prop)(c:B (.bool<|decide (g<n)) f):
  wpAny (aM Xm l) O (oK .Lt (.int g i)<|.int n L) B Xg f:=
 (LN c:wpAny (aM Xm l) O (eQ .Lt (.int g i)<|.int n L) B Xg f)
section
open PySem.SeqAt
open PySem.AutoSeq1 (wpAny_loadPart')
open PySem.MeetsSeq PySem.MeetsSeq2 PySem.MeetsSeq3
end
section
variable{Xm:bJ}{l:bc}{O:bw}{Xg:ab->ah->Prop}{f:ah}
theorem LS{e:af}{Xc a:List ab}(bQ:pg f.heap i Xc.toArray)(q:pg f.heap e a.toArray)(h:Xc≠[])(z:a=[]->B (.ref i) f)(E:a≠[]->B (.ref f.heap.objs.size) {f with heap:=f.heap.push {cls:=.type "tuple",data:=.seq (Xc++a).toArray} })(r:Xc.length+a.length<=sizeLine):wpAny (aM Xm l) O (gF .Add (.ref i)<|.ref e) B Xg f:=by
 let⟨@⟨cls,j,data,aY⟩,b,k,⟨@w,hd⟩⟩:=id bQ;let⟨@⟨s,m,data2,n⟩,c,o,⟨@Yq,p⟩⟩:=id q;simp only at k hd o p;subst k hd o p;have d:Xc.toArray++a.toArray=(Xc++a).toArray:=by simp
 by_cases g:a=[]
 ·exact yL ⟨_,b,rfl⟩ ⟨_,c,rfl⟩ zG yx y6 yC (xi _ _)
   (tuple_addW1 i e Xc.toArray a.toArray w Yq j m aY n (by simpa using h) (by simp[g])) ⟨b,c,z g⟩
 ·refine yL ⟨_,b,rfl⟩ ⟨_,c,rfl⟩ zG yx y6 yC (xi _ _)
   (tuple_addW2 i e Xc.toArray a.toArray w Yq j m aY n (by simpa using h) (by simpa using g) (by rw[cO,cO];exact r)) ⟨b,c,?_⟩;rw[d];exact E g
noncomputable def cu(w v:Nat):Option Int->Nat
 |none=>v
 |some u=>if u<0 then (u+(w:Int)).toNat else min u.toNat w
theorem Fo(w v:Nat):cu w v Y=v:=rfl
theorem BD(w v q:Nat):cu w v (Z (q:Int))=min q w:=by
 show (if (q:Int)<0 then ((q:Int)+(w:Int)).toNat else min (q:Int).toNat w)=min q w;rw[aI ⋯,kV]
theorem LA(w v:Nat)(hd:v<=w)(m:Option Int):cu w v m<=w:=by
 cases m with
 |none=>exact hd
 |some u=>
  show (if u<0 then (u+(w:Int)).toNat else min u.toNat w)<=w;by_cases a:u<0
  ·rw[aA a];lia
  ·rw[aI a];exact Nat.min_le_right _ _
theorem Ee(u:Int)(w v:Nat):(if u<0 then max (u+(w:Int)) 0 else min u (w:Int))=((cu w v (Z u):Nat):Int):=by
 show (if u<0 then max (u+(w:Int)) 0 else min u (w:Int))=(((if u<0 then (u+(w:Int)).toNat else min u.toNat w):Nat):Int);by_cases a:u<0
 ·simp only[aA a];lia
 ·simp only[aI a];lia
theorem MY(R U:Option Int)(w:Nat):aX.Slice.sliceAdjust R U 1 (w:Int)=(((cu w 0 R:Nat):Int),((cu w w U:Nat):Int)):=by
 have z:¬ ((1:Int)<0):=⋯
 unfold aX.Slice.sliceAdjust;simp only[z,fx];refine e2 ?_ ?_
 ·cases R with
  |none=>rfl
  |some u=>exact Ee u w 0
 ·cases U with
  |none=>rfl
  |some u=>exact Ee u w w
theorem Nj(a r:Nat):aX.Slice.slicePlaces (a:Int) (r:Int) 1=r-a:=by
 unfold aX.Slice.slicePlaces;have z:(1:Int)>0:=⋯
 simp only[z,ie,Int.ediv_one];split<;>lia
theorem Kw{u:ab}{m:Option Int}{B:Option Int->ah->Prop}(o:kY u m)(c:B m f):wpAny (aM Xm l) O (aX.Slice.slicePartIndex u) B Xg f:=by
 cases o with
 |none=>exact Ig c
 |int a i=>exact slicePart_int c
theorem Iw{w:Nat}{B:Int×Int×Nat->ah->Prop}(Xi:f.heap.IsSliceOf aY b5 C .none)(bo:kY b5 R)(d:kY C U)(c:B (((cu w 0 R:Nat):Int),1,cu w w U-cu w 0 R) f):wpAny (aM Xm l) O (aX.Slice.sliceApplied (.ref aY)<|pure (w:Int)) B Xg f:=by
 let⟨@Xw,a,e,b⟩:=id Xi;unfold aX.Slice.sliceApplied aX.Slice.sliceFields;refine ak (ak<|gd a b (x:=b5) rfl<|ak<|gd a b (x:=C) rfl<|ak<|gd a b (x:=.none) rfl<|aK ?_);refine ak (Ig ?_);show wpAny _ _ (if ((1:Int)==0)=aa then _ else _) _ _ f;rw[aI (by decide)];refine ak (Kw bo<|ak<|Kw d<|ak<|aK ?_);show wpAny _ _ (match aX.Slice.sliceAdjust R U 1 (w:Int) with|(R,U)=>pure (R,(1:Int),aX.Slice.slicePlaces R U 1)) _ _ f;rw[MY R U w];show wpAny _ _ (pure (((cu w 0 R:Nat):Int),(1:Int),aX.Slice.slicePlaces ((cu w 0 R:Nat):Int) ((cu w w U:Nat):Int) 1)) _ _ f;rw[Nj];exact aK c
theorem Q9(x:Array ab)(a q:Nat):((range q).filterMap λ(k:Nat)=>x[((a:Int)+(k:Int)*1).toNat]?).toArray=((x.toList.drop a).take q).toArray:=by
 have d:(λ(k:Nat)=>x[((a:Int)+(k:Int)*1).toNat]?)=λk=>x[a+k]?:=by
  funext k;have:((a:Int)+(k:Int)*1).toNat=a+k:=⋯
  rw[this]
 rw[d];have:=pick_run x a q;rw[List.filterMap_map]at this;have b:((λh=>x[h]?) ∘ λh=>a+h)=λk=>x[a+k]?:=rfl;rw[b]at this;rw[this]
theorem Ut{Xy:Array ab}(bQ:pg f.heap i Xy)(Xi:f.heap.IsSliceOf aY b5 C .none)(bo:kY b5 R)(b:kY C U)(d:¬ (cu Xy.size 0 R=0/\cu Xy.size Xy.size U=Xy.size))(c:B (.ref f.heap.objs.size) {f with heap:=f.heap.push {cls:=.type "tuple",data:=.seq ((Xy.toList.drop<|cu Xy.size 0 R).take<|cu Xy.size Xy.size U-cu Xy.size 0 R).toArray} })(m:Xy.size<=sizeLine):wpAny (aM Xm l) O (nA (.ref i)<|.ref aY) B Xg f:=by
 have a:sizeOk (.seq ((Xy.toList.drop<|cu Xy.size 0 R).take<|cu Xy.size Xy.size U-cu Xy.size 0 R).toArray):=by
  show ((Xy.toList.drop<|cu Xy.size 0 R).take<|cu Xy.size Xy.size U-cu Xy.size 0 R).toArray.size<=sizeLine;rw[cO,gv,e4,dr];lia
 have n:cu Xy.size Xy.size U<=Xy.size:=LA _ _ (ba _) U;let⟨@Xw,e,g,o⟩:=id Xi;have h:f.TypeIs (.ref aY) "slice" := ⟨Xw,e,g⟩;unfold nA;try with_reducible refine fl ?_
 first|refine ak (aK ?_)|skip
 refine ak (FT bQ.typeIs (by decide) ?_);refine ak (lK (name:=aB.ofString "__getitem__") bQ.typeIs qJ
  (hA qJ bQ.typeIs JH ?_<|JN _ _));show wpAny _ _ (aX.Tuple.tupleItemsOf (.ref i) >>= _) _ _ f;refine ak (Jt bQ ?_);refine ak (wpAny_typeOf h ?_);rw[aA (by decide)];refine ak (Iw Xi bo b ?_);have j:¬ ((((cu Xy.size 0 R:Nat):Int)==0&&(1:Int)==1&&(cu Xy.size Xy.size U-cu Xy.size 0 R)==Xy.size)=aa):=by
  intro p;rw[cU,cU]at p;have q:((cu Xy.size 0 R:Nat):Int)=0:=eq_of_beq p.1.1;have r:cu Xy.size Xy.size U-cu Xy.size 0 R=Xy.size:=eq_of_beq p.2;exact d ⟨⋯,⋯⟩
 show wpAny _ _ (if (((cu Xy.size 0 R:Nat):Int)==0&&(1:Int)==1&&(cu Xy.size Xy.size U-cu Xy.size 0 R)==Xy.size)=aa then _ else _) _ _ f;rw[aI j,Q9];first
  | exact ak (m:=aX.Tuple.tupleExact _) (gh (aK ⟨_,rfl,aK c⟩) a)
  | exact ak (m:=aX.Tuple.tupleExact _) (gh (ak<|aK<|aK ⟨_,rfl,aK c⟩) a)
  | exact ak (ak (m:=aX.Tuple.tupleExact _)<|gh (aK<|aK ⟨_,rfl,aK c⟩) a)
  | exact ak (ak (m:=aX.Tuple.tupleExact _)<|gh (aK ⟨_,rfl,aK c⟩) a)
end
end dj
namespace L2
open PySem PySem.Spec PyProof.Rows
variable{M:aV}{B:ab->ah->Prop}{N j:aw}{Xt:List (List V×ar)}{l:bc}{Xs:bJ}{m:Option ar}{XM w:Nat}{y Xq:List ab}{o:af}{f:ah}{D:a3}{G:List (af×a0)}{s:b4}{a:Int}{x:List (List V×af×ab)}
abbrev bD:=a3->aw->(Option Int->aw->Prop)->Prop
def Js(b:aO)(d:Option bx)(i:bD)(G:List (af×a0)):Prop:=
 ∀(f:ah) (D:a3) (j:aw) (B:Option Int->aw->Prop),aE b G D j f->i D j B->
  wpAny (aM b.prog b.w) b.A (evalPart d b.env) (λL Xe=>∃m N,aE b G D N Xe/\kY L m/\B m N) b.cW f
def rn(b:aO)(d:Option bx)(i:bD):Prop:=∀G,Js b d i G
def SD:bD:=λ_ j B=>B Y j
def QH(i:cn):bD:=λD j B=>i D j λh Xn=>∃a,h=.int a/\B (Z a) Xn
section
variable{b:aO}{d:bx}{Yk:cn}{R U:Option bx}{Yz k:bD}{Xu XZ:Pos}
theorem Ww:rn b Y SD:=by
 intro G f D j B A c;rw[GP];exact aK ⟨Y,j,A,.none,c⟩
theorem QS(c:b6 b d Yk):rn b (Z d) (QH Yk):=by
 intro G f D j B A e;rw[evalPart_some];refine cc (c G f D j _ A e) λL n g=>?_;let⟨h,@Xn,k,l,m⟩:=g;let⟨@a,rfl,p⟩:=m;let⟨@i,rfl⟩:=l;exact⟨Z a,Xn,k,.int a i,p⟩
def sE(b:aO)(s:ar->Option Int->Option Int->aw->cP->Prop):Prop:=
 ∀(G:List (af×a0)) (f:ah) (D:a3) (j:aw) (h:ar) (u b5 C:ab) (R U:Option Int) (aY:af) (B:cP),aE b G D j f->cq h u->f.heap.IsSliceOf aY b5 C .none->kY b5 R->kY C U->s h R U j B->
  ∃T id,n4 (.type T) "__getitem__" = pure (Z<|.builtin id)/\f.TypeIs u T/\wpAny (aM b.prog b.w) b.A (nA u<|.ref aY) (eM b G D B) b.cW f
noncomputable def VG(s:ar->Option Int->Option Int->aw->cP->Prop)(Yk:cn)(Yz k:bD):cn:=λD j B=>Yk D j λh Xn=>Yz D Xn λt XD=>k D XD λL a=>s h t L a B
theorem Tc{s:ar->Option Int->Option Int->aw->cP->Prop}(m:sE b s)(n:b6 b d Yk)(o:rn b R Yz)(q:rn b U k):b6 b (.Subscript d (.Slice R U Y XZ) Xu) (VG s Yk Yz k):=by
 intro G f D j B A c;refine Subscript_ (cc (n G f D j _ A c) λu r g=>?_);let⟨h,@Xn,v,x,y⟩:=g;refine wpAny_Slice (cc (o G r D Xn _ v y) λb5 z ⟨t,XD,E,bo,F⟩=>cc (q G z D XD _ E F) λC a g=>?_);let⟨L,@i,H,I,J⟩:=g;rw[GP];refine aK ?_;have M:aE b G D i {a with heap:=a.heap.push {cls:=.type "slice",data:=.fields #[b5,C,.none]} }:=H.kept (XM:=a.toks) λe Q p=>bH _ p;let⟨T,@id,N,bQ,P⟩:=m G {a with heap:=a.heap.push {cls:=.type "slice",data:=.fields #[b5,C,.none]} } D i h u b5 C t L a.heap.objs.size B M x (aV.IsSliceOf.new ..) bo I J;show wpAny (aM b.prog b.w) b.A (FH d (.Slice R U Y XZ) u<|.ref a.heap.objs.size) (eM b G D B) b.cW {a with heap:=a.heap.push {cls:=.type "slice",data:=.fields #[b5,C,.none]} };exact xC (ops:=[.ref a.heap.objs.size,u]) bQ N P (by with_unfolding_all rfl)
noncomputable def mQ(x:List ar)(R U:Option Int):List ar:=(x.drop<|dj.cu x.length 0 R).take (dj.cu x.length x.length U-dj.cu x.length 0 R)
theorem CE(x:List ar)(R U:Option Int):(mQ x R U).length<=x.length:=by
 unfold mQ;rw[gv,e4];lia
def MX(Xd:PySem.W.Frag):ar->Option Int->Option Int->aw->cP->Prop:=λh R U j B=>∃g x,h=.ref g/\cH Xd j g x/\
 ¬ (dj.cu x.length 0 R=0/\dj.cu x.length x.length U=x.length)/\∀o,j o=Y->B (.ref o) (upd j o<|.tup<|mQ x R U)
theorem LL:sE b (MX b.K):=by
 intro G f D j h u b5 C R U aY B A i Xi bo k c;let⟨g,@x,rfl,l,n,p⟩:=c;cases i;let⟨@Xq,s,bQ,d⟩:=A.tuple l;have a:Xq.toArray.size=x.length:=by rw[cO];exact s.length.symm
 refine⟨"tuple",_,qJ.lookup,bQ.typeIs,?_⟩;refine dj.Ut bQ Xi bo k (by rw[a];exact n) ?_ (by rw[a];exact d);rw[a];refine⟨.ref f.heap.objs.size,_,A.laid (XM:=f.toks) (m:=.tup (mQ x R U)) (λe o p=>bH _ p) (ba _) ?_,rfl,p _<|A.aZ.fresh<|ba _⟩;exact⟨e0 (CE x R U) d,_,(s.drop<|dj.cu x.length 0 R).take<|dj.cu x.length x.length U-dj.cu x.length 0 R,nJ.new _ _⟩
def Tz(Xd:PySem.W.Frag):b4:=λh H j B=>∃g e x Xp,h=.ref g/\H=.ref e/\cH Xd j g x/\cH Xd j e Xp/\x≠[]/\x.length+Xp.length<=sizeLine/\
 (Xp=[]->B (.ref g) j)/\(Xp≠[]->∀o,j o=Y->B (.ref o) (upd j o<|.tup<|x++Xp))
theorem bY.u9{x:List ar}{XE:List ab}(s:bY x XE):XE=[]↔x=[]:=by
 cases s with
 |nil=>simp
 |cons _ _=>simp
theorem Nb:d8 b (gF .Add) (Tz b.K):=by
 intro G f D j h H u L B A k n c;let⟨g,e,x,@Xp,rfl,rfl,o,q,r,i,s,t⟩:=c;cases k;cases n;let⟨@Xq,d,v,W⟩:=A.tuple o;let⟨@w,a,XZ,W⟩:=A.tuple q;refine dj.LS v XZ (λC=>r<|d.u9.mp C) (λC=>⟨.ref g,j,A,rfl,s<|a.u9.mp C⟩) (λC=>?_) (by rw[<-d.length,<-a.length];exact i);refine⟨.ref f.heap.objs.size,_,A.laid (XM:=f.toks) (m:=.tup (x++Xp)) (λe y p=>bH _ p) (ba _) ?_,rfl,t (λl=>C<|a.u9.mpr l) _<|A.aZ.fresh<|ba _⟩;exact⟨by rw[c7];exact i,_,d.append a,nJ.new _ _⟩
end
noncomputable def l6(w:Nat)(a:Int):Option Nat:=if 0<=a then (if a<w then Z a.toNat else Y) else if -(w:Int)<=a then Z (a+w).toNat else Y
def dV{Xx:Type}(x:List Xx)(a:Int):Option Xx:=(l6 x.length a).bind λr=>x[r]?
theorem ET{r:Nat}(c:l6 w a=Z r):xa a w=Z r/\r<w /\ -(w:Int)<=a/\a<w:=by
 unfold l6 at c;by_cases b:0<=a
 ·rw[aA b]at c;by_cases z:a<w
  ·rw[aA z]at c;have d:a.toNat=r:=Option.some.inj c;exact⟨by rw[vO b z,d],⋯,⋯,z⟩
  ·rw[aI z]at c;cases c
 ·rw[aI b]at c;by_cases z : -(w:Int)<=a
  ·rw[aA z]at c;have d:(a+w).toNat=r:=Option.some.inj c;exact⟨by rw[yU ⋯ z,d],⋯,z,⋯⟩
  ·rw[aI z]at c;cases c
theorem Cc{Xx:Type}{x:List Xx}{u:Xx}(c:dV x a=Z u):∃r,xa a x.length=Z r/\x[r]?=Z u/\r<x.length /\ -(x.length:Int)<=a/\a<x.length:=by
 unfold dV at c;cases d:l6 x.length a with
 |none=>rw[d]at c;cases c
 |some r=>
  rw[d]at c;let@⟨z,E,b,e⟩:=ET d;exact⟨r,z,c,E,b,e⟩
def vC(e:bx):Prop:=∀m a,subscripted e au m a=operate [m,a] (nA m a)
def iz(b:aO)(s:b4):Prop:=
 ∀(k a:bx) (G:List (af×a0)) (f:ah) (D:a3) (j:aw) (h H:ar) (u L:ab) (B:cP),aE b G D j f->cq h u->cq H L->s h H j B->
  subscripted a au u L=operate [u,L] (nA u L)->wpAny (aM b.prog b.w) b.A (FH k a u L) (eM b G D B) b.cW f
def wN(b:aO)(id:String)(s:ar->List ar->aw->cP->Prop):Prop:=
 ∀(G:List (af×a0)) (f:ah) (D:a3) (j:aw) (h:ar) (x:List ar) (u:ab) (XE:List ab) (B:cP),aE b G D j f->cq h u->bY x XE->s h x j B->
  wpAny (aM b.prog b.w) b.A (call (.builtin id) (u::XE)) (eM b G D B) b.cW f
section
variable{b:aO}{g e:bx}{X4 Ym:cn}{Xu:Pos}
theorem iz.or{X9:b4}(c:iz b s)(M:iz b X9):iz b (λh H j B=>s h H j B\/X9 h H j B):=by
 intro k a G f D j h H u L B A d e p Xi;rcases p with p|p
 ·exact c k a G f D j h H u L B A d e p Xi
 ·exact M k a G f D j h H u L B A d e p Xi
theorem Ow(a:iz b s)(d:b6 b g X4)(i:b6 b e Ym)(Xi:vC e):b6 b (.Subscript g e Xu) (vS s X4 Ym):=by
 intro G f D j B A c;exact Subscript_ (xp d i A c λu L k h H XD l m n p=>a g e G k D XD h H u L B l m n p<|Xi _ _)
def QE(Xd:PySem.W.Frag):b4:=λh H j B=>∃o x a u,h=.ref o/\H=.int a/\df Xd j o x/\dV x a=Z u/\B u j
def Ov(Xd:PySem.W.Frag):b4:=λh H j B=>∃o x a u,h=.ref o/\H=.int a/\cH Xd j o x/\dV x a=Z u/\B u j
theorem Wt:iz b (QE b.K):=by
 intro k J G f D j h H u L B A n q c Xi;let⟨o,x,a,@C,rfl,rfl,t,v,p⟩:=c;cases n;let⟨@i,rfl⟩:=q;let⟨@Xq,s,bo,M⟩:=A.list t;let⟨@r,z,E,N,w,y⟩:=Cc v;let⟨@l,e,F⟩:=s.get E;have I:=s.length;have O:=oq;have g:eM b G D B l f:=⟨C,j,A,F,p⟩;by_cases m:0<=a
 ·have d:a.toNat=r:=by
   rw[vO m y]at z;exact Option.some.inj z
  exact item_listR bo.isList m ⋯ (by rw[d];simpa using e) g Xi
 ·have d:(a+(Xq.toArray.size:Int)).toNat=r:=by
   rw[yU ⋯ w]at z;rw[cO,<-I];exact Option.some.inj z
  exact BX (x:=l) bo.isList.typeIs CK.lookup
   (wpAny_getItem_list_neg (Q:=λs Xe=>s=l/\eM b G D B s Xe) bo.isList ⋯ (by rw[cO]<;>lia) ⋯ (by rw[d];simpa using e) ⟨rfl,g⟩) Xi
theorem EP:iz b (Ov b.K):=by
 intro k w G f D j h H u L B A d e c Xi;let⟨o,x,a,@C,rfl,rfl,g,m,p⟩:=c;cases d;let⟨@i,rfl⟩:=e;let⟨@Xq,s,bo,y⟩:=A.tuple g;let⟨@r,z,E,F,I,J⟩:=Cc m;let⟨@l,n,q⟩:=s.get E;have t:=s.length;have M:=oq;have v:eM b G D B l f:=⟨C,j,A,q,p⟩;exact BX (x:=l) bo.typeIs slot_tuple_getitem.lookup
  (getItem_tuple (j:=r) (Q:=λs Xe=>s=l/\eM b G D B s Xe) bo ⋯ ⋯ (by rw[cO,<-t];exact z) (by simpa using n) ⟨rfl,v⟩) Xi
theorem SU(Xq:List ab)(w r:Nat)(L:ab):a0.mapSeq (·.setIfInBounds r L) {cls:=.type "list",data:=.seq Xq.toArray w}={cls:=.type "list",data:=.seq (Xq.set r L).toArray w}:=by
 simp[a0.mapSeq]
variable{x:List ar}
theorem aE.lst(A:aE b G D j f)(c:j o=Z (.lst x)):
  ∃(Xq:List ab) (w:Nat),bY x Xq/\f.heap.get? o=Z {cls:=.type "list",data:=.seq Xq.toArray w}/\x.length<=sizeLine:=by
 let@⟨C,⟨Xq,@w,s,d⟩⟩:=A.aZ o _ c;exact⟨Xq,w,s,d,C⟩
theorem aE.Vu{Xp:List ar}{a:Nat}{F:a0->a0}(A:aE b G D j f)(c:j o=Z (.lst x))(k:f.heap.get? o=Z {cls:=.type "list",data:=.seq Xq.toArray w})(g:F {cls:=.type "list",data:=.seq Xq.toArray w}={cls:=.type "list",data:=.seq y.toArray a})(s:bY Xp y)(l:Xp.length<=sizeLine)(i:Nat):
  aE b G D (upd j o<|.lst Xp) {f with heap:=f.heap.update o F,toks:=i}:=by
 have d:(f.heap.update o F).get? o=Z {cls:=.type "list",data:=.seq y.toArray a}:=by
  rw[jq F k (by rw[g]<;>rfl),g]
 refine A.write (h:=o) (d:=o) (by rw[c];trivial) (.inl rfl) (λe L m p=>(gw _ _<|eN m).trans p) ⟨_,d⟩ ?_;exact⟨l,y,a,s,d⟩
def U1:ar->ar->ar->aw->(aw->Prop)->Prop:=λm a u j B=>∃o x q r,m=.ref o/\a=.int q/\j o=Z (.lst x)/\l6 x.length q=Z r/\B (upd j o<|.lst<|x.set r u)
theorem We:Bx b U1:=by
 intro G f D j m a u I J L B A k y C c;let⟨o,x,q,@r,rfl,rfl,h,F,p⟩:=c;cases k;let⟨@i,rfl⟩:=y;let⟨Xq,@w,s,d,H⟩:=A.lst h;let@⟨z,E,l,n⟩:=ET F;have e:=s.length;have M:=oq;have t:aE b G D (upd j o<|.lst<|x.set r u) {f with heap:=f.heap.update o (a0.mapSeq (·.setIfInBounds r L))}:=
  A.Vu h d (SU Xq w r L) (s.set C r) (by rw[we];exact H) f.toks;by_cases v:0<=q
 ·have g:q.toNat=r:=by
   rw[vO v n]at z;exact Option.some.inj z
  exact PySem.W.ki_setAt d v ⋯ (by rw[cO,<-e];exact n) (by rw[g];exact⟨_,t,p⟩)
 ·have g:(q+(Xq.toArray.size:Int)).toNat=r:=by
   rw[yU ⋯ l]at z;rw[cO,<-e];exact Option.some.inj z
  exact PySem.W.ki_setBack d ⋯ (by rw[cO,<-e];exact l) ⋯ (by rw[g];exact⟨_,t,p⟩)
theorem R2(R U:Option Int)(w:Nat):(nW R U Y w).1=((dj.cu w 0 R:Nat):Int)/\(nW R U Y w).2.1=((dj.cu w w U:Nat):Int)/\(nW R U Y w).2.2=1:=by
 refine⟨?_,?_,rfl⟩
 ·cases R with
  |none=>simp[nW,dj.cu]
  |some a=>
   simp only[nW,dj.cu,IL,show (1:Int)>0 by decide,ie];by_cases c:a<0
   ·simp only[c,ie]<;>lia
   ·simp only[c,fx]<;>lia
 ·cases U with
  |none=>simp[nW,dj.cu]
  |some a=>
   simp only[nW,dj.cu,IL,show (1:Int)>0 by decide,ie];by_cases c:a<0
   ·simp only[c,ie]<;>lia
   ·simp only[c,fx]<;>lia
theorem Sg(Xq:List ab)(R U:Option Int):slicePick Xq.toArray R U Y=((Xq.drop<|dj.cu Xq.length 0 R).take<|dj.cu Xq.length Xq.length U-dj.cu Xq.length 0 R).toArray:=by
 let@⟨z,E,a⟩:=R2 R U Xq.toArray.size;unfold slicePick;rw[z,E,a];simp only[sliceRange_one,pick_run,cO]<;>rfl
def NJ(Xd:PySem.W.Frag):ar->Option Int->Option Int->aw->cP->Prop:=λh R U j B=>∃g x,h=.ref g/\df Xd j g x/\∀o,j o=Y->B (.ref o) (upd j o<|.lst<|mQ x R U)
theorem IK:sE b (NJ b.K):=by
 intro G f D j h u b5 C R U aY B A a Xi bo d c;let⟨g,@x,rfl,i,p⟩:=c;cases a;let⟨@Xq,s,bQ,k⟩:=A.list i;have l:=s.length;refine⟨"list",_,CK.lookup,bQ.isList.typeIs,?_⟩;refine wpAny_getItem_list_slice bQ.isList Xi bo d .none (by simp) ?_ (by rw[cO]<;>lia);rw[Sg,<-l];refine⟨.ref f.heap.objs.size,_,A.laid (XM:=f.toks) (m:=.lst (mQ x R U)) (λe n p=>bH _ p) (ba _) ?_,rfl,p _<|A.aZ.fresh<|ba _⟩;exact⟨e0 (CE x R U) k,_,0,(s.drop<|dj.cu x.length 0 R).take<|dj.cu x.length x.length U-dj.cu x.length 0 R,cI _ rfl⟩
theorem Sl:eK b (.builtin "len") (λx j B=>∃o Xp,x=[.ref o]/\(df b.K j o Xp\/cH b.K j o Xp)/\B (.int Xp.length) j):=by
 intro G f D j x XE B A s c;let⟨o,@Xp,rfl,a,p⟩:=c;let⟨@L,rfl,e⟩:=hK s;cases e;have h:=oq;rcases a with a|a
 ·let⟨@Xq,X9,bo,g⟩:=A.list a;have d:=X9.length;exact Calls.call_len_list bo.isList (by simp only[cO]<;>lia) ⟨.int Xp.length,j,A.tok _,⟨f.toks+1,by rw[cO,d]⟩,p⟩
 ·let⟨@Xq,X9,bo,g⟩:=A.tuple a;have d:=X9.length;exact len_tuple bo (by simp only[cO]<;>lia) ⟨.int Xp.length,j,A.tok _,⟨f.toks+1,by rw[cO,d]⟩,p⟩
theorem M5:eK b (.builtin "len") (λx j B=>∃C,x=[.str C]/\C.length<=sizeLine/\B (.int C.length) j):=by
 intro G f D j x XE B A s c;let⟨@C,rfl,a,p⟩:=c;let⟨@L,rfl,⟨@i,rfl⟩⟩:=hK s;have d:=oq;exact len_str ⋯ ⟨.int C.length,j,A.tok _,⟨_,rfl⟩,p⟩
theorem eK.or{F:ab}{s X9:List ar->aw->cP->Prop}(c:eK b F s)(M:eK b F X9):eK b F (λx j B=>s x j B\/X9 x j B):=by
 intro G f D j x XE B A O p;rcases p with p|p
 ·exact c G f D j x XE B A O p
 ·exact M G f D j x XE B A O p
theorem QT:eK b (.type "list") (λx j B=>∃o Xp,x=[.ref o]/\(df b.K j o Xp\/cH b.K j o Xp)/\∀t,j t=Y->B (.ref t) (upd j t<|.lst Xp)):=by
 intro G f D j x XE B A s c;let⟨o,@Xp,rfl,g,p⟩:=c;let⟨@L,rfl,q⟩:=hK s;cases q;have n:∀(Xq:List ab),bY Xp Xq->Xp.length<=sizeLine->∀(M:aV) (a:Nat),(∀e R,f.heap.get? e=Z R->M.get? e=Z R)->
   M.get? f.heap.objs.size=Z {cls:=.type "list",dict:=Y,data:=.seq Xq.toArray a,slots:=#[]}->eM b G D B (.ref f.heap.objs.size) {f with heap:=M}:=λXq X9 h M a c5 d=>
  ⟨.ref f.heap.objs.size,_,A.laid (XM:=f.toks) c5 (ba _)<|show ep b.prog b.w _ M _ (.lst Xp) from ⟨h,Xq,a,X9,d⟩,rfl,p _<|A.aZ.fresh<|ba _⟩;rcases g with g|g
 ·let⟨@Xq,X9,bo,h⟩:=A.list g;have r:=X9.length;let⟨@m,i,k,⟨@w,hd⟩⟩:=bo.isList;exact CN o (.inl rfl) i k hd (λM a c5 d=>n Xq X9 h M a c5 d) (by simp only[cO]<;>lia)
 ·let⟨@Xq,X9,bo,h⟩:=A.tuple g;have r:=X9.length;let⟨@m,i,k,⟨@w,hd⟩⟩:=bo;exact CN o (.inr rfl) i k hd (λM a c5 d=>n Xq X9 h M a c5 d) (by simp only[cO]<;>lia)
theorem Vd:eK b (.type "tuple") (λx j B=>∃o Xp,x=[.ref o]/\((df b.K j o Xp/\∀t,j t=Y->B (.ref t) (upd j t<|.tup Xp))\/(cH b.K j o Xp/\B (.ref o) j))):=by
 intro G f D j x XE B A s c;let⟨o,@Xp,rfl,c⟩:=c;let⟨@L,rfl,i⟩:=hK s;cases i;rcases c with ⟨a,p⟩|⟨a,p⟩
 ·let⟨@Xq,X9,bo,g⟩:=A.list a;have n:=X9.length;refine call_tuple_list bo.isList (λM c5=>?_) (by simp only[cO]<;>lia);have h:aE b G D j {f with heap:=M}:=A.kept (XM:=f.toks) c5;have k:aE b G D (upd j M.objs.size<|.tup Xp) {f with heap:=M.push {cls:=.type "tuple",data:=.seq Xq.toArray} }:=
   h.laid (XM:=f.toks) (λe m d=>bH _ d) (ba _) (show ep b.prog b.w _ _ _ (.tup Xp) from ⟨g,Xq,X9,nJ.new _ _⟩);exact⟨.ref M.objs.size,_,k,rfl,p _<|h.aZ.fresh<|ba _⟩
 ·let⟨@Xq,X9,bo,g⟩:=A.tuple a;exact call_tuple_same bo ⟨.ref o,j,A,rfl,p⟩
def qj(Xd:PySem.W.Frag)(T:String)(h:ar)(j:aw):Prop:=match h with
 |.str _=>T = "str"
 |.int _=>T = "int"
 |.ref o=>(T = "list" /\ ∃x,df Xd j o x)\/(T = "tuple" /\ ∃m,Xd.lookup o=Z m/\m.cls=.type "tuple" /\ m.dict=Y)\/
   (T = "dict" /\ ((∃Xt,j o=Z (.dQ Xt))\/∃Xt,j o=Z (.a_ Xt)))\/(T = "set" /\ ∃Xr w,j o=Z (.set Xr w))
 |_=>False
theorem MP{T:String}{h:ar}{u:ab}(A:aE b G D j f)(s:cq h u)(ty:qj b.K T h j):
  f.TypeIs u T/\∀g,u=.ref g->∃k,f.heap.get? g=Z k/\k.dict=Y:=by
 cases h with
 |str C=>
  let⟨@i,rfl⟩:=s;cases (show T = "str" from ty);exact⟨typeIs_str f C i,λ_ d=>nomatch d⟩
 |int a=>
  let⟨@i,rfl⟩:=s;cases (show T = "int" from ty);exact⟨typeIs_int f a i,λ_ d=>nomatch d⟩
 |ref o=>
  cases s;rcases ty with ⟨rfl,x,l⟩|⟨rfl,m,c,p,hd⟩|⟨rfl,c⟩|⟨rfl,Xr,w,c⟩
  ·let⟨@Xq,W,bo,W⟩:=A.list l;refine⟨bo.isList.typeIs,λg d=>?_⟩;cases d;let⟨m,@w,d,n,hd,W⟩:=bo;exact⟨m,d,hd⟩
  ·refine⟨⟨m,A.nV o m c,p⟩,λg d=>?_⟩;cases d;exact⟨m,A.nV _ m c,hd⟩
  ·have C:∃m,f.heap.get? o=Z m/\m.ExactDict:=by
    rcases c with ⟨Xt,c⟩|⟨Xt,c⟩
    ·let@⟨_,_,⟨@_,_,⟨m,_,@_,d,J,_⟩⟩⟩:=A.aZ o _ c;exact⟨m,d,J⟩
    ·let@⟨_,_,⟨@_,_,⟨m,_,@_,d,J,_⟩⟩⟩:=A.aZ o _ c;exact⟨m,d,J⟩
   let⟨@m,d,J⟩:=C;refine⟨⟨m,d,J.1⟩,λg e=>?_⟩;cases e;exact⟨m,d,J.2.1⟩
  ·let⟨m,W,W,@W,d,J,W⟩:=A.aZ o _ c;refine⟨⟨m,d,J.1⟩,λg e=>?_⟩;cases e;exact⟨m,d,J.2.1⟩
 |_=>exact False.elim ty
noncomputable def KX(Xd:PySem.W.Frag)(T:String)(s:ar->List ar->aw->cP->Prop)(k:cn)(i:en):cn:=λD j B=>k D j λh Xn=>qj Xd T h Xn/\i D Xn λx XD=>s h x XD B
variable{m d:bx}{S:List bx}{k:cn}{i:en}{name:aB}{Q q:Pos}{T id:String}{s:ar->List ar->aw->cP->Prop}
theorem VL(bM:PlainAttrs T)(Yp:Slot T name id)(n:ud (.builtin id)=pure (.type "method_descriptor"))(o:wN b id s)(p:b6 b m k)(r:gM b (d::S) i)(t:wI m name b.env (bZ m b.env)=bZ m b.env:=by rfl)(v:((f3 q<|bL (d::S) b.env).all (λh=>!h.1)&&(uQ q<|wX [] b.env).all (λh=>h.1.isSome)
   && decide ((d::S).length+([]:List l9).length+(if ([]:List l9).isEmpty then 0 else 1)<30))=aa:=by rfl)(w:(Q.endLine==q.line)=aa:=by rfl)(Xi:bL (d::S) b.env=(au,bZ d b.env)::bL S b.env:=by rfl)(x:(f3 q<|bL S b.env).any (·.1)=au:=by rfl):
  b6 b (.Call (.Attribute m name Q) (d::S) [] q) (KX b.K T s k i):=by
 intro G f D j B A c;refine Fe t v w rfl (cc (p G f D j _ A c) λu y a=>?_);let⟨h,@Xn,e,g,ty,C⟩:=a;let@⟨z,E⟩:=MP e g ty;refine⟨T,id,bM,Yp,n,z,E,?_⟩;have l:=r q G y D Xn _ e C;rw[Xi]at l ⊢;refine D9 (by show (au || (f3 q<|bL S b.env).any (·.1))=au;rw[x]<;>rfl) (Kc ?_);refine cc l λXE F a=>?_;let⟨Xc,@XD,H,I,J⟩:=a;exact o G F D XD h Xc u XE B H g I J
end
def Aq(b:aO)(id:String)(s:ar->List ar->aw->cP->Prop):Prop:=
 ∀(G:List (af×a0)) (f:ah) (D:a3) (j:aw) (h:ar) (x:List ar) (u:ab) (XE:List ab) (B:cP),aE b G D j f->cq h u->bY x XE->s h x j B->
  wpAny (aM b.prog b.w) b.A (call (.builtin id) (u::XE)) (eM b G D B) b.cW f
theorem bY.one:∀{h:ar}{XE:List ab},bY [h] XE->∃L,XE=[L]/\cq h L
 |_,_,.cons s .nil=>⟨_,rfl,s⟩
theorem bY.eraseIdx:∀{x:List ar}{XE:List ab} (a:Nat),bY x XE->bY (x.eraseIdx a) (XE.eraseIdx a)
 |_,_,_,.nil=>.nil
 |_,_,0,.cons _ i=>i
 |_,_,a+1,.cons s i=>.cons s (bY.eraseIdx a i)
theorem CD{Xx:Type}:∀(t:List Xx) (a:Nat),(t.eraseIdx a).length<=t.length
 |[],_=>ba _
 |_::_,0=>zi _
 |_::s,a+1=>Nat.succ_le_succ (CD s a)
section
variable{b:aO}{G:List (af×a0)}{D:a3}{j:aw}{f:ah}{t e:af}{x Xp Q:List ar}
theorem aE.xk{F:Array ab->Array ab}(A:aE b G D j f)(a:j t=Z (.lst x))(d:f.heap.get? t=Z {cls:=.type "list",data:=.seq Xq.toArray w})(c:F Xq.toArray=y.toArray)(e:bY Xp y)(g:Xp.length<=sizeLine):
  aE b G D (upd j t<|.lst Xp) {f with heap:=f.heap.update t (a0.mapSeq F),toks:=XM}:=by
 have p:=E2 d F;rw[c]at p;refine A.write (h:=t) (d:=t) (by rw[a];exact trivial) (.inl rfl) (λl L i k=>(gw f.heap (a0.mapSeq F)<|eN i).trans k) ⟨_,p⟩ ?_;exact⟨g,y,_,e,p⟩
theorem aE.NR(A:aE b G D j f)(a:bY Xp Xq)(c:Xp.length<=sizeLine):
  aE b G D (upd j f.heap.objs.size<|.lst Xp) {f with heap:=f.heap.push {cls:=.type "list",data:=.seq Xq.toArray},toks:=XM}:=
 A.laid (λ_ W p=>bH _ p) (ba _) ⟨c,Xq,0,a,cI _ rfl⟩
theorem aE.fresh(A:aE b G D j f):j f.heap.objs.size=Y:=A.aZ.fresh (ba _)
theorem aE.ib(A:aE b G D j f)(a:j t=Z (.lst x)):x.length<=sizeLine/\∃(Xq:List ab) (w:Nat),bY x Xq/\x.length=Xq.length/\f.heap.get? t=Z {cls:=.type "list",data:=.seq Xq.toArray w}:=by
 let@⟨C,⟨Xq,@w,s,d⟩⟩:=A.aZ t _ a;exact⟨C,Xq,w,s,s.length,d⟩
theorem Ox(c:w<=sizeLine):aX.List.listTooLong w=au:=by
 unfold aX.List.listTooLong;exact d3 ⋯
end
section
variable{b:aO}
def Od:ar->List ar->aw->cP->Prop:=λh Xc j B=>∃t x H,h=.ref t/\Xc=[H]/\j t=Z (.lst x)/\x.length<sizeLine/\B .aW (upd j t<|.lst<|x++[H])
theorem LC:Aq b "list.append" Od:=by
 intro G f D j h Xc u XE B A e g c;let⟨t,x,@H,rfl,rfl,a,k,p⟩:=c;cases e;let⟨@L,rfl,i⟩:=g.one;let@⟨C,⟨Xq,@w,s,l,d⟩⟩:=A.ib a;refine q4 CO ⟨_,d,rfl⟩ GF (CM _ _) (C_ t Xq.toArray w L (by rw[cO];lia)) ⟨d,?_⟩;refine⟨.aW,_,A.xk (y:=Xq++[L]) a d (by simp) (s.append<|.cons i .nil) ?_,rfl,p⟩;rw[c7,nX];lia
def Px:ar->List ar->aw->cP->Prop:=λh Xc j B=>∃t e x Q,h=.ref t/\Xc=[.ref e]/\j t=Z (.lst x)/\j e=Z (.lst Q)/\x.length+Q.length<=sizeLine/\B .aW (upd j t<|.lst<|x++Q)
theorem Q4:Aq b "list.extend" Px:=by
 intro G f D j h Xc u XE B A i k c;let⟨t,e,x,@Q,rfl,rfl,g,l,v,p⟩:=c;cases i;let⟨@L,rfl,m⟩:=k.one;cases m;let@⟨C,⟨Xq,@w,s,z,d⟩⟩:=A.ib g;let@⟨E,⟨a,@Yq,n,H,o⟩⟩:=A.ib l;have q:Xq.toArray.size+a.toArray.size<=sizeLine:=by rw[cO,cO];lia
 have r:¬ (!Xq.toArray.isEmpty&&aX.List.listTooLong (Xq.toArray.size+a.toArray.size))=aa:=by
  rw[Ox q,GK];exact dy
 refine q4 F.slot_list_extend ⟨_,d,rfl⟩ F.entry_list_extend (F.args_list_extend_2 _ _)
  (AutoSeq1.list_extend_list_list_0 t Xq.toArray w e a.toArray Yq r (by rw[cO];lia) ⋯) ⟨d,o,?_⟩;refine⟨.aW,_,A.xk (y:=Xq++a) g d (by simp) (s.append n) ?_,rfl,p⟩;rw[c7];lia
def Uq:ar->List ar->aw->cP->Prop:=λh Xc j B=>∃t x a q H,h=.ref t/\Xc=[.int a]/\j t=Z (.lst x) /\ -(2^63)<=a/\a<2^63/\xa a x.length=Z q/\x[q]?=Z H/\B H (upd j t<|.lst<|x.eraseIdx q)
theorem Vx:Aq b "list.pop" Uq:=by
 intro G f D j h Xc u XE B A g k c;let⟨t,x,a,q,@H,rfl,rfl,e,z,E,m,n,p⟩:=c;cases g;let⟨@L,rfl,o⟩:=k.one;let⟨@i,rfl⟩:=o;let@⟨C,⟨Xq,@w,s,r,d⟩⟩:=A.ib e;let⟨@l,v,I⟩:=s.get n;refine q4 F.slot_list_pop ⟨_,d,rfl⟩ F.entry_list_pop (F.args_list_pop_2 _ _)
  (MeetsSeq.list_pop_at t Xq.toArray w a i q l (fitsIndex_both z E) (by rw[cO,<-r];exact m) (by rw[<-eS];exact v) (by rw[cO];lia)) ⟨d,?_⟩;refine⟨H,_,A.xk (y:=Xq.eraseIdx q) e d ?_ (s.eraseIdx q) ?_,I,p⟩
 ·show Xq.toArray.eraseIdxIfInBounds q=(Xq.eraseIdx q).toArray;rw[Dx]
 ·have:=CD x q;lia
def OL:b4:=λh H j B=>∃t e x Q,h=.ref t/\H=.ref e/\j t=Z (.lst x)/\j e=Z (.lst Q)/\x.length+Q.length<=sizeLine/\∀o,j o=Y->B (.ref o) (upd j o<|.lst<|x++Q)
theorem P4:d8 b (gF .Add) OL:=by
 intro G f D j h H u L B A g i c;let⟨t,e,x,@Q,rfl,rfl,k,l,q,p⟩:=c;cases g;cases i;let@⟨C,⟨Xq,@w,s,r,d⟩⟩:=A.ib k;let@⟨v,⟨a,@Yq,m,y,n⟩⟩:=A.ib l;refine PySem.P.add_list d n ?_ (by rw[cO,cO];lia);have o:Xq.toArray++a.toArray=(Xq++a).toArray:=by simp
 rw[o];exact⟨.ref _,_,A.NR (XM:=f.toks) (s.append m) (by rw[c7];lia),rfl,p _ A.fresh⟩
end
section
variable{Xm:bJ}{l:bc}{O:bw}{Xg:ab->ah->Prop}{f:ah}
end
section
variable{b:aO}
end
section
variable{XG:Type}[DecidableEq XG]
def h2(Xt:List (XG×ar))(q:XG):Option ar:=(Xt.find? λa=>decide (a.1=q)).map (·.2)
noncomputable def hR(Xt:List (XG×ar))(q:XG)(u:ar):List (XG×ar):=
 if (Xt.any λa=>decide (a.1=q))=aa then Xt.map (λa=>if a.1=q then (a.1,u) else a) else Xt++[(q,u)]
theorem wy{o:XG×ar}{s:List (XG×ar)}{q:XG}(d:o.1=q):h2 (o::s) q=Z o.2:=by simp[h2,jn,d]
theorem t9{o:XG×ar}{s:List (XG×ar)}{q:XG}(d:¬ o.1=q):h2 (o::s) q=h2 s q:=by simp[h2,jn,d]
theorem H0(q:XG):∀Xt:List (XG×ar),(Xt.any λa=>decide (a.1=q))=(h2 Xt q).isSome
 |[]=>rfl
 |o::s=>by
  rw[ni];by_cases d:o.1=q
  ·simp only[wy d,dU d,B9,Option.isSome_some]
  ·rw[t9 d,d3 d,Iy];exact H0 q s
theorem B5(Xt:List (XG×ar))(q:XG)(u:ar):(hR Xt q u).length<=Xt.length+1:=by
 unfold hR;split
 ·rw[a9];lia
 ·rw[c7,c3,hF];lia
theorem k8.rS{L:Option ab}(s:k8 m L):m.isSome=L.isSome:=by
 cases m with
 |none=>cases L with
  |none=>rfl
  |some _=>exact (show False from s).elim
 |some _=>cases L with
  |none=>exact (show False from s).elim
  |some _=>rfl
theorem gj.val{Xt:List (XG×ar)}{Xc:List (XG×ab)}(s:gj Xt Xc)(q:XG):k8 (h2 Xt q) (oG Xc q):=by
 unfold gj at s;induction s with
 |nil=>exact True.intro
 |@cons o p Xo a c i f=>
  let@⟨z,E⟩:=c;by_cases d:o.1=q
  ·have b:p.1=q:=z.symm.trans d;have e:oG (p::a) q=Z p.2:=by simp[oG,jn,b]
   rw[wy d,e];exact E
  ·have b:¬ p.1=q:=λC=>d (z.trans C);have e:oG (p::a) q=oG a q:=by simp[oG,jn,b]
   rw[t9 d,e];exact f
theorem gj.any{Xt:List (XG×ar)}{Xc:List (XG×ab)}(s:gj Xt Xc)(q:XG):(Xt.any λa=>decide (a.1=q))=Xc.any λa=>decide (a.1=q):=by
 unfold gj at s;induction s with
 |nil=>rfl
 |cons c i b=>rw[ni,ni,b,c.1]
theorem gj.x5{Xt:List (XG×ar)}{Xc:List (XG×ab)}(s:gj Xt Xc)(q:XG){H:ar}{L:ab}(b:cq H L):
  gj (Xt.map λa=>if a.1=q then (a.1,H) else a) (Xc.map λa=>if a.1=q then (a.1,L) else a):=by
 unfold gj at s ⊢;induction s with
 |nil=>exact .nil
 |@cons o p Xo f c i e=>
  rw[cw,cw];refine .cons ?_ e;let@⟨z,E⟩:=c;by_cases d:o.1=q
  ·rw[aA d,aA<|z.symm.trans d];exact⟨z,b⟩
  ·rw[aI d,aI<|λC=>d<|z.trans C];exact⟨z,E⟩
theorem gj.put{Xt:List (XG×ar)}{Xc:List (XG×ab)}(s:gj Xt Xc)(q:XG){H:ar}{L:ab}(a:cq H L):gj (hR Xt q H) (stored Xc q L):=by
 unfold hR stored;rw[s.any q];by_cases d:(Xc.any λb=>decide (b.1=q))=aa
 ·rw[aA d,aA d];exact s.x5 q a
 ·rw[aI d,aI d];exact dY.snoc s ⟨rfl,a⟩
theorem gj.length{Xt:List (XG×ar)}{Xc:List (XG×ab)}(s:gj Xt Xc):Xt.length=Xc.length:=dY.length s
end
theorem wH{q:eG}{L:ab}(s:cq (cG q) L):(nK Xs l).is q L=aa:=by
 cases q with
 |inl a=>let⟨@i,d⟩:=(show ∃i,L=ab.int a i from s);subst d;exact T6 Xs l a i
 |inr h=>let⟨@i,d⟩:=(show ∃i,L=ab.str h i from s);subst d;exact Wl Xs l h i
abbrev dg(j:aw):List (List V×ar)->List (List V×af×ab)->Prop:=dY λo p=>o.1=p.1/\hX j o.1 p.2.1/\cq o.2 p.2.2
theorem dg.val(s:dg j Xt x)(q:List V):k8 (h2 Xt q) ((kG x q).map (·.2)):=by
 induction s with
 |nil=>exact True.intro
 |@cons o p Xo a c i f=>
  let@⟨z,_,E⟩:=c;by_cases d:o.1=q
  ·have b:p.1=q:=z.symm.trans d;have e:kG (p::a) q=Z p.2:=by simp[kG,jn,b]
   rw[wy d,e];exact E
  ·have b:¬ p.1=q:=λC=>d (z.trans C);have e:kG (p::a) q=kG a q:=by simp[kG,jn,b]
   rw[t9 d,e];exact f
theorem dg.x5(s:dg j Xt x)(q:List V){H:ar}{L:ab}(b:cq H L):
  dg j (Xt.map λa=>if a.1=q then (a.1,H) else a) (x.map<|putAt q L):=by
 induction s with
 |nil=>exact .nil
 |@cons o p Xo g c i e=>
  rw[cw,cw];refine .cons ?_ e;let@⟨z,E,f⟩:=c;unfold putAt;by_cases d:o.1=q
  ·rw[aA d,aA<|z.symm.trans d];exact⟨z,E,b⟩
  ·rw[aI d,aI<|λC=>d<|z.trans C];exact⟨z,E,f⟩
theorem dg.put(s:dg j Xt x)(q:List V){e:af}{H:ar}{L:ab}(b:hX j q e)(a:cq H L):
  dg j (hR Xt q H) (storedH x q e L):=by
 have d:(Xt.any λc=>decide (c.1=q))=(kG x q).isSome:=by
  rw[H0,(s.val q).rS,yJ]
 unfold hR storedH;rw[d];by_cases p:(kG x q).isSome=aa
 ·rw[aA p,aA p];exact s.x5 q a
 ·rw[aI p,aI p];exact dY.snoc s ⟨rfl,b,a⟩
theorem dg.keeps(s:dg j Xt x)(bQ:∀e Xp,j e=Z (.tup Xp)->N e=Z (.tup Xp)):dg N Xt x:=
 dY.v9 s λ_ W C=>⟨C.1,C.2.1.mono bQ,C.2.2⟩
section
variable{Xs:bJ}{l:bc}{j:aw}{c:aV}{g:af}
theorem Hq{L:gG}(ok:ej Xs l j c)(d:lJ j g L):ep Xs l j c g L:=d.ok ok
theorem qF{Xt:List (eG×ar)}(ok:ej Xs l j c)(d:lJ j g (.dQ Xt)):Xt.length<=sizeLine/\(g==j4)=au/\∃Xc,gj Xt Xc/\c.DictOf (nK Xs l) g Xc:=
 show ep Xs l j c g (.dQ Xt) from Hq ok d
theorem OS{Xt:List (eG×ar)}(ok:ej Xs l j c)(d:j g=Z (.dQ Xt)):Xt.length<=sizeLine/\(g==j4)=au/\∃Xc,gj Xt Xc/\c.DictOf (nK Xs l) g Xc:=qF ok (.inl d)
mutual
theorem cL.fc(ok:ej Xs l j c):∀{v:V}{u:ar}{L:ab},cL j v u->cq u L->dM c v L
 |.aW,_,_,d,s=>by cases (show _=ar.aW from d);exact s
 |.aG e,_,_,d,s=>by cases (show _=ar.aG e from d);exact s
 |.int a,_,_,d,s=>by cases (show _=ar.int a from d);exact s
 |.str h,_,_,d,s=>by cases (show _=ar.str h from d);exact s
 |.fn g,_,_,d,s=>by cases (show _=ar.ref g from d);exact s
 |.tup J,_,_,d,s=>by
  let⟨g,@x,rfl,z,E⟩:=d;cases s;let@⟨_,⟨@Xq,b,⟨@m,f,i,⟨@w,k⟩⟩⟩⟩:=(show ep Xs l j c g (.tup x) from ok g _ z);exact⟨g,m,Xq.toArray,w,rfl,f,(Prod.mk.inj i).1,k,by simpa using br.fc ok E b⟩
 |.aU J,_,_,d,s=>by
  let⟨g,x,@m,rfl,z,E⟩:=d;cases s;exact⟨g,rfl⟩
 |.fd,_,_,d,s=>by
  let⟨g,@m,rfl,z⟩:=d;cases s;exact⟨g,rfl⟩
theorem br.fc(ok:ej Xs l j c):∀{J:List V}{Xc:List ar}{XE:List ab},br j J Xc->bY Xc XE->dI c J XE
 |[],_,_,d,s=>by cases (show _=[] from d);cases s;rfl
 |v::J,_,_,d,s=>by
  let⟨u,@i,rfl,z,E⟩:=d;cases s with
  |cons a b=>exact⟨_,_,rfl,cL.fc ok z a,br.fc ok E b⟩
end
theorem nO{Xb:List V}(ok:ej Xs l j c)(d:hX j Xb g):(eC Xs l).is c Xb g:=⟨d.1,d.2.fc ok rfl⟩
theorem qL{Xs:bJ}{l:bc}{O:bw}(c:O.units+20<bU):(eC Xs l).room O.in1:=show O.units+1+10<bU by lia
theorem rr(ok:ej Xs l j c)(d:lJ j g (.a_ Xt)):Xt.length<=sizeLine/\(g==j4)=au/\
  ∃x,dg j Xt x/\c.DictOfH (eC Xs l) g x:=by
 let@⟨C,H,⟨@x,s,⟨m,S,@XN,z,E,e,f,n⟩⟩⟩:=(show ep Xs l j c g (.a_ Xt) from Hq ok d);refine⟨C,H,x,s,m,S,XN,z,E,e,f,λh a=>?_,n⟩;have all:∀{t:List (List V×ar)}{k:List (List V×af×ab)},dg j t k->∀h∈k,(eC Xs l).is c h.1 h.2.1:=by
  intro t k p;induction p with
  |nil=>intro h a;exact nomatch a
  |@cons o p Xo r b i q=>
   intro h a;rcases bO.mp a with d|a
   ·subst d;exact nO ok (by rw[<-b.1];exact b.2.1)
   ·exact q h a
 exact all s h a
theorem Pe(ok:ej Xs l j c)(d:j g=Z (.a_ Xt)):Xt.length<=sizeLine/\(g==j4)=au/\
  ∃x,dg j Xt x/\c.DictOfH (eC Xs l) g x:=rr ok (.inl d)
end
def g0(j:aw)(g:af)(H:ar)(s:Option ar):Prop:=
 (∃Xt q,lJ j g (.dQ Xt)/\H=cG q/\s=h2 Xt q)\/∃Xt q e,lJ j g (.a_ Xt)/\H=.ref e/\hX j q e/\s=h2 Xt q
def og(j:aw)(g:af)(H u:ar)(N:aw):Prop:=
 (∃Xt q,j g=Z (.dQ Xt)/\H=cG q/\Xt.length<sizeLine/\N=upd j g (.dQ<|hR Xt q u))\/
 ∃Xt q e,j g=Z (.a_ Xt)/\H=.ref e/\hX j q e/\Xt.length<sizeLine/\N=upd j g (.a_<|hR Xt q u)
theorem g0.k{j:aw}{g:af}{Xt:List (eG×ar)}{q:eG}(d:j g=Z (.dQ Xt)):g0 j g (cG q) (h2 Xt q):=.inl ⟨Xt,q,.inl d,rfl,rfl⟩
theorem g0.t{j:aw}{g e:af}{Xt:List (List V×ar)}{q:List V}(d:j g=Z (.a_ Xt))(a:hX j q e):g0 j g (.ref e) (h2 Xt q):=.inr ⟨Xt,q,e,.inl d,rfl,a,rfl⟩
theorem og.k{j:aw}{g:af}{Xt:List (eG×ar)}{q:eG}{u:ar}(d:j g=Z (.dQ Xt))(a:Xt.length<sizeLine):og j g (cG q) u (upd j g<|.dQ<|hR Xt q u):=.inl ⟨Xt,q,d,rfl,a,rfl⟩
theorem og.t{j:aw}{g e:af}{Xt:List (List V×ar)}{q:List V}{u:ar}(d:j g=Z (.a_ Xt))(a:hX j q e)(b:Xt.length<sizeLine):
  og j g (.ref e) u (upd j g<|.a_<|hR Xt q u):=.inr ⟨Xt,q,e,d,rfl,a,b,rfl⟩
section
variable{b:aO}{G:List (af×a0)}{D:a3}{j:aw}{f:ah}{g:af}{H u:ar}{L s:ab}{m:Option ar}{O:bw}{Xg:ab->ah->Prop}
theorem aE.big(A:aE b G D j f):j4<f.heap.objs.size:=by
 have c:dH<f.heap.objs.size:=(A.mod.glob.keeps A.f_).lt;exact qz (by decide) c
theorem Qi(s:O.units+20<bU)(A:aE b G D j f)(I:g0 j g H (Z u))(r:cq H L)(c:∀a Xe,aE b G D j Xe->cq u a->B a Xe):
  wpAny (aM b.prog b.w) O (nA (.ref g) L) B Xg f:=by
 rcases I with ⟨Xt,q,d,h,t⟩|⟨Xt,q,e,d,h,v,t⟩
 ·subst h;let@⟨C,hd,⟨@Xc,i,k⟩⟩:=qF A.aZ d;let⟨@a,n,p⟩:=k8.some_of (u:=u) (m:=oG Xc q) (by rw[t];exact i.val q);exact wpAny_getItem_of (wH r) k.mapOf n (c a _ (A.tok _) p)
 ·subst h;cases (show L=ab.ref e from r);let@⟨C,hd,⟨@x,i,k⟩⟩:=rr A.aZ d;let⟨@a,n,p⟩:=k8.some_of (u:=u) (m:=(kG x q).map (·.2)) (by rw[t];exact i.val q);let⟨@o,y,z⟩:=cD.mp n;refine II (qL s) (nO A.aZ v) k y ?_;rw[z];exact c a _ (A.tok _) p
theorem Av(n:O.units+20<bU)(A:aE b G D j f)(I:g0 j g H m)(k:cq H L)(c:∀Xe,aE b G D j Xe->B (.bool m.isSome) Xe):
  wpAny (aM b.prog b.w) O (eQ .In L<|.ref g) B Xg f:=by
 rcases I with ⟨Xt,q,d,a,t⟩|⟨Xt,q,e,d,a,o,t⟩
 ·subst a;let@⟨C,hd,⟨@Xc,h,i⟩⟩:=qF A.aZ d;refine wpAny_in_of (wH k) hd i.mapOf ?_;rw[<-(h.val q).rS,<-t];exact c _ (A.tok _)
 ·subst a;cases (show L=ab.ref e from k);let@⟨C,hd,⟨@x,h,i⟩⟩:=rr A.aZ d;refine wpAny_in_heap (qL n) (nO A.aZ o) hd i ?_;have p:=(h.val q).rS;rw[yJ]at p;rw[<-p,<-t];exact c _ (A.tok _)
theorem AO(n:O.units+20<bU)(A:aE b G D j f)(I:g0 j g H m)(k:cq H L)(c:∀Xe,aE b G D j Xe->B (.bool<|!m.isSome) Xe):
  wpAny (aM b.prog b.w) O (eQ .NotIn L<|.ref g) B Xg f:=by
 rcases I with ⟨Xt,q,d,a,t⟩|⟨Xt,q,e,d,a,o,t⟩
 ·subst a;let@⟨C,hd,⟨@Xc,h,i⟩⟩:=qF A.aZ d;refine wpAny_notIn_of (wH k) hd i.mapOf ?_;rw[<-(h.val q).rS,<-t];exact c _ (A.tok _)
 ·subst a;cases (show L=ab.ref e from k);let@⟨C,hd,⟨@x,h,i⟩⟩:=rr A.aZ d;refine wpAny_notIn_heap (qL n) (nO A.aZ o) hd i ?_;have p:=(h.val q).rS;rw[yJ]at p;rw[<-p,<-t];exact c _ (A.tok _)
theorem Dd{a:gG}(A:aE b G D j f)(c:sL (j g))(Xi:aV.SameBut g f.heap M)(i:∃p,M.get? g=Z p)(new:ep b.prog b.w (upd j g a) M g a):
  aE b G D (upd j g a) {f with heap:=M,toks:=XM}:=
 A.write (h:=g) (d:=g) c (.inl rfl) (λe p k C=>(Xi.2 e k).trans C) i new
theorem Qa{Xt:List (eG×ar)}{Xc:List (eG×ab)}(C:Xt.length<=sizeLine)(hd:(g==j4)=au)(a:gj Xt Xc)(b:M.DictOf (nK Xs l) g Xc):
  ep Xs l N M g (.dQ Xt):=⟨C,hd,Xc,a,b⟩
theorem I4{B:Unit->ah->Prop}(P:O.units+20<bU)(A:aE b G D j f)(I:og j g H u N)(y:cq H L)(z:cq u s)(c:∀Xe,aE b G D N Xe->B () Xe):
  wpAny (aM b.prog b.w) O (uT (.ref g) L s) B Xg f:=by
 rcases I with ⟨Xt,q,d,k,t,m⟩|⟨Xt,q,e,d,k,F,t,m⟩
 ·subst k m;let@⟨C,hd,⟨@Xc,a,o⟩⟩:=OS A.aZ d;have r:Xc.length<=sizeLine:=by rw[<-a.length];exact C
  have v:(hR Xt q u).length<=sizeLine:=by have:=B5 Xt q u;lia
  refine wpAny_setItem_pairs (hsz:=r) (wH y) o λM h Xi=>c _ ?_;have R:∃p,M.get? g=Z p:=let ⟨p,_,_,i,_⟩:=h;⟨p,i⟩
  exact Dd A (by rw[d];exact True.intro) Xi R (Qa v hd (a.put q z) h)
 ·subst k m;cases (show L=ab.ref e from y);let@⟨C,hd,⟨@x,a,o⟩⟩:=Pe A.aZ d;have r:x.length<=sizeLine:=by rw[<-dY.length a];exact C
  have v:(hR Xt q u).length<=sizeLine:=by have:=B5 Xt q u;lia
  refine wpAny_setItem_heap (hsz:=r) (qL P) (nO A.aZ F) o λM h Xi=>c _ ?_;let⟨p,S,@XN,i,E,T,U,W,al⟩:=h;refine Dd A (by rw[d];exact True.intro) Xi ⟨p,i⟩ ⟨v,hd,_,(a.put q F z).keeps λn Xp J=>?_,p,S,XN,i,E,T,U,al⟩;rw[dp (SY J d<|λC=>nomatch C)];exact J
end
section
variable{b:aO}{G:List (af×a0)}{D:a3}{j:aw}{f:ah}{g:af}{Xt:List (eG×ar)}{q:eG}{L:ab}{O:bw}{Xg:ab->ah->Prop}
theorem N4(A:aE b G D j f)(d:lJ j g (.dQ Xt))(c:∀i Xe,aE b G D j Xe->B (.int Xt.length i) Xe):wpAny (aM b.prog b.w) O (call (.builtin "len") [.ref g]) B Xg f:=by
 let@⟨C,hd,⟨@Xc,a,e⟩⟩:=qF A.aZ d;refine call_len_dict hd e (by rw[<-a.length];rw[xK]at C;lia) ?_;rw[<-a.length];exact c _ _ (A.tok _)
end
theorem Rh{b:aO}{g:af}{H:ar}(A:aE b G D j f)(I:g0 j g H m):f.TypeIs (.ref g) "dict" := by
 rcases I with ⟨Xt,q,d,_,_⟩|⟨Xt,q,e,d,_,_,_⟩
 ·let@⟨_,_,⟨@Xc,_,a⟩⟩:=qF A.aZ d;exact a.typeIs
 ·let@⟨_,_,⟨@x,_,a⟩⟩:=rr A.aZ d;exact a.typeIs
section
variable{b:aO}{m a d k:bx}{Xu i z:Pos}{c ty t:cn}
end
theorem OJ(c:aV)(a:j4<c.objs.size):ep Xs l j (c.push {cls:=.type "dict",data:=.dict #[]}) c.objs.size (.a_ []):=
 ⟨gC _,xU.mpr<|eN<|cZ a,[],.nil,_,#[],0,cI _ rfl,⟨rfl,rfl,rfl⟩,rfl,rfl,iH⟩
def KJ:cn:=λ_ j B=>∀o,j o=Y->B (.ref o) (upd j o<|.a_ [])
section
variable{b:aO}{Xu:Pos}
theorem MS:b6 b (.Dict [] [] Xu) KJ:=λG f D j B A c=>
 wpAny_Dict_empty ⟨.ref f.heap.objs.size,_,A.laid (g:=f.heap.objs.size) (m:=.a_ []) (XM:=f.toks) (λ_ W p=>bH _ p) (ba _)<|OJ f.heap A.big,rfl,c _<|A.aZ.fresh<|ba _⟩
end
section
variable{b:aO}{G:List (af×a0)}{D:a3}{j:aw}{f:ah}{g:af}{H v:ar}{L s:ab}{m:Option ar}{O:bw}{Xg:ab->ah->Prop}
end
section
variable{b:aO}{m d F:bx}{Q q:Pos}{c ty h:cn}
end
section
variable{b:aO}{G:List (af×a0)}{D:a3}{j:aw}{f:ah}{g:af}{Xt:List (eG×ar)}{O:bw}{Xg:ab->ah->Prop}
end
section
variable{b:aO}{G:List (af×a0)}{D:a3}{j:aw}{f:ah}{g:af}{H:ar}{L:ab}{O:bw}{Xg:ab->ah->Prop}
end
end L2
namespace Ds
open PySem PySem.W PySem.Calls PyProof.Rows
variable{w:Nat}{t:OpenLaw}
theorem NS{Xs:uY}{c:aV}:∀(XA:List Int) (Xc:List ab),WellAll Xs c Xc (XA.map ta.int)->sA Xc XA:=by
 intro XA;induction XA with
 |nil=>
  intro Xc l;rw[r5]at l;cases l;exact .nil
 |cons w XA a=>
  intro Xc l;rw[cw]at l;cases l with
  |cons g e=>
   cases g;exact .cons _ _ (a _ e)
theorem K0(h:t.most=Z w){Xs:uY}{c:aV}{args:List ta}{d:List ab}(e:t.row.toRowW.claim.pre args=aa)(i:WellAll Xs c d args):
  ∃g Xc XA,d=[ab.ref g]/\args=[ta.list (XA.map ta.int)]/\c.get? g=Z {cls:=.type "list",data:=.seq Xc.toArray}/\sA Xc XA/\XA.length<=w:=by
 have j:ry.hasAll [] args [.list .int]=aa:=(pre_splitW e).1;have f:t.pre.holds [] {args:=args}=aa:=(pre_splitW e).2;let⟨v,@s,rfl,z,E⟩:=hasAllW_cons j;obtain rfl:=hasAllW_nil E;let⟨@x,rfl,k⟩:=hasW_list z;let⟨@XA,rfl⟩:=items_int k;have l:XA.length<=w:=by
  unfold OpenLaw.pre at f;have a:(WTm.not<|.lt (.lit<|.int (w:Int))<|.len<|.arg 0).holds [] {args:=[.list (XA.map .int)]}=aa:=by
   have a:=(holds_andW f).1;rw[h]at a;exact a
  have b:=condW_of a (w_not<|w_lt w_lit<|w_len_list<|w_arg rfl);rw[a9]at b;refine Nat.le_of_not_lt λp=>?_;have m:(w:Int)<((XA.length:Nat):Int):=⋯
  first
   | (rw[dU m]at b;exact absurd b (by decide))
   | (simp at b;lia)
 cases i with
 |cons dw da=>
  cases da;cases dw with
  |list n o=>exact⟨_,_,XA,rfl,rfl,n,NS XA _ o,l⟩
theorem MC(t:OpenLaw)(args:List ta):t.row.toRowW.claim.post args (.bool aa) args=aa:=
 postW_of (r:=t.row.toRowW) (X:=(aa==aa))
  (show ry.has [] (.bool aa) .bool=aa by first|rfl|decide|simp[ry.has,ry.arms,ry.armsAll])
  (show (WTm.eq .res<|.lit<|.bool aa).value [] {args:=args,res:=Z (.bool aa),after:=args}=Z (.bool<|aa==aa) from w_eq_bool (w_res rfl) w_lit) rfl
theorem OP{p:bJ}{e:List aB}{f:(aB->Option ab)->aV->Prop}{h:bc->aV->Prop}{v:DefRec}(j:t.most=Z w)(k:v.params.defaults=[])(call:∀(l:bc) (fo a:ah) (aH d:aB->Option ab) (b:af) (m:a0) (XP c y:ab) (g:af) (Xc:List ab) (XA:List Int),
   Ground p e [] f l fo aH d a.heap->h l a.heap->
   a.heap.get? b=Z m->m.data=.func (docDef v.name v.params v.body v.scope XP c y)->a.heap.CodeRec c v.name->aH v.name=Z (.ref b)->
   a.heap.get? g=Z {cls:=.type "list",data:=.seq Xc.toArray}->sA Xc XA->XA.length<=w->a.gens=#[]->
   codeAny (aM t.prog l) pe (.call (.ref b) ⟨[.ref g],[]⟩) (λs Xe=>s=.ok (.ret<|.bool aa)/\OldK a.heap Xe.heap/\Xe.os=a.os/\md Xe.gens) a):
  WalkO p e f h t.row.toRowW v [] (λF Xc=>PySem.call F Xc):=by
 intro l fo a aH d Q n b m XP c y o cG q hd r i u x args M N z O P A R;obtain rfl:o=.none:=Dflts.none i k;obtain rfl:cG=.none:=Dflts.noKw i;let⟨g,Xc,@XA,rfl,rfl,C,D,G⟩:=K0 j z A;refine enter_call (s8 (call l fo a aH d b m XP c y g Xc XA Q n q (fd_plain hd) r u C D G x) λs Xe H=>?_);let@⟨rfl,E,I,J⟩:=H;exact⟨.inl ⟨.bool aa,.bool aa,[],rfl,λ_=>rfl,.bool aa,MC t _,λ_=>⟨List.Pairwise.nil,λ_ L=>(nomatch L)⟩⟩,E,I,J⟩
section
variable{Xm:bJ}{l:bc}{O:bw}{Xg:ab->ah->Prop}{f:ah}{Xd:Frag}
end
end Ds
namespace L2
open PySem PySem.Spec PyProof.Rows
variable{Xo:List aB}{F:af}{Yi h:aB}{XB:m7}{fd:hj}{q:Nat}
theorem Ks:∀{Xc:List ab}{XA:List Int},sA Xc XA->bY (XA.map ar.int) Xc
 |_,_,.nil=>.nil
 |_,_,.cons w i c=>.cons ⟨i,rfl⟩ (Ks c)
def uB(j:aw):Prop:=∀e,j e=Y\/∃m x,j e=Z (.dk m<|.lst x)
theorem RA{Xs:bJ}{l:bc}{Xd:PySem.W.Frag}{aH r:aB->Option ab}{Yr:kW}{t g:af}{a:ah}{Xc:List ab}{XA:List Int}(B:Xd.In a.heap)(D:a.heap.Ns dH aH)(b:a.heap.Ns AF r)(R:∀h:aB,h ≠ "__name__" -> r h=eT h)(T:a.heap.NoLimit)(al:a.gens=#[])(n:a.heap.get? g=Z {cls:=.type "list",data:=.seq Xc.toArray})(U:sA Xc XA)(F:XA.length<=sizeLine)(am:fk q pe)(P:∀Xv:aV,Xd.In Xv->Xv.Ns dH aH->iG Xs l Xd aH Xv Yr q t fd [h] XB)(an:∀(f:ah) (L:ab),mW f fd ⟨[L],[]⟩ [(h,L)])(ap:∀j:aw,uB j->df Xd j g (XA.map ar.int)->XB [.ref g] j (λu K=>u=.aG aa) λ_ K K=>False)(as:∀j d Xe,Yr [] j a (λ_ K K=>False) d Xe->False):
  codeAny (aM Xs l) pe (.call (.ref t) ⟨[.ref g],[]⟩) (λs Xe=>s=.ok (.ret<|.bool aa)/\OldK a.heap Xe.heap/\Xe.os=a.os/\md Xe.gens) a:=by
 have G:=Ks U;have a1:=U.length;have H:∀j:aw,uB j->df Xd j g (XA.map ar.int)->ej Xs l j a.heap->(∀e,j e≠Y->e=g)->(j g≠Y->Xd.lookup g=Y)->
   codeAny (aM Xs l) pe (.call (.ref t) ⟨[.ref g],[]⟩) (λs Xe=>s=.ok (.ret<|.bool aa)/\OldK a.heap Xe.heap/\Xe.os=a.os/\md Xe.gens) a:=by
  intro j I a2 aZ J bd;have M:∀{e:af}{m:a0},a.heap.get? e=Z m->j e=Y->(ma a.heap j).get? e=Z m:=λd w=>UK d w;have be:∀{e:af}{m:a0}{S:Array DictEntry}{XN:Nat},a.heap.get? e=Z m->m.data=.dict S XN->j e=Y:=λ{e m S XN} d v=>by
   cases p:j e with
   |none=>rfl
   |some L=>
    have y:e=g:=J e (by rw[p];simp);subst y;rw[n]at d;cases d;have bi:Data.seq Xc.toArray _=Data.dict S XN:=v;cases bi
  have o:∀{e:af}{k:aB->Option ab},a.heap.Ns e k->(ma a.heap j).Ns e k:=λ{e k} ⟨m,S,XN,d,v,s⟩=>⟨m,S,XN,M d<|be d v,v,s⟩;have O:Xd.In (ma a.heap j):=λe m d=>M (B e m d) (by
   cases p:j e with
   |none=>rfl
   |some L=>
    have y:e=g:=J e (by rw[p];simp);subst y;rw[bd (by rw[p];simp)]at d;cases d)
  have bm:Mod Xd aH (ma a.heap j):=⟨O,o D,⟨r,o b,R⟩,let ⟨bn,z,E⟩:=T;⟨bn,o z,E⟩⟩;have bs:tS Xs l Xd aH (ma a.heap j) pe [] a j:=⟨rfl,bm,λe m d=>O6 d,Nat.le_of_eq<|Mr _ _,trivial,λe b=>absurd (show e∈([]:List af) from b) (by simp),aZ,.of_eq al⟩;refine s8 ((P _ O<|o D).run pe [] a j ⟨[.ref g],[]⟩ [.ref g] [.ref g] _ _ am bs (an a<|.ref g) (.cons rfl .nil)<|ap j I a2) λs Xe c=>?_;cases s with
  |error d=>exact (as j d Xe c).elim
  |ok aU=>
   cases aU with
   |next=>exact False.elim c
   |brk=>exact False.elim c
   |cont=>exact False.elim c
   |ret L=>
    let⟨u,@N,Xw,bv,un,ca,X9,p⟩:=c;have cd:u=.aG aa:=p;subst cd;obtain rfl:L=ab.bool aa:=X9;refine⟨rfl,OldK.of_keep λe m d=>?_,Xw,bv⟩;cases p:j e with
    |none=>exact un.keep e m d p (by intro C;exact absurd (show e∈([]:List af) from C) (by simp)) (by simp)
    |some L=>
     rcases I e with C|⟨ce,x,C⟩
     ·rw[p]at C;cases C
     ·have ch:=un.kJ e ce _ C;let@⟨Q,_⟩:=aZ e _ C;let@⟨ci,_⟩:=ca e _ ch;rw[d]at Q;cases Q;exact ci
 cases A:Xd.lookup g with
 |some m=>
  have d:=B g m A;rw[n]at d;cases d;refine H (λ_=>Y) (λ_=>.inl rfl) (.inr ⟨_,Xc.toArray,_,A,rfl,rfl,rfl,by rw[cO,a1];exact F,by simpa using G⟩) (λe L C=>by have i:(Y:Option gG)=Z L:=C;cases i) (λe C=>absurd rfl C) λC=>absurd rfl C
 |none=>
  refine H (λe=>if e=g then Z (.dk {cls:=.type "list",data:=.seq Xc.toArray} (.lst<|XA.map ar.int)) else Y) (λe=>?_) (.inl<|.inr ⟨{cls:=.type "list",data:=.seq Xc.toArray},aA rfl⟩) (λe L C=>?_) (λe C=>?_) λ_=>A
  ·by_cases b:e=g
   ·exact .inr ⟨_,_,aA b⟩
   ·exact .inl (aI b)
  ·by_cases b:e=g
   ·have i:=(aA b).symm.trans C;cases i;subst b;exact⟨n,by rw[a9];exact F,Xc,_,G,n⟩
   ·have i:=(aI b).symm.trans C;cases i
  ·by_cases b:e=g
   ·exact b
   ·exact absurd (aI b) C
theorem T5{t:PySem.W.OpenLaw}{w:Nat}{p:bJ}{o:List aB}{r:(aB->Option ab)->aV->Prop}{i:bc->aV->Prop}{v:DefRec}{Xd:uY->PySem.W.Frag}{Yr:bc->kW}{XB:bc->m7}(s:t.most=Z w)(x:w<=sizeLine)(z:v.params.defaults=[])(A:fk q pe)(C:∀(l:bc) (c:aV),i l c->(Xd l.params).In c)(P:∀(l:bc) (aH:aB->Option ab) (a:af) (c:aV),(Xd l.params).In c->c.Ns dH aH->aH v.name=Z (.ref a)->
   ∃fd:hj,(∀(f:ah) (L:ab),mW f fd ⟨[L],[]⟩ [(h,L)])/\
    ∀Xv:aV,(Xd l.params).In Xv->Xv.Ns dH aH->iG t.prog l (Xd l.params) aH Xv (Yr l) q a fd [h] (XB l))(D:∀(l:bc) (j:aw) (g:af) (XA:List Int),XA.length<=w->uB j->df (Xd l.params) j g (XA.map ar.int)->XB l [.ref g] j (λu K=>u=.aG aa) λ_ K K=>False)(E:∀(l:bc) (j:aw) (f:ah) (d:ab) (Xe:ah),Yr l [] j f (λ_ K K=>False) d Xe->False):
  PySem.W.WalkO p o r i t.row.toRowW v [] (λF Xc=>PySem.call F Xc):=by
 refine Ds.OP s z λl fo G aH am a m XP an y g Xc XA Q H ap hd as J M N k O=>?_;have n:=C l _ H;let⟨@fd,R,S⟩:=P l aH a _ n Q.T.g J;exact RA n Q.T.g Q.T.b Q.T.builtins Q.T.nolimit O M N (e0 k x) A S R (λj U al=>D l j g XA k U al) λj d Xe=>E l j G d Xe
noncomputable def iX(f:b8):Arguments:=match f with
 |.FunctionDef _ g _ _ _ _ _ _ _ _=>g
 |_=>{posonlyargs:=[],args:=[],vararg:=Y,kwonlyargs:=[],kw_defaults:=[],kwarg:=Y,defaults:=[]}
noncomputable def g4(f:b8):List b8:=match f with
 |.FunctionDef _ _ e _ _ _ _ _ _ _=>e
 |_=>[]
noncomputable def dG(f:b8):hI:=match f with
 |.FunctionDef _ _ _ _ _ _ i _ _ _=>i
 |_=>{kind:=.function,names:=[],isGenerator:=au,isCoroutine:=au}
abbrev ij:kW:=λ_ _ _ _ _ _=>False
abbrev VD:hc:=λ_ _ _=>False
theorem PQ{b:aO}:Ak ij b VD:=λ_ W W W W W W c=>c.elim
structure gO(Xd:PySem.W.Frag)(h Yi:aB)(X:b8)(F:af)(fd:hj):Prop where
 ex:∃(E:ab) (z:Option af) (cG y XP:ab) (M:Option af) (C cx:ab) (T:Array (Option ab)),
  fd=PySem.W.fnOf h Yi (iX X) (g4 X) (dG X) .none cG y XP M C cx/\Xd.lookup F=Z ⟨E,z,.func fd,T⟩/\PySem.W.codeIn Xd C Yi=aa
 c5:PySem.W.keepIn Xd (.ref F)=aa
section
variable{Xs:bJ}{l:bc}{Xd:PySem.W.Frag}{aH:aB->Option ab}{Xv:aV}
theorem gO.ok{X:b8}{XW:List aB}(P:gO Xd h Yi X F fd)(Xr:nv XW Xo (dG X))(len:∀Xc j B Xg,XB Xc j B Xg->Xc.length=Xo.length)(a:∀(C:ab) (O:bw) (R:List fu) (f:ah) (j:aw) (Xc:List ar) (B:cP) (Xg:hc),fk q (O.deeper<|jF Yi (dG X) f.heap.objs.size F C)->XB Xc j B Xg->
   ∃i,ia (lW ij Xs l Xd aH Xv XW Yi (dG X) F C O R f j Xg).oc (g4 X) i/\i {aS:=λ_ N=>B .aW N,dT:=B} (k3 XW Xc) j):iG Xs l Xd aH Xv ij (q+1) F fd Xo XB:=by
 let⟨E,z,cG,y,XP,M,C,cx,@T,rfl,lk,b⟩:=P.ex;refine Pk lk b Xr len λO R f j Xc B Xg d e=>?_;let⟨@i,c,p⟩:=a C O R f j Xc B Xg d e;exact⟨i,c.oc,p⟩
theorem gO.binds{X:b8}(P:gO Xd h Yi X F fd)(c:∀(cG y XP:ab) (M:Option af) (C cx:ab) (XE:List ab),XE.length=Xo.length->k7 (PySem.W.fnOf h Yi (iX X) (g4 X) (dG X) .none cG y XP M C cx) ⟨XE,[]⟩=pure (Xo.zip XE)):i6 Xd fd Xo []:=by
 let⟨E,z,cG,y,XP,M,C,cx,@T,rfl,lk,a⟩:=P.ex;exact .all (c cG y XP M C cx)
theorem Md{X:b8}{E:ab}{z M:Option af}{T:Array (Option ab)}{cG y XP C cx:ab}(t:Xd.lookup F=Z ⟨E,z,.func<|PySem.W.fnOf h Yi (iX X) (g4 X) (dG X) .none cG y XP M C cx,T⟩)(n:PySem.W.codeIn Xd C Yi=aa)(q:PySem.W.keepIn Xd (.ref F)=aa):gO Xd h Yi X F (PySem.W.fnOf h Yi (iX X) (g4 X) (dG X) .none cG y XP M C cx):=⟨⟨E,z,cG,y,XP,M,C,cx,T,rfl,t,n⟩,q⟩
end
section
variable{b:aO}
theorem eh(a:Nat){h:aB}{Xu:Pos}(c:b.N[a]?=Z h:=by rfl)(d:uu b.env.scope h:=by first|exact Or.inl rfl|exact Or.inr (Or.inl rfl)|exact Or.inr (Or.inr rfl))(hd:(h==("__debug__" : aB))=au:=by decide)(e:(h==("__classdict__" : aB))=au:=by decide):b6 b (.Name h Xu) (qf a):=Jq c d hd e
end
def bV(j N:aw):Prop:=∀e m,j e=Z m->N e=Z m
theorem bV.refl(j:aw):bV j j:=λ_ W c=>c
theorem bV.trans{j Xn XD:aw}(g:bV j Xn)(e:bV Xn XD):bV j XD:=λn m c=>e n m (g n m c)
end L2
namespace L2
section
variable{b:aO}
theorem Ls:eK b (.builtin "len") (λx j B=>∃g Xt,x=[ar.ref g]/\j g=Z (.dQ Xt)/\B (.int Xt.length) j):=by
 intro G f D j x XE B A s c;let⟨g,@Xt,rfl,a,p⟩:=c;let⟨@L,rfl,d⟩:=hK s;cases d;exact N4 A (.inl a) λi Xe e=>⟨.int Xt.length,j,e,⟨i,rfl⟩,p⟩
end
section
variable{XG:Type}[DecidableEq XG]
end
end L2
namespace L2
open PySem PySem.Spec PyProof.Rows
variable{B:Option ab->ah->Prop}{a XN:Nat}{Xj v aP:af}{c:aV}{Xb:List ab}{Yw:bF}{XK Ye Yu:bx}{cb:List af}{j:aw}{D:a3}{G:List (af×a0)}{XU:List Nat}{own:List aB}{Xk:fu}{Xu:Pos}{XI:hI}{Ys:List bx}{f:ah}
theorem L_{Xm:bJ}{l:bc}{O:bw}{Xf:oV->ah->Prop}{b:bx}{Xj e:ab}(A:Nat->ah->Prop)(p:∀w f,A w f->wpAny (aM Xm l) O (ff Xj) (λs a=>match s with
   |none=>Xf (.ok .next) a
   |some u=>wpAny (aM Xm l) O (tE b Xj u) (λ_ a=>wpAny (aM Xm l) O (js b Xk u) (λ_ i=>
     wpAny (aM Xm l) O (forIn Ys aa λn s=>if s=aa then do let ok <-qT n Xk (bZ n Xk);pure (ForInStep.yield ok) else pure (ForInStep.yield s)) (λok g=>
      if ok=aa then wpAny (aM Xm l) O (bZ Yu Xk) (λh j=>
       wpAny (aM Xm l) O (call (.builtin "list.append") [e,h]) (λ_ m=>∃k,k<w/\A k m) (λ_ W=>False) j) (λ_ W=>False) g
      else ∃k,k<w/\A k g) (λ_ W=>False) i) (λ_ W=>False) a) (λ_ W=>False) a) (λ_ W=>False) f)(w:Nat)(c:A w f):
  codeAny (aM Xm l) O (.compLoop (.ListComp Yu [⟨b,Ye,Ys,0⟩] XI Xu) 0 Xj e Xk) Xf f:=by
 refine codeAny_loop rfl A (λw f q=>?_) w c;show wpAny _ O ((compTurn (.ListComp Yu [⟨b,Ye,Ys,0⟩] XI Xu) 0 Xj e Xk).onRaise (λh=>do noteFrame h Xk;theTreesLotGoes h)) _ _ f;refine wpAny_noted ?_;rw[compTurn_list];refine ak (ur<|ak<|gT (p w f q) (λs a d=>?_) λ_ W M=>M.elim);cases s with
 |none=>exact aK d
 |some u=>
  refine ak (gT d (λ_ a d=>?_) λ_ W M=>M.elim);refine ak (gT d (λ_ i r=>ak<|gT r (λok g o=>?_) λ_ W M=>M.elim) λ_ W M=>M.elim);cases ok with
  |false=>exact aK ⟨rfl,o⟩
  |true=>
   exact ak (ak<|gT o (λh j t=>ak<|gT t (λ_ m v=>aK<|aK ⟨rfl,v⟩) λ_ W M=>M.elim) λ_ W M=>M.elim)
noncomputable def o4(Xk:fu)(a:List (aB×dJ)):List (aB×af):=a.foldl (λr H=>if H.2==.free then (H.1,(Xk.cells.lookup H.1).getD 0)::r else r) []
theorem Aj{Xk:fu}:∀(a:List (aB×dJ)) (r:List (aB×af)),(∀H∈a,H.2=.free->∃n,Xk.cells.lookup H.1=Z n)->
  (forIn a r λ(H:aB×dJ) r=>if H.2==.free then (do let n <-uX Xk H.1;pure (ForInStep.yield ((H.1,n)::r))) else pure (ForInStep.yield r):dz _)=
   pure (a.foldl (λr H=>if H.2==.free then (H.1,(Xk.cells.lookup H.1).getD 0)::r else r) r)
 |[],r,_=>rfl
 |H::s,r,c=>by
  rw[sg,lT];by_cases b:H.2=.free
  ·let⟨@n,f⟩:=c H mA b;have d:(H.2==dJ.free)=aa:=by simp[b]
   rw[aA d,aA d];have g:uX Xk H.1=pure n:=by unfold uX;rw[f]
   rw[g,f];show (forIn s ((H.1,n)::r) _:dz _)=_;exact Aj s _ λC e=>c C (lp _ e)
  ·have d:¬ (H.2==dJ.free)=aa:=by simp[b]
   rw[aI d,aI d];show (forIn s r _:dz _)=_;exact Aj s _ λC e=>c C (lp _ e)
theorem Tb(c:∀H∈XI.names,H.2=.free->∃n,Xk.cells.lookup H.1=Z n):closureFor XI Xk=pure (o4 Xk XI.names):=by
 have:=Aj (Xk:=Xk) XI.names [] c;unfold closureFor;dsimp only;have d:(forIn XI.names ([]:List (aB×af))<|λ(h:aB×dJ) (s:List (aB×af))=>(if h.2==.free then (do let n <-uX Xk h.1;pure (ForInStep.yield ((h.1,n)::s))) else pure (ForInStep.yield s):dz (ForInStep<|List<|aB×af)))=pure (o4 Xk XI.names):=this;rw[d];rfl
theorem DI{Xk:fu}:∀(b:List (aB×dJ)) (r:List (aB×af)) (h:aB) (n:af),
  (b.foldl (λr H=>if H.2==.free then (H.1,(Xk.cells.lookup H.1).getD 0)::r else r) r).lookup h=Z n->
  (n=(Xk.cells.lookup h).getD 0/\(h,dJ.free)∈b)\/r.lookup h=Z n
 |[],r,h,n,c=>.inr c
 |H::s,r,h,n,c=>by
  rw[lT]at c;rcases DI s _ h n c with ⟨d,k⟩|c
  ·exact .inl ⟨d,lp _ k⟩
  ·by_cases a:H.2=.free
   ·rw[aA (by simp[a])]at c;rw[jf]at c;by_cases e:h=H.1
    ·subst e;rw[kH]at c;refine .inl ⟨(Option.some.inj c).symm,?_⟩;rw[<-a];exact mA
    ·have:(h==H.1)=au:=by simpa using e
     rw[this]at c;exact .inr c
   ·rw[aI (by simp[a])]at c;exact .inr c
theorem yK{Xk:fu}:∀(a:List (aB×dJ)) (r:List (aB×af)) (h:aB),(h,dJ.free)∈a\/(∃n,r.lookup h=Z n)->
  ∃n,(a.foldl (λr H=>if H.2==.free then (H.1,(Xk.cells.lookup H.1).getD 0)::r else r) r).lookup h=Z n
 |[],r,h,c=>by
  rcases c with c|c
  ·cases c
  ·exact c
 |H::s,r,h,c=>by
  rw[lT];apply yK s _ h;rcases c with c|⟨n,c⟩
  ·rcases bO.mp c with d|c
   ·right;subst d;rw[aA (by rfl),jf,kH];exact⟨_,rfl⟩
   ·exact .inl c
  ·right;by_cases b:(H.2==dJ.free)=aa
   ·rw[aA b,jf];cases h==H.1
    ·exact⟨n,c⟩
    ·exact⟨_,rfl⟩
   ·rw[aI b];exact⟨n,c⟩
structure kk where
 aP:af
 s:ah
 H:aw
 cb:List af
variable{Yk:kk->cn}{YA:kk->eu}{I:kk->hh}
def aO.dt(b:aO)(c:List aB)(XI:hI)(a:kk): aO :=
  {prog:=b.prog,w:=b.w,K:=b.K,aH:=b.aH,base:=b.base,A:=b.A,N:=c,fo:=a.s,pG:=a.H,env:=ue XI (o4 b.env XI.names) a.aP b.env,outer:=b.stack,stack:=b.stack,
    ex:=a.cb,fn:=λ_ => au,calm:=b.calm,lE:=[],cW:=λ_ W => False}
theorem yr{Xk:fu}:∀{f:List (aB×dJ)}{h:aB}{q:dJ},
  (f.map λ(w,q)=>if (q==dJ.free&&Xk.scope.kind==.function&&Xk.kindOf w==Z .cell) then (w,dJ.cell) else (w,q)).lookup h=Z q->
  (q=.cell\/q=.free)->(∀H∈f,H.2≠.cell)->(h,dJ.free)∈f
 |[],h,q,c,_,_=>by simp at c
 | (w,e)::s,h,q,c,a,g=>by
  rw[cw]at c;dsimp only at c;by_cases i:h=w
  ·subst i;by_cases b:(e==dJ.free&&Xk.scope.kind==.function&&Xk.kindOf h==Z .cell)=aa
   ·have:e=dJ.free:=by
     simp only[cU]at b;exact by simpa using b.1.1
    subst this;exact mA
   ·simp only[b]at c;have d:e=q:=by simpa [jf] using c
    subst d;rcases a with a|a
    ·exact absurd a (g (h,e) mA)
    ·rw[a];exact mA
  ·have j:(h==w)=au:=by simpa using i
   have M:(s.map λ(w,q)=>if (q==dJ.free&&Xk.scope.kind==.function&&Xk.kindOf w==Z .cell) then (w,dJ.cell) else (w,q)).lookup h=Z q:=by
    by_cases b:(e==dJ.free&&Xk.scope.kind==.function&&Xk.kindOf w==Z .cell)=aa
    ·rw[aA b,jf,j]at c;exact c
    ·rw[aI b,jf,j]at c;exact c
   exact lp _ (yr M a λH k=>g H<|lp _ k)
section
variable{b:aO}
structure j0(b:aO)(XI:hI)(own:List aB)(XU:List Nat):Prop where
 kind:XI.kind=.function
 cell:∀H∈XI.names,H.2≠.cell
 free:∀H∈XI.names,H.2=.free->b.env.scope.names.lookup H.1=Z .cell
 loc:∀H∈XI.names,H.2=.local->XI.names.lookup H.1=Z .local
 Oq:∀a∈XU,∃h,b.N[a]?=Z h/\(h,dJ.free)∈XI.names/\XI.names.lookup h=Z .free
def gX(b:aO)(own:List aB)(XU:List Nat):List aB:=own++XU.map λa=>b.N.getD a ""
def kq(own:List aB)(XU:List Nat)(D:a3):a3:=own.map (λ_=>Y)++XU.map λa=>D.getD a Y
theorem j0.cells(Xr:j0 b XI own XU)(ok:b.Ok):∀H∈XI.names,H.2=.free->∃n,b.env.cells.lookup H.1=Z n:=
 λH a c=>ok.has H.1 (.inl<|Xr.free H a c)
theorem j0.sub(Xr:j0 b XI own XU)(ok:b.Ok){h:aB}{n:af}(c:(o4 b.env XI.names).lookup h=Z n):b.env.cells.lookup h=Z n/\(h,dJ.free)∈XI.names:=by
 rcases DI XI.names [] h n c with ⟨d,k⟩|c
 ·let⟨@e,a⟩:=Xr.cells ok (h,.free) k rfl;rw[show (List.lookup h b.env.cells)=Z e from a]at d;refine⟨?_,k⟩;rw[d];exact a
 ·simp at c
theorem DN(Xr:j0 b XI own XU)(A:aE b G D j f)(l:f.heap.objs.size<=aP)(i:∀e∈cb,gV b G j e)(o:∀e∈cb,e<f.heap.objs.size):(b.dt (gX b own XU) XI ⟨aP,f,j,cb⟩).Ok where
 mod:=A.ok.mod
 kind:=Xr.kind
 glob:=A.ok.glob
 blt:=A.ok.blt
 above:=l
 inj:=λh H n z E=>A.ok.inj h H n (Xr.sub A.ok z).1 (Xr.sub A.ok E).1
 has:=λh g=>by
  have k:(h,dJ.free)∈XI.names:=by
   rcases g with g|g
   ·exact yr g (.inl rfl) Xr.cell
   ·exact yr g (.inr rfl) Xr.cell
  exact yK XI.names [] h (.inl k)
 qU:=λh n c W=>nomatch c
 hd:=A.ok.hd
 frames:=A.ok.frames
 rv:=.inl rfl
 ys:=λe a=>⟨cZ<|fI (o e a) l,λh n c=>(i e a).2.2.2.2.1 h n (Xr.sub A.ok c).1⟩
 bs:=A.bs
 mx:=e0 A.ok.mx A.jx
 qk:=λe m d a=>by
  rcases (i e a).2.2.2.1 with C|C
  ·exact A.ok.qk e m d C
  ·exact absurd (fI (bI d)<|e0 A.ok.mx C) (jJ _)
 q8:=λe a C=>by
  rcases bO.mp (A.Bi e C) with d|d
  ·exact (i e a).2.1 d
  ·exact (i e a).2.2.1 d
 i0:=A.stack
 oE:=A.Hh
theorem My{z:aV}{XT:Nat}{k:aB->Option ab}(Xr:j0 b XI own XU)(A:aE b G D j f)(E:f.heap.objs.size<=aP)(T:∀e∈cb,gV b G j e)(U:∀e∈cb,e<f.heap.objs.size)(v:∀e m,f.heap.get? e=Z m->z.get? e=Z m)(al:z.Ns aP k):
  aE (b.dt (gX b own XU) XI ⟨aP,f,j,cb⟩) [] (kq own XU D) j {f with heap:=z,toks:=XT} where
 ok:=DN Xr A E T U
 os:=rfl
 bare:=A.bare
 base:=fG.kept v
 loc:=by
  let⟨@be,bi,am⟩:=A.loc;refine⟨k,al,λr h u g d l=>?_⟩;have g:(own++XU.map λa=>b.N.getD a "")[r]?=Z h:=g;have d:(own.map (λ_=>(Y:Option ar))++XU.map λa=>D.getD a Y)[r]?=Z (Z u):=d;by_cases an:r<own.length
  ·rw[kb (by rw[a9];exact an),dZ]at d;cases p:own[r]? with
   |none=>rw[p]at d;cases d
   |some C=>rw[p]at d;cases d
  ·rw[jS ⋯,dZ]at g;rw[jS (by rw[a9];lia),dZ,a9]at d;cases p:XU[r-own.length]? with
   |none=>rw[p]at g;cases g
   |some a=>
    rw[p]at g d;have g:b.N.getD a "" = h:=Option.some.inj g;have d:D.getD a Y=Z u:=Option.some.inj d;let⟨@i,F,I,ap⟩:=Xr.Oq a (fH p);have J:i=h:=by
     rw[<-g,cM,F];rfl
    subst J;have Xi:D[a]?=Z (Z u):=by
     rw[cM]at d;cases M:D[a]? with
     |none=>rw[M]at d;cases d
     |some C=>rw[M]at d;rw[show C=Z u from d]
    have O:=Xr.free (i,.free) I rfl;let⟨@L,s,lk⟩:=am a i u F Xi (.inr<|.inl O);refine⟨L,s,.inr ⟨?_,?_⟩⟩
    ·rcases l with l|l|l
     ·
      exfalso;have:∀{x:List (aB×dJ)},x.lookup i=Z .free->(x.map λ(w,q)=>if (q==dJ.free&&b.env.scope.kind==.function&&b.env.kindOf w==Z .cell) then (w,dJ.cell) else (w,q)).lookup i≠Z .local:=by
       intro x;induction x with
       |nil=>intro c;simp at c
       |cons H s P=>
        let⟨w,q⟩:=H;intro c;rw[cw];dsimp only;by_cases Q:i=w
        ·subst Q;have R:q=.free:=by simpa [jf] using c
         subst R;by_cases t:(dJ.free==dJ.free&&b.env.scope.kind==ScopeKind.function&&b.env.kindOf i==Z dJ.cell)=aa
         ·rw[aA t];simp[jf]
         ·rw[aI t];simp[jf]
        ·have y:(i==w)=au:=by simpa using Q
         rw[jf,y]at c;by_cases t:(q==dJ.free&&b.env.scope.kind==ScopeKind.function&&b.env.kindOf w==Z dJ.cell)=aa
         ·rw[aA t,jf,y];exact P c
         ·rw[aI t,jf,y];exact P c
      exact this ap l
     ·exact .inl l
     ·exact .inr l
    ·rcases lk with ⟨as,_⟩|⟨_,n,a1,a2⟩
     ·exact absurd (as.symm.trans O) (by simp)
     ·let⟨@bm,S⟩:=yK (Xk:=b.env) XI.names [] i (.inl I);have:=(Xr.sub A.ok S).1;rw[a1]at this;cases this;let⟨@m,B,hd⟩:=a2;exact⟨n,S,m,v _ _ B,hd⟩
 cell:=λh n c=>by
  let⟨u,@m,B,hd⟩:=A.cell h n (Xr.sub A.ok c).1;exact⟨u,m,v _ _ B,hd⟩
 free:=A.aZ.fresh E
 jj:=λh n c=>A.jj h n (Xr.sub A.ok c).1
 pin:=λo bd=>nomatch bd
 aZ:=A.aZ.kept v
 len:=by simp[kq,gX,aO.dt]
end
section
variable{b:aO}
def JJ(b:aO)(Ys:List bx)(i:eu)(G:List (af×a0)):Prop:=
 ∀(f:ah) (D:a3) (j:aw) (B:Bool->aw->Prop),aE b G D j f->i D j B->
  wpAny (aM b.prog b.w) b.A (forIn Ys aa λn s=>if s=aa then do let ok <-qT n b.env (bZ n b.env);pure (ForInStep.yield ok) else pure (ForInStep.yield s)) (vA b G D B) b.cW f
def td(b:aO)(Ys:List bx)(i:eu):Prop:=∀G,JJ b Ys i G
def V9:eu:=λ_ j B=>B aa j
theorem VV:td b [] V9:=λG f D j B A c=>wpAny_tests_nil ⟨j,A,c⟩
theorem RQ{n:bx}{i:eu}(c:ic b n i):td b [n] i:=λG f D j B A a=>wpAny_tests_one (c G f D j B A a)
def Qe(own:List aB)(XU:List Nat)(I:hh)(YA:eu)(Yk:cn)(D:a3)(XW:List ar->aw->Prop)(Xp:List ar)(h:ar)(N:aw):Prop:=
 I h (kq own XU D) N λa XD=>(∀(r:Nat) (u:ar),(kq own XU D)[r]?=Z (Z u)->a[r]?=Z (Z u))/\YA a XD λe b=>if e=aa then Yk a b λu c=>Xp.length<sizeLine/\XW (Xp++[u]) c else XW Xp b
def NZ(Yg:fq)(own:List aB)(XU:List Nat)(I:hh)(YA:eu)(Yk:cn)(D:a3)(Xn:aw)(B:cP):Prop:=
 ∃W:Nat->Nat->List ar->aw->Prop,(∃k,W 0 k [] Xn)/\∀a k Xp j,W a k Xp j->(Yg.stop a j/\∀y,j y=Y->B (.ref y) (upd j y<|.lst Xp))\/
  (Yg.go a j/\∃XW:List ar->aw->Prop,(∀b N,XW b N->∃c,c<k/\W (a+1) c b N)/\∀h N,Yg.rE a j h N->Qe own XU I YA Yk D XW Xp h N)
noncomputable def vW(own:List aB)(XU:List Nat)(Yw:bF)(I:kk->hh)(YA:kk->eu)(Yk:kk->cn):cn:=λD j B=>Yw D j λYg Xn=>∀a:kk,NZ Yg own XU (I a) (YA a) (Yk a) D Xn B
noncomputable def JT(i:hI)(XW:List aB)(XI:hI)(XU:List Nat):Bool:=
 XI.kind==.function&&XI.names.all (λH=>H.2 != .cell)&&XI.names.all (λH=>H.2 != .free || i.names.lookup H.1==Z .cell)&&XI.names.all (λH=>H.2 != .local || XI.names.lookup H.1==Z .local) &&
  XU.all (λa=>match XW[a]? with|some h=>XI.names.lookup h==Z .free|none=>au)
theorem mem_of_lookup:∀{t:List (aB×dJ)}{h:aB}{q:dJ},t.lookup h=Z q->(h,q)∈t
 |[],_,_,c=>by simp at c
 | (w,b)::s,h,q,c=>by
  rw[jf]at c;by_cases a:h=w
  ·subst a;rw[kH]at c;cases c;exact mA
  ·rw[show (h==w)=au by simpa using a]at c;exact lp _ (mem_of_lookup c)
theorem jC{b:aO}(i:hI)(XW:List aB)(c:JT i XW XI XU=aa)(d:b.env.scope=i:=by rfl)(j:b.N=XW:=by rfl):j0 b XI own XU:=by
 unfold JT at c;simp only[cU,jT,bne_iff_ne,ne_eq,t8,oQ]at c;let@⟨@⟨@⟨@⟨z,E⟩,k⟩,l⟩,m⟩:=c;refine⟨z,E,λH e f=>?_,λH e f=>?_,λa U=>?_⟩
 ·rw[d];exact (k H e).resolve_left λC=>C f
 ·exact (l H e).resolve_left λC=>C f
 ·have:=m a U;rw[j];cases p:XW[a]? with
  |none=>rw[p]at this;cases this
  |some h=>
   rw[p]at this;have g:XI.names.lookup h=Z .free:=by simpa using this
   exact⟨h,rfl,mem_of_lookup g,g⟩
theorem J7{XZ:Pos}{use:Option (ab->dz Unit)}{f0:ab->ah->Prop}{kt:cP}(ol:b.calm=aa)(Xr:j0 b XI own XU)(U:jN b XK Ye Yw)(on:∀an,ka (b.dt (gX b own XU) XI an) XK<|I an)(bQ:∀an,td (b.dt (gX b own XU) XI an) Ys<|YA an)(op:∀an,b6 (b.dt (gX b own XU) XI an) Yu<|Yk an)(Xi:∀h,mH Ye b.env h=pure h)(A:aE b G D j f)(c:vW own XU Yw I YA Yk D j kt)(o0:∀(y aP:af) (f1:aw) (F:ah) (k:aB->Option ab),aE b G D f1 F->F.heap.Ns aP k->f1 aP=Y->b.env.locals≠aP->(∀h n,b.env.cells.lookup h=Z n->n≠aP)->b.fo.heap.objs.size<=aP->(∀o∈b.lE++G,o.1≠aP)->kt (.ref y) f1->compPost (aM b.prog b.w) b.A b.cW use f0 (.ref y) aP (.ok .next) F):
  wpAny (aM b.prog b.w) b.A (yq (.ListComp Yu [⟨XK,Ye,Ys,0⟩] XI Xu) XI b.env XZ (n3 []) au (bZ Ye b.env) use) f0 b.cW f:=by
 refine wpAny_comprehension_free (use:=use) rfl Xi (Tb<|Xr.cells A.ok) Xr.kind Xr.loc (cc (U G f D j _ A c) λu u8 z=>cc z λv0 v E=>?_);let⟨Xj,cb,i,Yg,@XD,d,al,T,f2,ap,pc⟩:=E;subst d;have cr:∀e∈cb,e<v.heap.objs.size:=λe r=>by
  let⟨@m,d,O⟩:=T.obj _ _ f2 e r;exact bI d
 refine gh (wpAny_newFunctionEnv Xr.cell (by intro H pi;simp at pi) (λf4 cs ca=>?_) Xr.kind);dsimp only at cs ca ⊢;generalize f8:v.heap.push {cls:=.type "list",dict:=Y,data:=.seq ([]:List ab).toArray}=db at cs ca ⊢;have cd:db.objs.size=v.heap.objs.size+1:=by rw[<-f8,gN]
 have bd:v.heap.objs.size≠db.objs.size:=by rw[cd];exact cZ (kE _)
 have ga:v.heap.objs.size<=db.objs.size:=by rw[cd];exact zi _
 have ge:∀e m,v.heap.get? e=Z m->f4.get? e=Z m:=λe m d=>
  ca.extBut e m (by rw[cd];exact cZ (uN<|bI d)) (bH _<|f8 ▸ bH _ d);have kw:f4.get? v.heap.objs.size=Z {cls:=.type "list",data:=.seq ([]:List ab).toArray 0}:=ca.extBut _ _ bd (bH _<|f8 ▸ cI _ rfl);generalize v1:db.objs.size=aP at cs ca cd bd ga ⊢;generalize be:v.heap.objs.size=y at kw cd bd ga ⊢;have ce:v.heap.objs.size<=aP:=by rw[be];exact ga
 let⟨@W,⟨@pm,jD⟩,turn⟩:=pc ⟨aP,v,XD,cb⟩;have lc:=λ(XT:Nat)=>My (XT:=XT) Xr al ce ap cr ge cs;have lf:=on ⟨aP,v,XD,cb⟩;have li:=bQ ⟨aP,v,XD,cb⟩;have lm:=op ⟨aP,v,XD,cb⟩;have gl:=DN Xr al ce ap cr;generalize M:b.dt (gX b own XU) XI ⟨aP,v,XD,cb⟩=t at lc lf li lm gl;have bm:t.prog=b.prog:=by rw[<-M];rfl
 have bn:t.w=b.w:=by rw[<-M];rfl
 have ln:t.K=b.K:=by rw[<-M];rfl
 have ch:t.A=b.A:=by rw[<-M];rfl
 have ls:t.calm=aa:=by rw[<-M];exact ol
 have cz:t.env.locals=aP:=by rw[<-M];rfl
 have gt:t.ex=cb:=by rw[<-M];rfl
 have ds:t.fo=v:=by rw[<-M];rfl
 have po:t.pG=XD:=by rw[<-M];rfl
 have pp:t.aN=iL b.stack:=by rw[<-M];rfl
 have dL:t.lE=[]:=by rw[<-M];rfl
 have g1:t.cW=λ_ O=>False:=by rw[<-M];rfl
 have lv:t.env=ue XI (o4 b.env XI.names) aP b.env:=by rw[<-M];rfl
 have lw:∀h n,t.env.cells.lookup h=Z n->b.env.cells.lookup h=Z n:=λh n c=>(Xr.sub al.ok (by rw[lv]at c;exact c)).1;have pr:∀h n,t.env.cells.lookup h=Z n->n≠y:=λh n c C=>by
  let⟨u,@m,as,O⟩:=al.cell h n (lw h n c);have:=bI as;rw[C,<-be]at this;exact jJ _ this
 have g2:∀e∈cb,e≠y:=λe r C=>by
  have:=cr e r;rw[C,<-be]at this;exact jJ _ this
 have pt:y∉t.aN:=λC=>by
  let@⟨_,⟨@m,as,_⟩⟩:=gl.i0.mem C;rw[ds]at as;have:=bI as;rw[be]at this;exact jJ _ this
 have g3:∀(N:aw) (m:a0),(∀e∈cb,N e=Y)->∀e∈cb,gV t [(y,m)] N e:=λN m hd e r=>by
  refine⟨hd e r,?_,?_,.inl (by rw[gt];exact r),λh n c=>(ap e r).2.2.2.2.1 h n (lw h n c),λo B=>?_⟩
  ·rw[cz];exact cZ (fI (cr e r) ce)
  ·exact gl.q8 e (by rw[gt];exact r)
  ·rw[dL]at B;have:o=(y,m):=by simpa using B
   rw[this];exact eN (g2 e r)
 have mb:∀he:ah,he={v with heap:=f4,toks:=v.toks+([]:List (aB×ab)).length}->
   codeAny (aM b.prog b.w) b.A (.compLoop (.ListComp Yu [⟨XK,Ye,Ys,0⟩] XI Xu) 0 (.ref Xj) (.ref y) t.env)
    (compPost (aM b.prog b.w) b.A b.cW use f0 (.ref y) aP) he:=by
  rintro he rfl;refine L_ (λw Xe=>∃(a:Nat) (Xp:List ar) (N:aw) (Xq:List ab) (q:Nat),aE t [(y,{cls:=.type "list",data:=.seq Xq.toArray q})] (kq own XU D) N Xe/\bY Xp Xq/\Xp.length<=sizeLine/\i a Xe.heap/\
   (∀e∈cb,N e=Y)/\W a w Xp N) ?_ pm ?_
  ·rintro w mo ⟨a,Xp,P,Xq,q,hf,eq,mp,ms,m0,d9⟩;rcases turn a w Xp P d9 with ⟨stop,pu⟩|⟨go,XW,na,step⟩
   ·have:=T.done t bm bn ln ls a _ mo _ P (λ_ O=>False) hf (g3 P _ m0) ms stop;rw[ch]at this;refine cc this λs F Q=>?_;let@⟨hm,a1⟩:=Q;subst hm;let⟨@k,hd,O⟩:=a1.loc;have py:F.heap.Ns aP k:=by rw[<-cz];exact hd
    have B:=a1.pin (y,{cls:=.type "list",data:=.seq Xq.toArray q}) (by rw[dL];simp);have bs:P y=Y:=B.2.1;have c5:∀e,e≠aP->F.heap.get? e=F.heap.get? e:=λe r=>rfl;have bv:∀e m,v.heap.get? e=Z m->e≠aP:=λe m d=>cZ (fI (bI d) ce);have rc:∀e m,v.heap.get? e=Z m->e≠y:=λe m d=>by rw[<-be];exact cZ (bI d)
    have am:fG (iL b.stack) cb XD P v.heap F.heap:=by
     have:=a1.base;rw[pp,gt,po,ds]at this;exact this
    have L:fG (iL b.stack) cb XD (upd P y<|.lst Xp) v.heap F.heap:=
     ⟨λe m d w r bi=>(c5 e<|bv e m d).trans<|am.keep e m d w r bi,
      λe m d w r bi=>by
      let⟨@aY,p⟩:=am.slot e m d w r bi;exact⟨aY,(c5 e<|bv e m d).trans p⟩,
      λe m d w bi=>by rw[dp (rc e m d)];exact am.free e m d w bi,
      λe m d bi=>by
      let⟨@R,p⟩:=am.there e m d bi;exact⟨R,(c5 e<|bv e m d).trans p⟩,
      λe x d=>by rw[dp (hC (am.k5 e x d) bs)];exact am.k5 e x d,
      λe m x d=>by rw[dp (hC (am.kJ e m x d) bs)];exact am.kJ e m x d,
      λe Xo d=>by
      let⟨@re,p⟩:=am.lX e Xo d;exact⟨re,by rw[dp (hC p bs)];exact p⟩⟩
    have nb:∀e m,P e=Z m->e≠aP:=λe m d C=>by
     have:=a1.free;rw[cz,<-C,d]at this;cases this
    have rs:ej b.prog b.w (upd P y<|.lst Xp) F.heap:=λg m d=>by
     by_cases ne:g=y
     ·subst ne;rw[e_]at d;cases d;exact⟨mp,Xq,q,eq,(c5 _ bd).trans B.1⟩
     ·rw[dp ne]at d;have:=a1.aZ g m d;rw[bm,bn]at this;refine this.ht (λe L r p=>(c5 e ?_).trans p) (λe p=>by rw[dp (hC p bs)];exact p) λe x p=>by rw[dp (hC p bs)];exact p
      rcases r with C|C
      ·rw[C];exact nb g m d
      ·exact nb e _ C
    have sc:aE b G D (upd P y<|.lst Xp) F:=al.Sp (Xe:=F) (Yo:=cb) (by have:=a1.os;rw[ds]at this;exact this) L rs a1.bare λe r=>⟨(ap e r).2.2.2.1,(ap e r).2.1,(ap e r).2.2.2.2.1,(ap e r).2.2.2.2.2⟩;have sn:b.env.locals≠aP:=by
     let⟨@v2,sp,O⟩:=al.loc;let⟨m,O,@O,as,O⟩:=sp;exact bv _ _ as
    have ss:∀h n,b.env.cells.lookup h=Z n->n≠aP:=λh n c=>by
     let⟨u,@m,as,O⟩:=al.cell h n c;exact bv _ _ as
    refine o0 y aP _ F k sc py ?_ sn ss ?_ (λo B=>bv _ _ (al.pin o B).1) (pu y bs)
    ·rw[dp (eN bd)];have:=a1.free
     rwa [cz]at this
    ·exact e0 al.jx ce
   ·have:=T.item t bm bn ln ls a _ mo _ P (λ_ O=>False) hf (g3 P _ m0) ms go;rw[ch]at this;refine cc this λs F Q=>?_;let⟨@L,hm,sw⟩:=Q;subst hm;refine cc sw λ_ ci Q=>?_;let⟨h,@hw,sB,sK,s0,h0,s1⟩:=Q;have s2:=sB.pinned (g3 hw _ s1) (T.obj _ _ h0);have nl:=lf _ ci _ hw h L _ s2 sK (step h hw s0);rw[bm,bn,ch,g1]at nl;refine cc nl λ_ s3 Q=>?_;let⟨cl,@s4,s5,to,tt⟩:=Q;have nm:=li _ s3 cl s4 _ s5 tt;rw[bm,bn,ch,g1]at nm;refine cc nm λe ty Q=>?_;let⟨@nn,ev,fd⟩:=Q;have no:∀{np:a3}{N:aw}{Xe:ah},aE t ([(y,{cls:=.type "list",data:=.seq Xq.toArray q})]++nQ cb ci.heap) np N Xe->(∀e∈cb,N e=Y)/\i (a+1) Xe.heap:=λ{np N Xe} co=>by
     refine⟨λe r=>?_,T.keep _ _ _ h0 λe r m d=>(co.pin (e,m)<|fj _<|fj _<|v3 r d).1⟩;let⟨@m,d,O⟩:=T.obj _ _ h0 e r;exact (co.pin (e,m)<|fj _<|fj _<|v3 r d).2.1
    have d4:∀{ii:List (af×a0)}{N:aw}{Xe:ah},aE t ii cl N Xe->aE t ii (kq own XU D) N Xe:=λ{ii N Xe} co=>
     co.weak (by rw[co.len,hf.len]) to;cases e with
    |false=>
     rw[aI dy]at fd;let⟨@im,io,tz⟩:=na _ _ fd;rw[aI dy];let@⟨XF,XH⟩:=no ev;exact⟨im,io,a+1,Xp,nn,Xq,q,d4 (ev.pX λo B=>ev.pin o (by
      rw[dL];simp at B ⊢;exact .inl B)),eq,mp,XH,XF,tz⟩
    |true=>
     rw[aA rfl]at fd ⊢;have ns:=lm _ ty cl nn _ ev fd;rw[bm,bn,ch,g1]at ns;refine cc ns λS a2 Q=>?_;let⟨t0,@it,fn,t1,v4,t3⟩:=Q;let⟨@im,io,ul⟩:=na _ _ t3;have B:=fn.pin (y,{cls:=.type "list",data:=.seq Xq.toArray q}) (fj _ (gc _ (by simp)));have jp:=B.1;refine q4 CO ⟨_,jp,rfl⟩ GF (CM _ _) (C_ y Xq.toArray q S (by rw[cO,<-eq.length];lia)) ⟨jp,?_⟩;have p:=E2 jp (λg=>g.push S);let@⟨XF,XH⟩:=no fn;have un:aE t (nQ cb ci.heap) cl it a2:=fn.pX λo B=>fn.pin o (fj _<|fj _ B);have nw:∀e m,e≠y->a2.heap.get? e=Z m->(a2.heap.update y<|a0.mapSeq λg=>g.push S).get? e=Z m:=λe m r d=>(gw a2.heap _<|eN r).trans d;have up:aE t (nQ cb ci.heap) cl it {a2 with heap:=a2.heap.update y (a0.mapSeq λg=>g.push S),toks:=a2.toks}:=
      un.turned (Xj:=y) nw B.2.1 (by rw[cz];exact bd) (.inr (by rw[ds,be];exact ba _)) pr λo fr=>by
       rw[dL]at fr;let@⟨r,_⟩:=F7 (show o∈nQ cb ci.heap by simpa using fr);exact g2 _ r
     refine⟨im,io,a+1,Xp++[t0],it,Xq++[S],q+1,d4<|up.pX λo fr=>?_,eq.append<|.cons t1 .nil,?_,?_,XF,ul⟩
     ·have d:o=(y,{cls:=.type "list",data:=.seq (Xq++[S]).toArray (q+1)}):=by simpa using fr
      subst d;refine⟨?_,B.2.1,B.2.2.1,B.2.2.2.1,λu C=>by cases C⟩;have us:Xq.toArray.push S=(Xq++[S]).toArray:=by simp
      rw[<-us];have of:IsL (a2.heap.update y<|a0.mapSeq λg=>g.push S) y (Xq.toArray.push S) (if (Xq.toArray.push S).size==Xq.toArray.size then q else q+1):=p;rw[aI (by simp)]at of;exact of
     ·rw[c7,nX];lia
     ·refine T.keep _ _ _ XH λe r m d=>nw e m (g2 e r) d
  ·refine⟨0,[],XD,[],0,?_,.nil,gC _,T.keep _ _ _ f2 λe O m d=>ge e m d,λe r=>(ap e r).1,jD⟩;refine (lc _).pX λo B=>?_;have d:o=(y,{cls:=.type "list",data:=.seq ([]:List ab).toArray 0}):=by simpa using B
   subst d;exact⟨kw,al.aZ.fresh (by rw[be];exact ba _),by rw[cz];exact bd,pt,λu C=>by cases C⟩
 have ut:ue XI (o4 b.env XI.names) aP b.env=t.env:=lv.symm;show codeAny (aM b.prog b.w) b.A (.compStart _ 0 (.ref Xj) (.ref y)<|ue XI (o4 b.env XI.names) aP b.env) _ _;rw[ut];exact codeAny_compStart_list (mb _ rfl) (T.self b.A 0 _ _ _ (T.keep _ _ _ f2 λe O m d=>ge e m d)<|mb _ rfl)
theorem QL(i:b.calm=aa)(Xr:j0 b XI own XU)(U:jN b XK Ye Yw)(l:∀a,ka (b.dt (gX b own XU) XI a) XK<|I a)(bQ:∀a,td (b.dt (gX b own XU) XI a) Ys<|YA a)(q:∀a,b6 (b.dt (gX b own XU) XI a) Yu<|Yk a)(Xi:∀h,mH Ye b.env h=pure h:=by intro W;rfl):b6 b (.ListComp Yu [⟨XK,Ye,Ys,0⟩] XI Xu) (vW own XU Yw I YA Yk):=by
 intro G f D j B A c;show wpAny _ b.A (yq (.ListComp Yu [⟨XK,Ye,Ys,0⟩] XI Xu) XI b.env _ (n3 []) au (bZ Ye b.env) Y) _ _ f;refine J7 (use:=Y) (f0:=eM b G D B) i Xr U l bQ q Xi A c λy aP r g k s u F t n C o p=>?_;show ∃k,g.heap.Ns aP k/\∀M,aV.SameBut aP g.heap M->eM b G D B (.ref y) {g with heap:=M};refine⟨k,u,λM cQ=>⟨.ref y,r,?_,rfl,p⟩⟩;exact s.turned (Xj:=aP) (XM:=g.toks) (λe m v d=>(cQ.2 e v).trans d) F (eN t) (.inr C) n o
end
def hQ(c:aV)(v:af)(Xb:List ab)(XN:Nat):Prop:=∃m S,c.get? v=Z m/\m.ExactDict/\m.data=.dict S XN/\S.toList.map (·.key)=Xb
theorem hQ.ty(h:hQ f.heap v Xb XN):f.TypeIs (.ref v) "dict" := let ⟨m,_,d,n,_⟩:=h;⟨m,d,n.1⟩
theorem hQ.lt(h:hQ c v Xb XN):v<c.objs.size:=let ⟨_,_,d,_⟩:=h;bI d
theorem hQ.go{M:aV}(h:hQ c v Xb XN)(q:∀m,c.get? v=Z m->M.get? v=Z m):hQ M v Xb XN:=let ⟨m,S,d,s⟩:=h;⟨m,S,q m d,s⟩
section
variable{Xm:bJ}{l:bc}{O:bw}{Xg:ab->ah->Prop}{f:ah}
theorem GR{B:ab->ah->Prop}(R:(v==j4)=au)(h:hQ f.heap v Xb XN)(p:B (.ref f.heap.objs.size) {f with heap:=f.heap.push {cls:=.type "dict_keyiterator",data:=.fields #[.ref v,.int 0 0,.int Xb.length 0,.int XN 0]} }):wpAny (aM Xm l) O (oz<|.ref v) B Xg f:=by
 have ty:=h.ty;let⟨m,@S,a,d,b,c⟩:=h;have w:S.size=Xb.length:=by rw[<-c,a9,dr]
 refine y9 ty Hg (hA Hg ty F.entry_dict_iter ?C<|F.args_dict_iter_1 _)
 case C=>
  unfold aX.«dict.__iter__» aX.Dict.dictSlotNone;refine ak (ak<|Il ty ?_);show wpAny _ _ (pure<|ab.ref v) _ _ f;apply aK;show wpAny _ _ (aX.Dict.showsAll v >>= _) _ _ f;unfold aX.Dict.showsAll;rw[aI (by rw[R];simp)];refine ak (aK<|ak<|Bq a b<|ak<|AB a b<|ak<|gh<|aK ⟨_,rfl,"dict_keyiterator",_,⟨_,cI _ rfl,rfl⟩,sG.lookup,?_⟩);simpa [ey,w] using p
theorem EC{u:ab}(b:f.heap.IsKeyIter Xj v a Xb.length XN)(h:hQ f.heap v Xb XN)(d:Xb[a]?=Z u)(p:∀M,M.IsKeyIter Xj v (a+1) Xb.length XN->aV.SameBut Xj f.heap M->B (Z u) {f with heap:=M}):wpAny (aM Xm l) O (ff<|.ref Xj) B Xg f:=by
 let⟨@o,e,n,c⟩:=id b;let⟨m,@S,g,q,i,j⟩:=h;have w:S.size=Xb.length:=by rw[<-j,a9,dr]
 have U:a<S.size:=by
  have:a<Xb.length:=(ek.mp d).1;lia
 have R:S[a].key=u:=by
  rw[<-j,dZ,eS,ju U]at d;exact Option.some.inj d
 unfold ff;refine ak (oA<|lK (name:=aB.ofString "__next__") b.typeIs sG<|hA sG b.typeIs Je ?C<|E8 _)
 case C=>
  refine ak (aK<|ak<|ak ?_);refine ak (wZ b.typeIs<|aK<|ak<|p1 e c ?_);simp only[show aX.Dict_items.ownsTuple "dict_keyiterator" = au by decide,gQ,fx];show wpAny _ _ (if (ab.ref v==ab.none)=aa then _ else _) _ _ f;rw[aI (show ¬ (ab.ref v==ab.none)=aa by intro C;cases C)];refine ak (aK<|ak<|Bq g i ?_);rw[aI (by simp[w])];refine ak (aK<|ak<|AB g i ?_);rw[aI (by simp)];apply aK;simp only[show ¬ ((a:Int)<0) by lia,fx,kV,ju U];refine ak (ak<|wZ b.typeIs<|aK<|ak<|H4 b.typeIs ?_);show wpAny _ _ (vv (.ref Xj) 1 (ey<|(a:Int)+1) >>= _) _ _ f;have k:(f.heap.update Xj (a0.mapFields (·.setIfInBounds 1 (ey<|(a:Int)+1)))).IsKeyIter Xj v (a+1) Xb.length XN:=
   ⟨_,jq _ e<|xe<|p9 c _,(As ..).trans n,by rw[p9 c];simp[ey]⟩;refine ak (oP e c (by simp) (ak (fl (ak (H4 (s:={f with heap:=f.heap.update Xj (a0.mapFields (·.setIfInBounds 1 (ey<|(a:Int)+1)))}) k.typeIs ?_)))));show wpAny _ _ (pure S[a].key) _ _ _;rw[R];exact aK (aK ⟨_,rfl,aK<|p _ k<|l0 ..⟩)
theorem Kq(n:O.handled=Y)(b:f.heap.IsKeyIter Xj v a Xb.length XN)(h:hQ f.heap v Xb XN)(q:Xb.length<=a)(p:∀M,aV.ExtBut Xj f.heap M->B Y {f with heap:=M}):wpAny (aM Xm l) O (ff<|.ref Xj) B Xg f:=by
 let⟨@r,c,s,d⟩:=id b;let⟨m,@S,i,t,j,o⟩:=h;have w:S.size=Xb.length:=by rw[<-o,a9,dr]
 unfold ff;refine ak (oA<|lK (name:=aB.ofString "__next__") b.typeIs sG<|hA sG b.typeIs Je ?C<|E8 _)
 case C=>
  refine ak (aK<|ak<|ak ?_);refine ak (wZ b.typeIs<|aK<|ak<|p1 c d ?_);simp only[show aX.Dict_items.ownsTuple "dict_keyiterator" = au by decide,gQ,fx];show wpAny _ _ (if (ab.ref v==ab.none)=aa then _ else _) _ _ f;rw[aI (show ¬ (ab.ref v==ab.none)=aa by intro C;cases C)];refine ak (aK<|ak<|Bq i j ?_);rw[aI (by simp[w])];refine ak (aK<|ak<|AB i j ?_);rw[aI (by simp)];apply aK;simp only[show ¬ ((a:Int)<0) by lia,fx,kV,xf (show S.size<=a by lia)];refine ak (ak<|wZ b.typeIs<|aK ?_);show wpAny _ _ (vv (.ref Xj) 0 .none >>= _) _ _ f;refine ak (oP c d (by simp) ?_);show wpAny _ _ (qQ (.type "StopIteration") [] >>= _) _ _ _;apply ak;simp only[qQ,r_];refine ak (gh (ak (m:=rd _ _) (oW (a:=ab.none) (by first|rfl|(simp only[rd];rfl)) (gh ?_ (by size_fits)))) (by size_fits));simp only[raiseNew];apply ak;apply Aw;rw[show O.in1.handled=Y from n];refine ak (m:=pure _) (aK<|yW ?_);apply ak;refine ow (T := "StopIteration") (b:=aa) ⟨_,cI _ rfl,rfl⟩ vu ?_;exact aK (p _<|((l0 ..).extBut.push _).push _)
theorem QR(j:O.handled=Y)(Xj v:af)(ne:v≠Xj)(Xb:List ab)(XN:Nat):h1 Xm l O Xj [Xj,v] [Xj] Xb.length (λa u=>Xb[a]?=Z u) (λa c=>c.IsKeyIter Xj v a Xb.length XN/\hQ c v Xb XN) where
 sub:=λe k=>by
  have:e=Xj:=by simpa using k
  simp[this]
 frame:=λa c M X q=>⟨let ⟨m,d,s⟩:=X.1;⟨m,q Xj (by simp) m d,s⟩,X.2.go (q v (by simp))⟩
 item:=λa f B Xg U X b=>by
  have i:Xb[a]?=Z Xb[a]:=by simp[U]
  refine EC X.1 X.2 i λM g e=>b _ M f.toks i ⟨g,X.2.go λm d=>e.extBut v m ne d⟩ λn m h d=>e.extBut n m (by simpa using h) d
 done:=λf B Xg X b=>Kq j X.1 X.2 (ba _) λM e=>b M f.toks λn m h d=>e n m (by simpa using h) d
 self:=λa f B Xg X b=>Fc X.1 b
theorem Tw(R:(v==j4)=au):PySem.W.KdlSrc Xm l "dict" v v Xb.length (λa u=>Xb[a]?=Z u) (λc=>hQ c v Xb XN) where
 type:=λf h=>h.ty
 there:=λc h=>⟨h.lt,h.lt⟩
 keep:=λc M h q=>h.go (q v<|.inl rfl)
 notList:=by decide
 notTuple:=by decide
 hint:=λO Xg f B h p=>PySem.W.kdl_hint_dict h.ty p
 iter:=λO f b h=>⟨_,_,(λXg B p=>GR R h p),QR b _ v (cZ h.lt) Xb XN,⟨⟨_,cI _ rfl,rfl,rfl⟩,h.go λm d=>bH _ d⟩⟩
end
end L2
namespace L2
open PySem PySem.Spec PyProof.Rows PySem.W
section
variable{w:Nat}{Q:Nat->Int}{b:Nat->Nat->(Bool->ah->Prop)->ah->Prop}
def bb(Q:Nat->Int)(o:Array Nat)(a:Nat):Int:=Q (o.getD a 0)
def iS(Q:Nat->Int)(o:Array Nat)(k:Nat):Prop:=∀a r,a<=r->r<k->bb Q o a<=bb Q o r
def gq(w:Nat)(Q:Nat->Int)(b:Nat->Nat->(Bool->ah->Prop)->ah->Prop)(f:ah):Prop:=∀a r aP,a<w->r<w->aP (decide (Q a<Q r)) f->b a r aP f
def b7(w:Nat)(o:Array Nat):Prop:=o.toList.Perm (range w)
variable{o:Array Nat}
theorem b7.size(c:b7 w o):o.size=w:=by
 have:=c.length_eq;simpa using this
theorem b7.lt(c:b7 w o){a:Nat}(U:a<w):o.getD a 0<w:=by
 have Xi:=c.size;have d:o.getD a 0=o[a]:=by simp[Array.getD,Xi,U]
 rw[d];have:o[a]∈o.toList:=by simp
 exact eJ.mp (c.mem_iff.mp this)
theorem b7.ne(c:b7 w o)(inj:∀a r,a<w->r<w->Q a=Q r->a=r){a r:Nat}(i:a<r)(b:r<w):bb Q o a≠bb Q o r:=by
 intro d;have Xi:=c.size;have e:=inj _ _ (c.lt (by omega)) (c.lt b) d;have f:o.getD a 0=o[a]:=by simp[Array.getD,Xi,show a<w by omega]
 have g:o.getD r 0=o[r]:=by simp[Array.getD,Xi,b]
 rw[f,g]at e;have ag:o.toList.Nodup:=c.nodup_iff.mpr rC;have h:o.toList[a]'(by simpa [Xi] using (show a<w by omega))=o.toList[r]'(by simpa [Xi] using b):=by simpa using e
 have:=(B8 ag).mp h;omega
theorem m5{p:Array Nat}{a r:Nat}(d:o[a]?=p[r]?):bb Q o a=bb Q p r:=by
 unfold bb;rw[Io,Io,d]
theorem b7.rev(c:b7 w o)(a r:Nat):b7 w (nR o a r):=(JA.mp<|mirror_perm o a r _).trans c
theorem b7.R8(c:b7 w o)(a r:Nat):b7 w (tF o a r):=(JA.mp<|bubble_perm o a r).trans c
end
section
variable{Xm:bJ}{l:bc}{O:bw}{Xg:ab->ah->Prop}{XG:g9}{Xj:Array bj}{Q:Nat->Int}
end
section
variable{Xm:bJ}{l:bc}{O:bw}{Xg:ab->ah->Prop}{XG:g9}{Xj:Array bj}{Q:Nat->Int}{w:Nat}{f:ah}
noncomputable def ps:Bool->bj->Array bj->Nat->Nat->Nat->StateT bB dz (Option Nat):=sortPriv% PySem.Builtin.gallop
theorem tr(b:gq w Q (fK Xm l O XG Xj) f){a r:Nat}(U:a<w)(d:r<w){X:bB}(e:kindOf X=XG){B:Option Bool->bB->ah->Prop}(c:B (Z<|decide (Q a<Q r)) X f):
  kasC (aM Xm l) O Xg (lt' (bg Xj a)<|bg Xj r) B X f:=by
 rw[lt'_eq];apply bh;apply km;have:=b a r (λn Xe=>Xe=f/\n=decide (Q a<Q r)) U d ⟨rfl,rfl⟩;unfold fK at this;rw[e];refine bh (oB<|oA<|gT this (λn Xe g=>?_) λ_ W h=>h.elim);let@⟨rfl,rfl⟩:=g;exact bf c
theorem hb{D Ya:Type}{az:gA}{F:Nat->Ya->StateT D dz (ForInStep Ya)}{B:Ya->D->ah->Prop}(A:Nat->Ya->D->ah->Prop)(step:∀h n X Xe,A h n X Xe->kasC az O Xg (F h n) (λs b e=>match s with | .yield a=>A (h+1) a b e | .done a=>B a b e) X Xe):∀(k g:Nat) (n:Ya) (X:D) (Xe:ah),(∀n X Xe,A (g+k) n X Xe->B n X Xe)->A g n X Xe->
   kasC az O Xg (forIn (range' g k) n F) B X Xe
 |0,g,n,X,Xe,f,c=>by
  show kasC az O Xg (forIn ([]:List Nat) n F) B X Xe;exact kasC_nil (f n X Xe c)
 |k+1,g,n,X,Xe,f,c=>by
  show kasC az O Xg (forIn (g::range' (g+1) k) n F) B X Xe;refine kasC_cons (gT (step g n X Xe c) (λs e M=>?_) λ_ W d=>d);let⟨s,b⟩:=s;cases s with
  |done a=>exact M
  |yield a=>exact hb A step k (g+1) a b e (λn X Xe U=>f n X Xe (by rw[show g+(k+1)=g+1+k by lia];exact U)) M
noncomputable def c1(Q:Nat->Int)(left:Bool)(q:Nat)(bM:Array Nat)(Xv a:Nat):Bool:=if left=aa then decide (Q (bM.getD (Xv+a) 0)<Q q) else !decide (Q q<Q (bM.getD (Xv+a) 0))
theorem D4(M:gq w Q (fK Xm l O XG Xj) f){left:Bool}{q:Nat}(N:q<w){bM:Array Nat}(al:∀a,a<bM.size->bM.getD a 0<w){Xv k b:Nat}(as:Xv+k<=bM.size)(am:b<k)(mono:∀a r,a<=r->r<k->c1 Q left q bM Xv r=aa->c1 Q left q bM Xv a=aa){X:bB}(P:kindOf X=XG){B:Option Nat->bB->ah->Prop}(c:∀s,s<=k->(∀a,a<s->c1 Q left q bM Xv a=aa)->(∀a,s<=a->a<k->c1 Q left q bM Xv a=au)->B (Z s) X f):
  kasC (aM Xm l) O Xg (ps left (bg Xj q) (bM.map<|bg Xj) Xv k b) B X f:=by
 have an:∀a,a<k->(bM.map<|bg Xj)[Xv+a]?=Z (bg Xj<|bM.getD (Xv+a) 0):=λa U=>by
  have:Xv+a<bM.size:=⋯
  simp[Array.getD,this]
 have ask:∀a,a<k->∀L:Option Bool->bB->ah->Prop,L (Z<|c1 Q left q bM Xv a) X f->
   kasC (aM Xm l) O Xg (do let h <-elem' (bM.map<|bg Xj) (Xv+a);if left=aa then lt' h (bg Xj q) else do let s <-lt' (bg Xj q) h;pure (s.map λh=>!h)) L X f:=λa U L H=>by
  rw[wL,an a U];apply bh;apply bf;have S:=al (Xv+a) ⋯;unfold c1 at H;cases left with
  |true=>
   rw[aA rfl]at H ⊢;exact tr M S N P H
  |false=>
   rw[aI dy]at H ⊢;exact bh (tr M N S P<|bf H)
 unfold ps;with_unfolding_all refine bh ?_;refine ask b am _ ?_;dsimp only;cases T:c1 Q left q bM Xv b with
 |true=>
  rw[aA rfl];apply bh;apply gi;have F:∀last i,last<i->b+last<k->c1 Q left q bM Xv (b+last)=aa->(i >= k-b\/c1 Q left q bM Xv (b+i)=au)->
    b+last+1<=b+min i (k-b)/\b+min i (k-b)<=k/\(∀a,a<b+last+1->c1 Q left q bM Xv a=aa)/\(∀a,b+min i (k-b)<=a->a<k->c1 Q left q bM Xv a=au)/\b+min i (k-b)-(b+last+1)<=k-0:=λlast i ap Yb J D=>by
   refine⟨⋯,⋯,λa U=>mono a (b+last) ⋯ Yb J,λa z E=>?_,⋯⟩;rcases D with D|D
   ·lia
   ·cases x:c1 Q left q bM Xv a with
    |false=>rfl
    |true=>rw[mono (b+i) a ⋯ E x]at D;cases D
  refine hb (λh n o Xe=>o=X/\Xe=f/\∃last i,n=(Y,last,i)/\last<i/\h<i/\b+last<k/\c1 Q left q bM Xv (b+last)=aa) ?_ _ 0 _ _ _ ?_ ⟨rfl,rfl,0,1,rfl,⋯,⋯,⋯,T⟩
  ·rintro h n o Xe ⟨p,t,last,i,rfl,z,E,j,m⟩;rw[p,t];dsimp only;by_cases G:i >= k-b
   ·rw[aA G];apply bf;dsimp only;have y:=F last i z j m (.inl G);apply bh;apply gi;refine hb (λh n o Xe=>o=X/\Xe=f/\∃R U,n=(Y,R,U)/\R<=U/\U<=k/\(∀a,a<R->c1 Q left q bM Xv a=aa)/\(∀a,U<=a->a<k->c1 Q left q bM Xv a=au)/\U-R<=k-h) ?_ _ 0 _ _ _ ?_ ⟨rfl,rfl,_,_,rfl,y⟩
    ·rintro h n o Xe ⟨p,t,R,U,rfl,z,E,j,m,A⟩;rw[p,t];dsimp only;by_cases v:R >= U
     ·rw[aA v];apply bf;dsimp only;have d:R=U:=⋯
      subst d;exact bf (c R E j m)
     ·rw[aI v];have cf:R<=R+(U-R)/2:=⋯
      have C:R+(U-R)/2<U:=⋯
      generalize R+(U-R)/2=mid at cf C ⊢;refine bh (ask mid ⋯ _ ?_);dsimp only;cases u:c1 Q left q bM Xv mid with
      |true=>
       rw[aA rfl];exact bf ⟨rfl,rfl,mid+1,U,rfl,⋯,E,λa I=>mono a mid ⋯ ⋯ u,m,⋯⟩
      |false=>
       rw[aI dy];refine bf ⟨rfl,rfl,R,mid,rfl,⋯,⋯,j,λa g e=>?_,⋯⟩;cases x:c1 Q left q bM Xv a with
       |false=>rfl
       |true=>rw[mono mid a g e x]at u;cases u
    ·rintro n o Xe ⟨p,t,R,U,rfl,z,E,j,m,A⟩;rw[p,t];dsimp only;have d:R=U:=⋯
     subst d;exact bf (c R E j m)
   ·rw[aI G];refine bh (ask (b+i) ⋯ _ ?_);dsimp only;cases u:c1 Q left q bM Xv (b+i) with
    |true=>
     simp only[q2,gQ,fx];exact bf ⟨rfl,rfl,i,2*i+1,rfl,⋯,⋯,⋯,u⟩
    |false=>
     simp only[Bool.not_false,ie];apply bf;dsimp only;have y:=F last i z j m (.inr u);apply bh;apply gi;refine hb (λh n o Xe=>o=X/\Xe=f/\∃R U,n=(Y,R,U)/\R<=U/\U<=k/\(∀a,a<R->c1 Q left q bM Xv a=aa)/\(∀a,U<=a->a<k->c1 Q left q bM Xv a=au)/\U-R<=k-h) ?_ _ 0 _ _ _ ?_ ⟨rfl,rfl,_,_,rfl,y⟩
     ·rintro h n o Xe ⟨p,t,R,U,rfl,z,E,j,m,A⟩;rw[p,t];dsimp only;by_cases v:R >= U
      ·rw[aA v];apply bf;dsimp only;have d:R=U:=⋯
       subst d;exact bf (c R E j m)
      ·rw[aI v];have cf:R<=R+(U-R)/2:=⋯
       have C:R+(U-R)/2<U:=⋯
       generalize R+(U-R)/2=mid at cf C ⊢;refine bh (ask mid ⋯ _ ?_);dsimp only;cases u:c1 Q left q bM Xv mid with
       |true=>
        rw[aA rfl];exact bf ⟨rfl,rfl,mid+1,U,rfl,⋯,E,λa I=>mono a mid ⋯ ⋯ u,m,⋯⟩
       |false=>
        rw[aI dy];refine bf ⟨rfl,rfl,R,mid,rfl,⋯,⋯,j,λa g e=>?_,⋯⟩;cases x:c1 Q left q bM Xv a with
        |false=>rfl
        |true=>rw[mono mid a g e x]at u;cases u
     ·rintro n o Xe ⟨p,t,R,U,rfl,z,E,j,m,A⟩;rw[p,t];dsimp only;have d:R=U:=⋯
      subst d;exact bf (c R E j m)
  ·rintro n o Xe ⟨p,t,last,i,rfl,z,E,j,m⟩;rw[p,t];dsimp only;have y:=F last i z j m (.inl ⋯);apply bh;apply gi;refine hb (λh n o Xe=>o=X/\Xe=f/\∃R U,n=(Y,R,U)/\R<=U/\U<=k/\(∀a,a<R->c1 Q left q bM Xv a=aa)/\(∀a,U<=a->a<k->c1 Q left q bM Xv a=au)/\U-R<=k-h) ?_ _ 0 _ _ _ ?_ ⟨rfl,rfl,_,_,rfl,y⟩
   ·rintro h n o Xe ⟨p,t,R,U,rfl,z,E,j,m,A⟩;rw[p,t];dsimp only;by_cases v:R >= U
    ·rw[aA v];apply bf;dsimp only;have d:R=U:=⋯
     subst d;exact bf (c R E j m)
    ·rw[aI v];have cf:R<=R+(U-R)/2:=⋯
     have C:R+(U-R)/2<U:=⋯
     generalize R+(U-R)/2=mid at cf C ⊢;refine bh (ask mid ⋯ _ ?_);dsimp only;cases u:c1 Q left q bM Xv mid with
     |true=>
      rw[aA rfl];exact bf ⟨rfl,rfl,mid+1,U,rfl,⋯,E,λa I=>mono a mid ⋯ ⋯ u,m,⋯⟩
     |false=>
      rw[aI dy];refine bf ⟨rfl,rfl,R,mid,rfl,⋯,⋯,j,λa g e=>?_,⋯⟩;cases x:c1 Q left q bM Xv a with
      |false=>rfl
      |true=>rw[mono mid a g e x]at u;cases u
   ·rintro n o Xe ⟨p,t,R,U,rfl,z,E,j,m,A⟩;rw[p,t];dsimp only;have d:R=U:=⋯
    subst d;exact bf (c R E j m)
 |false=>
  rw[aI dy];apply bh;apply gi;have F:∀last i,last<i->last<=b->c1 Q left q bM Xv (b-last)=au->(i >= b+1\/c1 Q left q bM Xv (b-i)=aa)->
    b+1-min i (b+1)<=b-last/\b-last<=k/\(∀a,a<b+1-min i (b+1)->c1 Q left q bM Xv a=aa)/\(∀a,b-last<=a->a<k->c1 Q left q bM Xv a=au)/\b-last-(b+1-min i (b+1))<=k-0:=λlast i ap Yb J D=>by
   refine⟨⋯,⋯,λa U=>?_,λa z E=>?_,⋯⟩
   ·rcases D with D|D
    ·lia
    ·exact mono a (b-i) ⋯ ⋯ D
   ·cases x:c1 Q left q bM Xv a with
    |false=>rfl
    |true=>rw[mono (b-last) a ⋯ E x]at J;cases J
  refine hb (λh n o Xe=>o=X/\Xe=f/\∃last i,n=(Y,last,i)/\last<i/\h<i/\last<=b/\c1 Q left q bM Xv (b-last)=au) ?_ _ 0 _ _ _ ?_ ⟨rfl,rfl,0,1,rfl,⋯,⋯,⋯,T⟩
  ·rintro h n o Xe ⟨p,t,last,i,rfl,z,E,j,m⟩;rw[p,t];dsimp only;by_cases G:i >= b+1
   ·rw[aA G];apply bf;dsimp only;have y:=F last i z j m (.inl G);apply bh;apply gi;refine hb (λh n o Xe=>o=X/\Xe=f/\∃R U,n=(Y,R,U)/\R<=U/\U<=k/\(∀a,a<R->c1 Q left q bM Xv a=aa)/\(∀a,U<=a->a<k->c1 Q left q bM Xv a=au)/\U-R<=k-h) ?_ _ 0 _ _ _ ?_ ⟨rfl,rfl,_,_,rfl,y⟩
    ·rintro h n o Xe ⟨p,t,R,U,rfl,z,E,j,m,A⟩;rw[p,t];dsimp only;by_cases v:R >= U
     ·rw[aA v];apply bf;dsimp only;have d:R=U:=⋯
      subst d;exact bf (c R E j m)
     ·rw[aI v];have cf:R<=R+(U-R)/2:=⋯
      have C:R+(U-R)/2<U:=⋯
      generalize R+(U-R)/2=mid at cf C ⊢;refine bh (ask mid ⋯ _ ?_);dsimp only;cases u:c1 Q left q bM Xv mid with
      |true=>
       rw[aA rfl];exact bf ⟨rfl,rfl,mid+1,U,rfl,⋯,E,λa I=>mono a mid ⋯ ⋯ u,m,⋯⟩
      |false=>
       rw[aI dy];refine bf ⟨rfl,rfl,R,mid,rfl,⋯,⋯,j,λa g e=>?_,⋯⟩;cases x:c1 Q left q bM Xv a with
       |false=>rfl
       |true=>rw[mono mid a g e x]at u;cases u
    ·rintro n o Xe ⟨p,t,R,U,rfl,z,E,j,m,A⟩;rw[p,t];dsimp only;have d:R=U:=⋯
     subst d;exact bf (c R E j m)
   ·rw[aI G];refine bh (ask (b-i) ⋯ _ ?_);dsimp only;cases u:c1 Q left q bM Xv (b-i) with
    |false=>
     rw[aI dy];exact bf ⟨rfl,rfl,i,2*i+1,rfl,⋯,⋯,⋯,u⟩
    |true=>
     rw[aA rfl];apply bf;dsimp only;have y:=F last i z j m (.inr u);apply bh;apply gi;refine hb (λh n o Xe=>o=X/\Xe=f/\∃R U,n=(Y,R,U)/\R<=U/\U<=k/\(∀a,a<R->c1 Q left q bM Xv a=aa)/\(∀a,U<=a->a<k->c1 Q left q bM Xv a=au)/\U-R<=k-h) ?_ _ 0 _ _ _ ?_ ⟨rfl,rfl,_,_,rfl,y⟩
     ·rintro h n o Xe ⟨p,t,R,U,rfl,z,E,j,m,A⟩;rw[p,t];dsimp only;by_cases v:R >= U
      ·rw[aA v];apply bf;dsimp only;have d:R=U:=⋯
       subst d;exact bf (c R E j m)
      ·rw[aI v];have cf:R<=R+(U-R)/2:=⋯
       have C:R+(U-R)/2<U:=⋯
       generalize R+(U-R)/2=mid at cf C ⊢;refine bh (ask mid ⋯ _ ?_);dsimp only;cases u:c1 Q left q bM Xv mid with
       |true=>
        rw[aA rfl];exact bf ⟨rfl,rfl,mid+1,U,rfl,⋯,E,λa I=>mono a mid ⋯ ⋯ u,m,⋯⟩
       |false=>
        rw[aI dy];refine bf ⟨rfl,rfl,R,mid,rfl,⋯,⋯,j,λa g e=>?_,⋯⟩;cases x:c1 Q left q bM Xv a with
        |false=>rfl
        |true=>rw[mono mid a g e x]at u;cases u
     ·rintro n o Xe ⟨p,t,R,U,rfl,z,E,j,m,A⟩;rw[p,t];dsimp only;have d:R=U:=⋯
      subst d;exact bf (c R E j m)
  ·rintro n o Xe ⟨p,t,last,i,rfl,z,E,j,m⟩;rw[p,t];dsimp only;have y:=F last i z j m (.inl ⋯);apply bh;apply gi;refine hb (λh n o Xe=>o=X/\Xe=f/\∃R U,n=(Y,R,U)/\R<=U/\U<=k/\(∀a,a<R->c1 Q left q bM Xv a=aa)/\(∀a,U<=a->a<k->c1 Q left q bM Xv a=au)/\U-R<=k-h) ?_ _ 0 _ _ _ ?_ ⟨rfl,rfl,_,_,rfl,y⟩
   ·rintro h n o Xe ⟨p,t,R,U,rfl,z,E,j,m,A⟩;rw[p,t];dsimp only;by_cases v:R >= U
    ·rw[aA v];apply bf;dsimp only;have d:R=U:=⋯
     subst d;exact bf (c R E j m)
    ·rw[aI v];have cf:R<=R+(U-R)/2:=⋯
     have C:R+(U-R)/2<U:=⋯
     generalize R+(U-R)/2=mid at cf C ⊢;refine bh (ask mid ⋯ _ ?_);dsimp only;cases u:c1 Q left q bM Xv mid with
     |true=>
      rw[aA rfl];exact bf ⟨rfl,rfl,mid+1,U,rfl,⋯,E,λa I=>mono a mid ⋯ ⋯ u,m,⋯⟩
     |false=>
      rw[aI dy];refine bf ⟨rfl,rfl,R,mid,rfl,⋯,⋯,j,λa g e=>?_,⋯⟩;cases x:c1 Q left q bM Xv a with
      |false=>rfl
      |true=>rw[mono mid a g e x]at u;cases u
   ·rintro n o Xe ⟨p,t,R,U,rfl,z,E,j,m,A⟩;rw[p,t];dsimp only;have d:R=U:=⋯
    subst d;exact bf (c R E j m)
end
section
variable{Q:Nat->Int}
def cF(Q:Nat->Int)(t:List Nat):Prop:=t.Pairwise λh H=>Q h<=Q H
structure Tp(Q:Nat->Int)(A u:List Nat)(b:List Nat)(C G:Nat):Prop where
 perm:b.Perm (A.take C++u.take G)
 aJ:cF Q (b++A.drop C)
 cQ:cF Q (b++u.drop G)
 bM:C+1<A.length
 hy:G<u.length
variable{t k:List Nat}
theorem fW:cF Q (t++k)↔cF Q t/\cF Q k/\∀h∈t,∀H∈k,Q h<=Q H:=E5
theorem qw(t:List Nat)(a q:Nat):t.take a++(t.drop a).take q=t.take (a+q):=by rw[List.take_add]
variable{A u b:List Nat}{C G:Nat}
theorem wV(q:Nat)(perm:b.Perm (A.take C++u.take G))(aJ:cF Q (b++A.drop C))(cQ:cF Q (b++u.drop G))(c:∀h∈(A.drop C).take q,∀H∈u.drop G,Q h<=Q H):
  (b++(A.drop C).take q).Perm (A.take (C+q)++u.take G)/\cF Q (b++(A.drop C).take q++A.drop (C+q))/\cF Q (b++(A.drop C).take q++u.drop G):=by
 refine⟨?_,?_,?_⟩
 ·rw[<-qw A C q];refine (perm.append_right _).trans ?_;rw[bt,bt];exact d5 _ dx
 ·rw[bt,<-oR,fT];exact aJ
 ·rw[bt];have d:=fW.mp aJ;have e:=fW.mp cQ;refine fW.mpr ⟨d.1,fW.mpr ⟨d.2.1.sublist<|th _ _,e.2.1,c⟩,λh f H a=>?_⟩;rcases ee.mp a with a|a
  ·exact d.2.2 h f H (n5 a)
  ·exact e.2.2 h f H a
theorem ye(q:Nat)(perm:b.Perm (A.take C++u.take G))(aJ:cF Q (b++A.drop C))(cQ:cF Q (b++u.drop G))(c:∀h∈(u.drop G).take q,∀H∈A.drop C,Q h<=Q H):
  (b++(u.drop G).take q).Perm (A.take C++u.take (G+q))/\cF Q (b++(u.drop G).take q++A.drop C)/\cF Q (b++(u.drop G).take q++u.drop (G+q)):=by
 have:=wV (A:=u) (u:=A) q (perm.trans dx) cQ aJ c;exact⟨this.1.trans dx,this.2.2,this.2.1⟩
variable{a:Nat}
theorem kv(c:a<t.length):(t.drop a).take 1=[t.getD a 0]:=by
 rw[jH c,cM,dv c];rfl
variable{H:Nat}
theorem kA(c:H∈t.drop a):∃r,a<=r/\r<t.length/\H=t.getD r 0:=by
 let⟨r,b,d⟩:=ks.mp c;have e:=b;rw[e4]at e;exact⟨a+r,⋯,⋯,by rw[<-d,pw];simp[List.getD,show a+r<t.length by lia]⟩
variable{q:Nat}
theorem pW(c:H∈(t.drop a).take q):∃r,r<q/\a+r<t.length/\H=t.getD (a+r) 0:=by
 let⟨r,b,d⟩:=ks.mp c;have e:=b;rw[gv,e4]at e;exact⟨r,by omega,by omega,by rw[<-d,tY,pw];simp[List.getD,show a+r<t.length by omega]⟩
theorem oy(c:cF Q t){a r:Nat}(d:a<=r)(b:r<t.length):Q (t.getD a 0)<=Q (t.getD r 0):=by
 rcases Nat.lt_or_eq_of_le d with e|rfl
 ·have:=nF.mp c a r ⋯ b e;simpa [List.getD,b,show a<t.length by lia] using this
 ·exact hB _
theorem G2(c:cF Q (t++k)):cF Q k:=(fW.mp c).2.1
theorem p4{r:Nat}(c:cF Q (b++t.drop a))(d:a<=r)(e:r<=q)(f:q<t.length):Q (t.getD r 0)<=Q (t.getD q 0):=by
 have:=oy (G2 c) (a:=r-a) (r:=q-a) ⋯ (by rw[e4];lia);simpa [List.getD,k9,show a+(r-a)=r by lia,show a+(q-a)=q by lia] using this
def g7(Q:Nat->Int)(Xj:Array bj)(A u:List Nat)(out:Array bj):Prop:=∃b:List Nat,out=(b.map<|bg Xj).toArray/\b.Perm (A++u)/\cF Q b
variable{Xj:Array bj}
theorem tI(perm:b.Perm (A.take C++u.take G))(aJ:cF Q (b++A.drop C))(cQ:cF Q (b++u.drop G))(a:G=u.length\/C=A.length):
  g7 Q Xj A u ((b.map<|bg Xj).toArray++(A.map<|bg Xj).toArray.extract C (A.map<|bg Xj).toArray.size++(u.map<|bg Xj).toArray.extract G (u.map<|bg Xj).toArray.size):=by
 refine⟨b++A.drop C++u.drop G,?_,?_,?_⟩
 ·apply lN;simp[jG,vy]
 ·rw[bt];refine (perm.append_right _).trans ?_;have:(A.take C++u.take G++(A.drop C++u.drop G)).Perm ((A.take C++A.drop C)++(u.take G++u.drop G)):=by
   rw[bt,bt];refine d5 _ ?_;rw[<-bt,<-bt];exact fs _ dx
  rw[fT,fT]at this;exact this
 ·rcases a with d|d
  ·rw[d,zK,cC];exact aJ
  ·rw[d,zK,cC];exact cQ
theorem v5(perm:b.Perm (A.take C++u.take G))(aJ:cF Q (b++A.drop C))(cQ:cF Q (b++u.drop G))(d:C+1=A.length)(dF:∀h∈u,Q h<=Q (A.getD (A.length-1) 0)):
  g7 Q Xj A u ((b.map<|bg Xj).toArray++(u.map<|bg Xj).toArray.extract G (u.map<|bg Xj).toArray.size++(A.map<|bg Xj).toArray.extract C (A.map<|bg Xj).toArray.size):=by
 refine⟨b++u.drop G++A.drop C,?_,?_,?_⟩
 ·apply lN;simp[jG,vy]
 ·rw[bt];refine (perm.append_right _).trans ?_;have:(A.take C++u.take G++(u.drop G++A.drop C)).Perm ((A.take C++A.drop C)++(u.take G++u.drop G)):=by
   rw[bt,bt];refine d5 _ ?_;rw[<-bt];exact dx
  rw[fT,fT]at this;exact this
 ·refine fW.mpr ⟨cQ,G2 aJ,λh a H c=>?_⟩;rcases ee.mp a with a|a
  ·exact (fW.mp aJ).2.2 h a H c
  ·let⟨@r,z,E,rfl⟩:=kA c;have:r=A.length-1:=⋯
   rw[this];exact dF h (m3 a)
end
section
variable{Xm:bJ}{l:bc}{O:bw}{Xg:ab->ah->Prop}{XG:g9}{Xj:Array bj}{Q:Nat->Int}{w:Nat}{f:ah}
def Jg:Array bj->Array bj->StateT bB dz (Array bj):=sortPriv% PySem.Builtin.mergeLo
structure dB(s X:bB):Prop where
 k:kindOf X=kindOf s
 a:arrOf X=arrOf s
 p:iA X=iA s
 f:iE X=iE s
theorem dB.refl(X:bB):dB X X:=⟨rfl,rfl,rfl,rfl⟩
theorem ig{D Xx:Type}{az:gA}{k:StateT D dz Xx}{B a:Xx->D->ah->Prop}{X:D}{Xe:ah}(c:kasC az O Xg k a X Xe)(I:∀g X Xe,a g X Xe->B g X Xe):kasC az O Xg k B X Xe:=
 gT c (λs Xe h=>I s.1 s.2 Xe h) λ_ W d=>d
variable{t:List Nat}
theorem gI{a:Nat}(U:a<t.length){X:bB}{B:bj->bB->ah->Prop}(c:B (bg Xj<|t.getD a 0) X f):kasC (aM Xm l) O Xg (elem' (t.map<|bg Xj).toArray a) B X f:=by
 rw[wL,show ((t.map<|bg Xj).toArray)[a]?=Z (bg Xj<|t.getD a 0) by simp[List.getD,U]];exact bf c
theorem jM(b:∀h∈t,h<w){a:Nat}(U:a<t.length):t.getD a 0<w:=by
 rw[cM,dv U];exact b _ (r6 U)
theorem mw(t:List Nat)(a:Nat):t.toArray.getD a 0=t.getD a 0:=by simp[Array.getD,List.getD];split<;>simp_all
theorem y8(d:gq w Q (fK Xm l O XG Xj) f){q:Nat}(i:q<w){t:List Nat}(j:∀h∈t,h<w){Xv k b:Nat}(m:Xv+k<=t.length)(n:b<k)(mono:∀a r,Xv<=a->a<=r->r<Xv+k->Q (t.getD a 0)<=Q (t.getD r 0)){X:bB}(o:kindOf X=XG){B:Option Nat->bB->ah->Prop}(c:∀s,s<=k->(∀a,Xv<=a->a<Xv+s->Q (t.getD a 0)<=Q q)->(∀a,Xv+s<=a->a<Xv+k->Q q<Q (t.getD a 0))->B (Z s) X f):
  kasC (aM Xm l) O Xg (ps au (bg Xj q) (t.map<|bg Xj).toArray Xv k b) B X f:=by
 rw[<-E7];refine D4 d i (λa U=>by rw[mw];exact jM j (by simpa using U)) (by simpa using m) n (λa r v x p=>?_) o λs u g e=>c s u (λa z E=>?_) (λa z E=>?_)
 ·simp only[c1,mw,gQ,fx,yS,yN,vF]at p ⊢;have:=mono (Xv+a) (Xv+r) ⋯ ⋯ ⋯;lia
 ·have:=g (a-Xv) ⋯;simp only[c1,mw,gQ,fx,yS,yN,vF]at this
  rwa [show Xv+(a-Xv)=a by lia]at this
 ·have:=e (a-Xv) ⋯ ⋯;simp only[c1,mw,gQ,fx,Bool.not_eq_false',t_]at this
  rwa [show Xv+(a-Xv)=a by lia]at this
theorem zN(d:gq w Q (fK Xm l O XG Xj) f){q:Nat}(i:q<w){t:List Nat}(j:∀h∈t,h<w){Xv k b:Nat}(m:Xv+k<=t.length)(n:b<k)(mono:∀a r,Xv<=a->a<=r->r<Xv+k->Q (t.getD a 0)<=Q (t.getD r 0)){X:bB}(o:kindOf X=XG){B:Option Nat->bB->ah->Prop}(c:∀s,s<=k->(∀a,Xv<=a->a<Xv+s->Q (t.getD a 0)<Q q)->(∀a,Xv+s<=a->a<Xv+k->Q q<=Q (t.getD a 0))->B (Z s) X f):
  kasC (aM Xm l) O Xg (ps aa (bg Xj q) (t.map<|bg Xj).toArray Xv k b) B X f:=by
 rw[<-E7];refine D4 d i (λa U=>by rw[mw];exact jM j (by simpa using U)) (by simpa using m) n (λa r v x p=>?_) o λs u g e=>c s u (λa z E=>?_) (λa z E=>?_)
 ·simp only[c1,mw,ie,t_]at p ⊢;have:=mono (Xv+a) (Xv+r) ⋯ ⋯ ⋯;lia
 ·have:=g (a-Xv) ⋯;simp only[c1,mw,ie,t_]at this
  rwa [show Xv+(a-Xv)=a by lia]at this
 ·have:=e (a-Xv) ⋯ ⋯;simp only[c1,mw,ie,yN,vF]at this
  rwa [show Xv+(a-Xv)=a by lia]at this
theorem qe(b:List Nat)(H:Nat):(b.map<|bg Xj).toArray.push (bg Xj H)=((b++[H]).map<|bg Xj).toArray:=by simp
theorem E4(b t:List Nat)(a q:Nat):(b.map<|bg Xj).toArray++(t.map<|bg Xj).toArray.extract a (a+q)=((b++(t.drop a).take q).map<|bg Xj).toArray:=by
 apply lN;simp[jG,jy,rN]
end
section
variable{Xm:bJ}{l:bc}{O:bw}{Xg:ab->ah->Prop}{XG:g9}{Xj:Array bj}{Q:Nat->Int}{w:Nat}{f:ah}
def iu(Q:Nat->Int)(Xj:Array bj)(A u:List Nat)(out:Array bj)(C G:Nat):Prop:=∃b:List Nat,out=(b.map<|bg Xj).toArray/\Tp Q A u b C G
variable{D Xx:Type}
theorem FW{az:gA}{O:bw}{Xg:ab->ah->Prop}{n:Nat->Prop}{b:∀I,Decidable (n I)}{g Xs:Nat->StateT D dz Xx}{B:Xx->D->ah->Prop}{X:D}{f:ah}(h:Nat->Nat)(a:∀I,g I=Xs (h I))(j:∀I,kasC az O Xg (Xs I) B X f):∀I,kasC az O Xg (if n I then g I else Xs I) B X f:=by
 intro I;rw[a];split
 ·exact j _
 ·exact j _
variable{n:Prop}
theorem wd{az:gA}{O:bw}{Xg:ab->ah->Prop}{i:Decidable n}{b Yg:Array bj->Nat->StateT D dz Xx}{B:Xx->D->ah->Prop}{X:D}{f:ah}(d e:Array bj->Nat->Prop)(j:∀m a,e m a->kasC az O Xg (Yg m a) B X f)(g:¬ n->∀m a,d m a->e m a)(h:(∀m a,e m a->kasC az O Xg (Yg m a) B X f)->n->∀m a,d m a->kasC az O Xg (b m a) B X f):∀m a,d m a->kasC az O Xg (if n then b m a else Yg m a) B X f:=λm a o=>
 if c:n then by rw[aA c];exact h j c m a o else by rw[aI c];exact j m a (g c m a o)
theorem Jy{az:gA}{O:bw}{Xg:ab->ah->Prop}{F:bB->bB}{B:PUnit->bB->ah->Prop}{s X:bB}{f:ah}(Xi:dB s (F X))(c:∀a,dB s a->B ⟨⟩ a f):kasC az O Xg (modify F:StateT bB dz PUnit) B X f:=k2 (c _ Xi)
def rG(Q:Nat->Int)(Xj:Array bj)(A u:List Nat)(X:bB)(f:ah): Option (Array bj)×Array bj×Nat×Nat×Nat->bB->ah->Prop:=λn b Xe=>f=Xe/\dB X b/\∃a o p s I,n=(Z a,o,p,s,I)/\g7 Q Xj A u a
def sk(Q:Nat->Int)(Xj:Array bj)(A u:List Nat)(X:bB)(f:ah)(h:Nat):Option (Array bj)×Array bj×Nat×Nat×Nat->bB->ah->Prop:=λn a Xe=>f=Xe/\dB X a/\∃m C G I,n=(Y,m,C,G,I)/\iu Q Xj A u m C G/\h+1<=C+G
def lh(Q:Nat->Int)(Xj:Array bj)(A u:List Nat)(X:bB)(f:ah)(h:Nat):Option (Array bj)×Array bj×Nat×Nat×Nat×Nat->bB->ah->Prop:=λn c Xe=>f=Xe/\dB X c/\((∃b o p s ac a,n=(Z b,o,p,s,ac,a)/\g7 Q Xj A u b)\/∃m C G ac a,n=(Y,m,C,G,ac,a)/\iu Q Xj A u m C G/\h+2<=C+G)
def rm(Q:Nat->Int)(Xj:Array bj)(A u:List Nat)(X:bB)(f:ah)(h H:Nat):Option (Array bj)×Array bj×Nat×Nat×Nat×Nat->bB->ah->Prop:=λn a Xe=>f=Xe/\dB X a/\∃m C G ac b,n=(Y,m,C,G,ac,b)/\iu Q Xj A u m C G/\h+1+H<=C+G
def j7(Q:Nat->Int)(Xj:Array bj)(A u:List Nat)(X:bB)(f:ah)(h:Nat):Option (Array bj)×Array bj×Nat×Nat×Nat×Nat×Nat->bB->ah->Prop:=λn c Xe=>f=Xe/\dB X c/\((∃b o p s I ac a,n=(Z b,o,p,s,I,ac,a)/\g7 Q Xj A u b)\/∃m C G I ac a,n=(Y,m,C,G,I,ac,a)/\iu Q Xj A u m C G/\h+2<=C+G)
def rT(Q:Nat->Int)(Xj:Array bj)(A u:List Nat)(X:bB)(f:ah)(h H:Nat):Option (Array bj)×Array bj×Nat×Nat×Nat×Nat×Nat->bB->ah->Prop:=λn a Xe=>f=Xe/\dB X a/\∃m C G I ac b,n=(Y,m,C,G,I,ac,b)/\iu Q Xj A u m C G/\h+2<=C+G
theorem rG.a{Q:Nat->Int}{Xj:Array bj}{A u:List Nat}{X b:bB}{f:ah}{out:Array bj}{o:Array bj}{p s:Nat}{I:Nat}(c:dB X b)(k:g7 Q Xj A u out):rG Q Xj A u X f (Z out,o,p,s,I) b f:=⟨rfl,c,_,_,_,_,_,rfl,k⟩
theorem sk.k{Q:Nat->Int}{Xj:Array bj}{A u:List Nat}{X a:bB}{f:ah}{h:Nat}{m:Array bj}{C G:Nat}{I:Nat}(c:dB X a)(r:iu Q Xj A u m C G)(d:h+1<=C+G):sk Q Xj A u X f h (Y,m,C,G,I) a f:=⟨rfl,c,_,_,_,_,rfl,r,d⟩
theorem lh.a{Q:Nat->Int}{Xj:Array bj}{A u:List Nat}{X b:bB}{f:ah}{h:Nat}{out:Array bj}{o:Array bj}{p s:Nat}{I d:Nat}(c:dB X b)(k:g7 Q Xj A u out):lh Q Xj A u X f h (Z out,o,p,s,I,d) b f:=⟨rfl,c,.inl ⟨_,_,_,_,_,_,rfl,k⟩⟩
theorem lh.b{Q:Nat->Int}{Xj:Array bj}{A u:List Nat}{X a:bB}{f:ah}{h:Nat}{m:Array bj}{C G:Nat}{I g:Nat}(c:dB X a)(r:iu Q Xj A u m C G)(d:h+2<=C+G):lh Q Xj A u X f h (Y,m,C,G,I,g) a f:=⟨rfl,c,.inr ⟨_,_,_,_,_,rfl,r,d⟩⟩
theorem rm.k{Q:Nat->Int}{Xj:Array bj}{A u:List Nat}{X a:bB}{f:ah}{h H:Nat}{m:Array bj}{C G:Nat}{I b:Nat}(c:dB X a)(r:iu Q Xj A u m C G)(d:h+1+H<=C+G):rm Q Xj A u X f h H (Y,m,C,G,I,b) a f:=⟨rfl,c,_,_,_,_,_,rfl,r,d⟩
theorem j7.a{Q:Nat->Int}{Xj:Array bj}{A u:List Nat}{X b:bB}{f:ah}{h:Nat}{out:Array bj}{o:Array bj}{p s:Nat}{I d e:Nat}(c:dB X b)(k:g7 Q Xj A u out):j7 Q Xj A u X f h (Z out,o,p,s,I,d,e) b f:=⟨rfl,c,.inl ⟨_,_,_,_,_,_,_,rfl,k⟩⟩
theorem j7.b{Q:Nat->Int}{Xj:Array bj}{A u:List Nat}{X a:bB}{f:ah}{h:Nat}{m:Array bj}{C G:Nat}{I g i:Nat}(c:dB X a)(r:iu Q Xj A u m C G)(d:h+2<=C+G):j7 Q Xj A u X f h (Y,m,C,G,I,g,i) a f:=⟨rfl,c,.inr ⟨_,_,_,_,_,_,rfl,r,d⟩⟩
theorem rT.k{Q:Nat->Int}{Xj:Array bj}{A u:List Nat}{X a:bB}{f:ah}{h H:Nat}{m:Array bj}{C G:Nat}{I b e:Nat}(c:dB X a)(r:iu Q Xj A u m C G)(d:h+2<=C+G):rT Q Xj A u X f h H (Y,m,C,G,I,b,e) a f:=⟨rfl,c,_,_,_,_,_,_,rfl,r,d⟩
theorem QP{g e:Nat}(c:g=e):(g==e)=aa:=by simp[c]
theorem Lo{g e:Nat}(c:¬ g=e):¬ (g==e)=aa:=by simp[c]
theorem l8{az:gA}{O:bw}{Xg:ab->ah->Prop}{g:Nat}{t:List Nat}{h H:StateT D dz Xx}{B:Xx->D->ah->Prop}{X:D}{f:ah}(bQ:g=t.length->kasC az O Xg h B X f)(a:¬ g=t.length->kasC az O Xg H B X f):kasC az O Xg (if (g==(List.map (bg Xj) t).toArray.size)=aa then h else H) B X f:=by
 rw[show (List.map (bg Xj) t).toArray.size=t.length by simp];by_cases c:g=t.length
 ·rw[aA (QP c)];exact bQ c
 ·rw[aI (Lo c)];exact a c
theorem mD{az:gA}{O:bw}{Xg:ab->ah->Prop}{b:Decidable n}{h H:StateT D dz Xx}{B:Xx->D->ah->Prop}{X:D}{f:ah}(bQ:n->kasC az O Xg h B X f)(a:¬ n->kasC az O Xg H B X f):kasC az O Xg (if n then h else H) B X f:=if c:n then by rw[aA c];exact bQ c else by rw[aI c];exact a c
theorem Vy(b:gq w Q (fK Xm l O XG Xj) f){q:Nat}(d:q<w){t:List Nat}(i:∀h∈t,h<w){Xv:Nat}(m:Xv<t.length)(mono:∀a r,Xv<=a->a<=r->r<t.length->Q (t.getD a 0)<=Q (t.getD r 0)){X:bB}(j:kindOf X=XG){B:Option Nat->bB->ah->Prop}(c:∀s,Xv+s<=t.length->(∀a,Xv<=a->a<Xv+s->Q (t.getD a 0)<=Q q)->(∀a,Xv+s<=a->a<t.length->Q q<Q (t.getD a 0))->B (Z s) X f):
  kasC (aM Xm l) O Xg (ps au (bg Xj q) (t.map<|bg Xj).toArray Xv ((t.map<|bg Xj).toArray.size-Xv) 0) B X f:=by
 rw[show (t.map<|bg Xj).toArray.size=t.length by simp];exact y8 b d i ⋯ ⋯ (λa r g e n=>mono a r g e ⋯) j λs z E k=>c s ⋯ E λa g e=>k a g ⋯
theorem Ly(b:gq w Q (fK Xm l O XG Xj) f){q:Nat}(d:q<w){t:List Nat}(i:∀h∈t,h<w){Xv:Nat}(m:Xv<t.length)(mono:∀a r,Xv<=a->a<=r->r<t.length->Q (t.getD a 0)<=Q (t.getD r 0)){X:bB}(j:kindOf X=XG){B:Option Nat->bB->ah->Prop}(c:∀s,Xv+s<=t.length->(∀a,Xv<=a->a<Xv+s->Q (t.getD a 0)<Q q)->(∀a,Xv+s<=a->a<t.length->Q q<=Q (t.getD a 0))->B (Z s) X f):
  kasC (aM Xm l) O Xg (ps aa (bg Xj q) (t.map<|bg Xj).toArray Xv ((t.map<|bg Xj).toArray.size-Xv) 0) B X f:=by
 rw[show (t.map<|bg Xj).toArray.size=t.length by simp];exact zN b d i ⋯ ⋯ (λa r g e n=>mono a r g e ⋯) j λs z E k=>c s ⋯ E λa g e=>k a g ⋯
theorem QC(bd:gq w Q (fK Xm l O XG Xj) f){A u:List Nat}(be:∀h∈A,h<w)(bi:∀h∈u,h<w)(ev:cF Q A)(ex:cF Q u)(he:0<A.length)(z:0<u.length)(first:∀h∈A,Q (u.getD 0 0)<=Q h)(dF:∀h∈u,Q h<=Q (A.getD (A.length-1) 0)){X:bB}(cd:kindOf X=XG){B:Array bj->bB->ah->Prop}(c:∀out D,g7 Q Xj A u out->dB X D->B out D f):
  kasC (aM Xm l) O Xg (Jg (A.map<|bg Xj).toArray (u.map<|bg Xj).toArray) B X f:=by
 have bm:[u.getD 0 0].Perm (A.take 0++u.take 1):=by
  have:=kv (t:=u) (a:=0) z;simp only[k0]at this;rw[this];exact List.Perm.refl _
 have bn:cF Q ([u.getD 0 0]++u.drop 1):=by
  have:=kv (t:=u) (a:=0) z;simp only[k0]at this;rw[<-this,fT];exact ex
 have bs:cF Q ([u.getD 0 0]++A.drop 0):=fW.mpr ⟨fP _ _,by rw[k0];exact ev,λh d H v=>by
  rw[cK.mp d];exact first H (by rwa [k0]at v)⟩
 have hf:(List.map (bg Xj) A).toArray.size=A.length:=by simp
 have hm:(List.map (bg Xj) u).toArray.size=u.length:=by simp
 unfold Jg;with_unfolding_all refine bh (oB<|h7 ?_);refine bh (gI z ?_);refine l8 (λce=>bf<|c _ _ (tI bm bs bn<|.inl ce)<|dB.refl X) λce=>?_;refine l8 (λch=>bf<|c _ _ (v5 bm bs bn ch dF)<|dB.refl X) λch=>?_;refine bh (km ?_);refine bh (ig (a:=rG Q Xj A u X f) (gi (hb (sk Q Xj A u X f) ?step _ 0 _ _ _ ?fin (sk.k (dB.refl X) ⟨_,rfl,bm,bs,bn,⋯,⋯⟩ ⋯))) ?after)
 case after=>
  rintro n D Xe ⟨rfl,Xi,cl,m,C,G,I,rfl,am⟩;exact bf (c _ _ am Xi)
 case fin=>
  rintro n D Xe ⟨rfl,Xi,m,C,G,I,rfl,⟨b,rfl,k⟩,d⟩;have:=k.bM;have:=k.hy;lia
 case step=>
  rintro h n D Xe ⟨rfl,Xi,m,C,G,I,rfl,E,d⟩;refine bh (ig (a:=lh Q Xj A u X f h)
   (gi (hb (rm Q Xj A u X f h) ?fd _ 0 _ _ _ ?fn (rm.k Xi E ⋯))) ?fr)
  case fn=>
   rintro n D Xe ⟨rfl,Xi,m,C,G,ac,S,rfl,E,d⟩;exact lh.b Xi E ⋯
  case fd=>
   rintro H n D Xe ⟨rfl,Xi,m,C,G,ac,S,rfl,⟨b,rfl,k⟩,d⟩;have cf:=k.bM;have x:=k.hy;have a1:kindOf D=XG:=Xi.k.trans cd;have y:C<A.length:=⋯
   have aQ:Q (u.getD G 0)<Q (A.getD C 0)->(b++[u.getD G 0]).Perm (A.take C++u.take (G+1))/\cF Q (b++[u.getD G 0]++A.drop C)/\cF Q (b++[u.getD G 0]++u.drop (G+1)):=λan=>by
    have:=ye 1 k.perm k.aJ k.cQ (λh d H v=>by
     rw[kv x,cK]at d;let⟨@r,J,T,rfl⟩:=kA v;have:=p4 k.aJ (ba _) J T;rw[d];lia)
    rwa [kv x]at this
   have aR:¬ Q (u.getD G 0)<Q (A.getD C 0)->(b++[A.getD C 0]).Perm (A.take (C+1)++u.take G)/\cF Q (b++[A.getD C 0]++A.drop (C+1))/\cF Q (b++[A.getD C 0]++u.drop G):=λan=>by
    have:=wV 1 k.perm k.aJ k.cQ (λh d H v=>by
     rw[kv y,cK]at d;let⟨@r,J,T,rfl⟩:=kA v;have:=p4 k.cQ (ba _) J T;rw[d];lia)
    rwa [kv y]at this
   refine bh (gI x<|bh<|gI y<|bh<|tr bd (jM bi x) (jM be y) a1 ?_);refine mD (λan=>?_) λan=>?_
   ·have e:=aQ (by simpa using an);refine bh (gI x (l8 (λM=>bf (lh.a Xi (by rw[qe];exact tI e.1 e.2.1 e.2.2 (.inl M)))) λM=>?_));have N:iu Q Xj A u ((b.map<|bg Xj).toArray.push<|bg Xj<|u.getD G 0) C (G+1):=⟨_,qe _ _,e.1,e.2.1,e.2.2,cf,⋯⟩;exact mD (λ_=>bf (lh.b Xi N ⋯)) λ_=>bf (rm.k Xi N ⋯)
   ·have e:=aR (by simpa using an);refine bh (gI y (l8 (λM=>bf (lh.a Xi (by rw[qe];exact v5 e.1 e.2.1 e.2.2 M dF))) λM=>?_));have N:iu Q Xj A u ((b.map<|bg Xj).toArray.push<|bg Xj<|A.getD C 0) (C+1) G:=⟨_,qe _ _,e.1,e.2.1,e.2.2,⋯,x⟩;exact mD (λ_=>bf (lh.b Xi N ⋯)) λ_=>bf (rm.k Xi N ⋯)
  case fr=>
   rintro n D Xe ⟨rfl,Xi,⟨cl,m,C,G,ac,S,rfl,am⟩|⟨m,C,G,ac,S,rfl,E,d⟩⟩
   ·exact bf (rG.a Xi am)
   ·refine bh (oB<|h7 ?_);refine bh (ig (a:=j7 Q Xj A u X f h)
     (gi (hb (rT Q Xj A u X f h) ?f0 _ 0 _ _ _ ?fin2 (rT.k Xi E ⋯))) ?f4)
    case fin2=>
     rintro n D Xe ⟨rfl,Xi,m,C,G,I,ac,S,rfl,E,d⟩;exact j7.b Xi E ⋯
    case f4=>
     rintro n D Xe ⟨rfl,Xi,⟨cl,m,C,G,I,ac,S,rfl,am⟩|⟨m,C,G,I,ac,S,rfl,E,d⟩⟩
     ·exact bf (rG.a Xi am)
     ·refine bh (k2 ?_);exact bf (sk.k ⟨Xi.k,Xi.a,Xi.p,Xi.f⟩ E ⋯)
    case f0=>
     rintro H n D Xe ⟨rfl,Xi,m,C,G,I,ac,S,rfl,⟨b,co,k⟩,d⟩;have cf:=k.bM;have x:=k.hy;dsimp only;revert I;refine FW (λI=>I-1) ?y ?_
     case y=>exact λI=>rfl
     intro I;refine bh (Jy (s:=X) ⟨Xi.k,Xi.a,Xi.p,Xi.f⟩ λhw P=>?_);have a1:=P.k.trans cd;refine bh (gI x ?_);refine bh (Vy bd (jM bi x) be (show C<A.length by lia) (λa r g e n=>p4 k.aJ g e n) a1 ?_);intro q h0 f8 cr;dsimp only;generalize ap:m=R;generalize as:C=a;have Xs:R=m/\a=C:=⟨ap.symm,as.symm⟩;clear ap as;revert R a;refine wd (λR a=>R=m/\a=C) (λR a=>iu Q Xj A u R a G/\C<=a/\∀r,a<=r->r<A.length->Q (u.getD G 0)<Q (A.getD r 0)) ?Xn ?f1 ?ga
     case f1=>
      rintro ge R a ⟨rfl,rfl⟩;exact⟨⟨b,co,k⟩,ba _,λr g e=>cr r ⋯ e⟩
     case ga=>
      rintro j _ R a ⟨rfl,rfl⟩;try dsimp only
      have L:=wV q k.perm k.aJ k.cQ (λh d H v=>by
       let⟨@r,gl,J,rfl⟩:=pW d;let⟨@go,bv,Yb,rfl⟩:=kA v;have:=f8 (a+r) ⋯ ⋯;have:=p4 k.cQ (ba _) bv Yb;lia)
      rw[co,E4];refine l8 (λM=>bf<|j7.a P<|v5 L.1 L.2.1 L.2.2 M dF) λM=>?_;refine l8 (λcs=>bf<|j7.a P<|tI L.1 L.2.1 L.2.2<|.inr cs) λcs=>?_;exact j _ _ ⟨⟨_,rfl,L.1,L.2.1,L.2.2,⋯,x⟩,⋯,λr g e=>cr r g e⟩
     case Xn=>
      rintro R a ⟨⟨b,rfl,k⟩,le,gt⟩;have cf:=k.bM;try dsimp only
      refine bh (gI x ?_);have XZ:=ye 1 k.perm k.aJ k.cQ (λh d H v=>by
       rw[kv x,cK]at d;let⟨@r,J,T,rfl⟩:=kA v;have:=gt r J T;rw[d];lia)
      rw[kv x]at XZ;rw[qe];refine l8 (λdb=>bf<|j7.a P<|tI XZ.1 XZ.2.1 XZ.2.2<|.inl db) λdb=>?_;have y:a<A.length:=⋯
      refine bh (gI y ?_);refine bh (Ly bd (jM be y) bi (show G+1<u.length by lia) (λa r g e n=>p4 XZ.2.2 g e n) a1 ?_);intro XH ii g1 ds;dsimp only;generalize b++[u.getD G 0]=ca at *;generalize im:G+1=a2 at *;generalize ap:(List.map (bg Xj) ca).toArray=R;generalize as:a2=r;have Xs:R=(List.map (bg Xj) ca).toArray/\r=a2:=⟨ap.symm,as.symm⟩;clear ap as;revert R r;refine wd (λR r=>R=(List.map (bg Xj) ca).toArray/\r=a2) (λR r=>iu Q Xj A u R a r/\a2<=r/\∀i,r<=i->i<u.length->Q (A.getD a 0)<=Q (u.getD i 0)) ?XD ?f2 ?g2
      case f2=>
       rintro ge R r ⟨rfl,rfl⟩;exact⟨⟨_,rfl,XZ.1,XZ.2.1,XZ.2.2,cf,⋯⟩,ba _,λi g e=>ds i ⋯ e⟩
      case g2=>
       rintro j _ R r ⟨rfl,rfl⟩;try dsimp only
       have al:=ye XH XZ.1 XZ.2.1 XZ.2.2 (λh d H v=>by
        let⟨@i,gl,J,rfl⟩:=pW d;let⟨@go,bv,Yb,rfl⟩:=kA v;have:=g1 (r+i) ⋯ ⋯;have:=p4 XZ.2.1 (ba _) bv Yb;lia)
       rw[E4];refine l8 (λdL=>bf<|j7.a P<|tI al.1 al.2.1 al.2.2<|.inl dL) λdL=>?_;exact j _ _ ⟨⟨_,rfl,al.1,al.2.1,al.2.2,cf,⋯⟩,⋯,λi g e=>ds i g e⟩
      case XD=>
       rintro R r ⟨⟨b,rfl,k⟩,ru,g3⟩;have hd:=k.hy;try dsimp only
       refine bh (gI y ?_);have U:=wV 1 k.perm k.aJ k.cQ (λh d H v=>by
        rw[kv y,cK]at d;let⟨@i,J,T,rfl⟩:=kA v;rw[d];exact g3 i J T)
       rw[kv y]at U;rw[qe];refine l8 (λeq=>bf<|j7.a P<|v5 U.1 U.2.1 U.2.2 eq dF) λeq=>?_;have N:iu Q Xj A u ((b++[A.getD a 0]).map<|bg Xj).toArray (a+1) r:=⟨_,rfl,U.1,U.2.1,U.2.2,⋯,hd⟩;exact mD (λ_=>bf (j7.b P N ⋯)) λ_=>bf (rT.k P N ⋯)
end
section
variable{Xm:bJ}{l:bc}{O:bw}{Xg:ab->ah->Prop}{XG:g9}{Xj:Array bj}{Q:Nat->Int}{w:Nat}{f:ah}
def G3:Array bj->Array bj->StateT bB dz (Array bj):=sortPriv% PySem.Builtin.mergeHi
variable{t:List Nat}{a r:Nat}
theorem xS(b:a<=r)(c:r<=t.length):t.drop a=(t.take r).drop a++t.drop r:=by
 have d:t.drop a=(t.take r++t.drop r).drop a:=by rw[fT]
 rw[d,List.drop_append_of_le_length (by rw[gv];lia)]
theorem Qm(b:a<=r):t.take a++(t.take r).drop a=t.take r:=by
 have:=fT a (t.take r)
 rwa [wz,rj b]at this
variable{A u k:List Nat}{x y:Nat}
theorem vs(q:Nat)(e:q<=x)(g:x<=A.length)(perm:k.Perm (A.drop x++u.drop y))(aJ:cF Q (A.take x++k))(cQ:cF Q (u.take y++k))(c:∀h∈(A.take x).drop q,∀H∈u.take y,Q H<=Q h):
  ((A.take x).drop q++k).Perm (A.drop q++u.drop y)/\cF Q (A.take q++((A.take x).drop q++k))/\cF Q (u.take y++((A.take x).drop q++k)):=by
 refine⟨?_,?_,?_⟩
 ·rw[xS e g,bt];exact d5 _ perm
 ·rw[<-bt,Qm e];exact aJ
 ·have f:=fW.mp aJ;have d:=fW.mp cQ;refine fW.mpr ⟨d.1,fW.mpr ⟨f.1.sublist<|uD _ _,d.2.1,λh b H a=>f.2.2 h (m3 b) H a⟩,λh b H a=>?_⟩;rcases ee.mp a with a|a
  ·exact c H a h b
  ·exact d.2.2 h b H a
theorem w9(q:Nat)(a:q<=y)(b:y<=u.length)(perm:k.Perm (A.drop x++u.drop y))(aJ:cF Q (A.take x++k))(cQ:cF Q (u.take y++k))(c:∀h∈(u.take y).drop q,∀H∈A.take x,Q H<=Q h):
  ((u.take y).drop q++k).Perm (A.drop x++u.drop q)/\cF Q (A.take x++((u.take y).drop q++k))/\cF Q (u.take q++((u.take y).drop q++k)):=by
 have:=vs (A:=u) (u:=A) q a b (perm.trans dx) cQ aJ c;exact⟨this.1.trans dx,this.2.2,this.2.1⟩
theorem l3(b:0<a)(c:a<=t.length):(t.take a).drop (a-1)=[t.getD (a-1) 0]:=by
 rw[rN,show a-(a-1)=1 by lia];exact kv ⋯
variable{H:Nat}
theorem mC(c:H∈t.take a):∃r,r<a/\r<t.length/\H=t.getD r 0:=by
 have:=pW (a:=0) (q:=a) (H:=H) (t:=t) (by rwa [k0]);let⟨@r,g,e,d⟩:=this;exact⟨r,g,⋯,by rw[d];congr 1;lia⟩
variable{q:Nat}
theorem CF(c:H∈(t.take q).drop a):∃r,a<=r/\r<q/\r<t.length/\H=t.getD r 0:=by
 rw[rN]at c;let⟨@r,g,e,d⟩:=pW c;exact⟨a+r,⋯,⋯,e,d⟩
theorem p6(c:cF Q (t.take a++k))(b:r<=q)(d:q<a)(e:q<t.length):Q (t.getD r 0)<=Q (t.getD q 0):=by
 have:=oy (fW.mp c).1 (a:=r) (r:=q) b (by rw[gv];lia);simpa [List.getD,l4,show r<a by lia,d] using this
theorem sI(perm:k.Perm (A.drop x++u.drop y))(aJ:cF Q (A.take x++k))(cQ:cF Q (u.take y++k))(a:x=0\/y=0):
  g7 Q Xj A u ((A.map<|bg Xj).toArray.extract 0 x++(u.map<|bg Xj).toArray.extract 0 y++(k.reverse.map<|bg Xj).toArray.reverse):=by
 refine⟨A.take x++u.take y++k,?_,?_,?_⟩
 ·apply lN;simp[jy]
 ·refine (d5 _ perm).trans ?_;have:(A.take x++u.take y++(A.drop x++u.drop y)).Perm ((A.take x++A.drop x)++(u.take y++u.drop y)):=by
   rw[bt,bt];refine d5 _ ?_;rw[<-bt,<-bt];exact fs _ dx
  rw[fT,fT]at this;exact this
 ·rcases a with d|d
  ·rw[d,wR,jb];exact cQ
  ·rw[d,wR,cC];exact aJ
theorem u1(perm:k.Perm (A.drop x++u.drop y))(aJ:cF Q (A.take x++k))(cQ:cF Q (u.take y++k))(c:y=1)(first:∀h∈A,Q (u.getD 0 0)<=Q h):
  g7 Q Xj A u ((u.map<|bg Xj).toArray.extract 0 y++(A.map<|bg Xj).toArray.extract 0 x++(k.reverse.map<|bg Xj).toArray.reverse):=by
 refine⟨u.take y++A.take x++k,?_,?_,?_⟩
 ·apply lN;simp[jy]
 ·refine (d5 _ perm).trans ?_;have:(u.take y++A.take x++(A.drop x++u.drop y)).Perm ((A.take x++A.drop x)++(u.take y++u.drop y)):=by
   rw[bt,<-bt (A.take x),<-bt (A.take x++A.drop x)];rw[<-bt (u.take y)];exact fs _ dx
  rw[fT,fT]at this;exact this
 ·rw[bt];refine fW.mpr ⟨(fW.mp cQ).1,aJ,λh b H a=>?_⟩;rcases ee.mp a with a|a
  ·let⟨@r,z,E,rfl⟩:=mC b;have:r=0:=⋯
   rw[this];exact first H (n5 a)
  ·exact (fW.mp cQ).2.2 h b H a
theorem qS(k:List Nat)(H:Nat):(k.reverse.map<|bg Xj).toArray.push (bg Xj H)=(([H]++k).reverse.map<|bg Xj).toArray:=by simp
theorem G9(k t:List Nat)(a q:Nat):(k.reverse.map<|bg Xj).toArray++((t.map<|bg Xj).toArray.extract a q).reverse=(((t.take q).drop a++k).reverse.map<|bg Xj).toArray:=by
 apply lN;simp[jG,jy,rN]
structure QV(Q:Nat->Int)(A u:List Nat)(k:List Nat)(x y:Nat):Prop where
 perm:k.Perm (A.drop x++u.drop y)
 aJ:cF Q (A.take x++k)
 cQ:cF Q (u.take y++k)
 bM:0<x
 hy:1<y
 xl:x<=A.length
 AL:y<=u.length
def h5(Q:Nat->Int)(Xj:Array bj)(A u:List Nat)(out:Array bj)(x y:Nat):Prop:=∃k:List Nat,out=(k.reverse.map<|bg Xj).toArray/\QV Q A u k x y
end
section
variable{Xm:bJ}{l:bc}{O:bw}{Xg:ab->ah->Prop}{XG:g9}{Xj:Array bj}{Q:Nat->Int}{w:Nat}{f:ah}
def sY(Q:Nat->Int)(Xj:Array bj)(A u:List Nat)(X:bB)(f:ah): Option (Array bj)×Nat×Nat×Array bj×Nat->bB->ah->Prop:=λn b Xe=>f=Xe/\dB X b/\∃a o p s I,n=(Z a,o,p,s,I)/\g7 Q Xj A u a
def sZ(Q:Nat->Int)(Xj:Array bj)(A u:List Nat)(X:bB)(f:ah)(h:Nat):Option (Array bj)×Nat×Nat×Array bj×Nat->bB->ah->Prop:=λn a Xe=>f=Xe/\dB X a/\∃x y m I,n=(Y,x,y,m,I)/\h5 Q Xj A u m x y/\x+y+h+1<=A.length+u.length
def k4(Q:Nat->Int)(Xj:Array bj)(A u:List Nat)(X:bB)(f:ah)(h:Nat):Option (Array bj)×Nat×Nat×Array bj×Nat×Nat->bB->ah->Prop:=λn c Xe=>f=Xe/\dB X c/\((∃b o p s ac a,n=(Z b,o,p,s,ac,a)/\g7 Q Xj A u b)\/∃x y m ac a,n=(Y,x,y,m,ac,a)/\h5 Q Xj A u m x y/\x+y+h+2<=A.length+u.length)
def qx(Q:Nat->Int)(Xj:Array bj)(A u:List Nat)(X:bB)(f:ah)(h H:Nat):Option (Array bj)×Nat×Nat×Array bj×Nat×Nat->bB->ah->Prop:=λn a Xe=>f=Xe/\dB X a/\∃x y m ac b,n=(Y,x,y,m,ac,b)/\h5 Q Xj A u m x y/\x+y+h+1+H<=A.length+u.length
def jA(Q:Nat->Int)(Xj:Array bj)(A u:List Nat)(X:bB)(f:ah)(h:Nat):Option (Array bj)×Nat×Nat×Array bj×Nat×Nat×Nat->bB->ah->Prop:=λn c Xe=>f=Xe/\dB X c/\((∃b o p s I ac a,n=(Z b,o,p,s,I,ac,a)/\g7 Q Xj A u b)\/∃x y m I ac a,n=(Y,x,y,m,I,ac,a)/\h5 Q Xj A u m x y/\x+y+h+2<=A.length+u.length)
def tC(Q:Nat->Int)(Xj:Array bj)(A u:List Nat)(X:bB)(f:ah)(h H:Nat):Option (Array bj)×Nat×Nat×Array bj×Nat×Nat×Nat->bB->ah->Prop:=λn a Xe=>f=Xe/\dB X a/\∃x y m I ac b,n=(Y,x,y,m,I,ac,b)/\h5 Q Xj A u m x y/\x+y+h+2<=A.length+u.length
theorem sY.a{Q:Nat->Int}{Xj:Array bj}{A u:List Nat}{X b:bB}{f:ah}{out:Array bj}{o p:Nat}{s:Array bj}{I:Nat}(c:dB X b)(k:g7 Q Xj A u out):sY Q Xj A u X f (Z out,o,p,s,I) b f:=⟨rfl,c,_,_,_,_,_,rfl,k⟩
theorem sZ.k{Q:Nat->Int}{Xj:Array bj}{A u:List Nat}{X a:bB}{f:ah}{h:Nat}{x y:Nat}{m:Array bj}{I:Nat}(c:dB X a)(r:h5 Q Xj A u m x y)(d:x+y+h+1<=A.length+u.length):sZ Q Xj A u X f h (Y,x,y,m,I) a f:=⟨rfl,c,_,_,_,_,rfl,r,d⟩
theorem k4.a{Q:Nat->Int}{Xj:Array bj}{A u:List Nat}{X b:bB}{f:ah}{h:Nat}{out:Array bj}{o p:Nat}{s:Array bj}{I d:Nat}(c:dB X b)(k:g7 Q Xj A u out):k4 Q Xj A u X f h (Z out,o,p,s,I,d) b f:=⟨rfl,c,.inl ⟨_,_,_,_,_,_,rfl,k⟩⟩
theorem k4.b{Q:Nat->Int}{Xj:Array bj}{A u:List Nat}{X a:bB}{f:ah}{h:Nat}{x y:Nat}{m:Array bj}{I g:Nat}(c:dB X a)(r:h5 Q Xj A u m x y)(d:x+y+h+2<=A.length+u.length):k4 Q Xj A u X f h (Y,x,y,m,I,g) a f:=⟨rfl,c,.inr ⟨_,_,_,_,_,rfl,r,d⟩⟩
theorem qx.k{Q:Nat->Int}{Xj:Array bj}{A u:List Nat}{X a:bB}{f:ah}{h H:Nat}{x y:Nat}{m:Array bj}{I b:Nat}(c:dB X a)(r:h5 Q Xj A u m x y)(d:x+y+h+1+H<=A.length+u.length):qx Q Xj A u X f h H (Y,x,y,m,I,b) a f:=⟨rfl,c,_,_,_,_,_,rfl,r,d⟩
theorem jA.a{Q:Nat->Int}{Xj:Array bj}{A u:List Nat}{X b:bB}{f:ah}{h:Nat}{out:Array bj}{o p:Nat}{s:Array bj}{I d e:Nat}(c:dB X b)(k:g7 Q Xj A u out):jA Q Xj A u X f h (Z out,o,p,s,I,d,e) b f:=⟨rfl,c,.inl ⟨_,_,_,_,_,_,_,rfl,k⟩⟩
theorem jA.b{Q:Nat->Int}{Xj:Array bj}{A u:List Nat}{X a:bB}{f:ah}{h:Nat}{x y:Nat}{m:Array bj}{I g i:Nat}(c:dB X a)(r:h5 Q Xj A u m x y)(d:x+y+h+2<=A.length+u.length):jA Q Xj A u X f h (Y,x,y,m,I,g,i) a f:=⟨rfl,c,.inr ⟨_,_,_,_,_,_,rfl,r,d⟩⟩
theorem tC.k{Q:Nat->Int}{Xj:Array bj}{A u:List Nat}{X a:bB}{f:ah}{h H:Nat}{x y:Nat}{m:Array bj}{I b e:Nat}(c:dB X a)(r:h5 Q Xj A u m x y)(d:x+y+h+2<=A.length+u.length):tC Q Xj A u X f h H (Y,x,y,m,I,b,e) a f:=⟨rfl,c,_,_,_,_,_,_,rfl,r,d⟩
theorem mg{az:gA}{O:bw}{Xg:ab->ah->Prop}{D Xx:Type}{g e:Nat}{h H:StateT D dz Xx}{B:Xx->D->ah->Prop}{X:D}{f:ah}(bQ:g=e->kasC az O Xg h B X f)(a:¬ g=e->kasC az O Xg H B X f):kasC az O Xg (if (g==e)=aa then h else H) B X f:=mD (λc=>bQ (by simpa using c)) λc=>a (by simpa using c)
theorem US(bs:gq w Q (fK Xm l O XG Xj) f){A u:List Nat}(bv:∀h∈A,h<w)(ca:∀h∈u,h<w)(f8:cF Q A)(ga:cF Q u)(ge:0<A.length)(z:0<u.length)(first:∀h∈A,Q (u.getD 0 0)<=Q h)(dF:∀h∈u,Q h<=Q (A.getD (A.length-1) 0)){X:bB}(ds:kindOf X=XG){B:Array bj->bB->ah->Prop}(c:∀out v,g7 Q Xj A u out->dB X v->B out v f):
  kasC (aM Xm l) O Xg (G3 (A.map<|bg Xj).toArray (u.map<|bg Xj).toArray) B X f:=by
 have bi:(List.map (bg Xj) A).toArray.size=A.length:=by simp
 have bm:(List.map (bg Xj) u).toArray.size=u.length:=by simp
 have cd:=l3 ge (ba _);rw[rl]at cd;have ce:[A.getD (A.length-1) 0].Perm (A.drop (A.length-1)++u.drop u.length):=by
  rw[cd,zK];exact List.Perm.refl _
 have ch:cF Q (A.take (A.length-1)++[A.getD (A.length-1) 0]):=by
  rw[<-cd,fT];exact f8
 have ci:cF Q (u.take u.length++[A.getD (A.length-1) 0]):=fW.mpr ⟨by rw[rl];exact ga,fP _ _,λh d H t=>by
  rw[cK.mp t];exact dF h (by rwa [rl]at d)⟩
 unfold G3;with_unfolding_all refine bh (oB<|h7 ?_);refine bh (gI (show (List.map (bg Xj) A).toArray.size-1<A.length by lia) ?_);refine mg (λcl=>bf (c _ _ (by rw[bi]at cl;rw[bi,bm];exact sI ce ch ci (.inl cl))<|dB.refl X)) λcl=>?_;refine mg (λco=>bf (c _ _ (by rw[bm]at co;rw[bi,bm];exact u1 ce ch ci co first)<|dB.refl X)) λco=>?_;refine bh (km ?_);refine bh (ig (a:=sY Q Xj A u X f) (gi (hb (sZ Q Xj A u X f) ?step _ 0 _ _ _ ?fin (sZ.k (dB.refl X) (by rw[bi,bm];exact⟨_,rfl,ce,ch,ci,⋯,⋯,⋯,⋯⟩) ⋯))) ?after)
 case after=>
  rintro n v Xe ⟨rfl,Xi,eq,m,C,G,I,rfl,ap⟩;exact bf (c _ _ ap Xi)
 case fin=>
  rintro n v Xe ⟨rfl,Xi,x,y,m,I,rfl,⟨b,rfl,k⟩,d⟩;have:=k.bM;have:=k.hy;lia
 case step=>
  rintro h n v Xe ⟨rfl,Xi,x,y,m,I,rfl,E,d⟩;refine bh (ig (a:=k4 Q Xj A u X f h)
   (gi (hb (qx Q Xj A u X f h) ?gl _ 0 _ _ _ ?go (qx.k Xi E ⋯))) ?gt)
  case go=>
   rintro n v Xe ⟨rfl,Xi,x,y,m,ac,T,rfl,E,d⟩;exact k4.b Xi E ⋯
  case gl=>
   rintro H n v Xe ⟨rfl,Xi,x,y,m,ac,T,rfl,⟨b,rfl,k⟩,d⟩;have cf:=k.bM;have cr:=k.hy;have D:=k.xl;have J:=k.AL;have bn:kindOf v=XG:=Xi.k.trans ds;have L:x-1<A.length:=⋯
   have U:y-1<u.length:=⋯
   have aQ:Q (u.getD (y-1) 0)<Q (A.getD (x-1) 0)->_:=λas=>by
    have:=vs (x-1) ⋯ D k.perm k.aJ k.cQ (λh d H t=>by
     rw[l3 cf D,cK]at d;let⟨@r,al,a1,rfl⟩:=mC t;have:=p6 k.cQ (show r<=y-1 by lia) ⋯ ⋯;rw[d];lia)
    rw[l3 cf D]at this;exact this
   have aR:¬ Q (u.getD (y-1) 0)<Q (A.getD (x-1) 0)->_:=λas=>by
    have:=w9 (y-1) ⋯ J k.perm k.aJ k.cQ (λh d H t=>by
     rw[l3 ⋯ J,cK]at d;let⟨@r,al,a1,rfl⟩:=mC t;have:=p6 k.aJ (show r<=x-1 by lia) ⋯ ⋯;rw[d];lia)
    rw[l3 ⋯ J]at this;exact this
   refine bh (gI U<|bh<|gI L<|bh<|tr bs (jM ca U) (jM bv L) bn ?_);refine mD (λas=>?_) λas=>?_
   ·have e:=aQ (by simpa using as);refine bh (gI L (mg (λN=>bf (k4.a Xi (by rw[qS];exact sI e.1 e.2.1 e.2.2 (.inl N)))) λN=>?_));have P:h5 Q Xj A u ((b.reverse.map<|bg Xj).toArray.push<|bg Xj<|A.getD (x-1) 0) (x-1) y:=⟨_,qS _ _,e.1,e.2.1,e.2.2,⋯,cr,⋯,J⟩;exact mD (λ_=>bf (k4.b Xi P ⋯)) λ_=>bf (qx.k Xi P ⋯)
   ·have e:=aR (by simpa using as);refine bh (gI U (mg (λN=>bf (k4.a Xi (by rw[qS];exact u1 e.1 e.2.1 e.2.2 N first))) λN=>?_));have P:h5 Q Xj A u ((b.reverse.map<|bg Xj).toArray.push<|bg Xj<|u.getD (y-1) 0) x (y-1):=⟨_,qS _ _,e.1,e.2.1,e.2.2,cf,⋯,D,⋯⟩;exact mD (λ_=>bf (k4.b Xi P ⋯)) λ_=>bf (qx.k Xi P ⋯)
  case gt=>
   rintro n v Xe ⟨rfl,Xi,⟨eq,m,C,G,ac,T,rfl,ap⟩|⟨x,y,m,ac,T,rfl,E,d⟩⟩
   ·exact bf (sY.a Xi ap)
   ·refine bh (oB<|h7 ?_);refine bh (ig (a:=jA Q Xj A u X f h)
     (gi (hb (tC Q Xj A u X f h) ?g1 _ 0 _ _ _ ?fin2 (tC.k Xi E ⋯))) ?g2)
    case fin2=>
     rintro n v Xe ⟨rfl,Xi,x,y,m,I,ac,T,rfl,E,d⟩;exact jA.b Xi E ⋯
    case g2=>
     rintro n v Xe ⟨rfl,Xi,⟨eq,m,C,G,I,ac,T,rfl,ap⟩|⟨x,y,m,I,ac,T,rfl,E,d⟩⟩
     ·exact bf (sY.a Xi ap)
     ·refine bh (k2 ?_);exact bf (sZ.k ⟨Xi.k,Xi.a,Xi.p,Xi.f⟩ E ⋯)
    case g1=>
     rintro H n v Xe ⟨rfl,Xi,x,y,m,I,ac,T,rfl,⟨b,ev,k⟩,d⟩;have cf:=k.bM;have cr:=k.hy;have D:=k.xl;have J:=k.AL;have U:y-1<u.length:=⋯
     dsimp only;revert I;refine FW (λI=>I-1) ?L ?_
     case L=>exact λI=>rfl
     intro I;refine bh (Jy (s:=X) ⟨Xi.k,Xi.a,Xi.p,Xi.f⟩ λit S=>?_);have bn:=S.k.trans ds;refine bh (gI U ?_);refine bh (y8 bs (jM ca U) bv (Xv:=0) (k:=x) (b:=x-1) ⋯ ⋯ (λa r g e n=>p6 k.aJ e ⋯ ⋯) bn ?_);intro q jp ex hd;dsimp only;generalize kt:x-q=kw;generalize a2:m=R;generalize bd:x=a;have Xs:R=m/\a=x:=⟨a2.symm,bd.symm⟩;clear a2 bd;revert R a;refine wd (λR a=>R=m/\a=x) (λR a=>h5 Q Xj A u R a y/\a<=x/\∀r,r<a->Q (A.getD r 0)<=Q (u.getD (y-1) 0)) ?Xn ?f1 ?he
     case f1=>
      rintro hf R a ⟨rfl,rfl⟩;exact⟨⟨b,ev,k⟩,ba _,λr g=>ex r ⋯ ⋯⟩
     case he=>
      rintro j _ R a ⟨rfl,rfl⟩;try dsimp only
      have an:=vs q ⋯ D k.perm k.aJ k.cQ (λh d H t=>by
       let⟨@r,hm,al,a1,rfl⟩:=CF d;let⟨@cs,hw,Yb,rfl⟩:=mC t;have:=hd r ⋯ ⋯;have:=p6 k.cQ (show cs<=y-1 by lia) ⋯ ⋯;lia)
      rw[ev,G9];refine mg (λN=>bf<|jA.a S<|sI an.1 an.2.1 an.2.2<|.inl N) λN=>?_;exact j _ _ ⟨⟨_,rfl,an.1,an.2.1,an.2.2,⋯,cr,⋯,J⟩,⋯,λr g=>ex r ⋯ ⋯⟩
     case Xn=>
      rintro R a ⟨⟨b,rfl,k⟩,le,h0⟩;have cf:=k.bM;have D:=k.xl;have L:a-1<A.length:=⋯
      try dsimp only
      refine bh (gI U ?_);have XZ:=w9 (y-1) ⋯ J k.perm k.aJ k.cQ (λh d H t=>by
       rw[l3 ⋯ J,cK]at d;let⟨@r,al,a1,rfl⟩:=mC t;rw[d];exact h0 r al)
      rw[l3 ⋯ J]at XZ;rw[qS];refine mg (λfd=>bf<|jA.a S<|u1 XZ.1 XZ.2.1 XZ.2.2 fd first) λfd=>?_;refine bh (gI L ?_);refine bh (zN bs (jM bv L) ca (Xv:=0) (k:=y-1) (b:=y-1-1) ⋯ ⋯ (λa r g e n=>p6 XZ.2.2 e ⋯ ⋯) bn ?_);intro XH lc fn ii;dsimp only;generalize [u.getD (y-1) 0]++b=db at *;generalize lf:y-1=be at *;generalize li:be-XH=f_;generalize a2:(List.map (bg Xj) db.reverse).toArray=R;generalize bd:be=r;have Xs:R=(List.map (bg Xj) db.reverse).toArray/\r=be:=⟨a2.symm,bd.symm⟩;clear a2 bd;revert R r;refine wd (λR r=>R=(List.map (bg Xj) db.reverse).toArray/\r=be) (λR r=>h5 Q Xj A u R a r/\r<=be/\∀i,i<r->Q (u.getD i 0)<Q (A.getD (a-1) 0)) ?XD ?f2 ?im
      case f2=>
       rintro hf R r ⟨rfl,rfl⟩;exact⟨⟨_,rfl,XZ.1,XZ.2.1,XZ.2.2,cf,⋯,D,⋯⟩,ba _,λi g=>fn i ⋯ ⋯⟩
      case im=>
       rintro j _ R r ⟨rfl,rfl⟩;try dsimp only
       have M:=w9 XH ⋯ (show r<=u.length by lia) XZ.1 XZ.2.1 XZ.2.2 (λh d H t=>by
        let⟨@i,hm,al,a1,rfl⟩:=CF d;let⟨@cs,hw,Yb,rfl⟩:=mC t;have:=ii i ⋯ ⋯;have:=p6 XZ.2.1 (show cs<=a-1 by lia) ⋯ ⋯;lia)
       rw[G9];refine mg (λfr=>bf<|jA.a S<|u1 M.1 M.2.1 M.2.2 fr first) λfr=>?_;refine mg (λf0=>bf<|jA.a S<|sI M.1 M.2.1 M.2.2<|.inr f0) λf0=>?_;exact j _ _ ⟨⟨_,rfl,M.1,M.2.1,M.2.2,cf,⋯,D,⋯⟩,⋯,λi g=>fn i ⋯ ⋯⟩
      case XD=>
       rintro R r ⟨⟨b,rfl,k⟩,ru,io⟩;try dsimp only
       refine bh (gI L ?_);have am:=vs (a-1) ⋯ D k.perm k.aJ k.cQ (λh d H t=>by
        rw[l3 cf D,cK]at d;let⟨@i,al,a1,rfl⟩:=mC t;have:=io i al;rw[d];lia)
       rw[l3 cf D]at am;rw[qS];refine mg (λf4=>bf<|jA.a S<|sI am.1 am.2.1 am.2.2<|.inl f4) λf4=>?_;have P:h5 Q Xj A u (([A.getD (a-1) 0]++b).reverse.map<|bg Xj).toArray (a-1) r:=⟨_,rfl,am.1,am.2.1,am.2.2,⋯,k.hy,⋯,k.AL⟩;exact mD (λ_=>bf (jA.b S P ⋯)) λ_=>bf (tC.k S P ⋯)
end
section
variable{Xm:bJ}{l:bc}{O:bw}{Xg:ab->ah->Prop}{XG:g9}{Xj:Array bj}{Q:Nat->Int}{w:Nat}{f:ah}
theorem Me{D:Type}{az:gA}{B:PUnit->D->ah->Prop}{X a:D}{f:ah}(c:B ⟨⟩ a f):kasC az O Xg (set a:StateT D dz PUnit) B X f:=by
 unfold kasC;rw[StateT.run_set];exact aK c
theorem Bu{Xx:Type}:∀(t:List Xx) (b:List Xx) (p e N:Nat),p+t.length<=b.length->p=N+e->((t.zipIdx e).foldl (λ(g:Array Xx) (h:Xx×Nat)=>g.setIfInBounds (N+h.2) h.1) b.toArray)=(b.take p++t++b.drop (p+t.length)).toArray
 |[],b,p,e,N,c,d=>by simp
 |h::t,b,p,e,N,c,d=>by
  rw[c3]at c;rw[z2,lT];dsimp only;rw[<-d,Ju,Bu t (b.set p h) (p+1) (e+1) N (by rw[we];lia) ⋯];congr 1;have f:(b.set p h).take (p+1)=b.take p++[h]:=by
   apply pT;intro a;rw[l4,List.getElem?_append,gv,l4,JR];by_cases z:a<p
   ·rw[aA ⋯,aI ⋯,aA ⋯,aA z]
   ·by_cases E:a=p
    ·subst E;rw[aA ⋯,aA rfl,aA ⋯,aI ⋯];simp[show a-min a b.length=0 by lia]
    ·rw[aI ⋯,aI ⋯];rw[rJ];rw[nX];lia
  have i:(b.set p h).drop (p+1+t.length)=b.drop (p+(t.length+1)):=by
   apply pT;intro a;rw[k9,k9,JR,aI ⋯];congr 1;lia
  rw[f,i,c3,bt,bt,bt];rfl
theorem C6{c d b:List Nat}{q k:Nat}(n:cF Q c)(o:cF Q d)(u:0<d.length)(v:0<c.length)(z:∀h∈c.take q,Q h<=Q (d.getD 0 0))(p:∀h∈d.drop k,Q (c.getD (c.length-1) 0)<=Q h)(j:b.Perm (c.drop q++d.take k))(XB:cF Q b):cF Q (c.take q++b++d.drop k)/\(c.take q++b++d.drop k).Perm (c++d):=by
 have l:∀H∈d,Q (d.getD 0 0)<=Q H:=λH f=>by
  let⟨@r,W,m,rfl⟩:=kA (a:=0) (t:=d) (by rwa [k0]);exact oy o (gC _) m
 have s:∀h∈c,Q h<=Q (c.getD (c.length-1) 0):=λh e=>by
  let⟨@r,W,m,rfl⟩:=kA (a:=0) (t:=c) (by rwa [k0]);exact oy n (by omega) (by omega)
 have g:cF Q (c.take q++c.drop q):=by rwa [fT]
 have i:cF Q (d.take k++d.drop k):=by rwa [fT]
 have g:=fW.mp g;have i:=fW.mp i;refine⟨fW.mpr ⟨fW.mpr ⟨g.1,XB,λh e H f=>?_⟩,i.2.1,λh e H f=>?_⟩,?_⟩
 ·rcases ee.mp (j.mem_iff.mp f) with f|f
  ·exact g.2.2 h e H f
  ·exact mY (z h e) (l H<|n5 f)
 ·rcases ee.mp e with e|e
  ·exact mY (z h e) (l H<|m3 f)
  ·rcases ee.mp (j.mem_iff.mp e) with e|e
   ·exact mY (s h<|m3 e) (p H f)
   ·exact i.2.2 h e H f
 ·refine (fs _<|d5 _ j).trans ?_;rw[<-bt,fT,bt,fT]
theorem TA(R:gq w Q (fK Xm l O XG Xj) f){i:List Nat}(G:∀h∈i,h<w){a aJ x y bn fr:Nat}{X:bB}(C:PyProof.Rows.kindOf X=XG)(f0:arrOf X=(i.map<|bg Xj).toArray)(S:iE X=Y)(U:(iA X)[a]?=Z (aJ,x,bn))(L:(iA X)[a+1]?=Z (aJ+x,y,fr))(f1:0<x)(bs:0<y)(gt:aJ+x+y<=i.length)(D:cF Q ((i.drop aJ).take x))(E:cF Q ((i.drop<|aJ+x).take y)){B:Bool->bB->ah->Prop}(c:∀mid s,PyProof.Rows.kindOf s=XG->iE s=Y->iA s=((iA X).setIfInBounds a (aJ,x+y,bn)).eraseIdxIfInBounds (a+1)->mid.Perm ((i.drop aJ).take<|x+y)->cF Q mid->
   arrOf s=((i.take aJ++mid++i.drop (aJ+(x+y))).map<|bg Xj).toArray->B aa s f):
  kasC (aM Xm l) O Xg (uv a) B X f:=by
 have bv:((i.drop aJ).take x).length=x:=by rw[gv,e4];lia
 have f2:((i.drop<|aJ+x).take y).length=y:=by rw[gv,e4];lia
 have I:∀r,r<x->((i.drop aJ).take x).getD r 0=i.getD (aJ+r) 0:=λr L=>by simp[List.getD,l4,k9,L]
 have J:∀r,r<y->((i.drop<|aJ+x).take y).getD r 0=i.getD (aJ+x+r) 0:=λr L=>by simp[List.getD,l4,k9,L]
 have T:(i.drop aJ).take x++(i.drop<|aJ+x).take y=(i.drop aJ).take (x+y):=by rw[<-oR,qw]
 have ca:i.take aJ++(i.drop aJ).take (x+y)++i.drop (aJ+(x+y))=i:=by rw[qw,fT]
 have cd:∀a r,aJ<=a->a<=r->r<aJ+x->Q (i.getD a 0)<=Q (i.getD r 0):=λa r g e n=>by
  have:=oy D (a:=a-aJ) (r:=r-aJ) ⋯ ⋯
  rwa [I _ ⋯,I _ ⋯,show aJ+(a-aJ)=a by lia,show aJ+(r-aJ)=r by lia]at this
 have ce:∀a r,aJ+x<=a->a<=r->r<aJ+x+y->Q (i.getD a 0)<=Q (i.getD r 0):=λa r g e n=>by
  have:=oy E (a:=a-(aJ+x)) (r:=r-(aJ+x)) ⋯ ⋯
  rwa [J _ ⋯,J _ ⋯,show aJ+x+(a-(aJ+x))=a by lia,show aJ+x+(r-(aJ+x))=r by lia]at this
 have A:∀h∈(i.drop aJ).take x,∃r,aJ<=r/\r<aJ+x/\h=i.getD r 0:=λh m=>by
  let⟨@r,M,u,rfl⟩:=pW m;exact⟨aJ+r,⋯,⋯,rfl⟩
 have ch:∀h∈(i.drop<|aJ+x).take y,∃r,aJ+x<=r/\r<aJ+x+y/\h=i.getD r 0:=λh m=>by
  let⟨@r,M,u,rfl⟩:=pW m;exact⟨aJ+x+r,⋯,⋯,rfl⟩
 unfold uv;with_unfolding_all refine bh (km ?_);simp only[U,L,f0];refine bh (Me ?_);refine bh (gI (show aJ+x<i.length by lia) ?_);refine bh (y8 R (jM G (show aJ+x<i.length by lia)) G (Xv:=aJ) (k:=x) (b:=0) ⋯ f1 cd (by exact C) ?_);intro q ci cl f8;dsimp only;by_cases co:x-q=0
 ·rw[aA (by simpa using co)];refine bf (c _ _ (by exact C) (by exact S) rfl (List.Perm.refl _) ?_ ?_)
  ·rw[<-T];refine fW.mpr ⟨D,E,λh m H al=>?_⟩;let⟨@r,u,ga,rfl⟩:=A h m;let⟨@am,cr,an,rfl⟩:=ch H al;have:=cl r u ⋯;have:=ce (aJ+x) am ⋯ cr an;lia
  ·rw[ca]
 rw[aI (by simpa using co)];rw[show aJ+q+(x-q)-1=aJ+x-1 by lia];refine bh (gI (show aJ+x-1<i.length by lia) ?_);refine bh (zN R (jM G (show aJ+x-1<i.length by lia)) G (Xv:=aJ+x) (k:=y) (b:=y-1) ⋯ ⋯ ce (by exact C) ?_);intro j ap ge cs;dsimp only;by_cases db:j=0
 ·rw[aA (by simpa using db)];refine bf (c _ _ (by exact C) (by exact S) rfl (List.Perm.refl _) ?_ ?_)
  ·rw[<-T];refine fW.mpr ⟨D,E,λh m H al=>?_⟩;let⟨@r,u,ga,rfl⟩:=A h m;let⟨@am,cr,an,rfl⟩:=ch H al;have:=cs am ⋯ an;have:=cd r (aJ+x-1) u ⋯ ⋯;lia
  ·rw[ca]
 rw[aI (by simpa using db)];have gl:(i.map<|bg Xj).toArray.extract (aJ+q) (aJ+x)=((((i.drop aJ).take x).drop q).map<|bg Xj).toArray:=by
  apply lN;simp only[Gj,List.extract_eq_drop_take,jG,jy];rw[rN,oR,show aJ+x-(aJ+q)=x-q by lia]
 have go:(i.map<|bg Xj).toArray.extract (aJ+x) (aJ+x+j)=((((i.drop<|aJ+x).take y).take j).map<|bg Xj).toArray:=by
  apply lN;simp only[Gj,List.extract_eq_drop_take,jG,jy];rw[wz,rj ap,show aJ+x+j-(aJ+x)=j by lia]
 rw[gl,go];have z:∀h∈((i.drop aJ).take x).take q,Q h<=Q (((i.drop<|aJ+x).take y).getD 0 0):=λh m=>by
  rw[J 0 bs];let⟨@r,M,u,rfl⟩:=mC m;rw[I r ⋯];exact cl _ ⋯ ⋯
 have ds:∀h∈((i.drop<|aJ+x).take y).drop j,Q (((i.drop aJ).take x).getD (((i.drop aJ).take x).length-1) 0)<=Q h:=λh m=>by
  rw[bv,I _ ⋯];let⟨@r,M,u,rfl⟩:=kA m;rw[J r ⋯,show aJ+(x-1)=aJ+x-1 by lia];exact cs _ ⋯ ⋯
 have dL:∀h∈((i.drop aJ).take x).drop q,Q ((((i.drop<|aJ+x).take y).take j).getD 0 0)<=Q h:=λh m=>by
  rw[show (((i.drop<|aJ+x).take y).take j).getD 0 0=((i.drop<|aJ+x).take y).getD 0 0 by simp only[List.getD,l4,aA (show 0<j by lia)],J 0 bs];let⟨@r,M,u,rfl⟩:=kA m;rw[I r ⋯];have:=f8 (aJ+r) ⋯ ⋯;rw[GI];lia
 have as:(((i.drop aJ).take x).drop q).length=x-q:=by rw[e4,bv]
 have eq:(((i.drop<|aJ+x).take y).take j).length=j:=by rw[gv,f2];lia
 have ev:∀h∈((i.drop<|aJ+x).take y).take j,Q h<=Q ((((i.drop aJ).take x).drop q).getD ((((i.drop aJ).take x).drop q).length-1) 0):=λh m=>by
  rw[as,show (((i.drop aJ).take x).drop q).getD (x-q-1) 0=((i.drop aJ).take x).getD (x-1) 0 by simp only[List.getD,k9,show q+(x-q-1)=x-1 by lia],I _ ⋯,show aJ+(x-1)=aJ+x-1 by lia];let⟨@r,M,u,rfl⟩:=mC m;rw[J r ⋯];have:=ge (aJ+x+r) ⋯ ⋯;lia
 have ex:∀h∈((i.drop aJ).take x).drop q,h<w:=λh m=>G h (m3<|n5<|m3 m);have fd:∀h∈((i.drop<|aJ+x).take y).take j,h<w:=λh m=>G h (m3<|n5<|n5 m);by_cases fn:x-q<=j
 ·rw[aA fn];refine bh (QC R ex fd (D.sublist<|uD _ _) (E.sublist<|th _ _) ⋯ ⋯ dL ev (by exact C) ?_);intro out s a1 v;let⟨@b,rfl,N,a2⟩:=a1;have P:=C6 (Q:=Q) D E ⋯ ⋯ z ds N a2;refine bh (k2 ?_);refine bh (km ?_);refine bf ?_;have d:iE s=Y:=v.f.trans S;show B (iE s).isNone _ f;rw[d];refine c (((i.drop aJ).take x).take q++b++((i.drop<|aJ+x).take y).drop j) _ (v.k.trans C) (by first|rfl|exact d) (by exact v.p) (by rw[<-T];exact P.2) P.1 ?_;have bd:arrOf s=(i.map<|bg Xj).toArray:=v.a;have bo:b.length=x-q+j:=by rw[N.length_eq,c7,as,eq]
  have be:=Bu (b.map<|bg Xj) (i.map<|bg Xj) (aJ+q) 0 (aJ+q) (by rw[a9,a9,bo];lia) rfl;show List.foldl (λg h=>g.setIfInBounds (aJ+q+h.2) h.1) (arrOf s) (b.map<|bg Xj).toArray.toList.zipIdx=_;rw[bd];refine be.trans ?_;rw[a9,bo,<-jy,<-jG,<-fQ,<-fQ];congr 2;have bi:i.take (aJ+q)=i.take aJ++((i.drop aJ).take x).take q:=by
   rw[wz,rj ci,qw]
  have bm:i.drop (aJ+q+(x-q+j))=((i.drop<|aJ+x).take y).drop j++i.drop (aJ+(x+y)):=by
   have:=xS (t:=i.drop (aJ+x)) (a:=j) (r:=y) ap (by rw[e4];lia);rw[oR,oR]at this;rw[show aJ+q+(x-q+j)=aJ+x+j by lia,this,show aJ+x+y=aJ+(x+y) by lia]
  rw[bi,bm];simp only[bt]
 ·rw[aI fn];refine bh (US R ex fd (D.sublist<|uD _ _) (E.sublist<|th _ _) ⋯ ⋯ dL ev (by exact C) ?_);intro out s a1 v;let⟨@b,rfl,N,a2⟩:=a1;have P:=C6 (Q:=Q) D E ⋯ ⋯ z ds N a2;refine bh (k2 ?_);refine bh (km ?_);refine bf ?_;have d:iE s=Y:=v.f.trans S;show B (iE s).isNone _ f;rw[d];refine c (((i.drop aJ).take x).take q++b++((i.drop<|aJ+x).take y).drop j) _ (v.k.trans C) (by first|rfl|exact d) (by exact v.p) (by rw[<-T];exact P.2) P.1 ?_;have bd:arrOf s=(i.map<|bg Xj).toArray:=v.a;have bo:b.length=x-q+j:=by rw[N.length_eq,c7,as,eq]
  have be:=Bu (b.map<|bg Xj) (i.map<|bg Xj) (aJ+q) 0 (aJ+q) (by rw[a9,a9,bo];lia) rfl;show List.foldl (λg h=>g.setIfInBounds (aJ+q+h.2) h.1) (arrOf s) (b.map<|bg Xj).toArray.toList.zipIdx=_;rw[bd];refine be.trans ?_;rw[a9,bo,<-jy,<-jG,<-fQ,<-fQ];congr 2;have bi:i.take (aJ+q)=i.take aJ++((i.drop aJ).take x).take q:=by
   rw[wz,rj ci,qw]
  have bm:i.drop (aJ+q+(x-q+j))=((i.drop<|aJ+x).take y).drop j++i.drop (aJ+(x+y)):=by
   have:=xS (t:=i.drop (aJ+x)) (a:=j) (r:=y) ap (by rw[e4];lia);rw[oR,oR]at this;rw[show aJ+q+(x-q+j)=aJ+x+j by lia,this,show aJ+x+y=aJ+(x+y) by lia]
  rw[bi,bm];simp only[bt]
end
section
variable{Xm:bJ}{l:bc}{O:bw}{Xg:ab->ah->Prop}{XG:g9}{Xj:Array bj}{Q:Nat->Int}{w:Nat}{f:ah}{m:Array (Nat×Nat×Nat)}
structure eV(XG:g9)(Xj:Array bj)(m:Array (Nat×Nat×Nat))(X:bB)(p:Array Nat):Prop where
 k:PyProof.Rows.kindOf X=XG
 a:arrOf X=p.map (bg Xj)
 p:iA X=m
 f:iE X=Y
theorem rt(h:gq w Q (fK Xm l O XG Xj) f){o:Array Nat}(b:b7 w o){a r:Nat}(U:a<w)(d:r<w){X:bB}(j:eV XG Xj m X o){B:Option Bool->bB->ah->Prop}(c:B (Z<|decide (bb Q o a<bb Q o r)) X f):
  kasC (aM Xm l) O Xg (nY a r) B X f:=by
 have e:∀a,a<w->(o.map<|bg Xj)[a]?=Z (bg Xj<|o.getD a 0):=λa U=>by
  have:a<o.size:=by rw[b.size];exact U
  simp[Array.getD,this]
 rw[ltAt'_eq];refine bh (km ?_);rw[j.a];dsimp only;rw[wL,wL,e a U,e r d];refine bh (bf ?_);refine bh (bf ?_);exact tr h (b.lt U) (b.lt d) j.k c
variable{o:Array Nat}
theorem vL{X:bB}(j:eV XG Xj m X o){a r:Nat}{B:Unit->bB->ah->Prop}(c:∀b,eV XG Xj m b (nR o a r)->B () b f):kasC (aM Xm l) O Xg (sm a r) B X f:=by
 rw[reverseSlice'_eq];refine k2 (c _ ⟨j.k,?_,j.p,j.f⟩);show mirror (arrOf X) a r ((r-a)/2)=_;rw[j.a];exact IW (bg Xj) (λq=>a+q) (λq=>r-1-q) _ o
theorem RJ{X:bB}(j:eV XG Xj m X o){a r:Nat}{B:Unit->bB->ah->Prop}(c:∀b,eV XG Xj m b (tF o a<|a-r)->B () b f):kasC (aM Xm l) O Xg (moveDown' a r) B X f:=by
 rw[moveDown'_eq];refine k2 (c _ ⟨j.k,?_,j.p,j.f⟩);show tF (arrOf X) a (a-r)=_;rw[j.a];exact IW (bg Xj) (λq=>a-q) (λq=>a-q-1) _ o
theorem su{D Ya:Type}{az:gA}{F:Nat->Ya->StateT D dz (ForInStep Ya)}{B:Ya->D->ah->Prop}(A:Nat->Ya->D->ah->Prop)(X6:Nat)(step:∀h n X Xe,h<X6->A h n X Xe->kasC az O Xg (F h n) (λs b e=>match s with | .yield a=>A (h+1) a b e | .done a=>B a b e) X Xe):∀(k g:Nat) (n:Ya) (X:D) (Xe:ah),g+k<=X6->(∀n X Xe,A (g+k) n X Xe->B n X Xe)->A g n X Xe->
   kasC az O Xg (forIn (range' g k) n F) B X Xe
 |0,g,n,X,Xe,i,f,c=>by
  show kasC az O Xg (forIn ([]:List Nat) n F) B X Xe;exact kasC_nil (f n X Xe c)
 |k+1,g,n,X,Xe,i,f,c=>by
  show kasC az O Xg (forIn (g::range' (g+1) k) n F) B X Xe;refine kasC_cons (gT (step g n X Xe ⋯ c) (λs e M=>?_) λ_ W d=>d);let⟨s,b⟩:=s;cases s with
  |done a=>exact M
  |yield a=>exact su A X6 step k (g+1) a b e ⋯ (λn X Xe U=>f n X Xe (by rw[show g+(k+1)=g+1+k by lia];exact U)) M
end
section
variable{Xm:bJ}{l:bc}{O:bw}{Xg:ab->ah->Prop}{XG:g9}{Xj:Array bj}{Q:Nat->Int}{w:Nat}{f:ah}{m:Array (Nat×Nat×Nat)}
def ik(Q:Nat->Int)(o:Array Nat)(R k:Nat):Prop:=∀a r,R<=a->a<=r->r<R+k->bb Q o a<=bb Q o r
theorem Hs{o:Array Nat}{R k:Nat}(c:∀r,R+1<=r->r<R+k->bb Q o (r-1)<=bb Q o r):ik Q o R k:=by
 intro a r U b d;obtain⟨v,rfl⟩:∃v,r=a+v:=⟨r-a,⋯⟩;clear b;induction v with
 |zero=>exact hB _
 |succ v f=>
  have g:=f ⋯;have e:=c (a+(v+1)) ⋯ d;rw[show a+(v+1)-1=a+v by lia]at e;lia
theorem RM(al:gq w Q (fK Xm l O XG Xj) f){o:Array Nat}(am:b7 w o){R k i:Nat}(be:R+k<=w)(z:1<=i)(bi:i<=k)(u:ik Q o R i){X:bB}(j:eV XG Xj m X o){B:Bool->bB->ah->Prop}(c:∀A b,b7 w A->eV XG Xj m b A->(∀a,a<R->A[a]?=o[a]?)->ik Q A R k->B aa b f):
  kasC (aM Xm l) O Xg (binarySort' R k i) B X f:=by
 rw[binarySort'_eq];rw[show max i 1=i by lia];with_unfolding_all refine bh (ig (a:=λn b Xe=>f=Xe/\n=(Y,())/\∃p,b7 w p/\eV XG Xj m b p/\(∀a,a<R->p[a]?=o[a]?)/\ik Q p R k)
  (gi (su (λh n b Xe=>f=Xe/\n=(Y,())/\1<=h/\∃p,b7 w p/\eV XG Xj m b p/\(∀a,a<R->p[a]?=o[a]?)/\ik Q p R h) k ?step _ _ _ _ _ ⋯ ?fin ⟨rfl,rfl,z,o,am,j,λ_ W=>rfl,u⟩)) ?after)
 case after=>
  rintro n b Xe ⟨rfl,rfl,p,D,E,F,C⟩;exact bf (c p _ D E F C)
 case fin=>
  rintro n b Xe ⟨rfl,rfl,bm,p,D,E,F,C⟩;rw[show i+(k-i)=k by lia]at C;exact⟨rfl,rfl,p,D,E,F,C⟩
 case step=>
  rintro q n b Xe bn ⟨rfl,rfl,XF,p,G,N,ap,u⟩;dsimp only;have as:∀a,R<=a->a<R+0->bb Q p a<=bb Q p (R+q):=λa g e=>⋯
  have a1:∀a,R+q<=a->a<R+q->bb Q p (R+q)<=bb Q p a:=λa g e=>⋯
  refine bh (ig (a:=λn v Xe=>f=Xe/\b=v/\∃t s,n=(Y,t,s)/\t<=q/\(∀a,R<=a->a<R+t->bb Q p a<=bb Q p (R+q))/\(∀a,R+t<=a->a<R+q->bb Q p (R+q)<=bb Q p a))
   (gi (su (λh n v Xe=>f=Xe/\b=v/\∃t s,n=(Y,t,s)/\t<=s/\s<=q/\s-t<=q-h/\(∀a,R<=a->a<R+t->bb Q p a<=bb Q p (R+q))/\(∀a,R+s<=a->a<R+q->bb Q p (R+q)<=bb Q p a)) q ?s2 _ _ _ _ _ ⋯ ?f2 ⟨rfl,rfl,0,q,rfl,⋯,⋯,⋯,as,a1⟩)) ?Yb)
  case f2=>
   rintro n v Xe ⟨rfl,rfl,t,s,rfl,aQ,aR,jL,nB,y⟩;exact⟨rfl,rfl,t,s,rfl,⋯,nB,λa h H=>y a ⋯ H⟩
  case s2=>
   rintro h n v Xe bs ⟨rfl,rfl,t,s,rfl,aQ,aR,jL,nB,y⟩;dsimp only;by_cases d:t >= s
   ·rw[aA d];exact bf ⟨rfl,rfl,t,s,rfl,⋯,nB,λa h H=>y a ⋯ H⟩
   rw[aI d];have cf:t<=(t+s)/2:=⋯
   have a2:(t+s)/2<s:=⋯
   have J:(t+s)/2-t<=q-(h+1):=⋯
   have L:s-((t+s)/2+1)<=q-(h+1):=⋯
   generalize (t+s)/2=mid at cf a2 J L ⊢;refine bh (rt al G ⋯ ⋯ N ?_);dsimp only;by_cases M:bb Q p (R+q)<bb Q p (R+mid)
   ·rw[aA (by simpa using M)];refine bf ⟨rfl,rfl,t,mid,rfl,cf,⋯,J,nB,λa h H=>?_⟩;have:=u (R+mid) a ⋯ h H;lia
   ·rw[aI (by simpa using M)];refine bf ⟨rfl,rfl,mid+1,s,rfl,⋯,aR,L,λa h H=>?_,y⟩;have:=u a (R+mid) h ⋯ ⋯;lia
  case Yb=>
   rintro n v Xe ⟨rfl,rfl,t,s,rfl,aQ,nB,y⟩;dsimp only;refine bh (RJ N ?_);intro bv bd;have I:∀a,(tF p (R+q)<|R+q-(R+t))[a]?=if a=R+t then p[R+q]? else if R+t<a/\a<=R+q then p[a-1]? else p[a]?:=λa=>by
    have:=getElem?_bubble (xs:=p) (src:=R+q) (by rw[G.size];lia) (R+q-(R+t)) ⋯ a
    rwa [show R+q-(R+q-(R+t))=R+t by lia]at this
   have a6:∀a,bb Q (tF p (R+q)<|R+q-(R+t)) a=if a=R+t then bb Q p (R+q) else if R+t<a/\a<=R+q then bb Q p (a-1) else bb Q p a:=λa=>by
    have I:=I a;by_cases d:a=R+t
    ·rw[aA d]at I ⊢;exact m5 I
    ·rw[aI d]at I ⊢;by_cases P:R+t<a/\a<=R+q
     ·rw[aA P]at I ⊢;exact m5 I
     ·rw[aI P]at I ⊢;exact m5 I
   refine bf ⟨rfl,rfl,⋯,_,G.R8 _ _,bd,λa U=>by rw[I,aI ⋯,aI ⋯];exact ap a U,Hs λr h H=>?_⟩;rw[a6,a6];by_cases S:r-1=R+t
   ·rw[aA S,aI ⋯,aA ⋯];exact y (r-1) ⋯ ⋯
   ·rw[aI S];by_cases T:r=R+t
    ·rw[aA T,aI ⋯];exact nB (r-1) ⋯ ⋯
    ·rw[aI T];by_cases cd:R+t<r-1
     ·rw[aA ⋯,aA ⋯];exact u _ _ ⋯ ⋯ ⋯
     ·rw[aI ⋯,aI ⋯];exact u _ _ ⋯ ⋯ ⋯
end
section
variable{Xm:bJ}{l:bc}{O:bw}{Xg:ab->ah->Prop}{XG:g9}{Xj:Array bj}{Q:Nat->Int}{w:Nat}{f:ah}{m:Array (Nat×Nat×Nat)}
def eA(Q:Nat->Int)(o:Array Nat):Nat->List (Nat×Nat×Nat)->Nat->Prop
 |g,[],e=>g=e
 |g,(h,t,_)::i,e=>h=g/\0<t/\ik Q o h t/\eA Q o (g+t) i e
variable{o:Array Nat}
theorem eA.le:∀{i:List (Nat×Nat×Nat)}{g e:Nat},eA Q o g i e->g+i.length<=e
 |[],g,e,c=>by rw[show e=g from c.symm];exact ba _
 | (h,t,_)::i,g,e,c=>by
  have:=c.2.2.2.le;have:=c.2.1;rw[c3];lia
theorem eA.congr{p:Array Nat}:∀{i:List (Nat×Nat×Nat)}{g e:Nat},eA Q o g i e->(∀a,g<=a->a<e->bb Q p a=bb Q o a)->eA Q p g i e
 |[],g,e,c,_=>c
 | (h,t,_)::i,g,e,c,I=>by
  have:=c.2.2.2.le;let@⟨rfl,E,b,d⟩:=c;refine⟨rfl,E,λa r U f j=>?_,d.congr λa g e=>I a ⋯ e⟩;rw[I a U ⋯,I r ⋯ ⋯];exact b a r U f j
theorem eA.app{o:Array Nat}:∀{i L:List (Nat×Nat×Nat)}{g e:Nat},eA Q o g (i++L) e↔∃n,eA Q o g i n/\eA Q o n L e
 |[],L,g,e=>⟨λc=>⟨g,rfl,c⟩,λ⟨n,d,c⟩=>by rw[show g=n from d];exact c⟩
 | (h,t,C)::i,L,g,e=>by
  show (h=g/\0<t/\ik Q o h t/\eA Q o (g+t) (i++L) e)↔_;rw[eA.app];constructor
  ·rintro⟨z,E,a,n,b,f⟩;exact⟨n,⟨z,E,a,b⟩,f⟩
  ·rintro⟨n,⟨z,E,a,b⟩,f⟩;exact⟨z,E,a,n,b,f⟩
theorem PI{Xx:Type}{t:List Xx}{a:Nat}(c:a+1<t.length):∃b h H d,t=b++h::H::d/\b.length=a:=by
 refine⟨t.take a,t[a]'⋯,t[a+1],t.drop<|a+2,?_,by rw[gv];lia⟩;have e:=jH (l:=t) (i:=a) ⋯;have f:=jH (l:=t) (i:=a+1) c;rw[<-f,<-e,fT]
theorem uS(t:List Nat)(a:Nat):bb Q t.toArray a=Q (t.getD a 0):=by unfold bb;rw[mw]
theorem Gd(M:gq w Q (fK Xm l O XG Xj) f){o:Array Nat}(G:b7 w o){X:bB}(j:eV XG Xj m X o){R a:Nat}(U:a+1<m.size)(Xf:eA Q o 0 m.toList R)(ci:R<=w){B:Bool->bB->ah->Prop}(c:∀H u v,b7 w u->eV XG Xj H v u->H.size+1=m.size->eA Q u 0 H.toList R->(∀a,R<=a->bb Q u a=bb Q o a)->B aa v f):kasC (aM Xm l) O Xg (uv a) B X f:=by
 let⟨b,⟨aJ,x,i⟩,⟨cQ,y,A⟩,@s,d,rfl⟩:=PI (t:=m.toList) (a:=a) (by simpa using U);rw[d]at Xf;let⟨@n,N,rfl,P,S,rfl,T,al,b4⟩:=eA.app.mp Xf;have aR:=b4.le;have C:m=(b++(aJ,x,i)::(aJ+x,y,A)::s).toArray:=by rw[<-d]
 have am:o.size=w:=G.size;have an:∀h∈o.toList,h<w:=λh ap=>eJ.mp (G.mem_iff.mp ap);have D:∀a,bb Q o a=Q (o.toList.getD a 0):=λa=>uS o.toList a;have bo:o.toList.length=w:=by rw[dr,am]
 have I:∀g k,g+k<=w->ik Q o g k->cF Q ((o.toList.drop g).take k):=λg k cl c=>by
  refine nF.mpr λa r U as co=>?_;have a1:=U;have a2:=as;rw[gv,e4,bo]at a1 a2;have:=c (g+a) (g+r) ⋯ ⋯ ⋯;rw[D,D]at this;rw[tY,pw,tY,pw];rw[cM,cM,dv ⋯,dv ⋯]at this;exact this
 refine TA M (i:=o.toList) an (a:=b.length) (aJ:=aJ) (x:=x) (y:=y) (bn:=i) (fr:=A) j.k (by rw[j.a];apply lN;simp) j.f (by rw[j.p,C];simp) (by rw[j.p,C];simp) P T ⋯ (I _ _ ⋯ S) (I _ _ ⋯ al) ?_;intro mid v XF bd be cf bi bm;have bn:mid.length=x+y:=by rw[cf.length_eq,gv,e4,bo];lia
 have bs:o.toList.take aJ++(o.toList.drop aJ).take (x+y)++o.toList.drop (aJ+(x+y))=o.toList:=by rw[qw,fT]
 have bv:b7 w (o.toList.take aJ++mid++o.toList.drop (aJ+(x+y))).toArray:=by
  show (o.toList.take aJ++mid++o.toList.drop (aJ+(x+y))).Perm (range w);refine List.Perm.trans (fs _<|d5 _ cf) ?_;rw[bs];exact G
 have Yz:(o.toList.take aJ).length=aJ:=by rw[gv,bo];lia
 have ca:∀a,a<aJ->bb Q (o.toList.take aJ++mid++o.toList.drop (aJ+(x+y))).toArray a=bb Q o a:=λa U=>by
  rw[uS,D];congr 1;rw[cM,cM,bt,kb ⋯,l4,aA U]
 have J:∀a,aJ+(x+y)<=a->bb Q (o.toList.take aJ++mid++o.toList.drop (aJ+(x+y))).toArray a=bb Q o a:=λa U=>by
  rw[uS,D];congr 1;rw[cM,cM,jS (by rw[c7];lia),k9,c7,Yz,bn];congr 2;lia
 have L:∀a,aJ<=a->a<aJ+(x+y)->bb Q (o.toList.take aJ++mid++o.toList.drop (aJ+(x+y))).toArray a=Q (mid.getD (a-aJ) 0):=λa z E=>by
  rw[uS];congr 1;rw[cM,cM,bt,jS ⋯,Yz,kb ⋯]
 have cd:((b++(aJ,x,i)::(aJ+x,y,A)::s).toArray.setIfInBounds b.length (aJ,x+y,i)).eraseIdxIfInBounds (b.length+1)=(b++(aJ,x+y,i)::s).toArray:=by
  rw[Ju,List.set_append_right _ _<|ba _,Br,List.set_cons_zero];rw[Dx,List.eraseIdx_append_of_length_le ⋯,show b.length+1-b.length=1 by lia];rfl
 refine c ((b++(aJ,x+y,i)::s).toArray) _ v bv ⟨XF,by rw[bm];apply lN;simp,by rw[be,j.p,C,cd],bd⟩ (by rw[C];simp;lia) ?_ (λa U=>J a ⋯);have ce:eA Q o (aJ+(x+y)) s R:=by rw[<-sX];exact b4
 refine eA.app.mpr ⟨aJ,N.congr λa W e=>ca a e,rfl,⋯,λa r z E ch=>?_,ce.congr λa g e=>J a g⟩
 ·rw[L a z ⋯,L r ⋯ ch];exact oy bi ⋯ ⋯
end
section
variable{Xm:bJ}{l:bc}{O:bw}{Xg:ab->ah->Prop}{XG:g9}{Xj:Array bj}{Q:Nat->Int}{w:Nat}{f:ah}{m:Array (Nat×Nat×Nat)}
variable{p:Array Nat}
theorem vX(b:b7 w p){a r:Nat}(c:r<=w)(q:Nat):(nR p a r)[q]?=if a<=q/\q<r then p[a+r-1-q]? else p[q]?:=by
 unfold nR;rw[getElem?_mirror_all (by rw[b.size];lia)]
theorem V6(b:b7 w p){a r:Nat}(e:r<=w)(d:∀q,a<=q->q<r->bb Q p q=bb Q p a)(q:Nat):bb Q (nR p a r) q=bb Q p q:=by
 by_cases c:a<=q/\q<r
 ·rw[m5 (show (nR p a r)[q]?=p[a+r-1-q]? by rw[vX b e,aA c]),d _ ⋯ ⋯,d q c.1 c.2]
 ·exact m5 (by rw[vX b e,aI c])
structure dX(Q:Nat->Int)(w R:Nat)(o p:Array Nat):Prop where
 mR:b7 w p
 be:∀a,a<R->p[a]?=o[a]?
 a6:∀q,bb Q p q=bb Q o q
theorem dX.rev{R:Nat}{o:Array Nat}(X3:dX Q w R o p){a r:Nat}(U:R<=a)(b:r<=w)(d:∀q,a<=q->q<r->bb Q o q=bb Q o a):dX Q w R o (nR p a r):=
 ⟨X3.mR.rev a r,λq c=>by rw[vX X3.mR b,aI ⋯];exact X3.be q c,λq=>by
  rw[V6 X3.mR b (λq g e=>by rw[X3.a6,X3.a6];exact d q g e)];exact X3.a6 q⟩
theorem Ku{F:Nat->Int}{g e:Nat}(c:∀r,g+1<=r->r<e->F r=F (r-1)):∀v,g+v<e->F (g+v)=F g
 |0,_=>rfl
 |v+1,hd=>(c (g+(v+1)) ⋯ hd).trans (Ku c v ⋯)
theorem H9(o:gq w Q (fK Xm l O XG Xj) f){R a:Nat}(x:R+a<=w){p:Array Nat}{e:bB}{g:Nat}(q:b7 w p)(Xn:eV XG Xj m e p)(y:1<=g)(Yb:g<=a)(t:∀r,R+1<=r->r<R+g->bb Q p (r-1)<=bb Q p r):
   kasC (aM Xm l) O Xg (forIn [g:a] ((Y:Option (Option Nat)),g) λh n=>nY (R+n.2) (R+n.2-1) >>= λs=>match s with
    |some u=>if u=aa then pure (ForInStep.done (Y,n.2)) else pure (ForInStep.yield (Y,n.2+1))
    |h=>pure<|ForInStep.done (Z Y,n.2))
    (λn b Xe=>f=Xe/\e=b/\∃k,n=(Y,k)/\g<=k/\k<=a/\(∀r,R+1<=r->r<R+k->bb Q p (r-1)<=bb Q p r)/\(k=a\/bb Q p (R+k)<bb Q p (R+k-1))) e f:=by
 refine gi (su (λh n b Xe=>f=Xe/\e=b/\n=(Y,h)/\g<=h/\∀r,R+1<=r->r<R+h->bb Q p (r-1)<=bb Q p r) a ?_ _ _ _ _ _ ⋯ ?_ ⟨rfl,rfl,rfl,ba _,t⟩)
 ·rintro h n b Xe z ⟨rfl,rfl,rfl,j,c⟩;dsimp only;refine bh (rt o q ⋯ ⋯ Xn ?_);dsimp only;by_cases i:bb Q p (R+h)<bb Q p (R+h-1)
  ·rw[aA (by simpa using i)];exact bf ⟨rfl,rfl,h,rfl,j,⋯,c,.inr i⟩
  ·rw[aI (by simpa using i)];refine bf ⟨rfl,rfl,rfl,⋯,λr v A=>?_⟩;by_cases d:r=R+h
   ·subst d;lia
   ·exact c r v ⋯
 ·rintro n b Xe ⟨rfl,rfl,rfl,j,c⟩;rw[show g+(a-g)=a by lia]at c ⊢;exact⟨rfl,rfl,a,rfl,⋯,ba _,c,.inl rfl⟩
noncomputable def wK(R a k:Nat): StateT bB dz (Option Nat):=sm R (R+k) >>= λ_ => (forIn [k:a] ((Y:Option (Option Nat)),k) λh n => nY (R+n.2) (R+n.2-1) >>= λs => match s with
    |some b => if b=aa then pure (ForInStep.done (Y,n.2)) else pure (ForInStep.yield (Y,n.2+1))
    |h => pure<|ForInStep.done (Z Y,n.2)) >>= λn => match n.1 with
    |some s => pure s
    |none => pure (Z n.2)
noncomputable def ES(R h:Nat)(n:Option (Option Nat)×Nat×Nat):StateT bB dz (ForInStep<|Option (Option Nat)×Nat×Nat):=nY (R+n.2.1) (R+n.2.1-1) >>= λs=>match s with
 |some a=>if a=aa then (if n.2.2>0 then sm (R+n.2.1-(n.2.2+1)) (R+n.2.1) >>= λ_=>pure (.yield (Y,n.2.1+1,0)) else pure (.yield (Y,n.2.1+1,0)))
  else nY (R+n.2.1-1) (R+n.2.1) >>= λs=>match s with
   |some b=>if b=aa then pure (.done (Y,n.2.1,n.2.2)) else pure (.yield (Y,n.2.1+1,n.2.2+1))
   |h=>pure (.done (Z Y,n.2.1,n.2.2))
 |h=>pure (.done (Z Y,n.2.1,n.2.2))
def uk(R a k:Nat):StateT bB dz (Option Nat):=liftM (PySem.rule "list.sort.descending-run") >>= λ_=>forIn [k+1:a] ((Y:Option (Option Nat)),k+1,0) (ES R) >>= λn=>match n.1 with
 |some s=>pure s
 |none=>if n.2.2>0 then sm (R+n.2.1-(n.2.2+1)) (R+n.2.1) >>= λ_=>wK R a n.2.1 else wK R a n.2.1
theorem Gx(i:gq w Q (fK Xm l O XG Xj) f){R d k:Nat}(q:R+d<=w){o p:Array Nat}{X:bB}(X3:dX Q w R o p)(j:eV XG Xj m X p)(cf:1<=k)(s:k<=d)(t:∀r,R+1<=r->r<R+k->bb Q o r<=bb Q o (r-1)){B:Option Nat->bB->ah->Prop}(c:∀k b h,1<=k->k<=d->b7 w b->eV XG Xj m h b->(∀a,a<R->b[a]?=o[a]?)->(∀r,R+1<=r->r<R+k->bb Q b (r-1)<=bb Q b r)->B (Z k) h f):kasC (aM Xm l) O Xg (wK R d k) B X f:=by
 unfold wK;refine bh (vL j λy XD=>?_);have I:=vX X3.mR (a:=R) (r:=R+k) ⋯;have a6:∀a,R<=a->a<R+k->bb Q (nR p R<|R+k) a=bb Q o (R+(R+k)-1-a):=λa g e=>(m5 (by rw[I,aA ⟨g,e⟩])).trans (X3.a6 _);refine bh (ig (H9 i q (X3.mR.rev R<|R+k) XD cf s λr z A=>?_) ?_)
 ·rw[a6 _ ⋯ ⋯,a6 _ ⋯ ⋯];have:=t (R+(R+k)-1-(r-1)) ⋯ ⋯;rw[show R+(R+k)-1-(r-1)-1=R+(R+k)-1-r by lia]at this;exact this
 ·rintro n h Xe ⟨rfl,rfl,u,rfl,C,v,x,D⟩;dsimp only;exact bf (c u _ _ ⋯ v (X3.mR.rev R<|R+k) XD (λa U=>by rw[I,aI ⋯];exact X3.be a U) x)
theorem Cd(A:gq w Q (fK Xm l O XG Xj) f){R s k:Nat}(E:R+s<=w){o p:Array Nat}{X:bB}(X3:dX Q w R o p)(j:eV XG Xj m X p)(cf:1<=k)(U:k<s)(M:∀r,R+1<=r->r<R+(k+1)->bb Q o r<=bb Q o (r-1)){B:Option Nat->bB->ah->Prop}(c:∀k z t,1<=k->k<=s->b7 w z->eV XG Xj m t z->(∀a,a<R->z[a]?=o[a]?)->(∀r,R+1<=r->r<R+k->bb Q z (r-1)<=bb Q z r)->B (Z k) t f):kasC (aM Xm l) O Xg (uk R s k) B X f:=by
 have aU:∀{h v:Nat},v+1<=h->(∀r,R+h-v<=r->r<R+h->bb Q o r=bb Q o (r-1))->∀q,R+h-(v+1)<=q->q<R+h->bb Q o q=bb Q o (R+h-(v+1)):=λ{h v} hd d q g e=>by
  have:=Ku (F:=bb Q o) (g:=R+h-(v+1)) (e:=R+h) (λr h H=>d r ⋯ H) (q-(R+h-(v+1))) ⋯
  rwa [show R+h-(v+1)+(q-(R+h-(v+1)))=q by lia]at this
 unfold uk;refine bh (oB<|h7 ?_);refine bh (ig (a:=λn t Xe=>f=Xe/\∃i h v,n=(Y,h,v)/\eV XG Xj m t i/\dX Q w R o i/\k+1<=h/\h<=s/\v+1<=h/\(∀r,R+1<=r->r<R+h->bb Q o r<=bb Q o (r-1))/\∀r,R+h-v<=r->r<R+h->bb Q o r=bb Q o (r-1))
  (gi (su (λh n t Xe=>f=Xe/\∃i v,n=(Y,h,v)/\eV XG Xj m t i/\dX Q w R o i/\k+1<=h/\v+1<=h/\(∀r,R+1<=r->r<R+h->bb Q o r<=bb Q o (r-1))/\∀r,R+h-v<=r->r<R+h->bb Q o r=bb Q o (r-1)) s ?XY _ _ _ _ _ ⋯ ?X1 ⟨rfl,p,0,rfl,j,X3,ba _,⋯,M,λr g e=>⋯⟩)) ?P)
 case XY=>
  rintro h n t Xe am ⟨rfl,i,v,rfl,N,b,C,y,u,x⟩;unfold ES;dsimp only;refine bh (rt A b.mR ⋯ ⋯ N ?_);dsimp only;rw[b.a6,b.a6];by_cases G:bb Q o (R+h)<bb Q o (R+h-1)
  ·rw[aA (by simpa using G)];have I:∀r,R+1<=r->r<R+(h+1)->bb Q o r<=bb Q o (r-1):=λr D S=>by
    by_cases d:r=R+h
    ·subst d;lia
    ·exact u r D ⋯
   by_cases hd:v>0
   ·rw[aA hd];refine bh (vL N λT XD=>?_);exact bf ⟨rfl,_,0,rfl,XD,b.rev ⋯ ⋯<|aU y x,⋯,⋯,I,λr g e=>⋯⟩
   ·rw[aI hd];exact bf ⟨rfl,i,0,rfl,N,b,⋯,⋯,I,λr g e=>⋯⟩
  ·rw[aI (by simpa using G)];refine bh (rt A b.mR ⋯ ⋯ N ?_);dsimp only;rw[b.a6,b.a6];by_cases J:bb Q o (R+h-1)<bb Q o (R+h)
   ·rw[aA (by simpa using J)];exact bf ⟨rfl,i,h,v,rfl,N,b,C,⋯,y,u,x⟩
   ·rw[aI (by simpa using J)];refine bf ⟨rfl,i,v+1,rfl,N,b,⋯,⋯,λr D S=>?_,λr g e=>?_⟩
    ·by_cases d:r=R+h
     ·subst d;lia
     ·exact u r D ⋯
    ·by_cases d:r=R+h
     ·subst d;lia
     ·exact x r ⋯ ⋯
 case X1=>
  rintro n t Xe ⟨rfl,i,v,rfl,N,b,C,y,u,x⟩;rw[show k+1+(s-(k+1))=s by lia] at *;exact⟨rfl,i,s,v,rfl,N,b,C,ba _,y,u,x⟩
 case P=>
  rintro n t Xe ⟨rfl,i,h,v,rfl,N,b,C,L,y,u,x⟩;dsimp only;by_cases hd:v>0
  ·rw[aA hd];refine bh (vL N λT XD=>?_);exact Gx A E (b.rev ⋯ ⋯<|aU y x) XD ⋯ L u c
  ·rw[aI hd];exact Gx A E b N ⋯ L u c
def IC(R a:Nat): StateT bB dz (Option Nat):=(forIn [1:a] ((Y:Option (Option Nat)),1) λh n => nY (R+n.2) (R+n.2-1) >>= λs => match s with
    |some b => if b=aa then pure (ForInStep.done (Y,n.2)) else pure (ForInStep.yield (Y,n.2+1))
    |h => pure<|ForInStep.done (Z Y,n.2)) >>= λn => match n.1 with
    |some s => pure s
    |none => if (n.2==a)=aa then pure (Z n.2) else if n.2>1 then nY R (R+n.2-1) >>= λs => match s with
      |some c => if c=aa then pure (Z n.2) else sm R (R+n.2) >>= λ_ => uk R a n.2
      |h => pure Y
      else uk R a n.2
theorem MH(R a:Nat):countRun' R a=IC R a:=by
 kernel_rfl
theorem SQ(p:gq w Q (fK Xm l O XG Xj) f){o:Array Nat}(b:b7 w o){R h:Nat}(z:1<=h)(t:R+h<=w){X:bB}(j:eV XG Xj m X o){B:Option Nat->bB->ah->Prop}(c:∀k i u,1<=k->k<=h->b7 w i->eV XG Xj m u i->(∀a,a<R->i[a]?=o[a]?)->(∀r,R+1<=r->r<R+k->bb Q i (r-1)<=bb Q i r)->B (Z k) u f):
  kasC (aM Xm l) O Xg (countRun' R h) B X f:=by
 rw[MH];unfold IC;have A:dX Q w R o o:=⟨b,λ_ W=>rfl,λ_=>rfl⟩;refine bh (ig (H9 p t b j (ba _) z λr g e=>⋯) ?_);rintro n u Xe ⟨rfl,rfl,k,rfl,cf,C,s,F⟩;dsimp only;by_cases d:k=h
 ·rw[aA (by simpa using d)];exact bf (c k o _ cf C b j (λ_ W=>rfl) s)
 rw[aI (by simpa using d)];have G:bb Q o (R+k)<bb Q o (R+k-1):=F.resolve_left d;by_cases D:k>1
 ·rw[aA D];refine bh (rt p b ⋯ ⋯ j ?_);dsimp only;by_cases E:bb Q o R<bb Q o (R+k-1)
  ·rw[aA (by simpa using E)];exact bf (c k o _ cf C b j (λ_ W=>rfl) s)
  ·rw[aI (by simpa using E)];have H:∀v,v<k->bb Q o R<=bb Q o (R+v)/\bb Q o (R+v)<=bb Q o (R+k-1):=by
    have I:∀v,v<k->bb Q o R<=bb Q o (R+v):=λv=>by
     induction v with
     |zero=>intro W;exact hB _
     |succ v x=>
      intro hd;have g:=s (R+(v+1)) ⋯ ⋯;rw[show R+(v+1)-1=R+v by lia]at g;have:=x ⋯;lia
    have J:∀v,v<k->bb Q o (R+k-1-v)<=bb Q o (R+k-1):=λv=>by
     induction v with
     |zero=>intro W;exact hB _
     |succ v x=>
      intro hd;have g:=s (R+k-1-v) ⋯ ⋯;rw[show R+k-1-v-1=R+k-1-(v+1) by lia]at g;have:=x ⋯;lia
    intro v hd;refine⟨I v hd,?_⟩;have:=J (k-1-v) ⋯
    rwa [show R+k-1-(k-1-v)=R+v by lia]at this
   have y:∀q,R<=q->q<R+k->bb Q o q=bb Q o R:=λq g e=>by
    have:=H (q-R) ⋯;rw[show R+(q-R)=q by lia]at this;lia
   refine bh (vL j λN XD=>?_);exact Cd (o:=o) p t (A.rev (ba _) ⋯ y) XD cf ⋯ (λr L M=>by
    by_cases d:r=R+k
    ·subst d;lia
    ·rw[y r ⋯ ⋯,y (r-1) ⋯ ⋯];exact hB _) c
 rw[aI D];obtain rfl:k=1:=⋯
 exact Cd (o:=o) p t A j (ba _) ⋯ (λr L M=>by
  obtain rfl:r=R+1:=⋯
  exact DX G) c
end
section
variable{Xm:bJ}{l:bc}{O:bw}{Xg:ab->ah->Prop}{XG:g9}{Xj:Array bj}{Q:Nat->Int}{w:Nat}{f:ah}{m:Array (Nat×Nat×Nat)}
variable{o:Array Nat}
theorem eA.same:∀{i L:List (Nat×Nat×Nat)}{g e:Nat},eA Q o g i e->(i.map λh=>(h.1,h.2.1))=(L.map λh=>(h.1,h.2.1))->eA Q o g L e
 |[],[],g,e,c,_=>c
 |[],_::_,g,e,c,d=>by cases d
 |_::_,[],g,e,c,d=>by cases d
 | (h,t,C)::i,(k,l,m)::L,g,e,c,d=>by
  rw[cw,cw]at d;injection d with f j;injection f with a b;dsimp only at a b;subst a;subst b;exact⟨c.1,c.2.1,c.2.2.1,c.2.2.2.same j⟩
theorem VI(x:Array (Nat×Nat×Nat))(a C:Nat):(x.toList.map λh=>(h.1,h.2.1))=((x.modify a λh=>(h.1,h.2.1,C)).toList.map λh=>(h.1,h.2.1)):=by
 apply pT;intro r;rw[dZ,dZ,eS,eS,Array.getElem?_modify];split
 ·rw[Option.map_map];rfl
 ·rfl
theorem ik.congr{p:Array Nat}{R k:Nat}(c:ik Q o R k)(I:∀a,R<=a->bb Q p a=bb Q o a):ik Q p R k:=λa r g e n=>by
 rw[I a g,I r ⋯];exact c a r g e n
theorem L6{az:gA}{O:bw}{Xg:ab->ah->Prop}{D Xx:Type}{n:Nat->Prop}{d:∀k,Decidable (n k)}{b Yg:Nat->StateT D dz Xx}{B:Xx->D->ah->Prop}{f:ah}(Xs:Nat->D->Prop)(j:∀k X,Xs k X->kasC az O Xg (Yg k) B X f)(a:(∀k X,Xs k X->kasC az O Xg (Yg k) B X f)->∀k X,n k->Xs k X->kasC az O Xg (b k) B X f):∀k X,Xs k X->kasC az O Xg (if n k then b k else Yg k) B X f:=λk X o=>
 if c:n k then by rw[aA c];exact a j k X c o else by rw[aI c];exact j k X o
variable{B:Unit->bB->ah->Prop}
theorem R9(y:gq w Q (fK Xm l O XG Xj) f)(E:2<=w)(ap:∀s b,b7 w s->iS Q s w->arrOf b=s.map (bg Xj)->iE b=Y->B () b f):kasC (aM Xm l) O Xg sortRuns' B (vV XG Xj (range w).toArray) f:=by
 rw[sortRuns'_eq];refine bh (km ?_);dsimp only;have as:(arrOf<|vV XG Xj (range w).toArray).size=w:=by
  show ((range w).toArray.map<|bg Xj).size=w;simp
 simp only[as];refine bh (ig (a:=λn b Xe=>f=Xe/\n=(Y,w)/\∃m o,b7 w o/\eV XG Xj m b o/\eA Q o 0 m.toList w)
  (gi (hb (λh n b Xe=>f=Xe/\∃R m o,n=(Y,R)/\h<=R/\R<=w/\b7 w o/\eV XG Xj m b o/\eA Q o 0 m.toList R) ?step _ 0 _ _ _ ?fin ⟨rfl,0,#[],(range w).toArray,rfl,ba _,⋯,List.Perm.refl _,⟨rfl,rfl,rfl,rfl⟩,rfl⟩)) ?after)
 case fin=>
  rintro n b Xe ⟨rfl,R,m,o,rfl,g,e,v,d,F⟩;have:R=w:=⋯
  subst this;exact⟨rfl,rfl,m,o,v,d,F⟩
 case after=>
  rintro n b Xe ⟨rfl,rfl,m,o,i,j,Xf⟩;dsimp only;refine bh (ig (a:=λn b Xe=>f=Xe/\n=(Y,())/\∃o,b7 w o/\iS Q o w/\arrOf b=o.map (bg Xj)/\iE b=Y)
   (gi (hb (λh n b Xe=>f=Xe/\n=(Y,())/\∃m o,b7 w o/\eV XG Xj m b o/\eA Q o 0 m.toList w/\m.size+h<=w) ?z _ 0 _ _ _ ?f2 ⟨rfl,rfl,m,o,i,j,Xf,by have:=Xf.le;rw[dr]at this;lia⟩)) ?Yb)
  case Yb=>
   rintro n b Xe ⟨rfl,rfl,o,g,e,n,v⟩;exact bf (ap o _ g e n v)
  case f2=>
   rintro n b Xe ⟨rfl,rfl,m,o,i,j,Xf,a1⟩;have d:m.toList=[]:=o3 (by rw[dr];lia);rw[d]at Xf;have:0=w:=Xf;lia
  case z=>
   rintro h n b Xe ⟨rfl,rfl,m,o,i,j,Xf,a1⟩;refine bh (km ?_);by_cases d:(iA b).size<=1
   ·rw[aA d];refine bf ⟨rfl,rfl,o,i,?_,j.a,j.f⟩;rw[j.p]at d;have a2:m.toList.length<=1:=by rw[dr];exact d
    match P:m.toList,a2 with
    |[],_=>
     rw[P]at Xf;have:0=w:=Xf;lia
    |[(h,t,C)],_=>
     rw[P]at Xf;let@⟨rfl,_,bd,be⟩:=Xf;have:0+t=w:=be;exact λa r bi ce=>bd a r (gC _) bi ⋯
    |_::_::_,c=>exact absurd c (by simp)
   ·rw[aI d];rw[j.p]at d;have dW:∀idx,idx+1<m.size->kasC (aM Xm l) O Xg (uv idx) (λe u z=>e=aa/\f=z/\∃m o,b7 w o/\eV XG Xj m u o/\eA Q o 0 m.toList w/\m.size+(h+1)<=w) b f:=λidx bm=>
     Gd y i j bm Xf (ba _) λL s bn g e n v S=>⟨rfl,rfl,L,s,g,e,v,⋯⟩;refine bh (ig (dW _ ?_) ?_)
    ·rw[j.p];have:∀(n:Prop) [Decidable n],(if n then m.size-2-1 else m.size-2)+1<m.size:=λn W=>by split<;>lia
     exact this _
    ·rintro e u z ⟨rfl,rfl,bs⟩;rw[aI (by decide)];exact bf ⟨rfl,rfl,bs⟩
 case step=>
  rintro h n b Xe ⟨rfl,R,m,o,rfl,ch,ci,i,j,Xf⟩;dsimp only;by_cases U:R >= w
  ·rw[aA U];have:R=w:=⋯
   subst this;exact bf ⟨rfl,rfl,m,o,i,j,Xf⟩
  rw[aI U];refine bh (SQ y i ⋯ ⋯ j ?_);intro k al x cf A D Xn am G;have p:k<=w-R/\1<=k/\∃o,b7 w o/\eV XG Xj m x o/\eA Q o 0 m.toList R/\ik Q o R k:=⟨A,cf,al,D,Xn,Xf.congr λa W e=>m5<|am a e,Hs G⟩;dsimp only;clear G am Xn D cf A;revert k x;refine L6 (λk x=>k<=w-R/\1<=k/\∃o,b7 w o/\eV XG Xj m x o/\eA Q o 0 m.toList R/\ik Q o R k) ?_ ?_
  ·intro k u p;let@⟨A,cf,⟨@XZ,I,XD,b4,J⟩⟩:=p;refine bh (km ?_);rcases cl:(iA u).back? with _|⟨co,cr,cs⟩
   ·dsimp only;refine bh (k2 ?_);refine bf ⟨rfl,R+k,m.push (R,k,0),XZ,rfl,⋯,⋯,I,⟨XD.k,XD.a,by show (iA u).push _=_;rw[XD.p],XD.f⟩,?_⟩;rw[wk];exact eA.app.mpr ⟨R,b4,rfl,⋯,J,rfl⟩
   ·dsimp only;refine bh (ig (a:=λn b Xe=>f=Xe/\n=(Y,())/\∃m o,b7 w o/\eV XG Xj m b o/\eA Q o 0 m.toList R/\ik Q o R (k))
     (gi<|hb (λh n b Xe=>f=Xe/\n=(Y,())/\∃m o,b7 w o/\eV XG Xj m b o/\eA Q o 0 m.toList R/\ik Q o R (k)) ?_ _ 0 _ _ _ (λ_ W W C=>C) ⟨rfl,rfl,m,XZ,I,XD,b4,J⟩) ?_)
    ·rintro H n b Xe ⟨rfl,rfl,m,o,i,j,Xf,O⟩;refine bh (km ?_);by_cases d:(iA b).size>1
     ·rw[aA d];rcases db:(iA b)[(iA b).size-2]? with _|⟨g,e,ds⟩
      ·dsimp only;exact bf ⟨rfl,rfl,m,o,i,j,Xf,O⟩
      ·dsimp only;split
       ·exact bf ⟨rfl,rfl,m,o,i,j,Xf,O⟩
       ·refine bh (Gd y i j (by rw[j.p]at d ⊢;lia) Xf ⋯ ?_);intro L s bn g e n v S;rw[aI (by decide)];exact bf ⟨rfl,rfl,L,s,g,e,v,O.congr S⟩
     ·rw[aI d];dsimp only;exact bf ⟨rfl,rfl,m,o,i,j,Xf,O⟩
    ·rintro n b Xe ⟨rfl,rfl,m,o,i,j,Xf,O⟩;dsimp only;refine bh (k2 ?_);refine bh (k2 ?_);refine bf ⟨rfl,R+k,(m.modify (m.size-1) _).push (R,k,0),o,rfl,⋯,⋯,i,⟨j.k,j.a,by show ((iA b).modify ((iA b).size-1) _).push _=_;rw[j.p],j.f⟩,?_⟩;rw[wk];exact eA.app.mpr ⟨R,Xf.same<|VI _ _ _,rfl,⋯,O,rfl⟩
  ·intro T k x dL p;let@⟨A,cf,⟨@al,D,Xn,bv,G⟩⟩:=p;refine bh (oB<|h7 ?_);have M:k<=min (w-R) (minRun' w w 0):=⋯
   have an:min (w-R) (minRun' w w 0)<=w-R:=⋯
   generalize min (w-R) (minRun' w w 0)=ca at M an ⊢;refine bh (RM y D ⋯ cf M G Xn ?_);intro XZ u I XD cd J;rw[aI (by decide)];exact T ca u ⟨an,e0 cf M,XZ,I,XD,bv.congr λa W e=>m5<|cd a e,J⟩
theorem Qg(c:gq w Q (fK Xm l O XG Xj) f)(E:2<=w)(e:w<1001\/∀r,1<=r->r<w->Q (r-1)<=Q r)(d:∀a b,b7 w a->iS Q a w->arrOf b=a.map (bg Xj)->iE b=Y->B () b f):kasC (aM Xm l) O Xg sortRuns' B (vV XG Xj (range w).toArray) f:=R9 c E d
end
end L2
namespace L2
open PySem PySem.Spec PyProof.Rows
section
variable{b:aO}{G:List (af×a0)}{D:a3}{j:aw}{f:ah}{M:aV}
variable{Yo:List af}{XM:Nat}
theorem aE.Gh{T:af}{x:List ar}(A:aE b G D j f)(a:∀e∈Yo,gV b G j e)(q:∀e m,e∉Yo->f.heap.get? e=Z m->M.get? e=Z m)(n:f.heap.objs.size<=T)(new:ep b.prog b.w (upd j T<|.tup x) M T (.tup x)):aE b G D (upd j T<|.tup x) {f with heap:=M,toks:=XM}:=by
 have h:j T=Y:=A.aZ.fresh n;have t:∀e m,f.heap.get? e=Z m->e≠T:=λe m d=>cZ (fI (bI d) n);have o:∀e L,j e=Z L->e∉Yo:=λe L d C=>by rw[(a e C).1]at d;cases d
 refine A.step (H:=f.gens) (T:=f.drawn) (Yo:=Yo) (λe c=>⟨(a e c).2.2.2.1,(a e c).2.1,(a e c).2.2.2.2.1,(a e c).2.2.2.2.2⟩) (λe m W W i d W=>q e m i d) (λe m W W i d W=>⟨m.slots,q e m i d⟩)
  (λe m W d w=>by rw[dp (t e m d)];exact w) (λe m i d=>⟨m,q e m i d⟩) (λe Xp d=>by rw[dp (hC d h)];exact d) (λe m L d=>by rw[dp (hC d h)];exact d)
  (λe Xo d=>⟨#[],by rw[dp (hC d h),d];simp⟩) (λk u=>?_) (λg m d=>?_) A.bare
 ·let⟨m,S,@XN,v,s⟩:=u;exact⟨m,S,XN,q _ m (λC=>(a _ C).2.1 rfl) v,s⟩
 ·by_cases r:g=T
  ·subst r;rw[e_]at d;cases d;exact new
  ·rw[dp r]at d;refine (A.aZ g m d).ht (λe L c p=>q e L ?_ p) (λe p=>by rw[dp (hC p h)];exact p) λe Xp p=>by rw[dp (hC p h)];exact p
   rcases c with C|C
   ·rw[C];exact o g m d
   ·exact o e _ C
theorem aE.J1(A:aE b G D j f)(a:∀e∈Yo,gV b G j e)(q:∀e m,e∉Yo->f.heap.get? e=Z m->M.get? e=Z m):aE b G D j {f with heap:=M,toks:=XM}:=by
 have i:∀e L,j e=Z L->e∉Yo:=λe L d C=>by rw[(a e C).1]at d;cases d
 refine A.step (H:=f.gens) (T:=f.drawn) (Yo:=Yo) (λe c=>⟨(a e c).2.2.2.1,(a e c).2.1,(a e c).2.2.2.2.1,(a e c).2.2.2.2.2⟩) (λe m W W h d W=>q e m h d) (λe m W W h d W=>⟨m.slots,q e m h d⟩)
  (λe m W W w=>w) (λe m h d=>⟨m,q e m h d⟩) (λe Xp d=>d) (λe m L d=>d) (λe Xo d=>⟨#[],by rw[d];simp⟩) (λk l=>?_) (λg m d=>?_) A.bare
 ·let⟨m,S,@XN,n,s⟩:=l;exact⟨m,S,XN,q _ m (λC=>(a _ C).2.1 rfl) n,s⟩
 ·refine (A.aZ g m d).ht (λe L c p=>q e L ?_ p) (λe p=>p) λe Xp p=>p;rcases c with C|C
  ·rw[C];exact i g m d
  ·exact i e _ C
end
section
variable{Xm:bJ}{l:bc}{O:bw}{Xg:ab->ah->Prop}{f:ah}
variable{Xj i:af}{a:Nat}{Xy:Array ab}{B:ab->ah->Prop}
theorem U5{h:ab}(d:f.heap.IsTupleIter Xj i a)(bQ:f.heap.IsTuple i Xy)(e:Xy[a]?=Z h)(p:∀M,M.IsTupleIter Xj i (a+1)->aV.SameBut Xj f.heap M->B h {f with heap:=M}):wpAny (aM Xm l) O (aX.SmallTypes.nextOf<|.ref Xj) B Xg f:=by
 let⟨@m,c,g,b⟩:=id d;let⟨@ol,g1,W,⟨@D,j⟩⟩:=bQ;unfold aX.SmallTypes.nextOf;refine ak (lK (name:=aB.ofString "__next__") d.typeIs tT<|hA tT d.typeIs DR ?C<|Jd _)
 case C=>
  show wpAny _ _ (jc (.ref Xj) 0 >>= _) _ _ f;refine ak (gd c b (x:=.ref i) rfl ?_);show wpAny _ _ (if (ab.ref i==ab.none)=aa then _ else _) _ _ f;rw[aI (show ¬ (ab.ref i==ab.none)=aa by intro C;cases C)];show wpAny _ _ (jc (.ref Xj) 1 >>= _) _ _ f;refine ak (gd c b (x:=.int a 0) rfl ?_);show wpAny _ _ (nq (.ref i) >>= _) _ _ f;refine ak (gJ g1 j ?_);simp only[kV,e];refine ak (oP c b (by simp) (aK ⟨h,rfl,aK (p _ ⟨_,jq _ c<|xe<|p9 b _,(As ..).trans g,by rw[p9 b];simp[ey]⟩<|l0 ..)⟩))
theorem NK(j:O.handled=Y)(b:f.heap.IsTupleIter Xj i a)(bQ:f.heap.IsTuple i Xy)(n:Xy[a]?=Y)(p:∀M d,aV.ExtBut Xj f.heap M->(∃m,M.get? d=Z m/\m.cls=.type "StopIteration")->Xg (.ref d) {f with heap:=M}):wpAny (aM Xm l) O (aX.SmallTypes.nextOf<|.ref Xj) B Xg f:=by
 let⟨@m,c,q,e⟩:=id b;let⟨@ol,g1,W,⟨@D,o⟩⟩:=bQ;unfold aX.SmallTypes.nextOf;refine ak (lK (name:=aB.ofString "__next__") b.typeIs tT<|hA tT b.typeIs DR ?C<|Jd _)
 case C=>
  show wpAny _ _ (jc (.ref Xj) 0 >>= _) _ _ f;refine ak (gd c e (x:=.ref i) rfl ?_);show wpAny _ _ (if (ab.ref i==ab.none)=aa then _ else _) _ _ f;rw[aI (show ¬ (ab.ref i==ab.none)=aa by intro C;cases C)];show wpAny _ _ (jc (.ref Xj) 1 >>= _) _ _ f;refine ak (gd c e (x:=.int a 0) rfl ?_);show wpAny _ _ (nq (.ref i) >>= _) _ _ f;refine ak (gJ g1 o ?_);simp only[kV,n];refine ak (h7 (ak (oP c e (by simp) ?_)));show wpAny _ _ (qQ (.type "StopIteration") [] >>= _) _ _ _;apply ak;simp only[qQ,r_];refine ak (gh (ak (m:=rd _ _) (oW (a:=ab.none) (by first|rfl|(simp only[rd];rfl)) (gh ?_ (by size_fits)))) (by size_fits));simp only[raiseNew];apply ak;apply Aw;rw[show O.in1.handled=Y from j];refine ak (m:=pure _) (aK<|yW ?_);exact p _ _ (((l0 ..).extBut.push _).push _) ⟨_,cI _ rfl,rfl⟩
end
section
variable{Xm:bJ}{l:bc}{O:bw}{Xg:ab->ah->Prop}{f:ah}
end
section
variable{b:aO}
end
variable{f:ah}{X9:b4}{XU X8 XX:List Nat}{own Xo:List aB}{Xd:PySem.W.Frag}{Ye XK n e d g:bx}{Yt:List b8}{Xg:pf}{r w:Nat}{Yy D:a3}{fd:hj}{h:aB}{o Xu:Pos}{Xc x:List ar}{J:List V}{aP X6 O Xf XS Xz X0 Q P:List af}{S s:List bx}{B:cP}{XM:eu}{b:aO}{XD Xn N j:aw}{u:ar}
def IH(Xd:PySem.W.Frag)(j:aw)(h:ar)(T:String)(e:Bool):Prop:=
 (∃a,h=.int a/\((T = "int" /\ e=aa)\/(T = "tuple" /\ e=au)\/(T = "str" /\ e=au)\/(T = "bool" /\ e=au)\/(T = "list" /\ e=au)))\/
 (∃a,h=.aG a/\((T = "bool" /\ e=aa)\/(T = "int" /\ e=aa)\/(T = "tuple" /\ e=au)\/(T = "str" /\ e=au)\/(T = "list" /\ e=au)))\/
 (∃a,h=.str a/\((T = "str" /\ e=aa)\/(T = "int" /\ e=au)\/(T = "tuple" /\ e=au)\/(T = "bool" /\ e=au)\/(T = "list" /\ e=au)))\/
 (∃g x,h=.ref g/\cH Xd j g x/\((T = "tuple" /\ e=aa)\/(T = "int" /\ e=au)\/(T = "str" /\ e=au)\/(T = "bool" /\ e=au)\/(T = "list" /\ e=au)))\/
 (∃g x,h=.ref g/\df Xd j g x/\((T = "list" /\ e=aa)\/(T = "int" /\ e=au)\/(T = "str" /\ e=au)\/(T = "bool" /\ e=au)\/(T = "tuple" /\ e=au)))
section
variable{b:aO}
theorem NO:eK b (.builtin "isinstance") (λx j B=>∃h T e,x=[h,.ty T]/\IH b.K j h T e/\B (.aG e) j):=by
 intro G f D j x XE B A s c;let⟨h,T,@e,rfl,U,p⟩:=c;cases s with
 |cons s n=>
  cases n with
  |cons X9 n=>
   cases n;cases X9;have Yl:∀{e:Bool},B (.aG e) j->eM b G D B (.bool e) f:=λ{e} p=>⟨.aG e,j,A,rfl,p⟩;have d:∀{e:Bool},B (.aG e) j->eM b G D B (.bool e) {f with toks:=f.toks+1}:=λ{e} p=>⟨.aG e,j,A.tok _,rfl,p⟩;rcases U with ⟨a,rfl,U⟩|⟨a,rfl,U⟩|⟨a,rfl,U⟩|⟨g,x,rfl,Xi,U⟩|⟨g,x,rfl,Xi,U⟩
   ·let⟨@i,rfl⟩:=s;rcases U with ⟨rfl,rfl⟩|⟨rfl,rfl⟩|⟨rfl,rfl⟩|⟨rfl,rfl⟩|⟨rfl,rfl⟩
    ·exact IsiPair.int_int (Yl p)
    ·exact IsiPair.int_tuple (d p)
    ·exact IsiPair.int_str (d p)
    ·exact IsiPair.int_bool (d p)
    ·exact IsiPair.int_list (d p)
   ·cases s;rcases U with ⟨rfl,rfl⟩|⟨rfl,rfl⟩|⟨rfl,rfl⟩|⟨rfl,rfl⟩|⟨rfl,rfl⟩
    ·exact IsiPair.bool_bool (Yl p)
    ·exact IsiPair.bool_int (Yl p)
    ·exact IsiPair.bool_tuple (d p)
    ·exact IsiPair.bool_str (d p)
    ·exact IsiPair.bool_list (d p)
   ·let⟨@i,rfl⟩:=s;rcases U with ⟨rfl,rfl⟩|⟨rfl,rfl⟩|⟨rfl,rfl⟩|⟨rfl,rfl⟩|⟨rfl,rfl⟩
    ·exact IsiPair.str_str (Yl p)
    ·exact IsiPair.str_int (d p)
    ·exact IsiPair.str_tuple (d p)
    ·exact IsiPair.str_bool (d p)
    ·exact IsiPair.str_list (d p)
   ·cases s;let⟨@Xq,q,⟨@m,k,l,W⟩,r⟩:=A.tuple Xi;rcases U with ⟨rfl,rfl⟩|⟨rfl,rfl⟩|⟨rfl,rfl⟩|⟨rfl,rfl⟩|⟨rfl,rfl⟩
    ·exact IsiPair.tuple_tuple k l (Yl p)
    ·exact IsiPair.tuple_int k l (d p)
    ·exact IsiPair.tuple_str k l (d p)
    ·exact IsiPair.tuple_bool k l (d p)
    ·exact IsiPair.tuple_list k l (d p)
   ·cases s;let⟨@Xq,q,o,r⟩:=A.list Xi;let⟨@m,k,l,W⟩:=o.isList;rcases U with ⟨rfl,rfl⟩|⟨rfl,rfl⟩|⟨rfl,rfl⟩|⟨rfl,rfl⟩|⟨rfl,rfl⟩
    ·exact IsiPair.list_list k l (Yl p)
    ·exact IsiPair.list_int k l (d p)
    ·exact IsiPair.list_str k l (d p)
    ·exact IsiPair.list_bool k l (d p)
    ·exact IsiPair.list_tuple k l (d p)
theorem Qj:∀{Xh:List Bool}{XE:List ab},bY (Xh.map ar.aG) XE->∀(a:Nat) (u:ab),XE[a]?=Z u->∃e,Xh[a]?=Z e/\u=ab.bool e:=by
 intro Xh XE s a u c;have b:=s.length;rw[a9]at b;have U:a<Xh.length:=by rw[b];exact (ek.mp c).1
 let⟨@L,d,f⟩:=s.get (a:=a) (h:=ar.aG Xh[a]) (by simp[U]);rw[c]at d;cases d;exact⟨Xh[a],by simp[U],f⟩
theorem Tn(k:b.calm=aa):eK b (.builtin "all") (λx j B=>∃t Xh,x=[.ref t]/\j t=Z (.lst<|List.map ar.aG Xh)/\B (.aG<|Xh.all id) j):=by
 intro G f D j x XE B A s c;let⟨t,@Xh,rfl,l,p⟩:=c;let⟨@L,rfl,m⟩:=hK s;cases m;let@⟨C,⟨Xq,@w,g,d⟩⟩:=A.aZ t _ l;have h:f.heap.IsList t Xq.toArray:=⟨_,d,rfl,w,rfl⟩;refine call_all_walk (wpAny_pyIter_list h ⟨f.heap.objs.size,[f.heap.objs.size,t],[f.heap.objs.size],Xq.toArray.size,_,_,λa=>(Xh[a]?).getD aa,rfl,h1.list (A:=b.A.in1) (A.ok.hd k) _ t (cZ<|bI d) Xq.toArray,
  ⟨⟨_,cI _ rfl,rfl,rfl⟩,h.push _⟩,λa u Xe v y n i=>?_,λM XT o=>?_⟩)
 ·let⟨@e,q,rfl⟩:=Qj g a u (by simpa using n);simp only[q,sq]at i;exact qW i
 ·have r:Xq.toArray.size=Xh.length:=by
   have:=g.length;rw[a9]at this;rw[cO,this]
  rw[r,LSm.range_all];exact⟨.aG _,j,A.kept<|xt o,rfl,p⟩
theorem Wu:d8 b (gF .Mult) (qN IntMulOk λa r=>.int<|a*r):=w8 λ_ W W W W W W c p=>mul_int p c
end
inductive aj where
 | im (v:V)
 | ed
 | dn (J:List V)
 | lst (J:List V)
 | dQ (Xt:List (eG×V))
 | a_ (Xt:List (List V×V))
 | ib (x:List aj)
 | tQ (Xb:List (List V)) (x:List aj)
 | pB (x:List aj)
 | obj (aP:af) (XA:List aB) (x:List aj)
variable{m:Option aj}{X7:List aj->Option aj}{F:aj->aj->Option aj}{v:aj}
abbrev a4:=List (Option aj)
variable{XC y:a4}{c:List aj->a4->Option a4}
abbrev eU{XG:Type}(j:aw):List (XG×V)->List (XG×ar)->Prop:=dY λo p=>o.1=p.1/\cL j o.2 p.2
theorem eU.mono{XG:Type}{t:List (XG×V)}{k:List (XG×ar)}(i:p3 j N)(c:eU j t k):eU N t k:=dY.v9 c λ_ W C=>⟨C.1,C.2.mono i⟩
structure fm(j N:aw):Prop where
 tup:p3 j N
 dk:∀g m L,j g=Z (.dk m L)->N g=Z (.dk m L)
mutual
def cT(j:aw):aj->ar->List af->Prop
 |.im v,u,P=>cL j v u/\P=[]
 |.ed,_,P=>P=[]
 |.dn J,u,P=>∃g x m,u=.ref g/\j g=Z (.dk m<|.lst x)/\br j J x/\P=[]
 |.lst J,u,P=>∃g x,u=.ref g/\j g=Z (.lst x)/\br j J x/\P=[g]
 |.dQ Xt,u,P=>∃g M,u=.ref g/\j g=Z (.dQ M)/\eU j Xt M/\P=[g]
 |.a_ Xt,u,P=>∃g M,u=.ref g/\j g=Z (.a_ M)/\eU j Xt M/\P=[g]
 |.ib J,u,P=>∃g x Q,u=.ref g/\j g=Z (.lst x)/\dP j J x Q/\P=g::Q
 |.tQ Xb J,u,P=>∃g M Q,u=.ref g/\j g=Z (.a_ M)/\M.map (·.1)=Xb/\dP j J (M.map (·.2)) Q/\P=g::Q
 |.pB J,u,P=>∃g x,u=.ref g/\j g=Z (.tup x)/\dP j J x P
 |.obj aP XA J,u,P=>∃g k aN Q,u=.ref g/\j g=Z (.ins aP k aN)/\aN.map (·.1)=XA/\dP j J (aN.map (·.2)) Q/\P=g::Q
def dP(j:aw):List aj->List ar->List af->Prop
 |[],Xc,P=>Xc=[]/\P=[]
 |v::J,Xc,P=>∃u s Xz XS,Xc=u::s/\cT j v u Xz/\dP j J s XS/\P=Xz++XS
end
mutual
theorem cT.mono{j N:aw}(i:fm j N):∀{v:aj}{u:ar}{P:List af},cT j v u P->(∀g∈P,∀m,j g=Z m->N g=Z m)->cT N v u P
 |.im v,u,P,c,_=>⟨c.1.mono i.tup,c.2⟩
 |.ed,u,P,c,_=>c
 |.dn J,u,P,c,_=>by
  let⟨g,x,@m,rfl,z,E,rfl⟩:=c;exact⟨g,x,m,rfl,i.dk _ _ _ z,E.mono i.tup,rfl⟩
 |.lst J,u,P,c,q=>by
  let⟨g,@x,rfl,z,E,rfl⟩:=c;exact⟨g,x,rfl,q g (.head _) _ z,E.mono i.tup,rfl⟩
 |.dQ Xt,u,P,c,q=>by
  let⟨g,@x,rfl,z,E,rfl⟩:=c;exact⟨g,x,rfl,q g (.head _) _ z,E.mono i.tup,rfl⟩
 |.a_ Xt,u,P,c,q=>by
  let⟨g,@x,rfl,z,E,rfl⟩:=c;exact⟨g,x,rfl,q g (.head _) _ z,E.mono i.tup,rfl⟩
 |.ib J,u,P,c,q=>by
  let⟨g,x,@Q,rfl,z,E,rfl⟩:=c;exact⟨g,x,Q,rfl,q g (.head _) _ z,dP.mono i E λe a=>q e<|.tail _ a,rfl⟩
 |.tQ Xb J,u,P,c,q=>by
  let⟨g,x,@Q,rfl,z,b,E,rfl⟩:=c;exact⟨g,x,Q,rfl,q g (.head _) _ z,b,dP.mono i E λe a=>q e<|.tail _ a,rfl⟩
 |.pB J,u,P,c,q=>by
  let⟨g,@x,rfl,z,E⟩:=c;exact⟨g,x,rfl,i.tup g x z,dP.mono i E q⟩
 |.obj aP XA J,u,P,c,q=>by
  let⟨g,k,aN,@Q,rfl,z,b,E,rfl⟩:=c;exact⟨g,k,aN,Q,rfl,q g (.head _) _ z,b,dP.mono i E λe a=>q e<|.tail _ a,rfl⟩
theorem dP.mono{j N:aw}(i:fm j N):∀{J:List aj}{Xc:List ar}{P:List af},dP j J Xc P->(∀g∈P,∀m,j g=Z m->N g=Z m)->dP N J Xc P
 |[],Xc,P,c,_=>c
 |v::J,Xc,P,c,q=>by
  let⟨u,s,Xz,@XS,rfl,z,E,rfl⟩:=c;exact⟨u,s,Xz,XS,rfl,cT.mono i z λg a=>q g<|gc _ a,dP.mono i E λg a=>q g<|fj _ a,rfl⟩
end
def gR(j:aw)(g:af):Prop:=∃m,j g=Z m/\(∀x,m≠.tup x)/\∀o L,m≠.dk o L
mutual
theorem cT.chg{j:aw}:∀{v:aj}{u:ar}{P:List af},cT j v u P->∀g∈P,gR j g
 |.im v,u,P,c,g,b=>by rw[c.2]at b;cases b
 |.ed,u,P,c,g,b=>by rw[show P=[] from c]at b;cases b
 |.dn J,u,P,c,e,a=>by
  let⟨g,x,@m,rfl,z,E,rfl⟩:=c;cases a
 |.lst J,u,P,c,e,a=>by
  let⟨g,@x,rfl,z,E,rfl⟩:=c;rw[cK.mp a];exact⟨_,z,(λ_ d=>by cases d),(λ_ W d=>by cases d)⟩
 |.dQ Xt,u,P,c,e,a=>by
  let⟨g,@x,rfl,z,E,rfl⟩:=c;rw[cK.mp a];exact⟨_,z,(λ_ d=>by cases d),(λ_ W d=>by cases d)⟩
 |.a_ Xt,u,P,c,e,a=>by
  let⟨g,@x,rfl,z,E,rfl⟩:=c;rw[cK.mp a];exact⟨_,z,(λ_ d=>by cases d),(λ_ W d=>by cases d)⟩
 |.ib J,u,P,c,e,a=>by
  let⟨g,x,@Q,rfl,z,E,rfl⟩:=c;rcases bO.mp a with rfl|a
  ·exact⟨_,z,(λ_ d=>by cases d),(λ_ W d=>by cases d)⟩
  ·exact dP.chg E e a
 |.tQ Xb J,u,P,c,e,a=>by
  let⟨g,x,@Q,rfl,z,f,E,rfl⟩:=c;rcases bO.mp a with rfl|a
  ·exact⟨_,z,(λ_ d=>by cases d),(λ_ W d=>by cases d)⟩
  ·exact dP.chg E e a
 |.pB J,u,P,c,e,a=>by
  let⟨g,@x,rfl,z,E⟩:=c;exact dP.chg E e a
 |.obj aP XA J,u,P,c,e,a=>by
  let⟨g,k,aN,@Q,rfl,z,f,E,rfl⟩:=c;rcases bO.mp a with rfl|a
  ·exact⟨_,z,(λ_ d=>by cases d),(λ_ W d=>by cases d)⟩
  ·exact dP.chg E e a
theorem dP.chg{j:aw}:∀{J:List aj}{Xc:List ar}{P:List af},dP j J Xc P->∀g∈P,gR j g
 |[],Xc,P,c,g,a=>by rw[c.2]at a;cases a
 |v::J,Xc,P,c,g,a=>by
  let⟨u,s,Xz,@XS,rfl,z,E,rfl⟩:=c;rcases ee.mp a with a|a
  ·exact cT.chg z g a
  ·exact dP.chg E g a
end
theorem dP.length:∀{J:List aj}{Xc:List ar}{P:List af},dP j J Xc P->J.length=Xc.length
 |[],Xc,P,c=>by rw[c.1];rfl
 |v::J,Xc,P,c=>by
  let⟨u,s,Xz,@XS,rfl,z,E,rfl⟩:=c;rw[c3,c3,E.length]
theorem br.length:∀{J:List V}{Xc:List ar},br j J Xc->J.length=Xc.length
 |[],Xc,c=>by rw[show Xc=[] from c];rfl
 |v::J,Xc,c=>by
  let⟨u,@s,rfl,z,E⟩:=c;rw[c3,c3,E.length]
def nd(j:aw):Option aj->Option ar->List af->Prop
 |none,_,P=>P=[]
 |some v,h,P=>∃u,h=Z u/\cT j v u P
def bC(j:aw):a4->a3->List af->Prop
 |[],D,P=>D=[]/\P=[]
 |m::y,D,P=>∃h s Xz XS,D=h::s/\nd j m h Xz/\bC j y s XS/\P=Xz++XS
structure bu(j:aw)(P:List af)(N:aw)(X0:List af):Prop where
 keep:∀g m,j g=Z m->g∉P->N g=Z m
 sub:∀g∈X0,g∈P\/j g=Y
 ag:X0.Nodup
 tup:fm j N
 grow:∀g m,j g=Z m->∃R,N g=Z R
theorem nd.mono(i:fm j N):∀{m:Option aj}{h:Option ar}{P:List af},nd j m h P->(∀g∈P,∀m,j g=Z m->N g=Z m)->nd N m h P
 |none,_,_,c,_=>c
 |some v,h,P,c,q=>by
  let⟨@u,rfl,c⟩:=c;exact⟨u,rfl,c.mono i q⟩
theorem bC.mono{j N:aw}(i:fm j N):∀{y:a4}{D:a3}{P:List af},bC j y D P->(∀g∈P,∀m,j g=Z m->N g=Z m)->bC N y D P
 |[],D,P,c,_=>c
 |m::y,D,P,c,q=>by
  let⟨h,s,Xz,@XS,rfl,z,E,rfl⟩:=c;exact⟨h,s,Xz,XS,rfl,z.mono i λg a=>q g<|gc _ a,bC.mono i E λg a=>q g<|fj _ a,rfl⟩
theorem nd.chg:∀{m:Option aj}{h:Option ar}{P:List af},nd j m h P->∀g∈P,gR j g
 |none,_,P,c,g,a=>by rw[show P=[] from c]at a;cases a
 |some v,h,P,c,g,a=>by
  let⟨@u,rfl,c⟩:=c;exact c.chg g a
theorem bC.chg{j:aw}:∀{y:a4}{D:a3}{P:List af},bC j y D P->∀g∈P,gR j g
 |[],D,P,c,g,a=>by rw[c.2]at a;cases a
 |m::y,D,P,c,g,a=>by
  let⟨h,s,Xz,@XS,rfl,z,E,rfl⟩:=c;rcases ee.mp a with a|a
  ·exact z.chg g a
  ·exact bC.chg E g a
theorem bC.len{j:aw}:∀{y:a4}{D:a3}{P:List af},bC j y D P->y.length=D.length
 |[],D,P,c=>by rw[c.1];rfl
 |m::y,D,P,c=>by
  let⟨h,s,Xz,@XS,rfl,z,E,rfl⟩:=c;rw[c3,c3,bC.len E]
noncomputable def aj.d7:aj->Bool
 |.im _=>aa
 |.dn _=>aa
 |_=>au
theorem cT.d7(c:cT j v u P)(n:v.d7=aa):P=[]:=by
 cases v with
 |im v=>exact c.2
 |dn J=>let⟨g,x,@m,rfl,z,E,rfl⟩:=c;rfl
 |_=>cases n
theorem bC.out{j:aw}:∀{y:a4}{D:a3}{P:List af}{a:Nat}{v:aj},bC j y D P->y[a]?=Z (Z v)->∃u Xz XS,D[a]?=Z (Z u)/\cT j v u Xz/\bC j (y.set a<|Z .ed) D XS/\(XS++Xz).Perm P
 |[],D,P,a,v,c,d=>by simp at d
 |m::y,D,P,0,v,c,d=>by
  let⟨h,s,Xz,@XS,rfl,z,E,rfl⟩:=c;simp at d;subst d;let⟨@u,rfl,z⟩:=z;exact⟨u,Xz,XS,rfl,z,⟨Z u,s,[],XS,rfl,⟨u,rfl,rfl⟩,E,rfl⟩,dx⟩
 |m::y,D,P,a+1,v,c,d=>by
  let⟨h,s,Xz,@XS,rfl,z,E,rfl⟩:=c;let⟨u,e,@b,f,g,i,k⟩:=bC.out (a:=a) E (by simpa using d);refine⟨u,e,Xz++b,by simpa using f,g,⟨h,s,Xz,b,rfl,z,i,rfl⟩,?_⟩;rw[bt];exact d5 _ k
theorem bC.put{j:aw}:∀{y:a4}{D:a3}{P:List af}{a:Nat}{v:aj}{u:ar}{Q:List af},bC j y D P->cT j v u Q->a<y.length->∃Xz XS,bC j (y.set a<|Z v) (D.set a<|Z u) Xz/\(Xz++XS).Perm (P++Q)
 |[],D,P,a,v,u,Q,c,l,t=>by simp at t
 |m::y,D,P,0,v,u,Q,c,l,t=>by
  let⟨h,s,Xz,@XS,rfl,z,E,rfl⟩:=c;refine⟨Q++XS,Xz,⟨Z u,s,Q,XS,rfl,⟨u,rfl,l⟩,E,rfl⟩,?_⟩;refine dx.trans ?_;rw[bt];exact d5 _ dx
 |m::y,D,P,a+1,v,u,Q,c,l,t=>by
  let⟨h,s,Xz,@XS,rfl,z,E,rfl⟩:=c;let⟨b,@d,e,f⟩:=bC.put (a:=a) E l (by simpa using t);refine⟨Xz++b,d,⟨h,_,Xz,b,rfl,z,e,rfl⟩,?_⟩;rw[bt,bt];exact d5 _ f
theorem bC.d7{a:Nat}(c:bC j y D P)(d:y[a]?=Z (Z v))(n:v.d7=aa):∃u,D[a]?=Z (Z u)/\cT j v u []:=by
 let⟨u,Xz,@XS,e,b,W⟩:=c.out d;obtain rfl:=b.d7 n;exact⟨u,e,b⟩
theorem QD{a:Nat}(c:D[a]?=Z (Z u)):D.set a (Z u)=D:=by
 refine pT λr=>?_;by_cases d:a=r
 ·subst d;rw[c,vM (ek.mp c).1]
 ·rw[ox d]
theorem bC.back{a:Nat}(c:bC j y D P)(l:cT j v u Q)(b:D[a]?=Z (Z u)):∃Xz XS,bC j (y.set a<|Z v) D Xz/\(Xz++XS).Perm (P++Q):=by
 have t:a<y.length:=by rw[c.len];exact (ek.mp b).1
 let⟨Xz,@XS,z,E⟩:=c.put (a:=a) l t;rw[QD b]at z;exact⟨Xz,XS,z,E⟩
theorem fm.of(F:rq j N)(I:∀g m L,j g=Z (.dk m L)->N g=Z (.dk m L)):fm j N:=⟨⟨F,I⟩,I⟩
theorem AA(j:aw):fm j j:=⟨⟨λ_ W d=>d,λ_ W W d=>d⟩,λ_ W W d=>d⟩
theorem fm.trans(g:fm j Xn)(e:fm Xn XD):fm j XD:=⟨⟨λh x d=>e.tup.t h x<|g.tup.t h x d,λh m L d=>e.dk h m L<|g.dk h m L d⟩,λh m L d=>e.dk h m L<|g.dk h m L d⟩
theorem bu.refl(c:X0.Nodup)(f:∀g∈X0,g∈P):bu j P j X0:=⟨λ_ W d W=>d,λg a=>.inl<|f g a,c,AA j,λ_ m d=>⟨m,d⟩⟩
theorem bu.perm(c:P.Nodup)(o:X0.Perm P):bu j P j X0:=bu.refl ((o.nodup_iff).mpr c) λg a=>o.mem_iff.mp a
theorem bu.trans(g:bu j P Xn (Xz++Xf))(e:bu Xn Xz XD XS)(i:∀h∈Xf,gR Xn h):bu j P XD (XS++Xf):=by
 have ag:=dN.mp g.ag;have k:∀h∈XS,h∉Xf:=λh a f=>by
  rcases e.sub h a with c|c
  ·exact ag.2.2 h c h f rfl
  ·let⟨@m,d,W⟩:=i h f;rw[d]at c;cases c
 refine⟨λh m d a=>?_,λh a=>?_,dN.mpr ⟨e.ag,ag.2.1,λh a H l d=>k h a<|d ▸ l⟩,g.tup.trans e.tup,λh m d=>let ⟨R,b⟩:=g.grow h m d;e.grow h R b⟩
 ·refine e.keep h m (g.keep h m d a) λz=>?_;rcases g.sub h (gc _ z) with c|c
  ·exact a c
  ·rw[d]at c;cases c
 ·rcases ee.mp a with a|a
  ·rcases e.sub h a with c|c
   ·exact g.sub h (gc _ c)
   ·refine .inr ?_;cases d:j h with
    |none=>rfl
    |some m=>
     let⟨@R,b⟩:=g.grow h m d;rw[b]at c;cases c
  ·exact g.sub h (fj _ a)
theorem bV.tupS(f:bV j N):fm j N:=⟨⟨λg x d=>f g _ d,λg m L d=>f g _ d⟩,λg m L d=>f g _ d⟩
theorem FK{g e:af}{m L:gG}(d:j e=Z m)(c:j g=Y):L2.upd j g L e=Z m:=by rw[dp (hC d c)];exact d
theorem bV.upd(f:bV j N){g:af}{m:gG}(c:N g=Y):bV j (L2.upd N g m):=λe L d=>FK (f e L d) c
abbrev az(Xx:Type):=a4->Option (Xx×a4)
variable{Yx:az aj}{Yv q:az Bool}
inductive bq where
 | aY (a:Nat)
 | b5 (v:aj)
variable{Yd Yj:az bq}{I:az (List bq)}
noncomputable def fa(y:a4):bq->Option aj
 |.aY a=>(y[a]?).getD Y
 |.b5 v=>Z v
def jR(j:aw)(D:a3):bq->ar->List af->Prop
 |.aY a,u,Xf=>D[a]?=Z (Z u)/\Xf=[]
 |.b5 v,u,Xf=>cT j v u Xf
noncomputable def oF(I:az aj):cn:=λD j B=>∃y P s XC,bC j y D P/\P.Nodup/\I y=Z (s,XC)/\∀u N X0 Xf,bC N XC D X0->cT N s u Xf->bu j P N (X0++Xf)->B u N
noncomputable def sd(I:az bq):cn:=λD j B=>∃y P s XC,bC j y D P/\P.Nodup/\I y=Z (s,XC)/\∀u N X0 Xf,bC N XC D X0->jR N D s u Xf->bu j P N (X0++Xf)->B u N
noncomputable def j9(I:az Bool):eu:=λD j B=>∃y P e XC,bC j y D P/\P.Nodup/\I y=Z (e,XC)/\∀N X0,bC N XC D X0->bu j P N X0->B e N
def cS(b:aO)(d:bx)(I:az aj):Prop:=∀ ⦃o⦄,xA b d (oF I) o
def dR(b:aO)(d:bx)(I:az bq):Prop:=∀ ⦃o⦄,xA b d (sd I) o
def i9(b:aO)(d:bx)(I:az Bool):Prop:=∀ ⦃o⦄,Ck b d (j9 I) o
theorem eP{i XM:cn}(c:b6 b d i)(a:∀D j B,XM D j B->i D j B):b6 b d XM:=λG f D j B A e=>c G f D j B A (a D j B e)
theorem zC{i:eu}(c:ic b d i)(a:∀D j B,XM D j B->i D j B):ic b d XM:=λG f D j B A e=>c G f D j B A (a D j B e)
theorem jR.mono{s:bq}(c:jR j D s u Xf)(i:fm j N)(q:∀g∈Xf,∀m,j g=Z m->N g=Z m):jR N D s u Xf:=by
 cases s with
 |aY a=>exact c
 |b5 v=>exact cT.mono i c q
theorem jR.chg{s:bq}(c:jR j D s u Xf):∀g∈Xf,gR j g:=by
 cases s with
 |aY a=>intro g b;rw[c.2]at b;cases b
 |b5 v=>exact cT.chg c
def fX(j:aw)(v:aj)(u:ar):Prop:=∃Xf,cT j v u Xf
theorem jR.read{s:bq}(c:jR j D s u Xf)(X:bC j y D P)(d:fa y s=Z v):fX j v u:=by
 cases s with
 |b5 g=>cases d;exact⟨Xf,c⟩
 |aY a=>
  have e:y[a]?=Z (Z v):=by
   have:(y[a]?).getD Y=Z v:=d;cases p:y[a]? with
   |none=>rw[p]at this;cases this
   |some m=>rw[p]at this;rw[show m=Z v from this]
  let⟨h,Xz,@XS,b,f,W⟩:=X.out e;rw[c.1]at b;cases b;exact⟨Xz,f⟩
@[simp] noncomputable def fp(a:Nat):az aj:=λy=>match y[a]? with
 |some (Z v)=>if v.d7=aa then Z (v,y) else Z (v,y.set a<|Z .ed)
 |_=>Y
def aC(v:V):az aj:=λy=>Z (.im v,y)
@[simp] noncomputable def ai(a:Nat):az bq:=λy=>match y[a]? with
 |some (Z _)=>Z (.aY a,y)
 |_=>Y
@[simp] noncomputable def ae(I:az aj):az bq:=λy=>(I y).map λo=>(.b5 o.1,o.2)
section
variable{b:aO}
variable{a:Nat}
theorem iw(c:b6 b d (qf a)):cS b d (fp a):=by
 refine eP c λD j B f=>?_;let⟨y,P,s,@XC,X,ag,e,p⟩:=f;unfold fp at e;split at e
 ·rename_i v hd;split at e
  ·rename_i g;cases e;let⟨@u,z,E⟩:=X.d7 hd g;exact⟨u,z,p u j P [] X E (by rw[cC];exact bu.perm ag (List.Perm.refl _))⟩
  ·cases e;let⟨u,Xz,@XS,z,E,h,i⟩:=X.out hd;exact⟨u,z,p u j XS Xz h E<|bu.perm ag i⟩
 ·cases e
theorem LB(c:b6 b d (qf a)):dR b d (ai a):=by
 refine eP c λD j B f=>?_;let⟨y,P,s,@XC,X,ag,e,p⟩:=f;unfold ai at e;split at e
 ·rename_i v hd;cases e;let⟨u,Xz,@XS,z,E,g,h⟩:=X.out hd;exact⟨u,z,p u j P [] X ⟨z,rfl⟩ (by rw[cC];exact bu.perm ag (List.Perm.refl _))⟩
 ·cases e
theorem a8{I:az aj}(c:cS b d I):dR b d (ae I):=by
 refine eP c λD j B e=>?_;let⟨y,P,s,@XC,X,ag,a,p⟩:=e;unfold ae at a;let⟨@⟨X9,Xl⟩,z,E⟩:=cD.mp a;cases E;exact⟨y,P,X9,_,X,ag,z,p⟩
theorem rR{v:V}(c:b6 b d (pU u))(hd:∀j,cL j v u):cS b d (aC v):=by
 refine eP c λD j B a=>?_;let⟨y,P,s,@XC,X,ag,e,p⟩:=a;cases e;exact p u j P [] X ⟨hd j,rfl⟩ (by rw[cC];exact bu.perm ag (List.Perm.refl _))
theorem hg{a:Int}{r Xu}:cS b (.Constant (.int a) r Xu) (aC<|.int a):=rR Uv λ_=>rfl
theorem sP{e:Bool}{r Xu}:cS b (.Constant (.bool e) r Xu) (aC<|.aG e):=rR Ss λ_=>rfl
theorem tl{r Xu}:cS b (.Constant .none r Xu) (aC .aW):=rR Lh λ_=>rfl
theorem KD{Xl XO:a4}{h H:bq}{Xd:ar->ar->aw->Prop}(X:bC j y D P)(ag:P.Nodup)(b:Yj y=Z (h,Xl))(i:Yd Xl=Z (H,XO))(q:∀u L N X0 a b4,bC N XO D X0->jR N D h u a->jR N D H L b4->bu j P N ((X0++b4)++a)->Xd u L N):sd Yj D j λu Xn=>sd Yd D Xn λL XD=>Xd u L XD:=by
 refine⟨y,P,h,Xl,X,ag,b,λu Xn Xz a k XJ e=>⟨Xl,Xz,H,XO,k,(dN.mp e.ag).1,i,λL XD XS b4 l XR f=>?_⟩⟩;refine q u L XD XS a b4 l (XJ.mono f.tup λg b m d=>f.keep g m d λc=>?_) XR (e.trans f XJ.chg);exact (dN.mp e.ag).2.2 g c g b rfl
theorem bu.new{c:List af}(g:bu j P Xn (Xz++Xf))(f:bV Xn XD)(ag:c.Nodup)(e:∀h∈c,Xn h=Y)(n:∀h∈Xz,gR Xn h):bu j P XD (Xz++c):=by
 refine⟨λh m d a=>f _ _<|g.keep h m d a,λh a=>?_,dN.mpr ⟨(dN.mp g.ag).1,ag,λh a H i d=>?_⟩,g.tup.trans f.tupS,λh m d=>let ⟨R,b⟩:=g.grow h m d;⟨R,f _ _ b⟩⟩
 ·rcases ee.mp a with a|a
  ·exact g.sub h (gc _ a)
  ·refine .inr ?_;cases d:j h with
   |none=>rfl
   |some m=>
    let⟨@R,b⟩:=g.grow h m d;rw[e h a]at b;cases b
 ·subst d;let⟨@m,d,W⟩:=n h a;rw[e h i]at d;cases d
def f7(b:aO)(F:ab->ab->dz ab)(X7:aj->aj->Option aj):Prop:=
 d8 b F λh H j B=>∃XY X1 v,fX j XY h/\fX j X1 H/\X7 XY X1=Z v/\∀u N Xf,bV j N->cT N v u Xf->Xf.Nodup->(∀g∈Xf,j g=Y)->B u N
@[simp] def ay(X7:aj->aj->Option aj)(Yj Yd:az bq):az aj:=λy=>(Yj y).bind λo=>(Yd o.2).bind λp=>(fa p.2 o.1).bind λXY=>(fa p.2 p.1).bind λX1=>(X7 XY X1).map λv=>(v,p.2)
theorem ve{X7:aj->aj->Option aj}(c:oF (ay X7 Yj Yd) D j B):
  sd Yj D j λh Xn=>sd Yd D Xn λH XD=>∃XY X1 v,fX XD XY h/\fX XD X1 H/\X7 XY X1=Z v/\∀u N Xf,bV XD N->cT N v u Xf->Xf.Nodup->(∀g∈Xf,XD g=Y)->B u N:=by
 let⟨y,P,s,@XC,X,ag,a,p⟩:=c;unfold ay at a;let⟨@⟨h,Xl⟩,i,a⟩:=bG.mp a;let⟨@⟨H,XO⟩,k,a⟩:=bG.mp a;let⟨@XY,z,a⟩:=bG.mp a;let⟨@X1,E,a⟩:=bG.mp a;let⟨@v,n,a⟩:=cD.mp a;cases a;refine KD X ag i k λu L XD XS t b4 b XJ XR f=>⟨XY,X1,_,XJ.read b z,XR.read b E,n,λl o Xf e XQ q r=>?_⟩;rw[bt]at f;exact p l o XS Xf (b.mono e.tupS λg W m d=>e g m d) XQ (f.new e q r b.chg)
theorem gZ{X7:zf}(a:f7 b (gF X7) F)(d:dR b g Yj)(f:dR b e Yd):cS b (.BinOp g X7 e Xu) (ay F Yj Yd):=
 eP (QJ a d f) λ_ W W c=>ve c
variable{X7:mI}
theorem pn(a:f7 b (eQ X7) F)(d:dR b g Yj)(f:dR b e Yd)(h:qA X7 e=au):cS b (.Compare g [X7] [e] Xu) (ay F Yj Yd):=
 eP (SJ a d f h) λ_ W W c=>ve c
theorem jh(a:iz b (λh H j B=>∃XY X1 v,fX j XY h/\fX j X1 H/\F XY X1=Z v/\∀u N Xf,bV j N->cT N v u Xf->Xf.Nodup->(∀g∈Xf,j g=Y)->B u N))(d:dR b g Yj)(f:dR b e Yd)(Xi:vC e):cS b (.Subscript g e Xu) (ay F Yj Yd):=
 eP (Ow a d f Xi) λ_ W W c=>ve c
@[simp] noncomputable def qX:aj->Option Bool
 |.im (.aG e)=>Z e
 |_=>Y
@[simp] def cg(I:az aj):az Bool:=λy=>(I y).bind λo=>(qX o.1).map λe=>(e,o.2)
theorem G0{e:Bool}(c:qX v=Z e):v=.im (.aG e):=by
 unfold qX at c;split at c
 ·cases c;rfl
 ·cases c
theorem gr(a:f7 b (eQ X7) F)(c:dR b g Yj)(d:dR b e Yd)(h:qA X7 e=au):i9 b (.Compare g [X7] [e] Xu) (cg<|ay F Yj Yd):=by
 refine zC (Uo a c d h) λD j B i=>?_;let⟨y,P,n,@XC,X,ag,k,p⟩:=i;refine ve ⟨y,P,.im<|.aG n,XC,X,ag,?_,λu N X0 Xf l XQ f=>⟨n,XQ.1,p N X0 l (by rw[XQ.2,cC]at f;exact f)⟩⟩;let⟨@o,z,E⟩:=bG.mp k;let⟨@r,m,q⟩:=cD.mp E;cases q;rw[z,<-G0 m]
@[simp] noncomputable def mN(I:az Bool):az Bool:=λy=>(I y).map λo=>(!o.1,o.2)
variable{I:az Bool}
theorem B4(c:i9 b g I):i9 b (.UnaryOp .Not g Xu) (mN I):=by
 refine zC (Lf c) λD j B a=>?_;let⟨y,P,n,@XC,X,ag,d,p⟩:=a;let⟨@o,z,E⟩:=cD.mp d;cases E;exact⟨y,P,o.1,_,X,ag,z,p⟩
@[simp] noncomputable def hn(I c:az Bool):az Bool:=λy=>(I y).bind λo=>if o.1=aa then c o.2 else Z (au,o.2)
@[simp] noncomputable def qa(I c:az Bool):az Bool:=λy=>(I y).bind λo=>if o.1=aa then Z (aa,o.2) else c o.2
variable{B:Bool->aw->Prop}{c:az Bool}
theorem I7(l:j9 (hn I c) D j B):JS (j9 I) (j9 c) D j B:=by
 let⟨y,P,n,@XC,X,ag,d,p⟩:=l;let⟨@⟨e,Xl⟩,z,E⟩:=bG.mp d;refine⟨y,P,e,Xl,X,ag,z,λXn Xz b a=>?_⟩;cases e with
 |true=>
  rw[aA rfl];rw[aA rfl]at E;exact⟨Xl,Xz,n,XC,b,a.ag,E,λXD XS f g=>p XD XS f (by
   have:=bu.trans (Xf:=[]) (by rw[cC];exact a) g (λh i=>nomatch i)
   rwa [cC]at this)⟩
 |false=>
  rw[aI dy]at E ⊢;cases E;exact p Xn Xz b a
theorem L1(l:j9 (qa I c) D j B):Ek (j9 I) (j9 c) D j B:=by
 let⟨y,P,n,@XC,X,ag,d,p⟩:=l;let⟨@⟨e,Xl⟩,z,E⟩:=bG.mp d;refine⟨y,P,e,Xl,X,ag,z,λXn Xz b a=>?_⟩;cases e with
 |false=>
  rw[aI dy]at E ⊢;exact⟨Xl,Xz,n,XC,b,a.ag,E,λXD XS f g=>p XD XS f (by
   have:=bu.trans (Xf:=[]) (by rw[cC];exact a) g (λh i=>nomatch i)
   rwa [cC]at this)⟩
 |true=>
  rw[aA rfl]at E ⊢;cases E;exact p Xn Xz b a
def lM(b:aO)(d:bx)(I:az Bool):Prop:=∀ ⦃o⦄,DU b d (j9 I) o
theorem BP{i:eu}(c:kf b d i)(a:∀D j B,XM D j B->i D j B):kf b d XM:=λe G f D j B A g=>c e G f D j B A (a D j B g)
theorem Q_(c:i9 b g I):lM b (.BoolOp .And [g] Xu) I:=Qk c
theorem P9(c:i9 b g I):lM b (.BoolOp .Or [g] Xu) I:=O4 c
theorem Gf(c:i9 b g I)(a:lM b (.BoolOp .And (e::s) Xu) q):lM b (.BoolOp .And (g::e::s) Xu) (hn I q):=BP (Nu c a) λ_ W W l=>I7 l
theorem Lm(c:i9 b g I)(a:lM b (.BoolOp .Or (e::s) Xu) q):lM b (.BoolOp .Or (g::e::s) Xu) (qa I q):=BP (Ts c a) λ_ W W l=>L1 l
theorem lM.G4(c:lM b d I):i9 b d I:=kf.pt c
@[simp] noncomputable def h3(I:az Bool):az aj:=λy=>(I y).map λo=>(.im<|.aG o.1,o.2)
theorem Bv(c:cS b d (h3 I)):b6 b d λD j B=>j9 I D j λe N=>B (.aG e) N:=by
 refine eP c λD j B a=>?_;let⟨y,P,n,@XC,X,ag,g,p⟩:=a;refine⟨y,P,.im<|.aG n,XC,X,ag,by unfold h3;rw[g];rfl,λu N X0 Xf h XQ f=>?_⟩;rw[show u=.aG n from XQ.1];exact p N X0 h (by rw[XQ.2,cC]at f;exact f)
theorem Hv(c:b6 b d λD j B=>j9 I D j λe N=>B (.aG e) N):cS b d (h3 I):=by
 refine eP c λD j B a=>?_;let⟨y,P,s,@XC,X,ag,g,p⟩:=a;let⟨@o,z,E⟩:=cD.mp g;cases E;exact⟨y,P,o.1,_,X,ag,z,λN X0 h f=>p _ N X0 [] h ⟨rfl,rfl⟩ (by rw[cC];exact f)⟩
theorem mZ{I:az aj}(c:cS b d I):cS b d (h3<|cg I):=by
 refine eP c λD j B a=>?_;let⟨y,P,s,@XC,X,ag,e,p⟩:=a;let⟨@o,z,E⟩:=cD.mp e;let⟨@f,g,h⟩:=bG.mp z;let⟨@n,i,k⟩:=cD.mp h;cases k;cases E;exact⟨y,P,f.1,_,X,ag,g,by rw[G0 i];exact p⟩
theorem Wz(c:cS b g (h3 I)):cS b (.UnaryOp .Not g Xu) (h3<|mN I):=by
 refine Hv (eP (K2<|Bv c) λD j B a=>?_);let⟨y,P,n,@XC,X,ag,d,p⟩:=a;let⟨@o,z,E⟩:=cD.mp d;cases E;exact⟨y,P,o.1,_,X,ag,z,λN X0 e f=>⟨_,rfl,p N X0 e f⟩⟩
theorem zX{X7}{I:az aj}(c:cS b g I):cS b (.BoolOp X7 [g] Xu) I:=RW c
theorem uc(c:cS b g (h3 I))(a:cS b (.BoolOp .And (e::s) Xu) (h3 q)):cS b (.BoolOp .And (g::e::s) Xu) (h3<|hn I q):=by
 refine Hv (eP (LU (Bv c)<|Bv a) λD j B l=>?_);have:=I7 l;let⟨y,P,n,@XC,X,ag,d,p⟩:=this;exact⟨y,P,n,XC,X,ag,d,λN X0 h f=>⟨n,rfl,p N X0 h f⟩⟩
@[simp] noncomputable def oo(n:az Bool)(g e:az aj):az aj:=λy=>(n y).bind λo=>if o.1=aa then g o.2 else e o.2
theorem bu.seq(g:bu j P Xn Xz)(e:bu Xn Xz XD XS):bu j P XD XS:=by
 have:=bu.trans (Xf:=[]) (by rw[cC];exact g) e (λh a=>nomatch a)
 rwa [cC]at this
theorem FP{Yj Yd:az aj}(h:i9 b n Yv)(k:cS b g Yj)(l:cS b e Yd):cS b (.IfExp n g e Xu) (oo Yv Yj Yd):=by
 refine eP (KW h k l) λD j B m=>?_;let⟨y,P,s,@XC,X,ag,o,p⟩:=m;let⟨@⟨i,Xl⟩,z,E⟩:=bG.mp o;refine⟨y,P,i,Xl,X,ag,z,λXn Xz f a=>?_⟩;cases i with
 |true=>
  rw[aA rfl]at E ⊢;exact⟨Xl,Xz,s,XC,f,a.ag,E,λu XD XS Xf c XQ d=>p u XD XS Xf c XQ<|a.seq d⟩
 |false=>
  rw[aI dy]at E ⊢;exact⟨Xl,Xz,s,XC,f,a.ag,E,λu XD XS Xf c XQ d=>p u XD XS Xf c XQ<|a.seq d⟩
end
def lz(j:aw)(D:a3):List bq->List ar->List af->Prop
 |[],Xc,Xf=>Xc=[]/\Xf=[]
 |m::Xw,Xc,Xf=>∃u s a b4,Xc=u::s/\jR j D m u a/\lz j D Xw s b4/\Xf=a++b4
noncomputable def hq(I:az (List bq)):en:=λD j B=>∃y P s XC,bC j y D P/\P.Nodup/\I y=Z (s,XC)/\∀Xc N X0 Xf,bC N XC D X0->lz N D s Xc Xf->bu j P N (X0++Xf)->B Xc N
def fL(b:aO)(S:List bx)(I:az (List bq)):Prop:=∀ ⦃o⦄,BE b S (hq I) o
theorem FF{i XM:en}(c:gM b S i)(a:∀D j B,XM D j B->i D j B):gM b S XM:=λXu G f D j B A d=>c Xu G f D j B A (a D j B d)
def aF:az (List bq):=λy=>Z ([],y)
@[simp] noncomputable def ao(I:az bq)(c:az (List bq)):az (List bq):=λy=>(I y).bind λo=>(c o.2).map λp=>(o.1::p.1,p.2)
theorem bu.kN(f:bu j P N O)(o:O.Perm X6):bu j P N X6:=⟨f.keep,λg a=>f.sub g<|o.mem_iff.mpr a,(o.nodup_iff).mp f.ag,f.tup,f.grow⟩
theorem bu.less(f:bu j P N O)(o:(X6++aP).Perm O):bu j P N X6:=
 ⟨f.keep,λg a=>f.sub g<|o.mem_iff.mp<|gc _ a,(dN.mp<|(o.nodup_iff).mpr f.ag).1,f.tup,f.grow⟩
section
variable{b:aO}
theorem lP:fL b [] aF:=by
 refine FF CT λD j B a=>?_;let⟨y,P,s,@XC,X,ag,c,p⟩:=a;cases c;exact p [] j P [] X ⟨rfl,rfl⟩ (by rw[cC];exact bu.perm ag (List.Perm.refl _))
theorem mj{I:az bq}{c:az (List bq)}(i:dR b d I)(k:fL b S c)(Xi:bL (d::S) b.env=(au,bZ d b.env)::bL S b.env:=by rfl):fL b (d::S) (ao I c):=by
 refine FF (xE i k Xi) λD j B l=>?_;let⟨y,P,s,@XC,X,ag,n,p⟩:=l;let⟨@⟨h,Xl⟩,z,E⟩:=bG.mp n;let⟨@⟨Xp,XO⟩,o,q⟩:=cD.mp E;cases q;refine⟨y,P,h,Xl,X,ag,z,λu Xn Xz f r XJ a=>⟨Xl,Xz,Xp,_,r,(dN.mp a.ag).1,o,λXc XD XS b4 t XR e=>?_⟩⟩;refine p (u::Xc) XD XS (f++b4) t ⟨u,Xc,f,b4,rfl,XJ.mono e.tup λg v m d=>e.keep g m d λc=>?_,XR,rfl⟩ ((a.trans e XJ.chg).kN ?_)
 ·exact (dN.mp a.ag).2.2 g c g v rfl
 ·rw[bt];exact d5 _ dx
end
def eW(y:a4):List bq->Option (List aj)
 |[]=>Z []
 |m::Xw=>(fa y m).bind λv=>(eW y Xw).map λJ=>v::J
def nC(j:aw):List aj->List ar->Prop
 |[],Xc=>Xc=[]
 |v::J,Xc=>∃u s,Xc=u::s/\fX j v u/\nC j J s
theorem lz.read{j:aw}{y:a4}{D:a3}{P:List af}(X:bC j y D P):∀{Xw:List bq}{Xc:List ar}{Xf:List af}{J:List aj},lz j D Xw Xc Xf->eW y Xw=Z J->nC j J Xc
 |[],_,_,_,c,d=>by cases d;exact c.1
 |m::Xw,_,_,_,c,d=>by
  let⟨u,s,g,@b4,rfl,z,E,rfl⟩:=c;let⟨@v,a,b⟩:=bG.mp d;let⟨@J,e,f⟩:=cD.mp b;cases f;exact⟨u,s,rfl,z.read X a,lz.read X E e⟩
def es:List bq->a4->Option (List aj×a4)
 |[],y=>Z ([],y)
 |.b5 v::Xw,y=>(es Xw y).map λo=>(v::o.1,o.2)
 |.aY a::Xw,y=>(fp a y).bind λo=>(es Xw o.2).map λp=>(o.1::p.1,p.2)
theorem I1{a:Nat}(X:bC j y D P)(c:fp a y=Z (v,XC)):∃u Xz Xf,D[a]?=Z (Z u)/\cT j v u Xf/\bC j XC D Xz/\(Xz++Xf).Perm P:=by
 unfold fp at c;split at c
 ·rename_i d hd;split at c
  ·rename_i b;cases c;let⟨@u,z,E⟩:=X.d7 hd b;exact⟨u,P,[],z,E,X,by rw[cC]⟩
  ·cases c;let⟨u,Xz,@XS,z,E,e,f⟩:=X.out hd;exact⟨u,XS,Xz,z,E,e,f⟩
 ·cases c
theorem lQ:(O++(X6++aP)).Perm (X6++(O++aP)):=by
 rw[<-bt,<-bt];exact fs _ dx
theorem nH{j:aw}{D:a3}:∀{Xw:List bq}{Xc:List ar}{Xf P:List af}{y XC:a4}{J:List aj},bC j y D P->lz j D Xw Xc Xf->es Xw y=Z (J,XC)->∃Xz b,bC j XC D Xz/\dP j J Xc b/\(Xz++b).Perm (P++Xf)
 |[],_,_,P,_,_,_,X,c,d=>by
  cases d;exact⟨P,[],X,⟨c.1,rfl⟩,by rw[c.2]⟩
 |.b5 v::Xw,_,_,P,y,_,_,X,c,d=>by
  let⟨u,s,b,@b4,rfl,z,E,rfl⟩:=c;rw[es]at d;let⟨@o,g,h⟩:=cD.mp d;cases h;let⟨Xz,@e,f,i,k⟩:=nH (XC:=o.2) (J:=o.1) X E g;exact⟨Xz,b++e,f,⟨u,s,b,e,rfl,z,i,rfl⟩,lQ.trans<|(d5 _ k).trans lQ⟩
 |.aY a::Xw,_,_,P,y,_,_,X,c,d=>by
  let⟨u,s,b,@b4,rfl,@⟨z,rfl⟩,E,rfl⟩:=c;rw[es]at d;let⟨@⟨v,Xl⟩,m,n⟩:=bG.mp d;let⟨@o,g,h⟩:=cD.mp n;cases h;let⟨r,Xz,@e,f,i,k,p⟩:=I1 X m;rw[z]at f;cases f;let⟨XS,@l,XF,XH,q⟩:=nH (XC:=o.2) (J:=o.1) k E g;refine⟨XS,e++l,XF,⟨u,s,e,l,rfl,i,XH,rfl⟩,lQ.trans<|(d5 _ q).trans ?_⟩;rw[<-bt];exact fs _ (dx.trans p)
@[simp] noncomputable def gL:List bq->List aj->a4->a4
 |.aY a::Xw,v::J,y=>gL Xw J (match y[a]? with|some (Z .ed)=>y.set a (Z v)|_=>y)
 |.b5 _::Xw,_::J,y=>gL Xw J y
 |_,_,y=>y
theorem vc{j h:aw}{D:a3}:∀{Xw:List bq}{J:List aj}{Xc:List ar}{Xf P Xr:List af}{y:a4},bC j y D P->lz h D Xw Xc Xr->dP j J Xc Xf->∃Xz b,bC j (gL Xw J y) D Xz/\(Xz++b).Perm (P++Xf)
 |[],J,_,Xf,P,_,y,X,_,_=>⟨P,Xf,by unfold gL;exact X,List.Perm.refl _⟩
 |.b5 _::Xw,[],_,Xf,P,_,y,X,_,_=>⟨P,Xf,by unfold gL;exact X,List.Perm.refl _⟩
 |.aY _::Xw,[],_,Xf,P,_,y,X,_,_=>⟨P,Xf,by unfold gL;exact X,List.Perm.refl _⟩
 |.b5 _::Xw,v::J,_,Xf,P,_,y,X,c,l=>by
  let⟨u,s,i,@k,rfl,z,E,rfl⟩:=c;let⟨m,X9,b,@b4,d,dw,da,rfl⟩:=l;cases d;let⟨Xz,@e,f,g⟩:=vc (y:=y) X E da;refine⟨Xz,b++e,by rw[gL];exact f,lQ.trans<|(d5 _ g).trans lQ⟩
 |.aY a::Xw,v::J,_,Xf,P,_,y,X,c,l=>by
  let⟨u,s,i,@k,rfl,@⟨z,W⟩,E,rfl⟩:=c;let⟨m,X9,b,@b4,d,dw,da,rfl⟩:=l;cases d;rw[gL];split
  ·let⟨Xz,@Q,f,g⟩:=X.back dw z;let⟨XS,@e,XF,XH⟩:=vc f E da;refine⟨XS,e++Q,XF,?_⟩;rw[<-bt,<-bt];refine (fs _ XH).trans ?_;rw[bt];refine (d5 _ dx).trans ?_;rw[<-bt];exact fs _ g
  ·let⟨Xz,@e,f,g⟩:=vc X E da;exact⟨Xz,b++e,f,lQ.trans<|(d5 _ g).trans lQ⟩
noncomputable def g_:List aj->Option (List V)
 |[]=>Z []
 |.im v::J=>(g_ J).map λs=>v::s
 |_::_=>Y
@[simp] def r2(J:List aj):aj:=match g_ J with
 |some is=>.im (.tup is)
 |none=>.pB J
@[simp] def rx(J:List aj):aj:=match g_ J with
 |some is=>.lst is
 |none=>.ib J
theorem xH{j:aw}:∀{J:List aj}{Xc:List ar}{Xf:List af}{is:List V},dP j J Xc Xf->g_ J=Z is->br j is Xc/\Xf=[]
 |[],_,_,_,c,d=>by cases d;exact c
 |.im v::J,_,_,_,c,d=>by
  let⟨u,s,f,@b4,rfl,@⟨z,rfl⟩,E,rfl⟩:=c;rw[g_]at d;let⟨@o,a,b⟩:=cD.mp d;cases b;let@⟨e,rfl⟩:=xH E a;exact⟨⟨u,s,rfl,z,e⟩,rfl⟩
 |.ed::_,_,_,_,_,d=>by rw[g_]at d;cases d;all_goals (intro W C;cases C)
 |.dn _::_,_,_,_,_,d=>by rw[g_]at d;cases d;all_goals (intro W C;cases C)
 |.lst _::_,_,_,_,_,d=>by rw[g_]at d;cases d;all_goals (intro W C;cases C)
 |.dQ _::_,_,_,_,_,d=>by rw[g_]at d;cases d;all_goals (intro W C;cases C)
 |.a_ _::_,_,_,_,_,d=>by rw[g_]at d;cases d;all_goals (intro W C;cases C)
 |.ib _::_,_,_,_,_,d=>by rw[g_]at d;cases d;all_goals (intro W C;cases C)
 |.tQ _ _::_,_,_,_,_,d=>by rw[g_]at d;cases d;all_goals (intro W C;cases C)
 |.pB _::_,_,_,_,_,d=>by rw[g_]at d;cases d;all_goals (intro W C;cases C)
 |.obj _ _ _::_,_,_,_,_,d=>by rw[g_]at d;cases d;all_goals (intro W C;cases C)
@[simp] def d6(I:az (List bq)):az aj:=λy=>(I y).bind λo=>(es o.1 o.2).bind λp=>if p.1.length<=100000 then Z (r2 p.1,p.2) else Y
@[simp] def eH(I:az (List bq)):az aj:=λy=>(I y).bind λo=>(es o.1 o.2).bind λp=>if p.1.length<=100000 then Z (rx p.1,p.2) else Y
theorem KZ{J:List aj}{o:af}(f:bV j N)(c:dP j J Xc Xf)(d:N o=Z (.tup Xc)):∃a,cT N (r2 J) (.ref o) a/\a=Xf:=by
 unfold r2;split
 ·rename_i is U;let@⟨b,rfl⟩:=xH c U;exact⟨[],⟨⟨o,Xc,rfl,d,b.mono f.tupS.tup⟩,rfl⟩,rfl⟩
 ·exact⟨Xf,⟨o,Xc,rfl,d,c.mono f.tupS λg W m p=>f g m p⟩,rfl⟩
theorem QQ{J:List aj}{o:af}(f:bV j N)(c:dP j J Xc Xf)(d:N o=Z (.lst Xc)):cT N (rx J) (.ref o) (o::Xf):=by
 unfold rx;split
 ·rename_i is U;let@⟨a,rfl⟩:=xH c U;exact⟨o,Xc,rfl,d,a.mono f.tupS.tup,rfl⟩
 ·exact⟨o,Xc,Xf,rfl,d,c.mono f.tupS λg W m p=>f g m p,rfl⟩
theorem nN(c:w<=100000):w<=sizeLine:=e0 c (by decide)
theorem bu.add{j Xn:aw}{P O:List af}{o:af}{m:gG}(g:bu j P Xn O)(a:Xn o=Y)(n:∀h∈O,gR Xn h):bu j P (upd Xn o m) (O++[o]):=by
 have f:bV Xn (upd Xn o m):=(bV.refl Xn).upd a;have:=bu.new (Xf:=[]) (c:=[o]) (by rw[cC];exact g) f (fP _ _) (λh b=>by rw[cK.mp b];exact a) n;exact this
theorem bu.same(g:bu j P Xn O)(f:bV Xn XD):bu j P XD O:=
 ⟨λh m d a=>f _ _<|g.keep h m d a,g.sub,g.ag,g.tup.trans f.tupS,λh m d=>let ⟨R,b⟩:=g.grow h m d;⟨R,f _ _ b⟩⟩
section
variable{b:aO}
theorem mM{e}(c:fL b S I):cS b (.Tuple S e Xu) (d6 I):=by
 refine eP (NT c) λD j B h=>?_;let⟨y,P,s,@XC,X,ag,i,p⟩:=h;let⟨@⟨Xw,Xl⟩,z,E⟩:=bG.mp i;let⟨@⟨J,XO⟩,k,a⟩:=bG.mp E;refine⟨y,P,Xw,Xl,X,ag,z,λXc Xn Xz x l XJ n=>?_⟩;let⟨XS,@b4,q,XQ,XP⟩:=nH l XJ k;split at a
 ·rename_i r;cases a;have t:Xc.length<=100000:=by rw[<-XQ.length];exact r
  refine⟨nN t,λo u=>?_⟩;have f:bV Xn (upd Xn o<|.tup Xc):=(bV.refl Xn).upd u;let⟨@v,w,rfl⟩:=KZ f XQ e_;exact p _ _ XS v (q.mono f.tupS λg W m d=>f g m d) w ((n.kN XP.symm).same f)
 ·cases a
theorem gP(c:fL b S I):cS b (.List S Xu) (eH I):=by
 refine eP (Vs c) λD j B l=>?_;let⟨y,P,s,@XC,X,ag,n,p⟩:=l;let⟨@⟨Xw,Xl⟩,z,E⟩:=bG.mp n;let⟨@⟨J,XO⟩,q,e⟩:=bG.mp E;refine⟨y,P,Xw,Xl,X,ag,z,λXc Xn Xz x r XJ t=>?_⟩;let⟨XS,@b4,i,XQ,XP⟩:=nH r XJ q;split at e
 ·rename_i u;cases e;have v:Xc.length<=100000:=by rw[<-XQ.length];exact u
  refine⟨nN v,λo k=>?_⟩;have f:bV Xn (upd Xn o<|.lst Xc):=(bV.refl Xn).upd k;have w:=QQ f XQ (o:=o) e_;refine p _ _ XS (o::b4) (i.mono f.tupS λg W m d=>f g m d) w (((t.kN XP.symm).add k λh a=>?_).kN ?_)
  ·rcases ee.mp a with a|a
   ·exact i.chg h a
   ·exact XQ.chg h a
  ·rw[bt];exact d5 _ dx
 ·cases e
def hl(b:aO)(F:ab)(X7:List aj->Option aj):Prop:=
 eK b F λx j B=>∃J v,nC j J x/\X7 J=Z v/\∀u N Xf,bV j N->cT N v u Xf->Xf.Nodup->(∀g∈Xf,j g=Y)->B u N
@[simp] def b9(X7:List aj->Option aj)(I:az (List bq)):az aj:=λy=>(I y).bind λo=>(eW o.2 o.1).bind λJ=>(X7 J).map λv=>(v,o.2)
theorem B3(c:oF (b9 X7 I) D j B):
  hq I D j λx Xn=>∃J v,nC Xn J x/\X7 J=Z v/\∀u N Xf,bV Xn N->cT N v u Xf->Xf.Nodup->(∀g∈Xf,Xn g=Y)->B u N:=by
 let⟨y,P,s,@XC,X,ag,e,p⟩:=c;let⟨@⟨Xw,Xl⟩,z,E⟩:=bG.mp e;let⟨@J,f,h⟩:=bG.mp E;let⟨@v,i,k⟩:=cD.mp h;cases k;refine⟨y,P,Xw,Xl,X,ag,z,λXc Xn Xz q a XJ l=>⟨J,_,XJ.read a f,i,λu XD Xf b XQ n o=>?_⟩⟩;exact p u XD Xz Xf (a.mono b.tupS λg W m d=>b g m d) XQ (l.new b n o a.chg)
theorem Oz{id:String}(a:hl b (.builtin id) X7)(e:dS b h)(f:b.aH h=Y)(g:eT h=Z (.builtin id))(i:fL b (d::S) I)(j:h ≠ "__name__" := by decide)(k:(h==("__debug__" : aB))=au:=by decide)(l:bL (d::S) b.env=(au,bZ d b.env)::bL S b.env:=by rfl)(m:(f3 Xu<|bL S b.env).any (·.1)=au:=by rfl):
  cS b (.Call (.Name h o) (d::S) [] Xu) (b9 X7 I):=eP (EO a e f g i j k l m) λ_ W W c=>B3 c
theorem iB{T:String}(a:hl b (.type T) X7)(e:dS b h)(f:b.aH h=Y)(g:eT h=Z (.type T))(i:fL b (d::S) I)(j:h ≠ "__name__" := by decide)(k:(h==("__debug__" : aB))=au:=by decide)(l:bL (d::S) b.env=(au,bZ d b.env)::bL S b.env:=by rfl)(m:(f3 Xu<|bL S b.env).any (·.1)=au:=by rfl):
  cS b (.Call (.Name h o) (d::S) [] Xu) (b9 X7 I):=eP (NG a e f g i j k l m) λ_ W W c=>B3 c
abbrev c9:=List aj->Option (aj×List aj)
noncomputable def kj(w:Nat)(Q:c9):m7:=λXc j B W=>Xc.length=w/\∃J P s i,dP j J Xc P/\P.Nodup/\Q J=Z (s,i)/\∀u N Xf a,cT N s u Xf->dP N i Xc a->bu j P N (Xf++a)->B u N
@[simp] def b2(w:Nat)(Q:c9)(I:az (List bq)):az aj:=λy=>(I y).bind λo=>if o.1.length=w then (es o.1 o.2).bind λp=>(Q p.1).map λs=>(s.1,gL o.1 s.2 p.2) else Y
theorem lz.length{j:aw}{D:a3}:∀{Xw:List bq}{Xc:List ar}{Xf:List af},lz j D Xw Xc Xf->Xw.length=Xc.length
 |[],_,_,c=>by rw[c.1];rfl
 |m::Xw,_,_,c=>by
  let⟨u,s,a,@b4,rfl,z,E,rfl⟩:=c;rw[c3,c3,lz.length E]
theorem Pf{Q:c9}{Xg:hc}(c:oF (b2 w Q I) D j B):DC (kj w Q) [] Xg (hq I) D j B:=by
 let⟨y,P,s,@XC,X,ag,k,p⟩:=c;let⟨@⟨Xw,Xl⟩,z,E⟩:=bG.mp k;split at E
 ·rename_i l;let⟨@⟨J,XO⟩,n,o⟩:=bG.mp E;let⟨@⟨X9,i⟩,q,r⟩:=cD.mp o;cases r;refine⟨y,P,Xw,Xl,X,ag,z,λXc Xn Xz N t XJ v=>?_⟩;let⟨XS,b4,f,XQ,XP⟩:=nH t XJ n;have a:=v.kN (XP.symm.trans dx);rw[cC];refine⟨by rw[<-XJ.length];exact l,J,b4,_,i,XQ,(dN.mp a.ag).1,q,λu h Xf O dw da b=>?_⟩;have x:=a.trans b f.chg;have A:∀g∈XS,g∉b4:=λg e C=>(dN.mp a.ag).2.2 g C g e rfl;have F:bC h XO D XS:=f.mono b.tup λg e m d=>b.keep g m d (A g e);let⟨G,@H,L,M⟩:=vc F XJ da;refine p u h G Xf L dw (x.less (aP:=H) ?_);refine List.Perm.trans ?_ dx;rw[bt];refine (d5 _ dx).trans ?_;rw[<-bt];refine (fs _ M).trans ?_;rw[bt];exact d5 _ dx
 ·cases E
end
section
variable{b:aO}
variable{q:Nat}
theorem Jo{Q:c9}{F:af}(P:iG b.prog b.w b.K b.aH b.base ij q F fd Xo (kj w Q))(a:fk q b.A)(e:dS b h)(f:b.aH h=Z (.ref F))(g:PySem.W.keepIn b.K (.ref F)=aa)(i:i6 b.K fd Xo [])(j:fL b (d::S) I)(k:(h==("__debug__" : aB))=au:=by decide)(m:bL (d::S) b.env=(au,bZ d b.env)::bL S b.env:=by rfl)(n:(f3 Xu<|bL S b.env).any (·.1)=au:=by rfl):
  cS b (.Call (.Name h o) (d::S) [] Xu) (b2 w Q I):=eP (UN P a e f g i .nil PQ j k m n) λ_ U U c=>Pf c
inductive oj where
 | aS|dT (v:aj)|f_|cx
abbrev bA:=a4->Option (oj×a4)
def dm(XX:List Nat)(D b:a3):Prop:=b.length=D.length/\∀a∈XX,b[a]?=D[a]?
theorem dm.refl:dm XX D D:=⟨rfl,λ_ W=>rfl⟩
theorem dm.trans{b:a3}(g:dm XX D Yy)(e:dm XX Yy b):dm XX D b:=⟨e.1.trans g.1,λa U=>(e.2 a U).trans<|g.2 a U⟩
theorem dm.set{u:Option ar}(c:r∉XX):dm XX D (D.set r u):=⟨we,λa U=>ox λd=>c (by rw[d];exact U)⟩
def ro(XX:List Nat)(Xg:pf)(D:a3)(j:aw)(P:List af)(XC:a4):oj->Prop
 |.aS=>∀a N X0,dm XX D a->bC N XC a X0->bu j P N X0->Xg.aS a N
 |.f_=>∀a N X0,dm XX D a->bC N XC a X0->bu j P N X0->Xg.f_ a N
 |.cx=>∀a N X0,dm XX D a->bC N XC a X0->bu j P N X0->Xg.cx a N
 |.dT v=>∀u a N X0 Xf,dm XX D a->bC N XC a X0->cT N v u Xf->bu j P N (X0++Xf)->Xg.dT u N
noncomputable def qd(XX:List Nat)(I:bA):fy:=λXg D j=>∃y P aU XC,bC j y D P/\P.Nodup/\I y=Z (aU,XC)/\ro XX Xg D j P XC aU
def iF(b:aO)(XX:List Nat)(X:b8)(I:bA):Prop:=∀ ⦃o⦄,It b X (qd XX I) o
def jg(b:aO)(XX:List Nat)(eX:List b8)(I:bA):Prop:=∀ ⦃o⦄,B2 b eX (qd XX I) o
variable{XM:fy}
theorem lx{X:b8}{i:fy}(c:iN b X i)(a:∀Xg D j,XM Xg D j->i Xg D j):iN b X XM:=λG f D j y A d=>c G f D j y A (a y D j d)
theorem I6{X:List b8}{i:fy}(c:ia b X i)(a:∀Xg D j,XM Xg D j->i Xg D j):ia b X XM:=λG f D j y A d=>c G f D j y A (a y D j d)
theorem ro.on{aU:oj}(c:ro XX Xg D j P XC aU)(X8:dm XX D Yy)(f:bu j P Xn Xz):ro XX Xg Yy Xn Xz XC aU:=by
 cases aU with
 |aS=>exact λa N X0 F X Xe=>c a N X0 (X8.trans F) X (f.seq Xe)
 |f_=>exact λa N X0 F X Xe=>c a N X0 (X8.trans F) X (f.seq Xe)
 |cx=>exact λa N X0 F X Xe=>c a N X0 (X8.trans F) X (f.seq Xe)
 |dT v=>exact λu a N X0 Xf F X XQ Xe=>c u a N X0 Xf (X8.trans F) X XQ (f.seq Xe)
def fA:bA:=λy=>Z (.aS,y)
@[simp] noncomputable def bz(I c:bA):bA:=λy=>(I y).bind λo=>match o.1 with
 |.aS=>c o.2
 |aU=>Z (aU,o.2)
theorem ho:jg b XX [] fA:=by
 refine I6 WA λXg D j a=>?_;let⟨y,P,aU,@XC,X,ag,c,p⟩:=a;cases c;exact p D j P dm.refl X (bu.perm ag<|List.Perm.refl _)
variable{I:bA}
theorem cp{X:b8}(c:iF b XX X I):jg b XX [X] I:=UH c
theorem Mv{c:bA}(l:qd XX (bz I c) Xg D j):JD (qd XX I) (qd XX c) Xg D j:=by
 let⟨y,P,aU,@XC,X,ag,a,p⟩:=l;let⟨@⟨b,Xl⟩,z,E⟩:=bG.mp a;cases b with
 |aS=>exact⟨y,P,.aS,Xl,X,ag,z,λe N X0 X8 d f=>⟨Xl,X0,aU,XC,d,f.ag,E,p.on X8 f⟩⟩
 |f_=>cases E;exact⟨y,P,.f_,Xl,X,ag,z,p⟩
 |cx=>cases E;exact⟨y,P,.cx,Xl,X,ag,z,p⟩
 |dT v=>cases E;exact⟨y,P,.dT v,Xl,X,ag,z,p⟩
theorem bW{X:b8}{eX:List b8}{c:bA}(z:iF b XX X I)(E:jg b XX eX c):jg b XX (X::eX) (bz I c):=I6 (Qt z E) λ_ W W l=>Mv l
@[simp] noncomputable def hY(I:az aj):bA:=λy=>(I y).map λo=>(.aS,o.2)
variable{I:az aj}
theorem kZ(c:cS b d I)(Xi:oY d Y Xu.line b.env=pure au:=by rfl):iF b XX (.Expr d Xu) (hY I):=by
 refine lx (Um c Xi) λXg D j a=>?_;let⟨y,P,aU,@XC,X,ag,e,p⟩:=a;let⟨@⟨s,Xl⟩,z,E⟩:=cD.mp e;cases E;exact⟨y,P,s,_,X,ag,z,λu N X0 Xf g XQ f=>p D N X0 dm.refl g<|f.less<|List.Perm.refl _⟩
@[simp] noncomputable def cV(I:az aj):bA:=λy=>(I y).map λo=>(.dT o.1,o.2)
theorem du(c:cS b d I):iF b XX (.Return (Z d) Xu) (cV I):=by
 refine lx (TX c) λXg D j a=>?_;let⟨y,P,aU,@XC,X,ag,e,p⟩:=a;let⟨@⟨s,Xl⟩,z,E⟩:=cD.mp e;cases E;exact⟨y,P,s,_,X,ag,z,λu N X0 Xf g XQ f=>p u D N X0 Xf dm.refl g XQ f⟩
@[simp] noncomputable def ei(n:az Bool)(g e:bA):bA:=λy=>(n y).bind λo=>if o.1=aa then g o.2 else e o.2
variable{Yd:bA}
theorem g8{g e:List b8}{Yj:bA}(d:i9 b n Yv)(f:jg b XX g Yj)(h:jg b XX e Yd):iF b XX (.If n g e Xu) (ei Yv Yj Yd):=by
 refine lx (S5 d f h) λXg D j k=>?_;let⟨y,P,aU,@XC,X,ag,l,p⟩:=k;let⟨@⟨i,Xl⟩,z,E⟩:=bG.mp l;refine⟨y,P,i,Xl,X,ag,z,λXn Xz c a=>?_⟩;cases i with
 |true=>
  rw[aA rfl]at E ⊢;exact⟨Xl,Xz,aU,XC,c,a.ag,E,p.on dm.refl a⟩
 |false=>
  rw[aI dy]at E ⊢;exact⟨Xl,Xz,aU,XC,c,a.ag,E,p.on dm.refl a⟩
@[simp] noncomputable def b_(a:Nat)(I:az aj):bA:=λy=>(I y).bind λo=>if a<o.2.length then Z (.aS,o.2.set a<|Z o.1) else Y
variable{a:Nat}
theorem uL{i:Pos}(c:b.N.Nodup)(U:b.N[a]?=Z h)(e:lS b.env.scope h)(f:cS b d I)(g:a∉XX)(Xi:oY d (Z<|.Name h i) Xu.line b.env=pure au:=by rfl)(k:b.fn h=aa\/b.env.scope.names.lookup h=Z .local:=by first|exact .inl rfl|exact .inr rfl|assumption):iF b XX (.Assign [.Name h i] d Xu) (b_ a I):=by
 refine lx (KY c U e f Xi k) λXg D j l=>?_;let⟨y,P,aU,@XC,X,ag,m,p⟩:=l;let⟨@⟨s,Xl⟩,z,E⟩:=bG.mp m;split at E
 ·rename_i n;cases E;refine⟨y,P,s,_,X,ag,z,λu Xn Xz Xf o XQ q=>?_⟩;let⟨XS,@b4,r,XP⟩:=o.put (a:=a) XQ n;exact p _ Xn XS (dm.set g) r (q.less XP)
 ·cases E
abbrev fi:=aj->a4->Option a4
noncomputable def y3(XX:List Nat)(I:fi):hh:=λu D j B=>∃y P v Xf XC,bC j y D P/\cT j v u Xf/\(P++Xf).Nodup/\I v y=Z XC/\∀a N X0,dm XX D a->bC N XC a X0->bu j (P++Xf) N X0->B a N
def iR(b:aO)(XX:List Nat)(d:bx)(I:fi):Prop:=∀ ⦃o⦄,Fb b d (y3 XX I) o
theorem xO{i XM:hh}(c:ka b d i)(a:∀u D j B,XM u D j B->i u D j B):ka b d XM:=λG f D j h u B A s e=>c G f D j h u B A s (a h D j B e)
@[simp] noncomputable def bS(a:Nat):fi:=λv y=>if a<y.length then Z (y.set a<|Z v) else Y
theorem AM(d:b.N.Nodup)(U:b.N[a]?=Z h)(e:lS b.env.scope h)(f:a∉XX)(g:b.fn h=aa\/b.env.scope.names.lookup h=Z .local:=by first|exact .inl rfl|exact .inr rfl|assumption):iR b XX (.Name h Xu) (bS a):=by
 refine xO (Tr d U e g) λu D j B i=>?_;let⟨y,P,v,Xf,@XC,X,XQ,ag,c,p⟩:=i;unfold bS at c;split at c
 ·rename_i k;cases c;let⟨XS,@b4,l,XP⟩:=X.put (a:=a) XQ k;exact p _ j XS (dm.set f) l ((bu.perm ag<|List.Perm.refl _).less XP)
 ·cases c
noncomputable def LQ(XX:List Nat)(I:List aj->a4->Option a4):kX:=λXc D j B=>∃y P J Xf XC,bC j y D P/\dP j J Xc Xf/\(P++Xf).Nodup/\I J y=Z XC/\∀a N X0,dm XX D a->bC N XC a X0->bu j (P++Xf) N X0->B a N
def wo(b:aO)(XX:List Nat)(S:List bx)(I:List aj->a4->Option a4):Prop:=∀ ⦃o⦄,J2 b S (LQ XX I) o
@[simp] noncomputable def fM:List aj->a4->Option a4
 |[],y=>Z y
 |_,_=>Y
@[simp] noncomputable def de(I:fi)(c:List aj->a4->Option a4):List aj->a4->Option a4
 |v::J,y=>(I v y).bind (c J)
 |_,_=>Y
theorem Ga{i XM:kX}(c:qq b S i)(a:∀u D j B,XM u D j B->i u D j B):qq b S XM:=λG f D j x Xc B A s d=>c G f D j x Xc B A s (a x D j B d)
theorem Ti:wo b XX [] fM:=by
 refine Ga TS λXc D j B c=>?_;let⟨y,P,J,Xf,@XC,X,XQ,ag,a,p⟩:=c;cases J with
 |cons v J=>cases a
 |nil=>
  cases a;exact⟨XQ.1,p D j P dm.refl X<|(bu.perm ag<|List.Perm.refl _).less<|List.Perm.refl _⟩
theorem G6{I:fi}(z:iR b XX d I)(E:wo b XX S c)(Xi:(hz (d::S) b.env).map (·.2)=js d b.env::(hz S b.env).map (·.2):=by rfl):wo b XX (d::S) (de I c):=by
 refine Ga (Q6 z E Xi) λXc D j B q=>?_;let⟨y,P,J,Xf,@XC,X,XQ,ag,l,p⟩:=q;cases J with
 |nil=>cases l
 |cons v J=>
  let⟨u,s,h,@b4,rfl,dw,da,rfl⟩:=XQ;let⟨@Xl,r,t⟩:=bG.mp (show (I v y).bind (c J)=Z XC from l);have k:((P++h)++b4).Nodup:=by rw[bt];exact ag
  refine⟨u,s,rfl,y,P,v,h,Xl,X,dw,(dN.mp k).1,r,λYy Xn Xz X8 w f=>?_⟩;have n:∀g∈b4,g∉P++h:=λg a i=>(dN.mp k).2.2 g i g a rfl;have x:dP Xn J s b4:=da.mono f.tup λg a m d=>f.keep g m d (n g a);have o:bu j (P++(h++b4)) Xn (Xz++b4):=by
   refine⟨λg m d a=>f.keep g m d λc=>a ?_,λg a=>?_,dN.mpr ⟨f.ag,(dN.mp k).2.1,λg a e i d=>?_⟩,f.tup,f.grow⟩
   ·rw[<-bt];exact gc _ c
   ·rcases ee.mp a with a|a
    ·rcases f.sub g a with c|c
     ·left;rw[<-bt];exact gc _ c
     ·exact .inr c
    ·left;rw[<-bt];exact fj _ a
   ·subst d;rcases f.sub g a with c|c
    ·exact n g i c
    ·let⟨@m,d,W⟩:=da.chg g i;rw[d]at c;cases c
  exact⟨Xl,Xz,J,b4,XC,w,x,o.ag,t,λA XD XS C F G=>p A XD XS (X8.trans C) F<|o.seq G⟩
@[simp] noncomputable def ew(w:Nat)(c:List aj->a4->Option a4):fi:=λv y=>match v with
 |.im (.tup is)=>if is.length=w then c (is.map .im) y else Y
 |.pB J=>if J.length=w then c J y else Y
 |_=>Y
theorem BL{j:aw}:∀{is:List V}{Xc:List ar},br j is Xc->dP j (is.map .im) Xc []
 |[],Xc,c=>⟨c,rfl⟩
 |v::is,Xc,c=>by
  let⟨u,@s,rfl,z,E⟩:=c;exact⟨u,s,[],[],rfl,⟨z,rfl⟩,BL E,rfl⟩
theorem LZ(e:b.calm=aa)(Xi:wo b XX S c)(f:(hz S b.env).length=w:=by rfl)(h:(hz S b.env).findIdx? (·.1)=Y:=by rfl):iR b XX (.Tuple S q Xu) (ew w c):=by
 refine xO (QN e Xi f h) λu D j B i=>?_;let⟨y,P,v,Xf,@XC,X,XQ,ag,a,p⟩:=i;unfold ew at a;split at a
 ·rename_i is;split at a
  ·rename_i d;let@⟨⟨g,@x,rfl,z,E⟩,rfl⟩:=XQ;exact⟨g,x,rfl,cH.of z,by rw[<-E.length];exact d,y,P,_,[],XC,X,BL E,ag,a,p⟩
  ·cases a
 ·rename_i J;split at a
  ·rename_i d;let⟨g,@x,rfl,z,E⟩:=XQ;exact⟨g,x,rfl,cH.of z,by rw[<-E.length];exact d,y,P,_,Xf,XC,X,E,ag,a,p⟩
  ·cases a
 ·cases a
@[simp] noncomputable def h_(I:az aj)(c:fi):bA:=λy=>(I y).bind λo=>(c o.1 o.2).map λXC=>(.aS,XC)
theorem mX{c:fi}(e:cS b d I)(f:iR b XX XK c)(Xi:vZ [XK] d Xu.line b.env=pure au:=by rfl)(g:vg [XK] d b.env=pure Y:=by rfl)(z:(hz [XK] b.env).map (·.2)=[js XK b.env]:=by rfl):iF b XX (.Assign [XK] d Xu) (h_ I c):=by
 refine lx (O0 e f Xi g z) λXg D j h=>?_;let⟨y,P,aU,@XC,X,ag,i,p⟩:=h;let⟨@⟨s,Xl⟩,g1,g2⟩:=bG.mp i;let⟨@XO,k,l⟩:=cD.mp g2;cases l;exact⟨y,P,s,Xl,X,ag,g1,λu Xn Xz Xf m XQ a=>⟨Xl,Xz,s,Xf,_,m,XQ,a.ag,k,λn N X0 X8 o q=>p n N X0 X8 o<|a.seq q⟩⟩
@[simp] def pd(a r:Nat)(I:az (List bq)):bA:=λy=>(I y).bind λo=>(es o.1 o.2).bind λp=>match p.1 with
 |[XY,X1]=>if a<p.2.length/\r<p.2.length then Z (.aS,(p.2.set a<|Z XY).set r<|Z X1) else Y
 |_=>Y
theorem AP{H:aB}{I:az (List bq)}{kd f pt Xu:Pos}{X_ XH i}(m:b.calm=aa)(n:b.N.Nodup)(U:b.N[a]?=Z h)(o:b.N[r]?=Z H)(q:a≠r)(t:b.env.scope.names.lookup h=Z .local)(v:b.env.scope.names.lookup H=Z .local)(w:fL b [g,e] I)(x:a∉XX)(A:r∉XX)(B:vg [.Tuple [.Name h kd,.Name H f] X_ pt] (.Tuple [g,e] XH i) b.env=pure (Z [h,H]))(Xi:vZ [.Tuple [.Name h kd,.Name H f] X_ pt] (.Tuple [g,e] XH i) Xu.line b.env=pure au:=by rfl):
  iF b XX (.Assign [.Tuple [.Name h kd,.Name H f] X_ pt] (.Tuple [g,e] XH i) Xu) (pd a r I):=by
 refine lx (VP m n U o q t v w B Xi) λXg D j C=>?_;let⟨y,P,aU,@XC,X,ag,F,p⟩:=C;let⟨@⟨Xw,Xl⟩,z,E⟩:=bG.mp F;let⟨@⟨J,XO⟩,G,c⟩:=bG.mp E;refine⟨y,P,Xw,Xl,X,ag,z,λXc Xn Xz a1 M XJ Q=>?_⟩;let⟨XS,@b4,R,XQ,XP⟩:=nH M XJ G;dsimp only at c;split at c
 ·rename_i XY X1 d;split at c
  ·rename_i k;cases c;let⟨u,s,O,@X6,rfl,dw,da,rfl⟩:=XQ;let⟨L,X9,a2,@bd,rfl,d9,@⟨rfl,rfl⟩,rfl⟩:=da;let⟨S,@l,T,al⟩:=R.put (a:=a) dw k.1;let⟨am,@an,ap,as⟩:=T.put (a:=r) d9 (by rw[we];exact k.2);refine⟨u,L,rfl,p _ Xn am ((dm.set x).trans<|dm.set A) ap<|(Q.kN XP.symm).less (aP:=an++l) ?_⟩;rw[<-bt,cC,<-bt];refine (fs l as).trans ?_;rw[bt];refine (d5 S dx).trans ?_;rw[<-bt];exact fs _ al
  ·cases c
 ·cases c
noncomputable def kn(n:az Bool)(e:bA):Nat->bA
 |0=>λ_=>Y
 |w+1=>λy=>(n y).bind λo=>if o.1=aa then (e o.2).bind λp=>match p.1 with
  |.aS=>kn n e w p.2
  |.cx=>kn n e w p.2
  |.f_=>Z (.aS,p.2)
  |.dT v=>Z (.dT v,p.2) else Z (.aS,o.2)
theorem yl(w:Nat)(q:qZ (aM b.prog b.w) b.A b.env b.cW)(r:i9 b n Yv)(s:jg b XX Yt Yd):iF b XX (.While n Yt [] Xu) (kn Yv Yd w):=by
 refine lx (KA q r s) λXg D j t=>?_;let⟨y,P,aU,@XC,X,ag,x,p⟩:=t;refine⟨λk a N=>∃g X0,bC N g a X0/\dm XX D a/\bu j P N X0/\kn Yv Yd k g=Z (aU,XC),⟨w,y,P,X,dm.refl,bu.perm ag<|List.Perm.refl _,x⟩,?_⟩;rintro k Yy Xn ⟨Xl,Xz,z,h,e,l⟩;cases k with
 |zero=>cases l
 |succ k=>
  rw[kn]at l;let⟨@⟨i,XO⟩,dw,da⟩:=bG.mp l;refine⟨Xl,Xz,i,XO,z,e.ag,dw,λXD XS o f=>?_⟩;cases i with
  |false=>
   rw[aI dy]at da ⊢;cases da;exact p Yy XD XS h o (e.seq f)
  |true=>
   rw[aA rfl]at da ⊢;let⟨@⟨F,A⟩,d9,m⟩:=bG.mp da;refine⟨λa N=>∃g X0,bC N g a X0/\dm XX D a/\bu j P N X0/\kn Yv Yd k g=Z (aU,XC),λa N c=>⟨k,kE k,c⟩,XO,XS,F,A,o,f.ag,d9,?_⟩;cases F with
   |aS=>exact λa N X0 X8 d Xe=>⟨A,X0,d,h.trans X8,(e.seq f).seq Xe,m⟩
   |cx=>exact λa N X0 X8 d Xe=>⟨A,X0,d,h.trans X8,(e.seq f).seq Xe,m⟩
   |f_=>
    cases m;exact λa N X0 X8 d Xe=>p a N X0 (h.trans X8) d ((e.seq f).seq Xe)
   |dT v=>
    cases m;exact λu a N X0 Xf X8 d XQ Xe=>p u a N X0 Xf (h.trans X8) d XQ ((e.seq f).seq Xe)
structure kg(Yg:fq)(j:aw)(Xf:List af)(J:List V):Prop where
 go:∀N,fm j N->(∀g∈Xf,∀m,j g=Z m->N g=Z m)->∀(a:Nat) (v:V),J[a]?=Z v->Yg.go a N/\∀h AE,Yg.rE a N h AE->bV N AE/\cL AE v h
 stop:∀N,fm j N->(∀g∈Xf,∀m,j g=Z m->N g=Z m)->Yg.stop J.length N
def sJ(j:aw)(D:a3)(Xf:List af):Option (Nat×aj)->Prop
 |none=>True
 |some (a,v)=>∃u,D[a]?=Z (Z u)/\cT j v u Xf
noncomputable def bX(I:az (List V×Option (Nat×aj))):bF:=λD j a=>∃y P s XC,bC j y D P/\P.Nodup/\I y=Z (s,XC)/\∀Yg N X0 Xf,bC N XC D X0->kg Yg N Xf s.1->sJ N D Xf s.2->(∀g∈Xf,gR N g)->bu j P N (X0++Xf)->a Yg N
def lB(b:aO)(XK Ye:bx)(I:az (List V×Option (Nat×aj))):Prop:=∀ ⦃o⦄,En b XK Ye (bX I) o
theorem qn{i XM:bF}(c:jN b XK Ye i)(a:∀D j Xf,XM D j Xf->i D j Xf):jN b XK Ye XM:=λG f D j Xf A d=>c G f D j Xf A (a D j Xf d)
noncomputable def d2(XK:fi)(e:bA):List V->bA
 |[]=>λy=>Z (.aS,y)
 |h::s=>λy=>(XK (.im h) y).bind λXl=>(e Xl).bind λp=>match p.1 with
  |.aS=>d2 XK e s p.2
  |.cx=>d2 XK e s p.2
  |.f_=>Z (.aS,p.2)
  |.dT v=>Z (.dT v,p.2)
@[simp] noncomputable def lY:Option (Nat×aj)->a4->a4
 |none,y=>y
 |some (a,v),y=>match y[a]? with
  |some (Z .ed)=>y.set a (Z v)
  |_=>y
@[simp] def gW(I:az (List V×Option (Nat×aj)))(XK:fi)(e:bA):bA:=λy=>(I y).bind λo=>(d2 XK e o.1.1 o.2).map λp=>(p.1,lY o.1.2 p.2)
theorem Ah{m:Option (Nat×aj)}(X:bC j y D P)(c:sJ j D Xf m):∃Xz Q,bC j (lY m y) D Xz/\(Xz++Q).Perm (P++Xf):=by
 cases m with
 |none=>exact⟨P,Xf,X,List.Perm.refl _⟩
 |some o=>
  let⟨a,v⟩:=o;let⟨@u,z,E⟩:=c;unfold lY;dsimp only;split
  ·exact X.back E z
  ·exact⟨P,Xf,X,List.Perm.refl _⟩
def nD(X8:List Nat):Option (Nat×aj)->Prop
 |none=>True
 |some (a,_)=>a∈X8
theorem LI{I:az (List V×Option (Nat×aj))}{H:fi}(g2:qZ (aM b.prog b.w) b.A b.env b.cW)(g3:b.calm=aa)(U:lB b XK Ye I)(hd:iR b X8 XK H)(he:jg b X8 Yt Yd)(cr:∀a∈XX,a∈X8)(Xi:∀y s XC,I y=Z (s,XC)->nD X8 s.2)(cs:iN b (.For XK Ye Yt [] Xu) (Ey (bX I) (y3 X8 H)<|qd X8 Yd)):iF b XX (.For XK Ye Yt [] Xu) (gW I H Yd):=by
 refine lx cs λXg D j db=>?_;let⟨y,P,aU,@XC,X,ag,ds,p⟩:=db;let⟨@⟨⟨J,m⟩,Xl⟩,z,E⟩:=bG.mp ds;let⟨@⟨F,XO⟩,dL,eq⟩:=cD.mp E;cases eq;refine⟨y,P,(J,m),Xl,X,ag,z,λYg Xn Xz Xf ev Xj ex be am=>?_⟩;have fd:nD X8 m:=Xi y _ _ z;have bi:=dN.mp am.ag;have an:∀{XD:aw}{XS:List af},bu Xn Xz XD XS->∀g∈Xf,∀L,Xn g=Z L->XD g=Z L:=λf g fn L d=>f.keep g L d λc=>bi.2.2 g c g fn rfl;have bm:∀{XD:aw}{XS:List af}{e:a3},bu Xn Xz XD XS->dm X8 D e->sJ XD e Xf m:=λ{XD XS e} f F=>by
  cases m with
  |none=>trivial
  |some o=>
   let⟨a,v⟩:=o;let⟨@u,fr,f0⟩:=ex;exact⟨u,(F.2 a fd).trans fr,f0.mono f.tup<|an f⟩
 have bn:∀{e:a3},dm X8 D e->dm XX D e:=λF=>⟨F.1,λa U=>F.2 a<|cr a U⟩;have bs:∀{e:a3}{XD:aw}{XS:List af}{XO:a4},ro XX Xg D j P (lY m XO) .aS->dm X8 D e->bC XD XO e XS->bu Xn Xz XD XS->Xg.aS e XD:=λ{e XD XS XO} p F ap t=>by
  let⟨G,@Q,as,XP⟩:=Ah ap (bm t F);exact p e XD G (bn F) as ((am.trans t be).less XP)
 refine⟨λa k a1 N=>k+a=J.length/\∃i X0,dm X8 D a1/\bC N i a1 X0/\bu Xn Xz N X0/\d2 H Yd (J.drop a) i=Z (F,XO),⟨J.length,rfl,Xl,Xz,dm.refl,ev,bu.perm bi.1<|List.Perm.refl _,dL⟩,?_⟩;rintro a k a1 N ⟨hf,i,X0,x,bv,Xe,M⟩;by_cases ca:a<J.length
 ·let@⟨f1,f2⟩:=Xj.go N Xe.tup (an Xe) a J[a] (by simp[ca]);rw[jH ca,d2]at M;let⟨@A,dw,da⟩:=bG.mp M;let⟨@⟨cd,a2⟩,d9,R⟩:=bG.mp da;refine .inr ⟨f1,λe XD=>(k-1)+(a+1)=J.length/\∃i X0,dm X8 D e/\bC XD i e X0/\bu Xn Xz XD X0/\d2 H Yd (J.drop<|a+1) i=Z (F,XO),λe XD c=>⟨k-1,⋯,c⟩,λh XD f4=>?_⟩;let@⟨bd,f8⟩:=f2 h XD f4;have ap:=bv.mono bd.tupS λg W m d=>bd g m d;have t:=Xe.same bd;refine⟨i,X0,.im J[a],[],A,ap,⟨f8,rfl⟩,by rw[cC];exact t.ag,dw,λhm ga G S as ce=>?_⟩;have B:bu Xn Xz ga G:=t.seq (by rw[cC]at ce;exact ce);refine⟨A,G,cd,a2,as,B.ag,d9,?_⟩;cases cd with
  |aS=>exact λT al C n q r=>⟨⋯,a2,C,(x.trans S).trans n,q,B.seq r,R⟩
  |cx=>exact λT al C n q r=>⟨⋯,a2,C,(x.trans S).trans n,q,B.seq r,R⟩
  |f_=>
   cases R;exact λT al C n q r=>bs p ((x.trans S).trans n) q (B.seq r)
  |dT v=>
   cases R;intro u T al C ch n q ge r;have ci:=B.seq r;have cl:=(x.trans S).trans n;let⟨co,@gl,gt,g1⟩:=Ah (Xf:=Xf) q (bm ci cl);refine p u T al co ch (bn cl) gt ge ((am.trans ci be).less (aP:=gl) ?_);rw[bt];refine (d5 co dx).trans ?_;rw[<-bt];refine (fs ch g1).trans ?_;rw[bt,bt];exact d5 _ dx
 ·have U:a=J.length:=⋯
  subst U;refine .inl ⟨Xj.stop N Xe.tup<|an Xe,?_⟩;rw[mO (ba _)]at M;cases M;exact bs p x bv Xe
end
section
variable{b:aO}
variable{H:fi}
theorem jv{I:az (List V×Option (Nat×aj))}{Yd:bA}(c:qZ (aM b.prog b.w) b.A b.env b.cW)(d:b.calm=aa)(U:lB b XK Ye I)(e:iR b X8 XK H)(f:jg b X8 Yt Yd)(g:∀a∈XX,a∈X8)(Xi:∀y s XC,I y=Z (s,XC)->nD X8 s.2)(i:∀h,mH Ye b.env h=pure h:=by intro W;rfl):iF b XX (.For XK Ye Yt [] Xu) (gW I H Yd):=
 LI c d U e f g Xi (FI c d U e f i)
def Om(Xd:PySem.W.Frag)(Yz:cn):bF:=λD j Xf=>Yz D j λh Xn=>∃g,h=.ref g/\(((∃x,df Xd Xn g x)/\Xf (rp Xd g) Xn)\/((∃x,cH Xd Xn g x)/\Xf (wG Xd g) Xn))
variable{t:bx}
theorem Jw{Yz:cn}(n:b6 b t Yz):jN b XK t (Om b.K Yz):=by
 intro G f D j Xf A c;refine cc (n G f D j _ A c) λu a q=>?_;let⟨h,@Xn,i,r,s⟩:=q;let⟨@g,d,p⟩:=s;subst d;cases r;rcases p with ⟨⟨x,k⟩,p⟩|⟨⟨x,k⟩,p⟩
 ·let⟨@Xq,v,o,w⟩:=i.list k;refine wpAny_pyIter_list o.isList ?_;refine⟨a.heap.objs.size,[a.heap.objs.size],_,_,Xn,rfl,i.kept (XM:=a.toks) λe m d=>bH _ d,K3 g _,⟨_,cI _ rfl,rfl,rfl⟩,λe l=>?_,p⟩;have d:e=a.heap.objs.size:=by simpa using l
  subst d;exact i.n7 (ba _) (i.aZ.fresh<|ba _)
 ·let⟨@Xq,v,o,w⟩:=i.tuple k;refine wpAny_pyIter_tuple (show a.heap.IsTuple g Xq.toArray from o) ?_;refine⟨a.heap.objs.size,[a.heap.objs.size],_,_,Xn,rfl,i.kept (XM:=a.toks) λe m d=>bH _ d,VQ g _,⟨_,cI _ rfl,rfl,rfl⟩,λe l=>?_,p⟩;have d:e=a.heap.objs.size:=by simpa using l
  subst d;exact i.n7 (ba _) (i.aZ.fresh<|ba _)
theorem br.get{j:aw}:∀{J:List V}{Xc:List ar}{a:Nat}{v:V},br j J Xc->J[a]?=Z v->∃u,Xc[a]?=Z u/\cL j v u
 |[],_,_,_,_,d=>by simp at d
 |v::J,_,0,_,c,d=>by
  let⟨u,@s,rfl,z,E⟩:=c;simp at d;subst d;exact⟨u,rfl,z⟩
 |v::J,_,a+1,_,c,d=>by
  let⟨u,@s,rfl,z,E⟩:=c;let⟨@L,b,e⟩:=br.get (a:=a) E (by simpa using d);exact⟨L,by simpa using b,e⟩
theorem yH{g:af}(c:j g=Z (.lst x))(hd:br j J x):kg (rp Xd g) j [g] J where
 go:=λN i q a v d=>by
  let⟨@u,b,e⟩:=hd.get d;have M:=df.of (Xd:=Xd) (q g (.head _) _ c);refine⟨⟨x,u,M,b⟩,λh l ⟨f,k⟩=>?_⟩;subst f;rw[k x M]at b;cases b;exact⟨bV.refl _,e.mono i.tup⟩
 stop:=λN i q=>⟨x,df.of<|q g (.head _) _ c,by rw[<-hd.length];exact ba _⟩
theorem Mg{g:af}{m:a0}(c:j g=Z (.dk m<|.lst x))(hd:br j J x):kg (rp Xd g) j [] J where
 go:=λN i q a v d=>by
  let⟨@u,b,e⟩:=hd.get d;have M:df Xd N g x:=.inl (.inr ⟨m,i.dk _ _ _ c⟩);refine⟨⟨x,u,M,b⟩,λh l ⟨f,k⟩=>?_⟩;subst f;rw[k x M]at b;cases b;exact⟨bV.refl _,e.mono i.tup⟩
 stop:=λN i q=>⟨x,.inl<|.inr ⟨m,i.dk _ _ _ c⟩,by rw[<-hd.length];exact ba _⟩
theorem U3{g:af}(c:j g=Z (.tup x))(hd:br j J x):kg (wG Xd g) j [] J where
 go:=λN i q a v d=>by
  let⟨@u,b,e⟩:=hd.get d;have M:=cH.of (Xd:=Xd) (i.tup g _ c);refine⟨⟨x,u,M,b⟩,λh l ⟨f,k⟩=>?_⟩;subst f;rw[k x M]at b;cases b;exact⟨bV.refl _,e.mono i.tup⟩
 stop:=λN i q=>⟨x,cH.of<|i.tup g _ c,by rw[<-hd.length];exact ba _⟩
abbrev jm:=az (List V×Option (Nat×aj))
@[simp] noncomputable def fU(v:aj):Option (List V):=match v with
 |.im (.tup J)=>Z J
 |.lst J=>Z J
 |.dn J=>Z J
 |_=>Y
@[simp] def fv(I:az bq):jm:=λy=>(I y).bind λo=>match o.1 with
 |.b5 v=>(fU v).map λJ=>((J,Y),o.2)
 |.aY a=>(fp a o.2).bind λp=>(fU p.1).map λJ=>((J,if p.1.d7=aa then Y else Z (a,p.1)),p.2)
theorem Jc(l:cT j v u Xf)(d:fU v=Z J):
  ∃g,u=.ref g/\(((∃x,df Xd j g x)/\kg (rp Xd g) j Xf J)\/((∃x,cH Xd j g x)/\kg (wG Xd g) j Xf J)):=by
 unfold fU at d;split at d
 ·cases d;let@⟨⟨g,@x,rfl,z,E⟩,rfl⟩:=l;exact⟨g,rfl,.inr ⟨⟨x,cH.of z⟩,U3 z E⟩⟩
 ·cases d;let⟨g,@x,rfl,z,E,rfl⟩:=l;exact⟨g,rfl,.inl ⟨⟨x,df.of z⟩,yH z E⟩⟩
 ·cases d;let⟨g,x,@m,rfl,z,E,rfl⟩:=l;exact⟨g,rfl,.inl ⟨⟨x,.inl<|.inr ⟨m,z⟩⟩,Mg z E⟩⟩
 ·cases d
theorem ky{I:az bq}(c:dR b t I):lB b XK t (fv I):=by
 refine qn (Jw c) λD j F w=>?_;let⟨y,P,s,@XC,X,ag,x,p⟩:=w;let⟨@⟨h,Xl⟩,z,E⟩:=bG.mp x;refine⟨y,P,h,Xl,X,ag,z,λu Xn Xz Xf i XJ e=>?_⟩;cases h with
 |b5 v=>
  let⟨@J,k,l⟩:=cD.mp E;cases l;let⟨@g,rfl,m⟩:=Jc (Xd:=b.K) XJ k;refine⟨g,rfl,?_⟩;rcases m with ⟨d,Xj⟩|⟨d,Xj⟩
  ·exact .inl ⟨d,p _ Xn Xz Xf i Xj trivial (cT.chg XJ) e⟩
  ·exact .inr ⟨d,p _ Xn Xz Xf i Xj trivial (cT.chg XJ) e⟩
 |aY a=>
  let⟨@⟨v,XO⟩,k,l⟩:=bG.mp E;let⟨@J,A,B⟩:=cD.mp l;cases B;let⟨G,XS,@b4,n,f,o,C⟩:=I1 i k;let@⟨XJ,rfl⟩:=XJ;rw[XJ]at n;cases n;rw[cC]at e;have q:=e.kN C.symm;let⟨@g,rfl,m⟩:=Jc (Xd:=b.K) f A;have r:sJ Xn D b4 (if v.d7=aa then Y else Z (a,v)):=by
   split
   ·trivial
   ·exact⟨_,XJ,f⟩
  refine⟨g,rfl,?_⟩;rcases m with ⟨d,Xj⟩|⟨d,Xj⟩
  ·exact .inl ⟨d,p _ Xn XS b4 o Xj r f.chg q⟩
  ·exact .inr ⟨d,p _ Xn XS b4 o Xj r f.chg q⟩
theorem Gn{I:az aj}:∀y s XC,fv (ae I) y=Z (s,XC)->nD X8 s.2:=by
 intro y s XC c;let⟨@⟨h,Xl⟩,z,E⟩:=bG.mp c;unfold ae at z;let⟨@o,d,a⟩:=cD.mp z;cases a;let⟨@J,e,b⟩:=cD.mp E;cases b
 trivial
variable{a:Nat}
theorem xR(U:a∈X8):∀y s XC,fv (ai a) y=Z (s,XC)->nD X8 s.2:=by
 intro y s XC c;let⟨@⟨h,Xl⟩,z,E⟩:=bG.mp c;unfold ai at z;split at z
 ·cases z;let⟨@⟨v,XO⟩,e,b⟩:=bG.mp E;let⟨@J,f,d⟩:=cD.mp b;cases d;show nD X8 (if v.d7=aa then Y else Z (a,v));split
  ·trivial
  ·exact U
 ·cases z
def gD(R:Int)(w:Nat):List V:=(range w).map λ(q:Nat)=>V.int (R+(q:Int))
theorem CW{R:Int}:kg (rL R w) j [] (gD R w) where
 go:=λN i q a v d=>by
  have U:a<w:=by
   have:=(ek.mp d).1
   rwa [gD,a9,gU]at this
  refine⟨U,λh e ⟨b,c⟩=>?_⟩;subst b;rw[gD,dZ,Jb U]at d;cases d;exact⟨bV.refl _,c⟩
 stop:=λN i q=>by
  show w<=_;rw[gD,a9,gU];exact ba _
def small(a:Int):Prop := -1000000<=a/\a<=1000000
noncomputable instance (a:Int):Decidable (small a):=inferInstanceAs (Decidable<|_/\_)
@[simp] def jQ(I:az (List bq)):jm:=λy=>(I y).bind λo=>(eW o.2 o.1).bind λJ=>match J with
 |[.im (.int r)]=>if small r then Z ((gD 0 r.toNat,Y),o.2) else Y
 |_=>Y
@[simp] def tg(I:az (List bq)):jm:=λy=>(I y).bind λo=>(eW o.2 o.1).bind λJ=>match J with
 |[.im (.int a),.im<|.int r]=>if small a/\small r then Z ((gD a (r-a).toNat,Y),o.2) else Y
 |_=>Y
theorem s_{v:V}(c:nC j [.im v] Xc):∃u,Xc=[u]/\cL j v u:=by
 let⟨u,@s,rfl,⟨@Xf,z,W⟩,E⟩:=c;cases (show s=[] from E);exact⟨u,rfl,z⟩
theorem vf{v d:V}(c:nC j [.im v,.im d] Xc):∃u L,Xc=[u,L]/\cL j v u/\cL j d L:=by
 let⟨u,@s,rfl,⟨@Xf,z,W⟩,E⟩:=c;let⟨@L,rfl,a⟩:=s_ E;exact⟨u,L,rfl,z,a⟩
theorem tm(h:dS b "range")(i:b.aH "range" = Y)(c:fL b [g] I)(Xi:bL [g] b.env=[(au,bZ g b.env)]:=by rfl):lB b XK (.Call (.Name "range" o) [g] [] Xu) (jQ I):=by
 refine qn (UQ h i c Xi) λD j t k=>?_;let⟨y,P,s,@XC,X,ag,l,p⟩:=k;let⟨@⟨Xw,Xl⟩,z,E⟩:=bG.mp l;let⟨@J,m,a⟩:=bG.mp E;refine⟨y,P,Xw,Xl,X,ag,z,λXc Xn Xz v e XJ n=>?_⟩;have q:=XJ.read e m;split at a
 ·rename_i r;split at a
  ·rename_i f;cases a;let⟨@u,rfl,d⟩:=s_ q;cases (show u=.int r from d);exact⟨r,rfl,by have:=f.1;lia,by have:=f.2;lia,p _ Xn Xz [] e CW trivial (λg c=>nomatch c) (by rw[cC];exact n.less (List.Perm.refl _))⟩
  ·cases a
 ·cases a
theorem VA(i:dS b "range")(k:b.aH "range" = Y)(f:fL b [g,e] I)(Xi:bL [g,e] b.env=[(au,bZ g b.env),(au,bZ e b.env)]:=by rfl)(l:bL [e] b.env=[(au,bZ e b.env)]:=by rfl):lB b XK (.Call (.Name "range" o) [g,e] [] Xu) (tg I):=by
 refine qn (T8 i k f Xi l) λD j A m=>?_;let⟨y,P,s,@XC,X,ag,n,p⟩:=m;let⟨@⟨Xw,Xl⟩,z,E⟩:=bG.mp n;let⟨@J,q,c⟩:=bG.mp E;refine⟨y,P,Xw,Xl,X,ag,z,λXc Xn Xz B h XJ t=>?_⟩;have v:=XJ.read h q;split at c
 ·rename_i a r;split at c
  ·rename_i w;cases c;let⟨u,@L,rfl,d,x⟩:=vf v;cases (show u=.int a from d);cases (show L=.int r from x);let@⟨@⟨C,Yb⟩,aQ,aR⟩:=w;exact⟨a,r,rfl,⟨⋯,⋯,⋯,⋯⟩,p _ Xn Xz [] h CW trivial (λg f=>nomatch f) (by rw[cC];exact t.less (List.Perm.refl _))⟩
  ·cases c
 ·cases c
theorem vp:∀y s XC,jQ I y=Z (s,XC)->nD X8 s.2:=by
 intro y s XC c;let⟨@⟨Xw,Xl⟩,z,E⟩:=bG.mp c;let⟨@J,b,a⟩:=bG.mp E;split at a
 ·split at a
  ·cases a;trivial
  ·cases a
 ·cases a
def tM(b:aO)(Ys:List bx)(I:az Bool):Prop:=∀ ⦃o⦄,JJ b Ys (j9 I) o
def e1:az Bool:=λy=>Z (aa,y)
theorem kx:tM b [] e1:=by
 intro G f D j B A ⟨y,P,e,XC,X,ag,a,p⟩;cases a;exact VV G f D j B A (p j P X<|bu.perm ag<|List.Perm.refl _)
theorem K8{I:az Bool}(c:i9 b n I):tM b [n] I:=RQ c
@[simp] noncomputable def lj(XU:List Nat)(y:a4):a4:=XU.map λa=>y.getD a Y
noncomputable def kR:List Nat->a4->a4
 |[],y=>y
 |a::s,y=>kR s (match y[a]? with|some (Z _)=>y.set a (Z .ed)|_=>y)
@[simp] noncomputable def jr:List Nat->a4->a4->a4
 |a::s,m::aP,y=>jr s aP (y.set a m)
 |_,_,y=>y
noncomputable def hG(own:Nat)(XK:fi)(n:az Bool)(d:az aj): List V -> List V -> a4 -> Option (List V × a4)
  |[],a,aP => Z (a,aP)
  |h :: s,a,aP => (XK (.im h)<|List.replicate own Y ++ aP).bind λXl => (n Xl).bind λo => if o.1=aa then (d o.2).bind λp => match p.1 with
      |.im v => if a.length<100000 then hG own XK n d s (a ++ [v]) (p.2.drop own) else Y
      |_ => Y
    else hG own XK n d s a (o.2.drop own)
@[simp] def eZ(own:Nat)(XU:List Nat)(l:jm)(XK:fi)(n:az Bool)(d:az aj):az aj:=λy=>(l y).bind λo=>(hG own XK n d o.1.1 []<|lj XU o.2).map λp=>(.lst p.1,lY o.1.2<|jr XU p.2 o.2)
def sU(own w:Nat):List Nat:=(range w).map (·+own)
theorem Lx(c:y[a]?=Z m):y.getD a Y=m:=by rw[cM,c];rfl
theorem bC.void(X:bC j y D P)(a:Nat):∃Xz XS,bC j (match y[a]? with|some (Z _)=>y.set a (Z .ed)|_=>y) D Xz/\nd j (y.getD a Y) (D.getD a Y) XS/\(Xz++XS).Perm P:=by
 split
 ·rename_i v hd;let⟨u,Xz,@XS,z,E,b,c⟩:=X.out hd;refine⟨XS,Xz,b,?_,c⟩;rw[Lx hd,cM,z];exact⟨u,rfl,E⟩
 ·rename_i e;refine⟨P,[],X,?_,by rw[cC]⟩;have:y.getD a Y=Y:=by
   rw[cM];cases d:y[a]? with
   |none=>rfl
   |some m=>
    cases m with
    |none=>rfl
    |some v=>exact absurd d (e v)
  rw[this];exact rfl
theorem DH{j:aw}{D:a3}:∀{XU:List Nat}{y:a4}{P:List af},XU.Nodup->bC j y D P->∃Xz XS,bC j (kR XU y) D Xz/\bC j (lj XU y) (XU.map λa=>D.getD a Y) XS/\(Xz++XS).Perm P
 |[],y,P,_,X=>⟨P,[],X,⟨rfl,rfl⟩,by rw[cC]⟩
 |a::s,y,P,ag,X=>by
  let⟨Xz,@XS,z,E,f⟩:=X.void a;have b:=g5.mp ag;let⟨g,@c,h,e,i⟩:=DH (XU:=s) b.2 z;refine⟨g,XS++c,h,⟨_,_,XS,c,rfl,E,?_,rfl⟩,lQ.trans<|(d5 _ i).trans<|dx.trans f⟩;have d:lj s (match y[a]? with|some (Z _)=>y.set a (Z .ed)|_=>y)=lj s y:=by
   unfold lj;refine mL λr k=>?_;split
   ·rw[cM,cM,ox];rintro rfl;exact b.1 k
   ·rfl
  rw[d]at e;exact e
theorem bC.VH(X:bC j y D P)(c:nd j m (D.getD a Y) Q):∃Xz XS,bC j (y.set a m) D Xz/\(Xz++XS).Perm (P++Q):=by
 cases m with
 |some v=>
  let⟨@u,d,l⟩:=c;refine X.back l ?_;rw[cM]at d;cases p:D[a]? with
  |none=>rw[p]at d;cases d
  |some h=>rw[p]at d;rw[show h=Z u from d]
 |none=>
  cases (show Q=[] from c);rw[cC];by_cases U:a<y.length
  ·cases p:y[a]? with
   |none=>exact absurd (List.getElem?_eq_none_iff.mp p) ⋯
   |some h=>
    cases h with
    |none=>
     refine⟨P,[],?_,by rw[cC]⟩;have:y.set a Y=y:=by
      refine pT λr=>?_;by_cases d:a=r
      ·subst d;rw[p,vM U]
      ·rw[ox d]
     rw[this];exact X
    |some v=>
     let⟨u,Xz,@XS,z,E,k,n⟩:=X.out p;have gen:∀{y:a4}{D:a3}{P:List af}{a:Nat},bC j y D P->∃Xz XS,bC j (y.set a Y) D Xz/\(Xz++XS).Perm P:=by
      intro y;induction y with
      |nil=>intro D P a X;exact⟨P,[],by simpa using X,by rw[cC]⟩
      |cons m y e=>
       intro D P a X;let⟨h,s,O,@X6,rfl,f,b,rfl⟩:=X;cases a with
       |zero=>exact⟨X6,O,⟨h,s,[],X6,rfl,rfl,b,rfl⟩,dx⟩
       |succ a=>
        let⟨aP,@Xg,g,i⟩:=e (a:=a) b;refine⟨O++aP,Xg,⟨h,s,O,aP,rfl,f,g,rfl⟩,?_⟩;rw[bt];exact d5 _ i
     exact gen X
  ·refine⟨P,[],?_,by rw[cC]⟩;rw[List.set_eq_of_length_le ⋯];exact X
theorem IA{j:aw}{D:a3}:∀{XU:List Nat}{aP y:a4}{P Q:List af},bC j y D P->bC j aP (XU.map λa=>D.getD a Y) Q->∃Xz XS,bC j (jr XU aP y) D Xz/\(Xz++XS).Perm (P++Q)
 |[],aP,y,P,Q,X,_=>⟨P,Q,by cases aP<;>exact X,List.Perm.refl _⟩
 |a::s,[],y,P,Q,X,c=>⟨P,Q,X,List.Perm.refl _⟩
 |a::s,m::aP,y,P,Q,X,c=>by
  let⟨h,i,f,@g,d,z,E,rfl⟩:=c;cases d;let⟨Xz,@O,b,e⟩:=X.VH z;let⟨XS,@X6,XF,XH⟩:=IA (XU:=s) (aP:=aP) b E;refine⟨XS,X6++O,XF,?_⟩;rw[<-bt,<-bt];refine (fs O XH).trans ?_;rw[bt];refine (d5 Xz dx).trans ?_;rw[<-bt];exact fs _ e
theorem O3:∀{XU:List Nat}{aP y:a4},XU.length=aP.length->XU.Nodup->jr XU aP (kR XU y)=jr XU aP y:=by
 have j:∀{s:List Nat}{aP y:a4}{a:Nat}{m:Option aj},a∉s->jr s aP (y.set a m)=(jr s aP y).set a m:=by
  intro s;induction s with
  |nil=>intro aP y a m W;cases aP<;>rfl
  |cons r s b=>
   intro aP y a m c;cases aP with
   |nil=>rfl
   |cons n aP=>
    have f:a≠r:=λd=>c (by rw[d];exact .head _);show jr s aP ((y.set a m).set r n)=(jr s aP<|y.set r n).set a m;rw[xr _ _ f,b λC=>c<|.tail _ C]
 have g:∀{s:List Nat}{y:a4}{a:Nat}{m:Option aj},a∉s->kR s (y.set a m)=(kR s y).set a m:=by
  intro s;induction s with
  |nil=>intro y a m W;rfl
  |cons r s b=>
   intro y a m c;have f:a≠r:=λd=>c (by rw[d];exact .head _);show kR s (match (y.set a m)[r]? with|some (Z _)=>(y.set a m).set r (Z .ed)|_=>y.set a m)=(kR s (match y[r]? with|some (Z _)=>y.set r (Z .ed)|_=>y)).set a m;rw[ox f];cases y[r]? with
   |none=>exact b λC=>c (.tail _ C)
   |some p=>
    cases p with
    |none=>exact b λC=>c (.tail _ C)
    |some v=>
     show kR s ((y.set a m).set r<|Z .ed)=_;rw[xr _ _ f];exact b λC=>c (.tail _ C)
 intro XU;induction XU with
 |nil=>intro aP y W W;cases aP<;>rfl
 |cons a s b=>
  intro aP y h ag;have e:=g5.mp ag;cases aP with
  |nil=>cases h
  |cons n aP=>
   have i:s.length=aP.length:=by simpa using h
   show jr s aP ((kR s (match y[a]? with|some (Z _)=>y.set a (Z .ed)|_=>y)).set a n)=jr s aP (y.set a n);split
   ·rw[g e.1,xu,<-g e.1,b i e.2]
   ·rw[<-g e.1,b i e.2]
theorem Es{j:aw}{y:a4}{s:a3}{P:List af}(c:bC j y s P):∀{own:List aB},bC j (List.replicate own.length Y++y) (own.map (λ_=>Y)++s) P
 |[]=>c
 |h::own=>⟨Y,_,[],P,rfl,rfl,Es c (own:=own),rfl⟩
theorem zw{j:aw}:∀{w:Nat}{y:a4}{D:a3}{P:List af},bC j y D P->∃Xz XS,bC j (y.drop w) (D.drop w) Xz/\(Xz++XS).Perm P
 |0,y,D,P,c=>⟨P,[],c,by rw[cC]⟩
 |w+1,[],D,P,c=>by
  cases c.1;exact⟨[],P,⟨rfl,rfl⟩,List.Perm.refl _⟩
 |w+1,m::y,D,P,c=>by
  let⟨h,s,O,@X6,rfl,z,E,rfl⟩:=c;let⟨Xz,@XS,a,b⟩:=zw (w:=w) E;exact⟨Xz,XS++O,a,by rw[<-bt];exact (fs O b).trans dx⟩
theorem bu.both(g:bu j P Xn (Xz++Xf)):bu j P Xn Xz:=g.less (List.Perm.refl _)
theorem br.snoc:∀{J:List V}{Xc:List ar}{v:V}{u:ar},br j J Xc->cL j v u->br j (J++[v]) (Xc++[u])
 |[],Xc,v,u,c,l=>by cases (show Xc=[] from c);exact⟨u,[],rfl,l,rfl⟩
 |d::J,Xc,v,u,c,l=>by
  let⟨L,@s,rfl,z,E⟩:=c;exact⟨L,s++[u],rfl,z,E.snoc l⟩
variable{l:jm}
theorem Ec(ag:XU.Nodup)(c:oF (eZ own.length XU l H Yv Yx) D j B):
  vW own XU (bX l) (λ_=>y3 (sU own.length XU.length) H) (λ_=>j9 Yv) (λ_=>oF Yx) D j B:=by
 let⟨y,P,s,@XC,X,f2,f4,p⟩:=c;let⟨@⟨⟨x,m⟩,Xl⟩,z,E⟩:=bG.mp f4;let⟨@⟨J,ca⟩,f8,ga⟩:=cD.mp E;cases ga;refine⟨y,P,(x,m),Xl,X,f2,z,λYg Xn Xz Xf ge Xj gl gt g1 lm=>?_⟩;let⟨al,@M,cd,i,XP⟩:=DH ag ge;have ce:bu j P Xn (M++(al++Xf)):=g1.kN (by
  refine (fs Xf XP.symm).trans ?_;rw[bt];exact lQ)
 have ch:=dN.mp ce.ag;have g2:∀h∈al++Xf,gR Xn h:=λh G=>by
  rcases ee.mp G with G|G
  ·exact cd.chg h G
  ·exact gt h G
 have am:∀{XD:aw}{XS:List af},bu Xn M XD XS->∀g∈al++Xf,∀L,Xn g=Z L->XD g=Z L:=λf g b L d=>f.keep g L d λc=>ch.2.2 g c g b rfl;refine⟨λa k Xp N=>k+a=x.length/\∃q aP I,bC N aP (XU.map λa=>D.getD a Y) I/\aP.length=XU.length/\bu Xn M N I/\br N q Xp/\hG own.length H Yv Yx (x.drop a) q aP=Z (J,ca),
  ⟨x.length,rfl,[],lj XU Xl,M,i,by rw[lj,a9],bu.perm ch.1<|List.Perm.refl _,rfl,f8⟩,?_⟩;rintro a k Xp N ⟨an,q,aP,I,ci,g3,Xe,cl,ap⟩;by_cases co:a<x.length
 ·let@⟨hd,he⟩:=Xj.go N Xe.tup (λg b=>am Xe g<|fj _ b) a x[a] (by simp[co]);rw[jH co,hG]at ap;let⟨@A,dw,da⟩:=bG.mp ap;let⟨@⟨e,a2⟩,d9,R⟩:=bG.mp da;refine .inr ⟨hd,λcr XD=>(k-1)+(a+1)=x.length/\∃q aP I,bC XD aP (XU.map λa=>D.getD a Y) I/\aP.length=XU.length/\bu Xn M XD I/\br XD q cr/\hG own.length H Yv Yx (x.drop<|a+1) q aP=Z (J,ca),λcr XD c=>⟨k-1,⋯,c⟩,λh XD G=>?_⟩;let@⟨t,hf⟩:=he h XD G;have hm:=ci.mono t.tupS λg W m d=>t g m d;have cs:=Xe.same t;have as:=cl.mono t.tupS.tup;refine⟨List.replicate own.length Y++aP,I,.im x[a],[],A,Es hm,⟨hf,rfl⟩,by rw[cC];exact cs.ag,dw,λbd hw db a1 ds be=>⟨λr u n=>?_,?_⟩⟩
  ·
   have ln:own.length<=r:=by
    by_cases h0:r<own.length
    ·rw[kq,kb (by simpa using h0),dZ]at n;cases d:own[r]? with
     |none=>rw[d]at n;cases n
     |some C=>rw[d]at n;cases n
    ·lia
   have ls:r<own.length+XU.length:=by
    have:=(ek.mp n).1
    rwa [kq,c7,a9,a9]at this
   have an:r∈sU own.length XU.length:=cN.mpr ⟨r-own.length,eJ.mpr ⋯,⋯⟩;exact (a1.2 r an).trans n
  ·have dL:bu Xn M hw db:=cs.seq (by rw[cC]at be;exact be);have as:=as.mono be.tup.tup;have eq:bd.drop own.length=XU.map λa=>D.getD a Y:=by
    have lv:=ds.len;refine pT λr=>?_;by_cases n:r<XU.length
    ·have an:r+own.length∈sU own.length XU.length:=cN.mpr ⟨r,eJ.mpr n,rfl⟩;have:=a1.2 _ an;rw[k9,tb,this,kq,jS (by simp),a9,Nat.add_sub_cancel]
    ·have lw:bd.length<=own.length+XU.length:=by
      rw[a1.1,kq,c7,a9,a9];exact ba _
     rw[rJ (by rw[e4];lia),rJ (by rw[a9];lia)]
   have ev:bd.length=own.length+XU.length:=by rw[a1.1,kq,c7,a9,a9]
   refine⟨A,db,e,a2,ds,dL.ag,d9,λmb bi O bm=>?_⟩;have S:=dL.seq bm;dsimp only at R ⊢;cases e with
   |false=>
    rw[aI dy]at R ⊢;let⟨T,@ex,F,bn⟩:=zw (w:=own.length) O;rw[eq]at F;exact⟨⋯,q,a2.drop own.length,T,F,by rw[e4,O.len,ev];lia,S.less bn,as.mono bm.tup.tup,R⟩
   |true=>
    rw[aA rfl]at R ⊢;let⟨@⟨u,fd⟩,ii,Q⟩:=bG.mp R;dsimp only at Q;split at Q
    ·rename_i v;split at Q
     ·rename_i mo;refine⟨a2,bi,.im v,fd,O,S.ag,ii,λL ms T m0 F XQ bs=>?_⟩;let@⟨io,rfl⟩:=XQ;rw[cC]at bs;have fn:=(as.mono bm.tup.tup).mono bs.tup.tup;refine⟨va (show Xp.length<=100000 by rw[<-fn.length];lia) (by decide),?_⟩;let⟨it,@na,fr,jp⟩:=zw (w:=own.length) F;rw[eq]at fr;exact⟨⋯,q++[v],fd.drop own.length,it,fr,by rw[e4,F.len,ev];lia,(S.seq bs).less jp,fn.snoc io,Q⟩
     ·cases Q
    ·cases Q
 ·have U:a=x.length:=⋯
  subst U;refine .inl ⟨Xj.stop N Xe.tup<|λg b=>am Xe g<|fj _ b,λbv f0=>?_⟩;rw[mO (ba _),hG]at ap;cases ap;have kt:bC N (kR XU Xl) D al:=cd.mono Xe.tup λg b=>am Xe g (gc _ b);let⟨bi,@f1,O,kw⟩:=IA kt ci;rw[O3 (by rw[g3]) ag]at O;have lc:sJ N D Xf m:=by
   cases m with
   |none=>trivial
   |some o=>
    let⟨a,v⟩:=o;let⟨@u,lf,li⟩:=gl;exact⟨u,lf,li.mono Xe.tup λg b=>am Xe g<|fj _ b⟩
  let⟨T,@ex,F,bn⟩:=Ah (Xf:=Xf) O lc;have t:bV N (upd N bv<|.lst Xp):=(bV.refl N).upd f0;have S:bu j P N T:=(ce.trans Xe g2).less (aP:=ex++f1) (by
   rw[<-bt];refine (fs f1 bn).trans ?_;rw[bt];refine (d5 bi dx).trans ?_;rw[<-bt];refine (fs Xf kw).trans ?_;rw[bt];exact lQ)
  exact p _ _ T [bv] (F.mono t.tupS λg W m d=>t g m d) ⟨bv,Xp,rfl,e_,cl.mono t.tupS.tup,rfl⟩ (S.add f0 F.chg)
theorem ki{Yu:bx}{Ys:List bx}{XI:hI}(d:b.calm=aa)(Xr:j0 b XI own XU)(ag:XU.Nodup)(U:lB b XK Ye l)(e:∀a,iR (b.dt (gX b own XU) XI a) (sU own.length XU.length) XK H)(bQ:∀a,tM (b.dt (gX b own XU) XI a) Ys Yv)(f:∀a,cS (b.dt (gX b own XU) XI a) Yu Yx)(Xi:∀h,mH Ye b.env h=pure h:=by intro W;rfl):cS b (.ListComp Yu [⟨XK,Ye,Ys,0⟩] XI Xu) (eZ own.length XU l H Yv Yx):=
 eP (QL d Xr U e bQ f Xi) λD j B c=>Ec ag c
end
@[simp] noncomputable def iZ(XX:List Nat):List aj->a4->Nat->List aj
 |v::J,m::y,r=>(if v.d7=aa then v else if r∈XX then m.getD .ed else .ed)::iZ XX J y (r+1)
 |v::J,[],r=>(if v.d7=aa then v else .ed)::iZ XX J [] (r+1)
 |[],_,_=>[]
@[simp] def dA(w k:Nat)(XX:List Nat)(I:bA):c9:=λJ=>if J.length=w then match I (J.map Z++List.replicate (k-w) Y) with
 |some (.dT s,y)=>Z (s,iZ XX J y 0)
 |some (.aS,y)=>Z (.im .aW,iZ XX J y 0)
 |_=>Y else Y
theorem Dk{j:aw}:∀{J:List aj}{Xc:List ar}{P:List af}{k:Nat},dP j J Xc P->bC j (J.map Z++List.replicate k Y) (Xc.map Z++List.replicate k Y) P
 |[],Xc,P,k,c=>by
  let@⟨rfl,rfl⟩:=c;show bC j (List.replicate k Y) (List.replicate k Y) [];induction k with
  |zero=>exact⟨rfl,rfl⟩
  |succ k a=>exact⟨Y,_,[],[],rfl,rfl,a,rfl⟩
 |v::J,Xc,P,k,c=>by
  let⟨u,s,Xz,@XS,rfl,z,E,rfl⟩:=c;exact⟨Z u,_,Xz,XS,rfl,⟨u,rfl,z⟩,Dk E,rfl⟩
theorem A9{j N:aw}{XX:List Nat}(i:fm j N):∀{J:List aj}{Xc:List ar}{o:List af}{y:a4}{D:a3}{P:List af}{a:Nat},dP j J Xc o->bC N y D P->(∀(r:Nat) (u:ar),(a+r)∈XX->Xc[r]?=Z u->D[r]?=Z (Z u))->
  ∃Xf Q,dP N (iZ XX J y a) Xc Xf/\(Xf++Q).Perm P
 |[],Xc,o,y,D,P,a,c,X,_=>⟨[],P,by unfold iZ;exact⟨c.1,rfl⟩,List.Perm.refl _⟩
 |v::J,Xc,o,[],D,P,a,c,X,q=>by
  let⟨u,s,O,@X6,rfl,z,E,rfl⟩:=c;let@⟨rfl,rfl⟩:=X;let⟨Xf,@Q,b,e⟩:=A9 (y:=[]) (D:=[]) (P:=[]) (a:=a+1) i E ⟨rfl,rfl⟩ λr u p t=>by
   have:=q (r+1) u (by rw[show a+(r+1)=a+1+r by lia];exact p) (by simpa using t);simp at this
  rw[iZ];refine⟨Xf,Q,⟨u,s,[],Xf,rfl,?_,b,rfl⟩,e⟩;split
  ·rename_i k;have:=z.mono i λg n=>by rw[z.d7 k]at n;cases n
   rw[z.d7 k]at this;exact this
  ·exact rfl
 |v::J,Xc,o,m::y,D,P,a,c,X,q=>by
  let⟨u,s,O,@X6,rfl,z,E,rfl⟩:=c;let⟨h,f,aP,@Xg,rfl,x,A,rfl⟩:=X;let⟨Xf,@Q,b,e⟩:=A9 (y:=y) (D:=f) (a:=a+1) i E A λr u p t=>by
   have:=q (r+1) u (by rw[show a+(r+1)=a+1+r by lia];exact p) (by simpa using t);simpa using this
  rw[iZ];split
  ·rename_i k;have w:=z.mono i λg n=>by rw[z.d7 k]at n;cases n
   rw[z.d7 k]at w;refine⟨Xf,Q++aP,⟨u,s,[],Xf,rfl,w,b,rfl⟩,?_⟩;rw[<-bt];exact (fs aP e).trans dx
  ·split
   ·rename_i B;have C:h=Z u:=by
     have:=q 0 u B rfl;simpa using this
    subst C;cases m with
    |none=>
     refine⟨Xf,Q++aP,⟨u,s,[],Xf,rfl,rfl,b,rfl⟩,?_⟩;rw[<-bt];exact (fs aP e).trans dx
    |some d=>
     let⟨@G,F,l⟩:=x;cases F;refine⟨aP++Xf,Q,⟨u,s,aP,Xf,rfl,l,b,rfl⟩,?_⟩;rw[bt];exact d5 _ e
   ·refine⟨Xf,Q++aP,⟨u,s,[],Xf,rfl,rfl,b,rfl⟩,?_⟩;rw[<-bt];exact (fs aP e).trans dx
section
variable{Xs:bJ}{l:bc}{Xd:PySem.W.Frag}{aH:aB->Option ab}{Xv:aV}
theorem Fs{Yi:aB}{X:b8}{F:af}{XW:List aB}{q:Nat}{I:bA}(P:gO Xd h Yi X F fd)(Xr:nv XW Xo (dG X))(y:Xo.length=w)(L:∀a∈XX,a<w)(z:∀(C:ab) (O:bw) (R:List fu) (f:ah) (j:aw) (Xg:hc),fk q (O.deeper<|jF Yi (dG X) f.heap.objs.size F C)->jg (lW ij Xs l Xd aH Xv XW Yi (dG X) F C O R f j Xg).oc XX (g4 X) I):
  iG Xs l Xd aH Xv ij (q+1) F fd Xo (kj w<|dA w XW.length XX I):=by
 refine P.ok Xr (λXc j B Xg c=>c.1.trans y.symm) (λC O R f j Xc B Xg A c=>⟨_,z C O R f j Xg A,?_⟩);let@⟨n,⟨J,m,s,@i,XQ,ag,b,p⟩⟩:=c;have D:J.length=w:=XQ.length.trans n;unfold dA at b;rw[aA D]at b;have X:=Dk (k:=XW.length-w) XQ;have S:k3 XW Xc=Xc.map Z++List.replicate (XW.length-w) Y:=by unfold k3;rw[n]
 rw[S];have o:∀{e:a3}{N:aw}{X0:List af}{XC:a4}{u:ar}{Xf:List af},iZ XX J XC 0=i->dm XX (Xc.map Z++List.replicate (XW.length-w) Y) e->bC N XC e X0->cT N s u Xf->bu j m N (X0++Xf)->B u N:=λ{e N X0 XC u Xf} E X8 g G Xe=>by
  let⟨b4,@Q,t,H⟩:=A9 (XX:=XX) (a:=0) Xe.tup XQ g λr u v x=>by
   rw[D6]at v;rw[X8.2 r v,kb (by rw[a9];exact (ek.mp x).1),dZ,x];rfl
  rw[E]at t;refine p u N Xf b4 G t (Xe.less (aP:=Q) ?_);rw[bt];exact (d5 Xf H).trans dx
 split at b
 ·rename_i X9 XC d;cases b;exact⟨_,m,.dT s,XC,X,ag,d,λu e N X0 Xf X8 g G Xe=>o rfl X8 g G Xe⟩
 ·rename_i XC d;cases b;exact⟨_,m,.aS,XC,X,ag,d,λe N X0 X8 g Xe=>o rfl X8 g ⟨rfl,rfl⟩ (by rw[cC];exact Xe)⟩
 ·cases b
end
def ck(j:aw)(v:aj)(B:cP):Prop:=∀u N Xf,bV j N->cT N v u Xf->Xf.Nodup->(∀g∈Xf,j g=Y)->B u N
theorem ck.GB{v:V}(p:ck j (.im v) B)(f:bV j N)(c:cL N v u):B u N:=p u N [] f ⟨c,rfl⟩ iH (λg a=>nomatch a)
theorem ck.i{j:aw}{v:V}{B:cP}{u:ar}(p:ck j (.im v) B)(c:cL j v u):B u j:=p.GB (bV.refl j) c
theorem ck.l{j:aw}{J:List V}{x:List ar}{B:cP}{o:af}(p:ck j (.lst J) B)(a:j o=Y)(c:br j J x):B (.ref o) (upd j o<|.lst x):=by
 have f:bV j (upd j o<|.lst x):=(bV.refl j).upd a;exact p _ _ [o] f ⟨o,x,rfl,e_,c.mono f.tupS.tup,rfl⟩ (fP _ _) λg b=>by rw[cK.mp b];exact a
theorem ck.t{j:aw}{J:List V}{x:List ar}{B:cP}{o:af}(p:ck j (.im<|.tup J) B)(a:j o=Y)(c:br j J x):B (.ref o) (upd j o<|.tup x):=by
 have f:bV j (upd j o<|.tup x):=(bV.refl j).upd a;exact p.GB f ⟨o,x,rfl,e_,c.mono f.tupS.tup⟩
section
variable{b:aO}
theorem d8.imp{F:ab->ab->dz ab}{s:b4}(c:d8 b F s)(a:∀h H j B,X9 h H j B->s h H j B):d8 b F X9:=λG f D j h H u L B A d e g=>c G f D j h H u L B A d e (a h H j B g)
theorem eK.imp{F:ab}{s X9:List ar->aw->cP->Prop}(c:eK b F s)(a:∀x j B,X9 x j B->s x j B):eK b F X9:=λG f D j x XE B A d e=>c G f D j x XE B A d (a x j B e)
theorem iz.imp{s:b4}(c:iz b s)(a:∀h H j B,X9 h H j B->s h H j B):iz b X9:=λd e G f D j h H u L B A g i k=>c d e G f D j h H u L B A g i (a h H j B k)
theorem fX.i{j:aw}{v:V}{u:ar}(c:fX j (.im v) u):cL j v u:=c.elim λ_ l=>l.1
end
abbrev gx:=aj->aj->Option aj
@[simp] noncomputable def ja(aP:Int->Int->Bool)(I:Int->Int->V):gx:=λg e=>match g,e with
 |.im (.int a),.im (.int r)=>if aP a r=aa then Z (.im<|I a r) else Y
 |_,_=>Y
theorem Ij{aP:Int->Int->Bool}{I:Int->Int->V}{g e:aj}(c:ja aP I g e=Z v):∃a r,g=.im (.int a)/\e=.im (.int r)/\aP a r=aa/\v=.im (I a r):=by
 unfold ja at c;split at c
 ·rename_i a r;split at c
  ·rename_i b;cases c;exact⟨a,r,rfl,rfl,b,rfl⟩
  ·cases c
 ·cases c
section
variable{b:aO}
variable{F:ab->ab->dz ab}{I:Int->Int->ar}{c:Int->Int->V}
theorem t4{aP:Int->Int->Prop}{X6:Int->Int->Bool}(m:d8 b F (qN aP I))(e:∀a r,X6 a r=aa->aP a r)(f:∀j a r,cL j (c a r)<|I a r):f7 b F (ja X6 c):=
 m.imp λh H j B ⟨XY,X1,v,g,k,d,p⟩=>by
  let⟨a,@r,rfl,rfl,l,rfl⟩:=Ij d;exact⟨a,r,g.i,k.i,e a r l,ck.i p<|f j a r⟩
theorem r4(m:d8 b F (l7 I))(e:∀j a r,cL j (c a r)<|I a r):f7 b F (ja (λ_ W=>aa) c):=
 m.imp λh H j B ⟨XY,X1,v,f,g,d,p⟩=>by
  let⟨a,@r,rfl,rfl,k,rfl⟩:=Ij d;exact⟨a,r,f.i,g.i,ck.i p<|e j a r⟩
@[simp] def hk:gx:=ja (λ_ W=>aa) λa r=>.int (a-r)
noncomputable def h4(a r:Int):Bool:=!(decide (aX.Int.intBits a>w6)&&decide (aX.Int.intBits r>w6)&&aX.Int.intTooBig (aX.Int.intBits a+aX.Int.intBits r))
@[simp] def fE:gx:=ja h4 λa r=>.int (a*r)
@[simp] def kh:gx:=ja (λ_ r=>decide (0<r/\r<1073741824)) λa r=>.int (a/r)
@[simp] def gf:gx:=ja (λ_ r=>decide (0<r)) λa r=>.int (a%r)
@[simp] def nT:gx:=ja (λa r=>decide (0<=r/\r<=1000000/\a.natAbs<2^64)) λa r=>.int (a^r.toNat)
@[simp] def mz:gx:=ja (λ_ W=>aa) λa r=>.aG (decide (a<r))
@[simp] def lG:gx:=ja (λ_ W=>aa) λa r=>.aG (decide (a<=r))
@[simp] def ot:gx:=ja (λ_ W=>aa) λa r=>.aG (decide (r<a))
@[simp] def pF:gx:=ja (λ_ W=>aa) λa r=>.aG (decide (r<=a))
theorem jd:f7 b (gF .Sub) hk:=r4 Nt λ_ W W=>rfl
theorem hp:f7 b (gF .Mult) fE:=t4 Wu (λa r c=>by unfold h4 at c;unfold IntMulOk;rw[yS]at c;rw[c];exact dy) λ_ W W=>rfl
theorem sh:f7 b (gF .FloorDiv) kh:=t4 P8 (λa r c=>show 0<r/\r<1073741824 from fD c) λ_ W W=>rfl
theorem ko:f7 b (gF .Mod) gf:=t4 RR (λa r c=>fD c) λ_ W W=>rfl
theorem ui:f7 b (gF .Pow) nT:=t4 P1 (λa r c=>show 0<=r/\r<=1000000/\a.natAbs<2^64 from fD c) λ_ W W=>rfl
theorem ux:f7 b (eQ .Lt) mz:=r4 Ry λ_ W W=>rfl
theorem xV:f7 b (eQ .LtE) lG:=r4 V3 λ_ W W=>rfl
theorem Kr:f7 b (eQ .Gt) ot:=r4 U2 λ_ W W=>rfl
theorem AI:f7 b (eQ .GtE) pF:=r4 Wm λ_ W W=>rfl
theorem PW:d8 b (gF .Add) (λh H j B=>∃g e Xp,h=.ref g/\H=.ref e/\cH b.K j g []/\cH b.K j e Xp/\B (.ref e) j):=by
 intro G f D j h H u L B A n o c;let⟨g,e,@Xp,rfl,rfl,q,r,p⟩:=c;cases n;cases o;let⟨@Xq,s,t,W⟩:=A.tuple q;let⟨@z,C,XZ,W⟩:=A.tuple r;have d:Xq=[]:=s.u9.mpr rfl;subst d;let⟨@⟨cls,v,data,aY⟩,a,i,⟨@w,hd⟩⟩:=id t;let⟨@⟨E,x,data2,y⟩,k,l,⟨@Yq,m⟩⟩:=id XZ;simp only at i hd l m;subst i hd l m;exact yL ⟨_,a,rfl⟩ ⟨_,k,rfl⟩ zG yx y6 yC (xi _ _) (tuple_addW0 g e _ _ w Yq v x aY y rfl) ⟨a,k,.ref e,j,A,rfl,p⟩
@[simp] noncomputable def c0:gx:=λg e=>match g,e with
 |.im (.int a),.im (.int r)=>Z (.im<|.int<|a+r)
 |.im (.tup h),.im (.tup H)=>if h.length+H.length<=100000 then Z (.im<|.tup<|h++H) else Y
 |.lst h,.lst H=>if h.length+H.length<=100000 then Z (.lst<|h++H) else Y
 |.im (.str h),.im (.str H)=>if h.length+H.length<=100000 then Z (.im<|.str<|h++H) else Y
 |_,_=>Y
theorem br.app:∀{g e:List V}{h H:List ar},br j g h->br j e H->br j (g++e) (h++H)
 |[],e,h,H,c,q=>by cases (show h=[] from c);exact q
 |v::g,e,h,H,c,q=>by
  let⟨u,@s,rfl,z,E⟩:=c;exact⟨u,s++H,rfl,z,E.app q⟩
theorem br.nil{j:aw}{g:List V}(c:br j g []):g=[]:=by
 cases g with
 |nil=>rfl
 |cons v g=>let⟨W,@W,d,W⟩:=c;cases d
theorem eg:f7 b (gF .Add) c0:=by
 refine (Sh.or<|PW.or<|Nb.or<|P4.or OI).imp λh H j B y=>?_;let⟨XY,X1,@v,n,q,d,p⟩:=y;unfold c0 at d;split at d
 ·cases d;exact .inl ⟨_,_,n.i,q.i,ck.i p rfl⟩
 ·rename_i g e;split at d
  ·rename_i f;cases d;let⟨o,@x,rfl,z,E⟩:=n.i;let⟨k,@Xp,rfl,m,c⟩:=q.i;refine .inr ?_;by_cases s:x=[]
   ·subst s;cases E.nil;exact .inl ⟨o,k,Xp,rfl,rfl,cH.of z,cH.of m,ck.i p ⟨k,Xp,rfl,m,c⟩⟩
   ·refine .inr (.inl ⟨o,k,x,Xp,rfl,rfl,cH.of z,cH.of m,s,nN (by rw[<-E.length,<-c.length];exact f),λu=>?_,λu w r=>ck.t p r<|E.app c⟩);subst u;cases c.nil;rw[cC]at p;exact ck.i p ⟨o,x,rfl,z,E⟩
  ·cases d
 ·rename_i g e;split at d
  ·rename_i f;cases d;let⟨W,o,@x,rfl,z,E,W⟩:=n;let⟨W,k,@Xp,rfl,m,c,W⟩:=q;exact .inr (.inr (.inr (.inl ⟨o,k,x,Xp,rfl,rfl,z,m,nN (by rw[<-E.length,<-c.length];exact f),λw r=>ck.l p r<|E.app c⟩)))
  ·cases d
 ·rename_i g e;split at d
  ·rename_i f;cases d;exact .inr (.inr<|.inr<|.inr ⟨g,e,n.i,q.i,nN f,ck.i p rfl⟩)
  ·cases d
 ·cases d
theorem Ul(w:Nat){O:bw}{h H:V}{L u:ab}(l:V.bo w h=aa)(a6:V.bo w H=aa)(U:O.units+w+2<bU)(o:dM f.heap h L)(b:dM f.heap H u):SeqAt.RcAt O f L u (cy h H):=by
 cases h with
 |aW=>
  cases (show L=.none from o);cases H with
  |aW=>cases (show u=.none from b);exact SN
  |aG e=>cases (show u=.bool e from b);exact PZ e
  |int r=>let⟨@i,rfl⟩:=b;exact PJ r i
  |str C=>let⟨@i,rfl⟩:=b;exact Wi C i
  |tup J=>let⟨g,m,Xy,@k,rfl,z,E,j,W⟩:=b;exact Rt ⟨m,z,E,k,j⟩ ⋯
  |fn g=>cases w<;>cases a6
  |aU g=>cases w<;>cases a6
  |fd=>cases w<;>cases a6
 |aG e=>
  cases (show L=.bool e from o);cases H with
  |aW=>cases (show u=.none from b);exact OK e
  |aG n=>cases (show u=.bool n from b);exact TC e n
  |int r=>let⟨@i,rfl⟩:=b;exact RI e r i
  |str C=>let⟨@i,rfl⟩:=b;exact PX e C i
  |tup J=>let⟨g,m,Xy,@k,rfl,z,E,j,W⟩:=b;exact Sr e ⟨m,z,E,k,j⟩ ⋯
  |fn g=>cases w<;>cases a6
  |aU g=>cases w<;>cases a6
  |fd=>cases w<;>cases a6
 |int a=>
  let⟨@c,rfl⟩:=o;cases H with
  |aW=>cases (show u=.none from b);exact P0 a c
  |aG n=>cases (show u=.bool n from b);exact Ql a c n
  |int r=>let⟨@i,rfl⟩:=b;exact OW a c r i
  |str C=>let⟨@i,rfl⟩:=b;exact NH a c C i
  |tup J=>let⟨g,m,Xy,@k,rfl,z,E,j,W⟩:=b;exact UZ a c ⟨m,z,E,k,j⟩ ⋯
  |fn g=>cases w<;>cases a6
  |aU g=>cases w<;>cases a6
  |fd=>cases w<;>cases a6
 |str a=>
  let⟨@c,rfl⟩:=o;cases H with
  |aW=>cases (show u=.none from b);exact Lj a c
  |aG n=>cases (show u=.bool n from b);exact Uz a c n
  |int r=>let⟨@i,rfl⟩:=b;exact Vb a c r i
  |str C=>let⟨@i,rfl⟩:=b;exact U6 a c C i
  |tup J=>let⟨g,m,Xy,@k,rfl,z,E,j,W⟩:=b;exact S2 a c ⟨m,z,E,k,j⟩ ⋯
  |fn g=>cases w<;>cases a6
  |aU g=>cases w<;>cases a6
  |fd=>cases w<;>cases a6
 |fn g=>cases w<;>cases l
 |aU g=>cases w<;>cases l
 |fd=>cases w<;>cases l
 |tup J=>
  cases w with
  |zero=>cases l
  |succ w=>
  let⟨g,m,Xy,@k,rfl,z,E,j,s⟩:=o;have X4:f.heap.IsTuple g Xy:=⟨m,z,E,k,j⟩;cases H with
  |aW=>cases (show u=.none from b);exact UA X4 ⋯
  |aG n=>cases (show u=.bool n from b);exact LR n X4 ⋯
  |int r=>let⟨@i,rfl⟩:=b;exact Mc r i X4 ⋯
  |str C=>let⟨@i,rfl⟩:=b;exact MZ C i X4 ⋯
  |fn g=>cases a6
  |aU g=>cases a6
  |fd=>cases a6
  |tup S=>
   let⟨e,R,q,@B,rfl,D,F,G,t⟩:=b;have Ym:f.heap.IsTuple e q:=⟨R,D,F,B,G⟩;have v:=s.length;have x:=t.length;have I:Xy.toList.length=Xy.size:=by simp
   have M:q.toList.length=q.size:=by simp
   rw[I]at v;rw[M]at x;have p:=BQ (A:=O) (e:=λr=>cy (J.getD r .aW)<|S.getD r .aW) X4 Ym ⋯ λr N P=>by
    let⟨@XY,y,Q⟩:=s.get (r:=r) (u:=Xy[r]) (by rw[eS];simp[N]);let⟨@X1,A,T⟩:=t.get (r:=r) (u:=q[r]) (by rw[eS];simp[P]);rw[cM,y,cM,A];exact iO w (kD l y) (kD a6 A) (by show O.units+1+w+1<bU;lia) Q T
   rw[<-v,<-x,sj (J:=J) (S:=S) (λr h H g e=>by rw[cM,g,cM,e];rfl)]at p;rw[cy];exact p
@[simp] def ke:gx:=λg e=>match g,e with
 |.im h,.im H=>if (V.bo 8 h&&V.bo 8 H)=aa then Z (.im<|.aG<|cy h H) else Y
 |.lst h,.lst H=>if (V.c2 8 h&&V.c2 8 H)=aa then Z (.im<|.aG<|fC h H) else Y
 |_,_=>Y
theorem Bb:∀{h H:List V},h.length≠H.length->fC h H=au
 |[],[],c=>absurd rfl c
 |[],_::_,_=>rfl
 |_::_,[],_=>rfl
 |g::h,e::H,c=>by
  rw[fC,Bb (λd=>c (by rw[c3,c3,d])),GK]
theorem qy{G:List (af×a0)}(A:aE b G D j f){g:af}{x:List ar}{J:List V}(z:j g=Z (.lst x))(E:br j J x):∃Xq:List ab,f.heap.IsList g Xq.toArray/\dI f.heap J Xq/\Xq.length=J.length:=by
 let@⟨C,⟨Xq,@w,a,d⟩⟩:=A.aZ g _ z;have:=E.fc A.aZ a;exact⟨Xq,⟨_,d,rfl,w,rfl⟩,this,this.length.symm⟩
theorem z9(an:b.A.units+20<bU):f7 b (eQ .Eq) ke:=by
 intro G f D j h H u L B A s t ⟨XY,X1,v,k,m,d,p⟩;unfold ke at d;split at d
 ·rename_i g e;split at d
  ·rename_i c;cases d;rw[cU]at c;exact Ul 8 c.1 c.2 ⋯ (k.i.fc A.aZ s) (m.i.fc A.aZ t) b.prog b.w _ _ ⟨.aG _,j,A,rfl,ck.i p rfl⟩
  ·cases d
 ·rename_i g e;split at d
  ·rename_i c;cases d;rw[cU]at c;let⟨W,o,@x,rfl,z,E,W⟩:=k;let⟨W,ap,@Xp,rfl,Q,R,W⟩:=m;cases s;cases t;let⟨@T,y,U,q⟩:=qy A z E;let⟨@al,C,am,Yq⟩:=qy A Q R;by_cases n:g.length=e.length
   ·have:=Po (A:=b.A) (e:=λr=>cy (g.getD r .aW)<|e.getD r .aW) y C (by rw[cO,cO,q,Yq];exact n) ⋯ λr F I=>by
     let⟨@XY,M,k⟩:=U.get (r:=r) (u:=T.toArray[r]) (by simp at F;simp[F]);let⟨@X1,N,m⟩:=am.get (r:=r) (u:=al.toArray[r]) (by simp at I;simp[I]);rw[cM,M,cM,N];exact iO 8 (kD c.1 M) (kD c.2 N) (by show b.A.units+1+8+1<bU;lia) k m
    refine this b.prog b.w _ _ ⟨.aG _,j,A,rfl,?_⟩;have P:=sj (J:=g) (S:=e) (d:=λr=>cy (g.getD r .aW)<|e.getD r .aW) (λr h H g e=>by rw[cM,g,cM,e];rfl);rw[<-n,Ao,kH,GD]at P;rw[cO,q,P];exact ck.i p rfl
   ·refine PG (A:=b.A) y C (by rw[cO,cO,q,Yq];simpa using n) ⋯ b.prog b.w _ _ ⟨.aG _,j,A,rfl,?_⟩;rw[Bb n]at p;exact ck.i p rfl
  ·cases d
 ·cases d
end
section
variable{b:aO}
theorem Tj(w:Nat){O:bw}{h H:V}{L u:ab}(l:V.bo w h=aa)(a6:V.bo w H=aa)(U:O.units+w+2<bU)(o:dM f.heap h L)(b:dM f.heap H u):SeqAt.RcNeAt O f L u (!cy h H):=by
 cases h with
 |aW=>
  cases (show L=.none from o);cases H with
  |aW=>cases (show u=.none from b);exact Wq
  |aG e=>cases (show u=.bool e from b);exact RF e
  |int r=>let⟨@i,rfl⟩:=b;exact V1 r i
  |str C=>let⟨@i,rfl⟩:=b;exact Sd C i
  |tup J=>let⟨g,m,Xy,@k,rfl,z,E,j,W⟩:=b;exact Lq ⟨m,z,E,k,j⟩ ⋯
  |fn g=>cases w<;>cases a6
  |aU g=>cases w<;>cases a6
  |fd=>cases w<;>cases a6
 |aG e=>
  cases (show L=.bool e from o);cases H with
  |aW=>cases (show u=.none from b);exact Mp e
  |aG n=>cases (show u=.bool n from b);exact Vk e n
  |int r=>let⟨@i,rfl⟩:=b;exact Uj e r i
  |str C=>let⟨@i,rfl⟩:=b;exact Ma e C i
  |tup J=>let⟨g,m,Xy,@k,rfl,z,E,j,W⟩:=b;exact NF e ⟨m,z,E,k,j⟩ ⋯
  |fn g=>cases w<;>cases a6
  |aU g=>cases w<;>cases a6
  |fd=>cases w<;>cases a6
 |int a=>
  let⟨@c,rfl⟩:=o;cases H with
  |aW=>cases (show u=.none from b);exact TL a c
  |aG n=>cases (show u=.bool n from b);exact QG a c n
  |int r=>let⟨@i,rfl⟩:=b;exact S9 a c r i
  |str C=>let⟨@i,rfl⟩:=b;exact SE a c C i
  |tup J=>let⟨g,m,Xy,@k,rfl,z,E,j,W⟩:=b;exact VZ a c ⟨m,z,E,k,j⟩ ⋯
  |fn g=>cases w<;>cases a6
  |aU g=>cases w<;>cases a6
  |fd=>cases w<;>cases a6
 |str a=>
  let⟨@c,rfl⟩:=o;cases H with
  |aW=>cases (show u=.none from b);exact Vm a c
  |aG n=>cases (show u=.bool n from b);exact V4 a c n
  |int r=>let⟨@i,rfl⟩:=b;exact SF a c r i
  |str C=>let⟨@i,rfl⟩:=b;exact Sx a c C i
  |tup J=>let⟨g,m,Xy,@k,rfl,z,E,j,W⟩:=b;exact Wg a c ⟨m,z,E,k,j⟩ ⋯
  |fn g=>cases w<;>cases a6
  |aU g=>cases w<;>cases a6
  |fd=>cases w<;>cases a6
 |fn g=>cases w<;>cases l
 |aU g=>cases w<;>cases l
 |fd=>cases w<;>cases l
 |tup J=>
  cases w with
  |zero=>cases l
  |succ w=>
  let⟨g,m,Xy,@k,rfl,z,E,j,s⟩:=o;have X4:f.heap.IsTuple g Xy:=⟨m,z,E,k,j⟩;cases H with
  |aW=>cases (show u=.none from b);exact Lk X4 ⋯
  |aG n=>cases (show u=.bool n from b);exact Qz n X4 ⋯
  |int r=>let⟨@i,rfl⟩:=b;exact KI r i X4 ⋯
  |str C=>let⟨@i,rfl⟩:=b;exact S8 C i X4 ⋯
  |fn g=>cases a6
  |aU g=>cases a6
  |fd=>cases a6
  |tup S=>
   let⟨e,R,q,@B,rfl,D,F,G,t⟩:=b;have Ym:f.heap.IsTuple e q:=⟨R,D,F,B,G⟩;have v:=s.length;have x:=t.length;have I:Xy.toList.length=Xy.size:=by simp
   have M:q.toList.length=q.size:=by simp
   rw[I]at v;rw[M]at x;have p:=Th (A:=O) (e:=λr=>cy (J.getD r .aW)<|S.getD r .aW) X4 Ym ⋯ λr N P=>by
    let⟨@XY,y,Q⟩:=s.get (r:=r) (u:=Xy[r]) (by rw[eS];simp[N]);let⟨@X1,A,T⟩:=t.get (r:=r) (u:=q[r]) (by rw[eS];simp[P]);rw[cM,y,cM,A];exact iO w (kD l y) (kD a6 A) (by show O.units+1+w+1<bU;lia) Q T
   rw[<-v,<-x,sj (J:=J) (S:=S) (λr h H g e=>by rw[cM,g,cM,e];rfl)]at p;rw[cy];exact p
@[simp] def ih:gx:=λg e=>match g,e with
 |.im h,.im H=>if (V.bo 8 h&&V.bo 8 H)=aa then Z (.im<|.aG<|!cy h H) else Y
 |.lst h,.lst H=>if (V.c2 8 h&&V.c2 8 H)=aa then Z (.im<|.aG<|!fC h H) else Y
 |_,_=>Y
theorem s9(an:b.A.units+20<bU):f7 b (eQ .NotEq) ih:=by
 intro G f D j h H u L B A s t ⟨XY,X1,v,k,m,d,p⟩;unfold ih at d;split at d
 ·rename_i g e;split at d
  ·rename_i c;cases d;rw[cU]at c;exact Tj 8 c.1 c.2 ⋯ (k.i.fc A.aZ s) (m.i.fc A.aZ t) b.prog b.w _ _ ⟨.aG _,j,A,rfl,ck.i p rfl⟩
  ·cases d
 ·rename_i g e;split at d
  ·rename_i c;cases d;rw[cU]at c;let⟨W,o,@x,rfl,z,E,W⟩:=k;let⟨W,ap,@Xp,rfl,Q,R,W⟩:=m;cases s;cases t;let⟨@T,y,U,q⟩:=qy A z E;let⟨@al,C,am,Yq⟩:=qy A Q R;by_cases n:g.length=e.length
   ·have:=RD (A:=b.A) (e:=λr=>cy (g.getD r .aW)<|e.getD r .aW) y C (by rw[cO,cO,q,Yq];exact n) ⋯ λr F I=>by
     let⟨@XY,M,k⟩:=U.get (r:=r) (u:=T.toArray[r]) (by simp at F;simp[F]);let⟨@X1,N,m⟩:=am.get (r:=r) (u:=al.toArray[r]) (by simp at I;simp[I]);rw[cM,M,cM,N];exact iO 8 (kD c.1 M) (kD c.2 N) (by show b.A.units+1+8+1<bU;lia) k m
    refine this b.prog b.w _ _ ⟨.aG _,j,A,rfl,?_⟩;have P:=sj (J:=g) (S:=e) (d:=λr=>cy (g.getD r .aW)<|e.getD r .aW) (λr h H g e=>by rw[cM,g,cM,e];rfl);rw[<-n,Ao,kH,GD]at P;rw[cO,q,P];exact ck.i p rfl
   ·refine Ml (A:=b.A) y C (by rw[cO,cO,q,Yq];simpa using n) ⋯ b.prog b.w _ _ ⟨.aG _,j,A,rfl,?_⟩;rw[Bb n]at p;exact ck.i p rfl
  ·cases d
 ·cases d
@[simp] noncomputable def m1(w:Bool):gx:=λg e=>match g,e with
 |.im h,.im .aW=>Z (.im<|.aG<|w != decide (h=.aW))
 |.im (.aG h),.im (.aG H)=>Z (.im<|.aG<|w != (h==H))
 |_,_=>Y
theorem JI{v:V}(c:cL j v u):decide (u=.aW)=decide (v=.aW):=by
 cases v with
 |aW=>cases (show u=.aW from c);rfl
 |aG e=>cases (show u=.aG e from c);rfl
 |int e=>cases (show u=.int e from c);rfl
 |str e=>cases (show u=.str e from c);rfl
 |fn e=>cases (show u=.ref e from c);rfl
 |tup J=>let⟨g,@x,rfl,W⟩:=c;rfl
 |aU J=>let⟨g,x,@m,rfl,W⟩:=c;rfl
 |fd=>let⟨g,@m,rfl,W⟩:=c;rfl
theorem Ua:d8 b (eQ .Is) (λh H j B=>∃g e,h=.aG g/\H=.aG e/\B (.aG<|g==e) j):=by
 intro G f D j h H u L B A a c ⟨g,e,d,i,p⟩;subst d i;cases a;cases c;refine wpAny_is_plain (by cases g<;>cases e<;>rfl) ⟨.aG<|g==e,j,A,?_,p⟩;cases g<;>cases e<;>rfl
theorem UR:d8 b (eQ .IsNot) (λh H j B=>∃g e,h=.aG g/\H=.aG e/\B (.aG<|!(g==e)) j):=by
 intro G f D j h H u L B A a c ⟨g,e,d,i,p⟩;subst d i;cases a;cases c;refine wpAny_isNot_plain (by cases g<;>cases e<;>rfl) ⟨.aG<|!(g==e),j,A,?_,p⟩;cases g<;>cases e<;>rfl
theorem x9:f7 b (eQ .Is) (m1 au):=by
 refine (Qc.or Ua).imp λh H j B f=>?_;let⟨XY,X1,@v,c,e,d,p⟩:=f;unfold m1 at d;split at d
 ·rename_i g;cases d;refine .inl ⟨e.i,?_⟩;rw[JI c.i];refine ck.i p ?_;show _=_;rw[Iz]
 ·cases d;refine .inr ⟨_,_,c.i,e.i,ck.i p ?_⟩;show _=_;rw[Iz]
 ·cases d
theorem K9:f7 b (eQ .IsNot) (m1 aa):=by
 refine (OA.or UR).imp λh H j B f=>?_;let⟨XY,X1,@v,c,e,d,p⟩:=f;unfold m1 at d;split at d
 ·rename_i g;cases d;refine .inl ⟨e.i,?_⟩;rw[JI c.i];refine ck.i p ?_;show _=_;rw[CY]
 ·cases d;refine .inr ⟨_,_,c.i,e.i,ck.i p ?_⟩;show _=_;rw[CY]
 ·cases d
noncomputable def fB{XG:Type}[DecidableEq XG](Xt:List (XG×V))(q:XG):Option V:=(Xt.find? λo=>decide (o.1=q)).map (·.2)
theorem p_{XG:Type}[DecidableEq XG]{j:aw}{q:XG}:∀{Xt:List (XG×V)}{M:List (XG×ar)},eU j Xt M->(∀v,fB Xt q=Z v->∃u,h2 M q=Z u/\cL j v u)/\(fB Xt q=Y->h2 M q=Y)
 |_,_,.nil=>⟨(λv d=>by cases d),(λ_=>rfl)⟩
 |_,_,.cons (a:=o) (b:=p) c i=>by
  let@⟨z,E⟩:=p_ (q:=q) i;by_cases d:o.1=q
  ·have a:p.1=q:=c.1.symm.trans d;refine⟨λv hd=>?_,λb=>?_⟩
   ·have:∀s,fB (o::s) q=Z o.2:=λs=>by simp[fB,jn,d]
    rw[this]at hd;cases hd;exact⟨p.2,wy a,c.2⟩
   ·have:∀s,fB (o::s) q=Z o.2:=λs=>by simp[fB,jn,d]
    rw[this]at b;cases b
  ·have a:¬ p.1=q:=λC=>d (c.1.trans C);have:∀s,fB (o::s) q=fB s q:=λs=>by simp[fB,jn,d]
   rw[this,t9 a];exact⟨z,E⟩
@[simp] def bE:gx:=λg e=>match g,e with
 |.im (.tup J),.im (.int a)=>(dV J a).map .im
 |.lst J,.im (.int a)=>(dV J a).map .im
 |.dn J,.im (.int a)=>(dV J a).map .im
 |.a_ Xt,.im (.tup q)=>if V.keys 7 q=aa then (fB Xt q).map .im else Y
 |.dQ Xt,.im (.int a)=>(fB Xt<|.inl a).map .im
 |.dQ Xt,.im (.str a)=>(fB Xt<|.inr a).map .im
 |_,_=>Y
theorem RB(a:b.A.units+20<bU):iz b (λh H j B=>∃g u,h=.ref g/\g0 j g H (Z u)/\B u j):=by
 intro k m G f D j h H u L B A c e ⟨g,C,d,I,p⟩ Xi;subst d;cases c;exact xC (Rh A I) Ie.lookup (Qi a A I e λn o i l=>⟨C,j,i,l,p⟩) Xi
theorem vj{a:Int}{v:V}(c:br j J x)(d:dV J a=Z v):∃u,dV x a=Z u/\cL j v u:=by
 unfold dV at d ⊢;rw[<-c.length];let⟨@r,b,e⟩:=bG.mp d;let⟨@u,f,g⟩:=c.get e;exact⟨u,by rw[b];exact f,g⟩
theorem H2(y:b.A.units+20<bU):iz b (λh H j B=>∃XY X1 v,fX j XY h/\fX j X1 H/\bE XY X1=Z v/\∀u N Xf,bV j N->cT N v u Xf->Xf.Nodup->(∀g∈Xf,j g=Y)->B u N):=by
 refine (Wt.or<|EP.or<|RB y).imp λh H j B C=>?_;let⟨XY,X1,@v,s,w,d,p⟩:=C;unfold bE at d;split at d
 ·let⟨@r,c,f⟩:=cD.mp d;cases f;let⟨o,@x,rfl,z,E⟩:=s.i;let⟨@u,l,n⟩:=vj E c;exact .inr (.inl ⟨o,x,_,u,rfl,w.i,cH.of z,l,ck.i p n⟩)
 ·let⟨@r,c,f⟩:=cD.mp d;cases f;let⟨W,o,@x,rfl,z,E,W⟩:=s;let⟨@u,l,n⟩:=vj E c;exact .inl ⟨o,x,_,u,rfl,w.i,df.of z,l,ck.i p n⟩
 ·let⟨@r,c,f⟩:=cD.mp d;cases f;let⟨W,o,x,@m,rfl,z,E,W⟩:=s;let⟨@u,l,n⟩:=vj E c;exact .inl ⟨o,x,_,u,rfl,w.i,.inl<|.inr ⟨m,z⟩,l,ck.i p n⟩
 ·rename_i Xt q;split at d
  ·rename_i D;let⟨@r,c,f⟩:=cD.mp d;cases f;let⟨W,o,@M,rfl,z,E,W⟩:=s;let⟨@u,l,n⟩:=(p_ E).1 r c;let⟨e,@x,rfl,XF,XH⟩:=w.i;exact .inr (.inr ⟨o,u,rfl,by rw[<-l];exact g0.t z ⟨D,e,x,rfl,XF,XH⟩,ck.i p n⟩)
  ·cases d
 ·rename_i Xt a;let⟨@r,c,f⟩:=cD.mp d;cases f;let⟨W,o,@M,rfl,z,E,W⟩:=s;let⟨@u,l,n⟩:=(p_ E).1 r c;refine .inr (.inr ⟨o,u,rfl,?_,ck.i p n⟩);rw[show H=cG (.inl a) from w.i,<-l];exact g0.k z
 ·rename_i Xt a;let⟨@r,c,f⟩:=cD.mp d;cases f;let⟨W,o,@M,rfl,z,E,W⟩:=s;let⟨@u,l,n⟩:=(p_ E).1 r c;refine .inr (.inr ⟨o,u,rfl,?_,ck.i p n⟩);rw[show H=cG (.inr a) from w.i,<-l];exact g0.k z
 ·cases d
end
end L2
namespace dj
open PySem PySem.Spec PyProof.Rows
section
variable{Xm:bJ}{l:bc}{O:bw}{Xg:ab->ah->Prop}{f:ah}
theorem SM{i aY:af}{Xq:Array ab}{b5 C:ab}{R U:Option Int}{B:ab->ah->Prop}(o:pg f.heap i Xq)(Xi:f.heap.IsSliceOf aY b5 C .none)(bo:kY b5 R)(a:kY C U)(b:cu Xq.size 0 R=0)(z:cu Xq.size Xq.size U=Xq.size)(p:B (.ref i) f):wpAny (aM Xm l) O (nA (.ref i)<|.ref aY) B Xg f:=by
 let⟨@Xw,c,d,hd⟩:=id Xi;have ty:f.TypeIs (.ref aY) "slice" := ⟨Xw,c,d⟩;unfold nA;try with_reducible refine fl ?_
 first|refine ak (aK ?_)|skip
 refine ak (FT o.typeIs (by decide) ?_);refine ak (lK (name:=aB.ofString "__getitem__") o.typeIs qJ<|hA qJ o.typeIs JH ?_<|JN _ _);show wpAny _ _ (aX.Tuple.tupleItemsOf (.ref i) >>= _) _ _ f;refine ak (Jt o ?_);refine ak (wpAny_typeOf ty ?_);rw[aA (by decide)];refine ak (Iw Xi bo a ?_);rw[b,z];show wpAny _ _ (if (((0:Nat):Int)==0&&(1:Int)==1&&(Xq.size-0)==Xq.size)=aa then _ else _) _ _ f;rw[aA (by simp)];refine ak (m:=aX.Tuple.tupleIsExact _) (ak<|wpAny_typeOf o.typeIs<|aK ?_);show wpAny _ _ (if (ab.type "tuple" == ab.type "tuple")=aa then _ else _) _ _ f;rw[aA (by decide)];exact ak (h7<|aK ⟨_,rfl,aK p⟩)
end
end dj
namespace L2
open PySem PySem.Spec PyProof.Rows
section
variable{b:aO}
@[simp] noncomputable def hM(I:az aj):az aj:=λy=>(I y).bind λo=>match o.1 with
 |.im (.int a)=>Z (.im<|.int<|-a,o.2)
 |_=>Y
variable{I:az aj}{Xu:Pos}
theorem mf{g:bx}(c:cS b g I):cS b (.UnaryOp .USub g Xu) (hM I):=by
 refine eP (VF Tv c) λD j B d=>?_;let⟨y,P,s,@XC,X,ag,e,p⟩:=d;let⟨@⟨h,Xl⟩,z,E⟩:=bG.mp e;refine⟨y,P,h,Xl,X,ag,z,λu Xn Xz Xf f XQ i=>?_⟩;dsimp only at E;split at E
 ·rename_i a;cases E;exact⟨a,XQ.1,p _ Xn Xz [] f ⟨rfl,rfl⟩ (by rw[cC];exact i.both)⟩
 ·cases E
noncomputable def QW(I:az (Option Int)):bD:=λD j B=>∃y P t XC,bC j y D P/\P.Nodup/\I y=Z (t,XC)/\∀N X0,bC N XC D X0->bu j P N X0->B t N
def tU(b:aO)(d:Option bx)(I:az (Option Int)):Prop:=∀ ⦃o⦄,Js b d (QW I) o
theorem Fg{d:Option bx}{i XM:bD}(c:rn b d i)(a:∀D j B,XM D j B->i D j B):rn b d XM:=λG f D j B A e=>c G f D j B A (a D j B e)
def jK:az (Option Int):=λy=>Z (Y,y)
@[simp] noncomputable def kL(I:az aj):az (Option Int):=λy=>(I y).bind λo=>match o.1 with
 |.im (.int a)=>Z (Z a,o.2)
 |_=>Y
theorem qG:tU b Y jK:=by
 refine Fg Ww λD j B a=>?_;let⟨y,P,s,@XC,X,ag,c,p⟩:=a;cases c;exact p j P X (bu.perm ag<|List.Perm.refl _)
variable{d:bx}
theorem pj(c:cS b d I):tU b (Z d) (kL I):=by
 refine Fg (QS c) λD j B e=>?_;let⟨y,P,s,@XC,X,ag,f,p⟩:=e;let⟨@⟨h,Xl⟩,z,E⟩:=bG.mp f;refine⟨y,P,h,Xl,X,ag,z,λu Xn Xz Xf g XQ i=>?_⟩;dsimp only at E;split at E
 ·rename_i a;cases E;exact⟨a,XQ.1,p Xn Xz g i.both⟩
 ·cases E
noncomputable def e6{Xx:Type}(x:List Xx)(R U:Option Int):List Xx:=(x.drop<|dj.cu x.length 0 R).take (dj.cu x.length x.length U-dj.cu x.length 0 R)
variable{j:aw}
theorem br.drop:∀{J:List V}{x:List ar} (w:Nat),br j J x->br j (J.drop w) (x.drop w)
 |J,x,0,c=>c
 |[],x,w+1,c=>by cases (show x=[] from c);exact rfl
 |v::J,x,w+1,c=>by
  let⟨u,@s,rfl,z,E⟩:=c;exact E.drop w
theorem br.take:∀{J:List V}{x:List ar} (w:Nat),br j J x->br j (J.take w) (x.take w)
 |J,x,0,c=>rfl
 |[],x,w+1,c=>by cases (show x=[] from c);exact rfl
 |v::J,x,w+1,c=>by
  let⟨u,@s,rfl,z,E⟩:=c;exact⟨u,_,rfl,z,E.take w⟩
theorem br.cut{J:List V}{x:List ar}(R U:Option Int)(c:br j J x):br j (e6 J R U) (mQ x R U):=by
 unfold e6 mQ;rw[c.length];exact (c.drop _).take _
@[simp] def kC(v:aj)(R U:Option Int):Option aj:=match v with
 |.im (.tup J)=>Z (.im<|.tup<|e6 J R U)
 |.lst J=>Z (.lst<|e6 J R U)
 |.dn J=>Z (.lst<|e6 J R U)
 |_=>Y
def MB(Xd:PySem.W.Frag):ar->Option Int->Option Int->aw->cP->Prop:=λh R U j B=>∃g x,h=.ref g/\cH Xd j g x/\dj.cu x.length 0 R=0/\dj.cu x.length x.length U=x.length/\B (.ref g) j
theorem N3:sE b (λh R U j B=>∃v s,fX j v h/\kC v R U=Z s/\ck j s B):=by
 have all:sE b (MB b.K):=by
  intro G f D j h u b5 C R U aY B A e Xi bo k c;let⟨g,@x,rfl,F,H,z,p⟩:=c;cases e;let⟨@Xq,s,bQ,I⟩:=A.tuple F;have y:Xq.toArray.size=x.length:=by rw[cO];exact s.length.symm
  exact⟨"tuple",_,qJ.lookup,bQ.typeIs,dj.SM bQ Xi bo k (by rw[y];exact H) (by rw[y];exact z) ⟨.ref g,j,A,rfl,p⟩⟩
 intro G f D j h u b5 C R U aY B A e Xi bo k ⟨v,s,r,d,p⟩;unfold kC at d;split at d
 ·rename_i J;cases d;let⟨o,@x,rfl,z,E⟩:=r.i;by_cases n:dj.cu x.length 0 R=0/\dj.cu x.length x.length U=x.length
  ·refine all G f D j _ u b5 C R U aY B A e Xi bo k ⟨o,x,rfl,cH.of z,n.1,n.2,ck.i p ⟨o,x,rfl,z,?_⟩⟩;have:e6 J R U=J:=by
    unfold e6;rw[E.length,n.1,n.2,k0,vw,<-E.length,rl]
   rw[this];exact E
  ·exact LL G f D j _ u b5 C R U aY B A e Xi bo k ⟨o,x,rfl,cH.of z,n,λw q=>ck.t p q<|E.cut R U⟩
 ·cases d;let⟨W,o,@x,rfl,z,E,W⟩:=r;exact IK G f D j _ u b5 C R U aY B A e Xi bo k ⟨o,x,rfl,df.of z,λw q=>ck.l p q<|E.cut R U⟩
 ·cases d;let⟨W,o,x,@m,rfl,z,E,W⟩:=r;exact IK G f D j _ u b5 C R U aY B A e Xi bo k ⟨o,x,rfl,.inl<|.inr ⟨m,z⟩,λw q=>ck.l p q<|E.cut R U⟩
 ·cases d
@[simp] def iY(I:az bq)(t c:az (Option Int)):az aj:=λy=>(I y).bind λo=>(t o.2).bind λp=>(c p.2).bind λs=>(fa s.2 o.1).bind λv=>(kC v p.1 s.1).map λa=>(a,s.2)
theorem pR{R U:Option bx}{I:az bq}{k n:az (Option Int)}{XZ:Pos}(q:dR b d I)(r:tU b R k)(w:tU b U n):cS b (.Subscript d (.Slice R U Y XZ) Xu) (iY I k n):=by
 refine eP (Tc N3 q r w) λD j B x=>?_;let⟨y,P,s,@XC,X,ag,C,p⟩:=x;let⟨@⟨h,Xl⟩,z,E⟩:=bG.mp C;let⟨@⟨t,XO⟩,F,G⟩:=bG.mp E;let⟨@⟨L,A⟩,H,J⟩:=bG.mp G;let⟨@v,M,N⟩:=bG.mp J;let⟨@bi,O,Q⟩:=cD.mp N;cases Q;refine⟨y,P,h,Xl,X,ag,z,λu Xn Xz Xf S XJ a=>⟨Xl,Xz,t,XO,S,(dN.mp a.ag).1,F,λXD XS T o=>⟨XO,XS,L,A,T,o.ag,H,λal am e an=>?_⟩⟩⟩;have f:=o.seq an;have X2:jR al D h u Xf:=XJ.mono f.tup λg ap m d=>f.keep g m d λc=>(dN.mp a.ag).2.2 g c g ap rfl;have as:=a.trans f XJ.chg;exact⟨v,_,X2.read e M,O,λl a1 a2 i XQ bd be=>p l a1 am a2 (e.mono i.tupS λg W m d=>i g m d) XQ<|as.new i bd be e.chg⟩
abbrev hN:=List aj->Option aj
@[simp] noncomputable def fV:hN:=λJ=>match J with
 |[.im (.tup h)]=>Z (.im<|.int h.length)
 |[.lst h]=>Z (.im<|.int h.length)
 |[.dn h]=>Z (.im<|.int h.length)
 |[.ib h]=>Z (.im<|.int h.length)
 |[.dQ h]=>Z (.im<|.int h.length)
 |[.im (.str h)]=>if h.length<=100000 then Z (.im<|.int h.length) else Y
 |_=>Y
variable{Xc:List ar}
theorem g6{v:aj}(c:nC j [v] Xc):∃u,Xc=[u]/\fX j v u:=by
 let⟨u,@s,rfl,z,E⟩:=c;cases (show s=[] from E);exact⟨u,rfl,z⟩
theorem yy{v d:aj}(c:nC j [v,d] Xc):∃u L,Xc=[u,L]/\fX j v u/\fX j d L:=by
 let⟨u,@s,rfl,z,E⟩:=c;let⟨@L,rfl,a⟩:=g6 E;exact⟨u,L,rfl,z,a⟩
theorem eU.length{XG:Type}{t:List (XG×V)}{k:List (XG×ar)}(c:eU j t k):t.length=k.length:=dY.length c
theorem j_:hl b (.builtin "len") fV:=by
 refine (Sl.or<|M5.or Ls).imp λx j B f=>?_;let⟨J,@v,e,d,p⟩:=f;unfold fV at d;split at d
 ·cases d;let⟨@u,rfl,c⟩:=g6 e;let⟨o,@x,rfl,z,E⟩:=c.i;exact .inl ⟨o,x,rfl,.inr<|cH.of z,by rw[<-E.length];exact ck.i p rfl⟩
 ·cases d;let⟨@u,rfl,⟨W,o,@x,rfl,z,E,W⟩⟩:=g6 e;exact .inl ⟨o,x,rfl,.inl<|df.of z,by rw[<-E.length];exact ck.i p rfl⟩
 ·cases d;let⟨@u,rfl,⟨W,o,x,@m,rfl,z,E,W⟩⟩:=g6 e;exact .inl ⟨o,x,rfl,.inl<|.inl<|.inr ⟨m,z⟩,by rw[<-E.length];exact ck.i p rfl⟩
 ·cases d;let⟨@u,rfl,⟨W,o,x,@Q,rfl,z,E,W⟩⟩:=g6 e;exact .inl ⟨o,x,rfl,.inl<|df.of z,by rw[<-E.length];exact ck.i p rfl⟩
 ·cases d;let⟨@u,rfl,⟨W,o,@M,rfl,z,E,W⟩⟩:=g6 e;exact .inr (.inr ⟨o,M,rfl,z,by rw[<-E.length];exact ck.i p rfl⟩)
 ·split at d
  ·rename_i g;cases d;let⟨@u,rfl,c⟩:=g6 e;cases (show u=_ from c.i);exact .inr (.inl ⟨_,rfl,nN g,ck.i p rfl⟩)
  ·cases d
 ·cases d
@[simp] def hW:hN:=λJ=>match J with
 |[v]=>(fU v).map λh=>.im (.tup h)
 |_=>Y
@[simp] def uW:hN:=λJ=>match J with
 |[v]=>(fU v).map .lst
 |_=>Y
theorem kP:hl b (.type "tuple") hW:=by
 refine Vd.imp λx j B g=>?_;let⟨J,@v,k,d,p⟩:=g;unfold hW at d;split at d
 ·let⟨@h,e,l⟩:=cD.mp d;cases l;let⟨@u,rfl,c⟩:=g6 k;unfold fU at e;split at e
  ·cases e;let⟨o,@x,rfl,z,E⟩:=c.i;exact⟨o,x,rfl,.inr ⟨cH.of z,ck.i p ⟨o,x,rfl,z,E⟩⟩⟩
  ·cases e;let⟨W,o,@x,rfl,z,E,W⟩:=c;exact⟨o,x,rfl,.inl ⟨df.of z,λt f=>ck.t p f E⟩⟩
  ·cases e;let⟨W,o,x,@m,rfl,z,E,W⟩:=c;exact⟨o,x,rfl,.inl ⟨.inl<|.inr ⟨m,z⟩,λt f=>ck.t p f E⟩⟩
  ·cases e
 ·cases d
theorem El:hl b (.type "list") uW:=by
 refine QT.imp λx j B g=>?_;let⟨J,@v,k,d,p⟩:=g;unfold uW at d;split at d
 ·let⟨@h,e,n⟩:=cD.mp d;cases n;let⟨@u,rfl,c⟩:=g6 k;unfold fU at e;split at e
  ·cases e;let⟨o,@x,rfl,z,E⟩:=c.i;exact⟨o,x,rfl,.inr<|cH.of z,λt f=>ck.l p f E⟩
  ·cases e;let⟨W,o,@x,rfl,z,E,W⟩:=c;exact⟨o,x,rfl,.inl<|df.of z,λt f=>ck.l p f E⟩
  ·cases e;let⟨W,o,x,@m,rfl,z,E,W⟩:=c;exact⟨o,x,rfl,.inl<|.inl<|.inr ⟨m,z⟩,λt f=>ck.l p f E⟩
  ·cases e
 ·cases d
@[simp] noncomputable def vInt:hN:=λJ=>match J with
 |[.im (.int a)]=>Z (.im<|.int a)
 |[.im (.aG e)]=>Z (.im<|.int<|if e then 1 else 0)
 |_=>Y
theorem U4:hl b (.type "int") vInt:=by
 refine O1.imp λx j B f=>?_;let⟨J,@v,e,d,p⟩:=f;unfold vInt at d;split at d
 ·cases d;let⟨@u,rfl,c⟩:=g6 e;cases (show u=_ from c.i);exact .inl ⟨_,rfl,ck.i p rfl⟩
 ·cases d;let⟨@u,rfl,c⟩:=g6 e;cases (show u=_ from c.i);exact .inr ⟨_,rfl,ck.i p rfl⟩
 ·cases d
@[simp] noncomputable def qt:hN:=λJ=>match J with
 |[.im (.int a),.im<|.int r]=>Z (.im<|.int<|if r>a then r else a)
 |_=>Y
@[simp] noncomputable def q7:hN:=λJ=>match J with
 |[.im (.int a),.im<|.int r]=>Z (.im<|.int<|if r<a then r else a)
 |_=>Y
theorem yY(e:b.calm=aa):hl b (.builtin "max") qt:=by
 refine (Pn e).imp λx j B f=>?_;let⟨J,@v,g,d,p⟩:=f;unfold qt at d;split at d
 ·cases d;let⟨u,@L,rfl,c,q⟩:=yy g;cases (show u=_ from c.i);cases (show L=_ from q.i);exact⟨_,_,rfl,ck.i p rfl⟩
 ·cases d
theorem Bm(e:b.calm=aa):hl b (.builtin "min") q7:=by
 refine (RX e).imp λx j B f=>?_;let⟨J,@v,g,d,p⟩:=f;unfold q7 at d;split at d
 ·cases d;let⟨u,@L,rfl,c,q⟩:=yy g;cases (show u=_ from c.i);cases (show L=_ from q.i);exact⟨_,_,rfl,ck.i p rfl⟩
 ·cases d
@[simp] noncomputable def mE:List V->Option (List Bool)
 |[]=>Z []
 |.aG e::J=>(mE J).map λs=>e::s
 |_::_=>Y
theorem DB{j:aw}:∀{J:List V}{x:List ar}{Xh:List Bool},br j J x->mE J=Z Xh->x=Xh.map ar.aG
 |[],x,Xh,c,d=>by cases d;exact c
 |.aG e::J,x,Xh,c,d=>by
  let⟨u,@s,rfl,z,E⟩:=c;rw[mE]at d;let⟨@o,a,b⟩:=cD.mp d;cases b;cases (show u=.aG e from z);rw[DB E a];rfl
 |.aW::_,_,_,_,d=>by cases d
 |.int _::_,_,_,_,d=>by cases d
 |.str _::_,_,_,_,d=>by cases d
 |.tup _::_,_,_,_,d=>by cases d
 |.fn _::_,_,_,_,d=>by cases d
 |.aU _::_,_,_,_,d=>by cases d
 |.fd::_,_,_,_,d=>by cases d
@[simp] def vr:hN:=λJ=>match J with
 |[.lst h]=>(mE h).map λXh=>.im (.aG<|Xh.all id)
 |_=>Y
theorem Pa(c:b.calm=aa):hl b (.builtin "all") vr:=by
 refine (Tn c).imp λx j B e=>?_;let⟨J,@v,f,d,p⟩:=e;unfold vr at d;split at d
 ·let⟨@h,g,k⟩:=cD.mp d;cases k;let⟨@u,rfl,⟨W,o,@x,rfl,z,E,W⟩⟩:=g6 f;rw[DB E g]at z;exact⟨o,h,rfl,z,ck.i p rfl⟩
 ·cases d
end
section
variable{b:aO}
noncomputable def xd:aj->Option Nat
 |.im (.int _)=>Z 0
 |.im (.aG _)=>Z 1
 |.im (.str _)=>Z 2
 |.im (.tup _)=>Z 3
 |.im .aW=>Z 4
 |.lst _=>Z 4
 |.im (.aU _)=>Z 4
 |.im .fd=>Z 4
 |.a_ _=>Z 4
 |.dQ _=>Z 4
 |_=>Y
@[simp] def zr(T:String)(v:aj):Option Bool:=
 (xd v).bind λq=>if T = "int" then Z (q==0 || q==1) else if T = "bool" then Z (q==1) else if T = "str" then Z (q==2) else if T = "tuple" then Z (q==3) else Y
variable{T:String}{e:Bool}
theorem TU{v:aj}(c:zr T v=Z e):∃q,xd v=Z q/\((T = "int" /\ e=(q==0 || q==1))\/(T = "bool" /\ e=(q==1))\/(T = "str" /\ e=(q==2))\/(T = "tuple" /\ e=(q==3))):=by
 let⟨@q,d,c⟩:=bG.mp c;refine⟨q,d,?_⟩;by_cases z:T = "int"
 ·rw[aA z]at c;cases c;exact .inl ⟨z,rfl⟩
 rw[aI z]at c;by_cases E:T = "bool"
 ·rw[aA E]at c;cases c;exact .inr (.inl ⟨E,rfl⟩)
 rw[aI E]at c;by_cases a:T = "str"
 ·rw[aA a]at c;cases c;exact .inr (.inr<|.inl ⟨a,rfl⟩)
 rw[aI a]at c;by_cases b:T = "tuple"
 ·rw[aA b]at c;cases c;exact .inr (.inr<|.inr ⟨b,rfl⟩)
 rw[aI b]at c;cases c
theorem ph{O X6 aP y Xs:Prop}(c:O\/X6\/aP\/y)(g:O->Xs)(e:X6->Xs)(n:aP->Xs)(v:y->Xs):Xs:=c.elim g λc=>c.elim e λc=>c.elim n v
variable{G:List (af×a0)}{j:aw}{f:ah}
theorem He{D:a3}(A:aE b G D j f){g:af}(c:(∃q,j g=Z (.a_ q))\/∃q,j g=Z (.dQ q)):∃m,f.heap.get? g=Z m/\m.cls=.type "dict" := by
 rcases c with ⟨q,c⟩|⟨q,c⟩
 ·let@⟨_,_,⟨@x,_,⟨m,S,@XN,z,E,_⟩⟩⟩:=(show ep b.prog b.w j f.heap g (.a_ q) from A.aZ g _ c);exact⟨m,z,E.1⟩
 ·let@⟨_,_,⟨@Xc,_,⟨m,S,@XN,z,E,_⟩⟩⟩:=(show ep b.prog b.w j f.heap g (.dQ q) from A.aZ g _ c);exact⟨m,z,E.1⟩
theorem Mo{D:a3}(A:aE b G D j f){g:af}{o:a0}(c:j g=Z (.dk o<|.a_ [])):∃m,f.heap.get? g=Z m/\m.cls=.type "dict" := by
 let@⟨_,_,_,⟨@x,_,⟨m,S,@XN,z,E,_⟩⟩⟩:=(show ep b.prog b.w j f.heap g (.dk o<|.a_ []) from A.aZ g _ c);exact⟨m,z,E.1⟩
theorem P6:eK b (.builtin "isinstance") (λx j B=>∃h T v e,x=[h,.ty T]/\fX j v h/\zr T v=Z e/\B (.aG e) j):=by
 intro G f D j x XE B A s c;let⟨h,T,v,@e,rfl,n,U,p⟩:=c;have M:=s;cases s with
 |cons s I=>
  cases I with
  |cons X9 I=>
   cases I;cases X9;have o:∀{e:Bool},B (.aG e) j->eM b G D B (.bool e) {f with toks:=f.toks+1}:=λ{e} p=>⟨.aG e,j,A.tok _,rfl,p⟩;let⟨@q,k,t⟩:=TU U;have r:e=au->B (.aG au) j:=λd=>d ▸ p;have J:∀{g:af},q=4->(∃m,f.heap.get? g=Z m/\m.cls=.type "dict")->wpAny (aM b.prog b.w) b.A (call (.builtin "isinstance") [.ref g,.type T]) (eM b G D B) b.cW f:=by
    rintro g rfl ⟨m,y,H⟩;refine ph t (λ⟨d,F⟩=>d ▸ IsiPair.dict_int y H (o<|r F)) (λ⟨d,F⟩=>d ▸ IsiPair.dict_bool y H (o<|r F)) (λ⟨d,F⟩=>d ▸ IsiPair.dict_str y H (o<|r F)) λL=>?_;let@⟨d,F⟩:=L;exact d ▸ IsiPair.dict_tuple y H (o<|r F)
   have u:IH b.K j h T e->wpAny (aM b.prog b.w) b.A (call (.builtin "isinstance") [_,.type T]) (eM b G D B) b.cW f:=λN=>NO G f D j _ _ B A M ⟨h,T,e,rfl,N,p⟩;have bT:∀{g:af}{x:List ar},q=4->h=.ref g->df b.K j g x->wpAny (aM b.prog b.w) b.A (call (.builtin "isinstance") [_,.type T]) (eM b G D B) b.cW f:=λ{g x} k d C=>by
    subst k;exact u (.inr<|.inr<|.inr<|.inr ⟨g,x,d,C,ph t (λc=>.inr<|.inl c) (λc=>.inr<|.inr<|.inr<|.inl c) (λc=>.inr<|.inr<|.inl c) λc=>.inr<|.inr<|.inr<|.inr c⟩)
   unfold xd at k;split at k
   ·cases k;exact u (.inl ⟨_,n.i,ph t .inl (λc=>.inr<|.inr<|.inr<|.inl c) (λc=>.inr<|.inr<|.inl c) λc=>.inr<|.inl c⟩)
   ·cases k;exact u (.inr<|.inl ⟨_,n.i,ph t (λc=>.inr<|.inl c) .inl (λc=>.inr<|.inr<|.inr<|.inl c) λc=>.inr<|.inr<|.inl c⟩)
   ·cases k;exact u (.inr<|.inr<|.inl ⟨_,n.i,ph t (λc=>.inr<|.inl c) (λc=>.inr<|.inr<|.inr<|.inl c) .inl λc=>.inr<|.inr<|.inl c⟩)
   ·cases k;let⟨g,@x,d,z,E⟩:=n.i;exact u (.inr<|.inr<|.inr<|.inl ⟨g,x,d,cH.of z,ph t (λc=>.inr<|.inl c) (λc=>.inr<|.inr<|.inr<|.inl c) (λc=>.inr<|.inr<|.inl c) .inl⟩)
   ·cases k;cases (show h=.aW from n.i);cases s;refine ph t (λ⟨d,F⟩=>d ▸ IsiPair.NoneType_int (o<|r F)) (λ⟨d,F⟩=>d ▸ IsiPair.NoneType_bool (o<|r F)) (λ⟨d,F⟩=>d ▸ IsiPair.NoneType_str (o<|r F)) λL=>?_;let@⟨d,F⟩:=L;exact d ▸ IsiPair.NoneType_tuple (o<|r F)
   ·cases k;let⟨W,g,@x,d,z,E,W⟩:=n;exact bT rfl d (df.of z)
   ·cases k;let⟨g,x,@m,d,z,E⟩:=n.i;exact bT rfl d (.inl<|.inr ⟨m,z⟩)
   ·cases k;let⟨g,@m,rfl,z⟩:=n.i;cases s;exact J rfl (Mo A z)
   ·cases k;let⟨W,g,@x,rfl,z,E,W⟩:=n;cases s;exact J rfl (He A<|.inl ⟨_,z⟩)
   ·cases k;let⟨W,g,@x,rfl,z,E,W⟩:=n;cases s;exact J rfl (He A<|.inr ⟨_,z⟩)
   ·cases k
@[simp] def ou(T:String)(I:az bq):az aj:=λy=>(I y).bind λo=>(fa o.2 o.1).bind λv=>(zr T v).map λe=>(.im<|.aG e,o.2)
variable{h:aB}{d:bx}{I:az bq}{Xu:Pos}
theorem q0{o XZ:Pos}(g:dS b "isinstance")(i:b.aH "isinstance" = Y)(k:eT "isinstance" = Z (.builtin "isinstance"))(l:dS b h)(n:b.aH h=Y)(q:eT h=Z (.type T))(c:dR b d I)(r:h ≠ "__name__" := by decide)(hd:(h==("__debug__" : aB))=au:=by decide)(a:bL [d,.Name h XZ] b.env=(au,bZ d b.env)::bL [.Name h XZ] b.env:=by rfl)(t:bL [.Name h XZ] b.env=(au,bZ (.Name h XZ) b.env)::bL [] b.env:=by rfl)(w:(f3 Xu<|bL [.Name h XZ] b.env).any (·.1)=au:=by rfl):cS b (.Call (.Name "isinstance" o) [d,.Name h XZ] [] Xu) (ou T I):=by
 refine eP (EO P6 g i k (xE c (xE (V2 (u:=.ty T) l n q rfl r hd) CT t) a) (by decide) (by decide) a w) λD j B x=>?_;let⟨y,P,s,@XC,X,ag,A,p⟩:=x;let⟨@⟨m,Xl⟩,z,E⟩:=bG.mp A;let⟨@v,C,F⟩:=bG.mp E;let⟨@e,G,H⟩:=cD.mp F;cases H;exact⟨y,P,m,Xl,X,ag,z,λu Xn Xz Xf f XJ J=>⟨u,T,v,e,rfl,XJ.read f C,G,p _ Xn Xz [] f ⟨rfl,rfl⟩ (by rw[cC];exact J.both)⟩⟩
@[simp] noncomputable def pz:aj->Option Bool
 |.im .aW=>Z au
 |.im (.aG e)=>Z e
 |.im (.int a)=>Z (a != 0)
 |.im (.str h)=>if h.length<=100000 then Z ((h.length:Int) != 0) else Y
 |.im (.tup J)=>Z (!J.isEmpty)
 |.lst J=>Z (!J.isEmpty)
 |.dn J=>Z (!J.isEmpty)
 |.dQ Xt=>Z (!Xt.isEmpty)
 |_=>Y
theorem br.emp{J:List V}{x:List ar}(c:br j J x):(!x.isEmpty)=!J.isEmpty:=by
 cases J with
 |nil=>cases (show x=[] from c);rfl
 |cons v J=>let⟨u,@s,rfl,W⟩:=c;rfl
theorem Rk{v:aj}{u:ar}(c:fX j v u)(d:pz v=Z e):xF b.K u j e:=by
 unfold pz at d;split at d
 ·cases d;cases (show u=_ from c.i);rfl
 ·cases d;cases (show u=_ from c.i);rfl
 ·cases d;cases (show u=_ from c.i);rfl
 ·split at d
  ·rename_i f;cases d;cases (show u=_ from c.i);exact⟨nN f,rfl⟩
  ·cases d
 ·cases d;let⟨o,@x,rfl,z,E⟩:=c.i;exact .inr (.inl ⟨x,cH.of z,E.emp.symm⟩)
 ·cases d;let⟨W,o,@x,rfl,z,E,W⟩:=c;exact .inl ⟨x,df.of z,E.emp.symm⟩
 ·cases d;let⟨W,o,x,@m,rfl,z,E,W⟩:=c;exact .inl ⟨x,.inl<|.inr ⟨m,z⟩,E.emp.symm⟩
 ·cases d;let⟨W,o,@M,rfl,z,E,W⟩:=c;refine .inr (.inr ⟨M,z,?_⟩);cases E<;>rfl
 ·cases d
@[simp] def kM(I:az bq):az Bool:=λy=>(I y).bind λo=>(fa o.2 o.1).bind λv=>(pz v).map λe=>(e,o.2)
theorem pK(c:dR b d I)(g:∀a,qT d b.env a=(do let u <-a;standAt d.pos;holding [u] (truthy u)):=by intro W;rfl):i9 b d (kM I):=by
 refine zC (NA c g) λD j B h=>?_;let⟨y,P,e,@XC,X,ag,i,p⟩:=h;let⟨@⟨m,Xl⟩,z,E⟩:=bG.mp i;let⟨@v,k,l⟩:=bG.mp E;let⟨@r,n,o⟩:=cD.mp l;cases o;exact⟨y,P,m,Xl,X,ag,z,λu Xn Xz Xf f XJ q=>⟨_,Rk (XJ.read f k) n,p Xn Xz f q.both⟩⟩
theorem sl{a:Int}{i:hO}(c:dS b h)(d:b.aH h=Z (.int a i))(hd:(h==("__debug__" : aB))=au:=by decide):cS b (.Name h Xu) (aC<|.int a):=rR (BS (u:=.int a) c d ⟨i,rfl⟩ hd) λ_=>rfl
theorem OV{F:af}(a:dS b h)(c:b.aH h=Z (.ref F))(hd:(h==("__debug__" : aB))=au:=by decide):cS b (.Name h Xu) (aC<|.fn F):=rR (BS (u:=.ref F) a c rfl hd) λ_=>rfl
end
variable{m:bx}{I:az (List bq)}{a:Nat}{ty:aj->Bool}{Xd:PySem.W.Frag}{R:gG}{g:af}{T:String}{j:aw}
theorem bu.chg{P Xz:List af}(b:g∈P)(n:gR j g)(ag:Xz.Nodup)(cQ:∀h∈Xz,h∈P):bu j P (upd j g R) Xz:=by
 let⟨@m,d,bQ,c⟩:=n;refine⟨λh L J a=>?_,λh a=>.inl<|cQ h a,ag,fm.of (λh x J=>?_)<|λh o L J=>?_,λh L J=>?_⟩
 ·rw[dp (λC=>a (by rw[C];exact b))];exact J
 ·rw[dp]
  ·exact J
  ·rintro rfl;rw[d]at J;exact bQ x (Option.some.inj J)
 ·rw[dp]
  ·exact J
  ·rintro rfl;rw[d]at J;exact c o L (Option.some.inj J)
 ·by_cases a:h=g
  ·subst a;exact⟨R,e_⟩
  ·exact⟨L,(dp a).trans J⟩
theorem cL.oC(n:gR j g):p3 j (upd j g R):=(bu.chg (P:=[g]) (Xz:=[]) (.head _) n iH<|λh a=>nomatch a).tup.tup
def vx(b:aO)(id:String)(d0:aj->List aj->Option (aj×aj)):Prop:=
 wN b id λh Xc j B=>∃n J s a Xf Xr,cT j n h Xf/\dP j J Xc Xr/\(Xf++Xr).Nodup/\d0 n J=Z (s,a)/\∀u N c b4,cT N s u c->cT N a h b4->bu j (Xf++Xr) N (c++b4)->B u N
@[simp] noncomputable def hr:aj->Bool
 |.lst _=>aa
 |.ib _=>aa
 |_=>au
@[simp] def gm(ty:aj->Bool)(a:Nat)(d0:aj->List aj->Option (aj×aj))(I:az (List bq)):az aj:=λy=>match y[a]? with
 |some (Z b)=>if ty b=aa then (I y).bind λo=>(es o.1 o.2).bind λp=>match p.2[a]? with
   |some (Z n)=>(d0 n p.1).map λs=>(s.1,p.2.set a<|Z s.2)
   |_=>Y
  else Y
 |_=>Y
theorem Ub{d0:aj->List aj->Option (aj×aj)}{D:a3}{B:cP}(A:∀j n h Xf,cT j n h Xf->ty n=aa->qj Xd T h j)(c:oF (gm ty a d0 I) D j B):∃h,D[a]?=Z (Z h)/\qj Xd T h j/\hq I D j λXc XD=>∃n J s e Xf Xr,cT XD n h Xf/\dP XD J Xc Xr/\(Xf++Xr).Nodup/\d0 n J=Z (s,e)/\∀u N i b4,cT N s u i->cT N e h b4->bu XD (Xf++Xr) N (i++b4)->B u N:=by
 let⟨y,P,s,@XC,X,ag,b,p⟩:=c;unfold gm at b;split at b
 ·rename_i C F;split at b
  ·rename_i bQ;let⟨h,as,@a1,k,jD,W,W⟩:=X.out F;refine⟨h,k,A j C h _ jD bQ,?_⟩;let⟨@⟨Xw,Xl⟩,z,E⟩:=bG.mp b;let⟨@⟨J,XO⟩,G,f⟩:=bG.mp E;refine⟨y,P,Xw,Xl,X,ag,z,λXc Xn Xz i H XJ L=>?_⟩;let⟨XS,@Xr,M,XQ,XP⟩:=nH H XJ G;dsimp only at f;split at f
   ·rename_i n R;let⟨@⟨X9,e⟩,S,U⟩:=cD.mp f;cases U;let⟨a2,Xf,@o,q,dw,r,al⟩:=M.out R;rw[k]at q;cases q;have t:bu j P Xn ((Xf++Xr)++o):=L.kN (XP.symm.trans ((fs Xr al.symm).trans (by
     rw[bt];exact dx)))
    have v:=dN.mp t.ag;refine⟨n,J,_,e,Xf,Xr,dw,XQ,v.1,S,λu N O X6 fR gL l=>?_⟩;have am:bC N (XO.set a<|Z .ed) D o:=r.mono l.tup λg an m d=>l.keep g m d λc=>v.2.2 g c g an rfl;let⟨w,@Q,x,ap⟩:=am.back gL k;rw[xu]at x;refine p u N w O x fR ((t.trans l r.chg).less (aP:=Q) ?_);rw[bt];refine (d5 w dx).trans ?_;rw[<-bt];refine (fs O ap).trans ?_;rw[bt];refine dx.trans ?_;rw[bt];refine dx.trans ?_;rw[bt,bt];refine (d5 O ?_);exact dx
   ·cases f
  ·cases b
 ·cases b
section
variable{b:aO}
theorem jE:∀(j:aw) (n:aj) (h:ar) (Xf:List af),cT j n h Xf->hr n=aa->qj Xd "list" h j:=by
 intro j n h Xf c d;cases n with
 |lst J=>let⟨g,@x,rfl,z,W⟩:=c;exact .inl ⟨rfl,x,df.of z⟩
 |ib J=>let⟨g,x,@Q,rfl,z,W⟩:=c;exact .inl ⟨rfl,x,df.of z⟩
 |_=>cases d
theorem jz{name:aB}{id:String}{d0:aj->List aj->Option (aj×aj)}{d:bx}{S:List bx}{Q q:Pos}(e:∀j n h Xf,cT j n h Xf->ty n=aa->qj b.K T h j)(bM:PlainAttrs T)(Yp:Slot T name id)(bQ:ud (.builtin id)=pure (.type "method_descriptor"))(f:vx b id d0)(g:b6 b m (qf a))(i:fL b (d::S) I)(k:wI m name b.env (bZ m b.env)=bZ m b.env:=by rfl)(l:((f3 q<|bL (d::S) b.env).all (λh=>!h.1)&&(uQ q<|wX [] b.env).all (λh=>h.1.isSome)
   && decide ((d::S).length+([]:List l9).length+(if ([]:List l9).isEmpty then 0 else 1)<30))=aa:=by rfl)(o:(Q.endLine==q.line)=aa:=by rfl)(Xi:bL (d::S) b.env=(au,bZ d b.env)::bL S b.env:=by rfl)(p:(f3 q<|bL S b.env).any (·.1)=au:=by rfl):
  cS b (.Call (.Attribute m name Q) (d::S) [] q) (gm ty a d0 I):=
 eP (VL bM Yp bQ f g i k l o Xi p) λD j B c=>by
  let⟨@h,r,z,E⟩:=Ub e c;exact⟨h,r,z,E⟩
@[simp] noncomputable def hH:aj->List aj->Option (aj×aj):=λn J=>match n,J with
 |.lst x,[.im v]=>if x.length<100000 then Z (.im .aW,.lst<|x++[v]) else Y
 |_,_=>Y
theorem xx{w:Nat}(c:w<100000):w<sizeLine:=fI c (by decide)
theorem qh:vx b "list.append" hH:=by
 intro G f D j h Xc u XE B A a c ⟨n,J,s,q,Xf,Xr,e,k,ag,d,p⟩;unfold hH at d;split at d
 ·split at d
  ·rename_i l;cases d;let⟨g,@Xp,rfl,z,E,rfl⟩:=e;let⟨H,i,r,@t,rfl,@⟨m,rfl⟩,@⟨rfl,rfl⟩,rfl⟩:=k;have n:gR j g:=⟨_,z,(λ_ d=>by cases d),(λ_ W d=>by cases d)⟩;refine LC G f D j _ _ u XE B A a c ⟨g,Xp,H,rfl,rfl,z,xx (by rw[<-E.length];exact l),p .aW _ [] [g] ⟨rfl,rfl⟩ ?_ (bu.chg (.head _) n (fP _ _) λh o=>by simpa using o)⟩;exact⟨g,_,rfl,e_,(E.snoc m).mono<|cL.oC n,rfl⟩
  ·cases d
 ·cases d
@[simp] noncomputable def nt:aj->List aj->Option (aj×aj):=λn J=>match n,J with
 |.lst x,[.im (.int a)]=>if 0<=a/\a<x.length then (x[a.toNat]?).map λv=>(.im v,.lst<|x.eraseIdx a.toNat) else Y
 |_,_=>Y
theorem br.erase:∀{J:List V}{x:List ar} (w:Nat),br j J x->br j (J.eraseIdx w) (x.eraseIdx w)
 |[],x,w,c=>by cases (show x=[] from c);exact rfl
 |v::J,x,0,c=>by let⟨u,@s,rfl,z,E⟩:=c;exact E
 |v::J,x,w+1,c=>by let⟨u,@s,rfl,z,E⟩:=c;exact⟨u,_,rfl,z,E.erase w⟩
theorem Dj:vx b "list.pop" nt:=by
 intro G f D j h Xc u XE B A c e ⟨n,J,s,x,Xf,Xr,k,l,ag,d,p⟩;unfold nt at d;split at d
 ·rename_i a;split at d
  ·rename_i U;let⟨@v,m,o⟩:=cD.mp d;cases o;let⟨g,@Xp,rfl,z,E,rfl⟩:=k;let⟨H,i,y,@C,rfl,@⟨q,rfl⟩,@⟨rfl,rfl⟩,rfl⟩:=l;cases (show H=.int a from q);let⟨@H,r,t⟩:=E.get m;have n:gR j g:=⟨_,z,(λ_ d=>by cases d),(λ_ W d=>by cases d)⟩;have F:Xp.length<=sizeLine:=(A.aZ g _ z).1;have I:=oq;refine Vx G f D j _ _ u XE B A c e ⟨g,Xp,a,a.toNat,H,rfl,rfl,z,⋯,by have:=E.length;lia,vO U.1 (by rw[<-E.length];exact U.2),r,p H _ [] [g] ⟨t.mono<|cL.oC n,rfl⟩ ?_ (bu.chg (.head _) n (fP _ _) λh w=>by simpa using w)⟩;exact⟨g,_,rfl,e_,(E.erase _).mono<|cL.oC n,rfl⟩
  ·cases d
 ·cases d
@[simp] noncomputable def m8:aj->List aj->Option (aj×aj):=λn J=>match n,J with
 |.lst x,[.lst Xp]=>if x.length+Xp.length<=100000 then Z (.im .aW,.lst<|x++Xp) else Y
 |_,_=>Y
theorem uw:vx b "list.extend" m8:=by
 intro G f D j h Xc u XE B A k l ⟨n,J,s,t,Xf,Xr,m,o,ag,d,p⟩;unfold m8 at d;split at d
 ·split at d
  ·rename_i q;cases d;let⟨g,@Xp,rfl,z,E,rfl⟩:=m;let⟨H,i,v,@w,rfl,⟨e,@Q,rfl,r,a,rfl⟩,@⟨rfl,rfl⟩,rfl⟩:=o;have n:gR j g:=⟨_,z,(λ_ d=>by cases d),(λ_ W d=>by cases d)⟩;refine Q4 G f D j _ _ u XE B A k l ⟨g,e,Xp,Q,rfl,rfl,z,r,nN (by rw[<-E.length,<-a.length];exact q),p .aW _ [] [g] ⟨rfl,rfl⟩ ?_ (bu.chg (.head _) n (fP _ _) λh c=>by
    rw[jb]at c;exact gc _ c)⟩
   exact⟨g,_,rfl,e_,(E.app a).mono<|cL.oC n,rfl⟩
  ·cases d
 ·cases d
def wm(b:aO)(pt:aj->aj->aj->Option aj):Prop:=
 Bx b λm a u j B=>∃n q v c Xf Xr,cT j n m Xf/\cT j q a []/\cT j v u Xr/\(Xf++Xr).Nodup/\pt n q v=Z c/\∀N d,cT N c m d->bu j (Xf++Xr) N d->B N
@[simp] def nL(n q v:aj):Option aj:=match n,q,v with
 |.lst x,.im<|.int a,.im v=>(l6 x.length a).map λr=>.lst (x.set r v)
 |_,_,_=>Y
theorem br.set{j:aw}{v:V}{u:ar}(l:cL j v u):∀{J:List V}{x:List ar} (w:Nat),br j J x->br j (J.set w v) (x.set w u)
 |[],x,w,c=>by cases (show x=[] from c);exact rfl
 |d::J,x,0,c=>by let⟨L,@s,rfl,z,E⟩:=c;exact⟨u,s,rfl,l,E⟩
 |d::J,x,w+1,c=>by let⟨L,@s,rfl,z,E⟩:=c;exact⟨L,_,rfl,z,br.set l w E⟩
theorem Dr:wm b nL:=by
 intro G f D j m a u c e L B A k i l ⟨n,q,v,y,Xf,Xr,o,d4,s,ag,d,p⟩;unfold nL at d;split at d
 ·let⟨@r,t,w⟩:=cD.mp d;cases w;let⟨g,@Xp,rfl,z,E,rfl⟩:=o;let@⟨hd,rfl⟩:=s;have n:gR j g:=⟨_,z,(λ_ d=>by cases d),(λ_ W d=>by cases d)⟩;refine We G f D j _ _ _ c e L B A k i l ⟨g,Xp,_,r,rfl,d4.1,z,by rw[<-E.length];exact t,p _ [g] ?_ (bu.chg (.head _) n (fP _ _) λh x=>by simpa using x)⟩;exact⟨g,_,rfl,e_,(br.set hd r E).mono<|cL.oC n,rfl⟩
 ·cases d
@[simp] noncomputable def j6(a:Nat)(b:az aj)(pt:aj->aj->aj->Option aj):fi:=λv y=>match y[a]? with
 |some (Z _)=>(b y).bind λo=>if o.1.d7=aa then match o.2[a]? with
   |some (Z n)=>(pt n o.1 v).map λc=>o.2.set a (Z c)
   |_=>Y
  else Y
 |_=>Y
theorem rI{XX:List Nat}{q:bx}{s:az aj}{pt:aj->aj->aj->Option aj}{Xu:Pos}(H:b6 b m (qf a))(I:cS b q s)(J:wm b pt)(e:∀u,js (.Subscript m q Xu) b.env u=(do
   let f <-holding [u] (bZ m b.env)
   let l <-holding [u,f] (bZ q b.env)
   standAt Xu
   holding [u,f,l] (uT f l u)
   release [u,f,l] []):=by intro W;rfl):iR b XX (.Subscript m q Xu) (j6 a s pt):=by
 refine xO (R0 H I J e) λu D j B L=>?_;let⟨y,P,v,Xf,@XC,X,XQ,ag,i,p⟩:=L;unfold j6 at i;split at i
 ·rename_i bi M;let⟨h,bm,@bn,o,jD,W,W⟩:=X.out M;let⟨@⟨cR,Xl⟩,z,E⟩:=bG.mp i;split at E
  ·rename_i O;refine⟨h,o,y,P,cR,Xl,X,(dN.mp ag).1,z,λbs Xn Xz bv R d4 k=>?_⟩;obtain rfl:=d4.d7 O;rw[cC]at k;have S:=dN.mp ag;dsimp only at E;split at E
   ·rename_i n T;let⟨@U,al,am⟩:=cD.mp E;cases am;let⟨ca,t,@w,x,dw,A,an⟩:=R.out T;rw[o]at x;cases x;have ap:cT Xn v u Xf:=XQ.mono k.tup λg e m d=>k.keep g m d λc=>S.2.2 g c g e rfl;have C:bu j (P++Xf) Xn ((t++Xf)++w):=by
     have as:bu j (P++Xf) j (P++Xf):=bu.perm ag (List.Perm.refl _);have:=bu.trans (Xz:=P) (Xf:=Xf) as k XQ.chg;refine this.kN ((fs Xf an.symm).trans ?_);rw[bt];exact dx
    have F:=dN.mp C.ag;refine⟨n,cR,v,U,t,Xf,dw,d4,ap,F.1,al,λN cd a1 r=>?_⟩;have a2:bC N (Xl.set a<|Z .ed) D w:=A.mono r.tup λg e m d=>r.keep g m d λc=>F.2.2 g c g e rfl;let⟨bd,@Q,G,be⟩:=a2.back a1 o;rw[xu]at G;exact p D N bd dm.refl G ((C.trans r A.chg).less<|be.trans dx)
   ·cases E
  ·cases E
 ·cases i
end
section
variable{Xm:bJ}{l:bc}{O:bw}{Xg:ab->ah->Prop}{f:ah}
end
section
variable{b:aO}
end
end L2
namespace L2
open PySem PySem.Spec PyProof.Rows PySem.W
variable{XA:List Int}{o:Array Nat}{Xx:Type}
theorem Si(t:List Xx)(v:Xx):(range t.length).map (λa=>t.getD a v)=t:=by
 apply xX
 ·simp
 ·intro a z E;simp[List.getD,E]
theorem vo{t:List Xx}{v:Xx}(c:b7 t.length o):(o.toList.map λa=>t.getD a v).Perm t:=by
 have:=vt (λa=>t.getD a v) c;rw[Si]at this;exact this
theorem si{Xx Ya:Type}{P:Xx->Ya->Prop}:∀{b:List Xx}{d:List Ya},b.length=d.length->(∀(a:Nat) g e,b[a]?=Z g->d[a]?=Z e->P g e)->dY P b d
 |[],[],_,_=>.nil
 |g::t,e::k,c,F=>.cons (F 0 g e rfl rfl) (si (by simpa using c) λa h H z E=>F (a+1) h H (by simpa using z) (by simpa using E))
 |[],_::_,c,_=>by simp at c
 |_::_,[],c,_=>by simp at c
section
variable{Xm:bJ}{l:bc}{O:bw}{Xg:ab->ah->Prop}{f:ah}{Xc:List ab}
theorem yX{X6:af}{p:Nat}{Xs:PySem.Fin->ah->Prop}(Q:Nat->Int)(XG:g9)(h:f.heap.get? X6=Z (fN "list" Xc.toArray p))(D:2<=Xc.length->∀b:aV,(∀e m,e≠X6->f.heap.get? e=Z m->b.get? e=Z m)->∀B:g9->ah->Prop,B XG {f with heap:=b}->wpAny (aM Xm l) O (yu Xc.toArray) B Xg {f with heap:=b})(F:∀b:aV,(∀e m,e≠X6->f.heap.get? e=Z m->b.get? e=Z m)->gq Xc.length Q (fK Xm l O XG<|Xc.toArray.zip Xc.toArray) {f with heap:=b})(G:Xc.length<1001\/∀r,1<=r->r<Xc.length->Q (r-1)<=Q r)(H:Xc.length<=1000)(c:∀(o:Array Nat) (M:aV),b7 Xc.length o->iS Q o Xc.length->(∀e m,e≠X6->f.heap.get? e=Z m->M.get? e=Z m)->(∃d,M.get? X6=Z (fN "list" (o.toList.map λa=>Xc.getD a ab.none).toArray d))->
   Xs (.done<|.ret .none) {f with heap:=M}):wpAny (aM Xm l) O (aX.«list.sort» ⟨[.ref X6],[]⟩) Xs Xg f:=by
 have y:Xc.length<=sizeLine:=e0 H (by decide);rw[list_sort_plain];have T:X6<f.heap.objs.size:=bI h;refine ak (listItems_at h rfl (ak (G5 h rfl ?_ (hsz:=by rw[cO];exact y) (hsz2:=by show 0<=_;exact gC _))));have q:=Hk h (λ_=>#[]);generalize U:(if (#[]:Array ab).size==Xc.toArray.size then p else p+1)=z at q;refine ak (seqEpoch_at q rfl (ak (yj (ak<|vl<|fl ?_) (by simpa using y))));have i:∀e m,e≠X6->f.heap.get? e=Z m->(((f.heap.update X6<|a0.mapSeq λ_=>#[]).push<|fN "tuple" Xc.toArray.toList.toArray 0).push<|fN "list" ([]:List ab).toArray 0).get? e=Z m:=λe m j d=>
  bH _ (bH _<|(gw _ _<|eN j).trans d);have A:(((f.heap.update X6<|a0.mapSeq λ_=>#[]).push<|fN "tuple" Xc.toArray.toList.toArray 0).push<|fN "list" ([]:List ab).toArray 0).get? X6=Z (fN "list" #[] z):=
  bH _ (bH _ q);show wpAny (aM Xm l) O _ Xs Xg {f with heap:=((f.heap.update X6<|a0.mapSeq λ_=>#[]).push<|fN "tuple" Xc.toArray.toList.toArray 0).push (fN "list" ([]:List ab).toArray 0)};generalize ((f.heap.update X6<|a0.mapSeq λ_=>#[]).push<|fN "tuple" Xc.toArray.toList.toArray 0).push (fN "list" ([]:List ab).toArray 0)=b at i A ⊢;have C:∀(X:bB) (o:Array Nat),b7 Xc.length o->iS Q o Xc.length->arrOf X=o.map (bg<|Xc.toArray.zip Xc.toArray)->iE X=Y->
   wpAny (aM Xm l) O (do
    let N:=(<-seqEpoch X6) != z
    aX.List.listUpdate (.ref X6) λ_=>(arrOf X).map (·.2)
    if let Z d:=iE X then rule "list.sort.comparison-raised";throw d
    if N then rule "list.sort.modified";raiseError "ValueError" "list modified during sort"
    ret .none) Xs Xg {f with heap:=b}:=λX o k t u w=>by
  have out:=kat_snds (ks:=Xc) (vs:=Xc) rfl u;rw[out,w];refine ak (seqEpoch_at (s:={f with heap:=b}) A rfl (ak (G5 (s:={f with heap:=b}) A rfl ?_ (hsz:=gC _) (hsz2:=by
   show (List.toArray<|o.toList.map λa=>Xc.getD a ab.none).size<=_;rw[cO,a9,dr,k.size];lia))))
  simp only[bne_self_eq_false,gQ,fx];refine aK (c o _ k t (λe m j d=>(gw _ _<|eN j).trans<|i e m j d) ⟨_,Hk A λ_=>_⟩)
 dsimp only;by_cases E:Xc.toArray.size<2
 ·rw[aA E,aA E];refine ak (aK ?_);rw[StateT.run_pure];apply ak;apply aK;have x:Xc.length<2:=by simpa using E
  refine C (bB.mk' general' (Xc.toArray.zip Xc.toArray) #[] 7 Y) (range Xc.length).toArray (List.Perm.refl _) (λa r al am=>?_) ?_ rfl
  ·have:a=r:=⋯
   subst this;exact hB _
  ·have:=kas_range (Xc.toArray.zip Xc.toArray);rw[show (Xc.toArray.zip Xc.toArray).size=Xc.length by simp]at this;exact this.symm
 ·rw[aI E,aI E];have x:2<=Xc.length:=by simpa using E
  refine ak (D x b i _ ?_)
  ·have P:=F b i;have iV:=kas_range (Xc.toArray.zip Xc.toArray);rw[show (Xc.toArray.zip Xc.toArray).size=Xc.length by simp]at iV;have run:=Qg (Xg:=Xg) (B:=λ_ X Xe=>Xe={f with heap:=b}/\∃o,b7 Xc.length o/\iS Q o Xc.length/\arrOf X=o.map (bg<|Xc.toArray.zip Xc.toArray)/\iE X=Y) P
    x G λR an g e n v=>⟨rfl,R,g,e,n,v⟩;unfold vV at run;rw[iV]at run;refine ak (gT run (λs Xe S=>?_) λ_ W d=>d);let⟨L,X⟩:=s;let@⟨rfl,⟨@o,k,t,u,w⟩⟩:=S;exact C X o k t u w
end
section
variable{b:aO}{G:List (af×a0)}{D:L2.a3}{j:aw}{f:ah}
theorem Fi(bi:b.calm=aa){g:af}{Xp:List ar}{Xq:List ab}{w:Nat}{T:String}{m:a0}{B:cP}(Q:Nat->Int)(XG:g9)(A:aE b G D j f)(F:bY Xp Xq)(R:T = "list" \/ T = "tuple")(d:f.heap.get? g=Z m)(aC:m.cls=.type T)(S:m.data=.seq Xq.toArray w)(bm:Xp.length<=1000)(U:2<=Xq.length->∀(c:aV) (XT:Nat),(∀e m,f.heap.get? e=Z m->c.get? e=Z m)->∀(O:bw) (Xg:ab->ah->Prop) (B:g9->ah->Prop),B XG {f with heap:=c,toks:=XT}->wpAny (aM b.prog b.w) O (yu Xq.toArray) B Xg {f with heap:=c,toks:=XT})(al:∀(c:aV) (XT:Nat),(∀e m,f.heap.get? e=Z m->c.get? e=Z m)->gq Xq.length Q (fK b.prog b.w b.A.in1.in1 XG<|Xq.toArray.zip Xq.toArray) {f with heap:=c,toks:=XT})(am:Xq.length<1001\/∀r,1<=r->r<Xq.length->Q (r-1)<=Q r)(p:∀(o:Array Nat) t,b7 Xq.length o->iS Q o Xq.length->j t=Y->B (.ref t) (upd j t<|.lst<|o.toList.map λa=>Xp.getD a .aW)):
  wpAny (aM b.prog b.w) b.A (call (.builtin "sorted") [.ref g]) (eM b G D B) b.cW f:=by
 have bn:Xp.length=Xq.length:=F.length;have I:Xq.length<=sizeLine:=e0 ⋯ (show 1000<=sizeLine by decide);refine za A2 yD yI (BA _) ?C
 case C=>
  unfold aX.«sorted»;refine ak (m:=Bc "sorted" 1 1 _) (aK (ak (wpAny_collect_seq g R d aC S (λM s=>?_) (by rw[cO];exact I))));show wpAny _ _ (n3 Xq >>= _) _ _ _;refine ak (vl ?_ I);have Yn:(M.push<|fN "list" Xq.toArray 0).get? M.objs.size=Z (fN "list" Xq.toArray 0):=cI _ rfl;have cg:∀e m,f.heap.get? e=Z m->(M.push<|fN "list" Xq.toArray 0).get? e=Z m:=λe m d=>bH _ (s e m d);have J:aE b G D j {f with heap:=M}:=A.kept (XM:=f.toks) s;have N:∀e m,f.heap.get? e=Z m->e≠M.objs.size:=λe m d=>cZ (bI<|s e m d);refine ak (fl<|hA x4 ⟨_,Yn,rfl⟩ y1 ?H<|z_ _)
  case H=>
   refine yX (f:={f with heap:=M.push (fN "list" Xq.toArray 0)}) Q XG Yn (λE c v B an=>U E c f.toks (λe m i=>v e m (N e m i)<|cg e m i) _ _ B an) (λc v=>al c f.toks λe m i=>v e m (N e m i)<|cg e m i) am ⋯ λo E x ap XH ⟨as,a1⟩=>⟨_,rfl,aK ⟨_,rfl,?_⟩⟩;have a2:j M.objs.size=Y:=J.aZ.fresh (ba _);have bd:∀e m,M.get? e=Z m->e≠M.objs.size:=λe m d=>cZ (bI d);refine⟨.ref M.objs.size,upd j M.objs.size<|.lst<|o.toList.map λa=>Xp.getD a .aW,?_,rfl,p o _ x ap a2⟩;refine J.laid (XM:=f.toks) (λe L d=>XH e L (bd e L d)<|bH _ d) (ba _) ⟨?_,_,as,?_,a1⟩
   ·rw[a9,dr,x.size];lia
   ·refine si (by simp) λa u L z E=>?_;rw[dZ]at z E;cases y:o.toList[a]? with
    |none=>rw[y]at z;cases z
    |some q=>
     rw[y]at z E;cases z;cases E;have P:q<Xq.length:=eJ.mp (x.mem_iff.mp<|fH y);let⟨@L,n,be⟩:=F.get (a:=q) (h:=Xp[q]'⋯) (by simp[show q<Xp.length by lia]);rw[dv P]at n;have n:=Option.some.inj n;simp only[List.getD,dv P,dv (show q<Xp.length by lia),sq];rw[n];exact be
end
def qH(XA:List Int)(a:Nat):Int:=XA.getD a 0
theorem Wk(ag:XA.Nodup):∀a r,a<XA.length->r<XA.length->qH XA a=qH XA r->a=r:=λa r U b d=>by
 unfold qH at d;rw[cM,cM,dv U,dv b]at d;have e:XA[a]=XA[r]:=d;rcases rO a r with c|c|c
 ·exact absurd e ((nF.mp ag) a r U b c)
 ·exact c
 ·exact absurd e.symm ((nF.mp ag) r a b U c)
theorem Rl(b:b7 XA.length o)(f:iS (qH XA) o XA.length)(ag:XA.Nodup):(o.toList.map λa=>XA.getD a 0).Pairwise (· < ·):=by
 rw[nF];intro a r U c g;have Xi:=b.size;have i:a<XA.length:=by simpa [Xi] using U
 have d:r<XA.length:=by simpa [Xi] using c
 have ne:=b.ne (Wk ag) g d;have le:=f a r ⋯ d;have I:∀q (e:q<(o.toList.map λa=>XA.getD a 0).length),(o.toList.map λa=>XA.getD a 0)[q]=bb (qH XA) o q:=λq e=>by
  have h:q<o.size:=by simpa using e
  rw[IV,Dg];show _=XA.getD (o.getD q 0) 0;simp[Array.getD,h]
 rw[I a U,I r c];lia
section
variable{b:aO}
theorem u3{j:aw}:∀{XA:List Int}{Xq:List ab},bY (XA.map ar.int) Xq->∀(a:Nat),a<XA.length->∃i,Xq[a]?=Z (.int (XA.getD a 0) i)
 |w::s,_,.cons g e,0,c=>by let⟨@i,rfl⟩:=g;exact⟨i,rfl⟩
 |w::s,_,.cons g e,a+1,c=>by
  let⟨@i,d⟩:=u3 (j:=j) e a (by simpa using c);exact⟨i,by simpa using d⟩
theorem PR(n:b.calm=aa):eK b (.builtin "sorted") (λx j B=>∃(g:af) (XA:List Int),x=[.ref g]/\j g=Z (.lst<|XA.map ar.int)/\XA.Nodup/\XA.length<=1000/\
  ∀t (k:List Int),j t=Y->k.Perm XA->k.Pairwise (· < ·)->B (.ref t) (upd j t<|.lst<|k.map ar.int)):=by
 intro G f D j x XE B A s c;let⟨g,@XA,rfl,v,ag,y,p⟩:=c;let⟨@L,rfl,F⟩:=hK s;cases F;let@⟨C,⟨Xq,@w,e,d⟩⟩:=A.aZ g _ v;have l:Xq.length=XA.length:=by rw[<-e.length,a9]
 refine Fi n (qH XA) oneType' A e (.inl rfl) d rfl rfl (by rw[a9];exact y) (λE H XT q O Xg B I=>?_) (λH XT q=>?_) (.inl ⋯) λo t h m aU=>?_
 ·refine kas_kind (T:=ab.type "int") E (λu J=>?_) (by decide) (by decide) I;let⟨@a,U⟩:=uV J;let⟨@i,bQ⟩:=u3 (j:=j) e a (by rw[<-l];exact (ek.mp U).1);rw[U]at bQ;cases bQ;exact Iq rfl
 ·intro a r aP U Q p;let⟨@i,z⟩:=u3 (j:=j) e a ⋯;let⟨@L,E⟩:=u3 (j:=j) e r ⋯;unfold fK;rw[tP rfl,tP rfl,cM,cM,z,E];show wpAny _ _ (keyLt' oneType' (.int _ i)<|.int _ L) _ _ _;rw[keyLt'_oneType];exact oneLt_int p
 ·rw[l]at h m;have M:(o.toList.map λa=>(XA.map ar.int).getD a .aW)=(o.toList.map λa=>XA.getD a 0).map ar.int:=by
   rw[eD];refine mL λq N=>?_;have P:q<XA.length:=eJ.mp (h.mem_iff.mp N);show (XA.map ar.int).getD q .aW=ar.int (XA.getD q 0);simp[List.getD,P]
  rw[M];exact p t _ aU (vo h) (Rl h m ag)
end
end L2
namespace L2
open PySem PySem.Spec PyProof.Rows
variable{I:az (List bq)}{Xo o Xu:Pos}{R XH XF a:Nat}{S:List bx}{Xd:PySem.W.Frag}{aR aQ e:Bool}{B:ab->ah->Prop}{h:ab}{Xy Xp x:Array ab}{Xj i g:af}{f:ah}{j:aw}{D:a3}{G:List (af×a0)}{b:aO}{M c:aV}
def fw(e:Bool)(c:aV)(Xj g:af)(a:Nat):Prop:=if e=aa then c.IsListIter Xj g a else c.IsTupleIter Xj g a
def gn(e:Bool)(c:aV)(g:af)(x:Array ab):Prop:=if e=aa then c.IsList g x else c.IsTuple g x
def e7(e:Bool)(Xd:PySem.W.Frag)(j:aw)(g:af)(x:List ar):Prop:=if e=aa then df Xd j g x else cH Xd j g x
def e5(e:Bool):String:=if e=aa then "list_iterator" else "tuple_iterator"
theorem fb(h:fw e c g i a)(q:∀m,c.get? g=Z m->M.get? g=Z m):fw e M g i a:=by
 cases e with
 |true=>let⟨@m,d,s⟩:=h;exact⟨m,q m d,s⟩
 |false=>let⟨@m,d,s⟩:=h;exact⟨m,q m d,s⟩
theorem kO(h:gn e c g x)(q:∀m,c.get? g=Z m->M.get? g=Z m):gn e M g x:=by
 cases e with
 |true=>let⟨@m,d,s⟩:=h;exact⟨m,q m d,s⟩
 |false=>let⟨@m,d,s⟩:=h;exact⟨m,q m d,s⟩
theorem lI(h:fw e c g i a):∃m,c.get? g=Z m/\∀u,m.data≠.cell u:=by
 cases e with
 |true=>let⟨@m,d,W,v⟩:=h;exact⟨m,d,λu C=>by rw[v]at C;cases C⟩
 |false=>let⟨@m,d,W,v⟩:=h;exact⟨m,d,λu C=>by rw[v]at C;cases C⟩
theorem pP(h:gn e c g x):∃m,c.get? g=Z m:=by
 cases e with
 |true=>let⟨@m,d,W⟩:=h;exact⟨m,d⟩
 |false=>let⟨@m,d,W⟩:=h;exact⟨m,d⟩
theorem wA(d:c.get? g=Z {cls:=.type (e5 e),data:=.fields #[.ref i,.int 0 0]}):fw e c g i 0:=by
 cases e with
 |true=>exact⟨_,d,rfl,rfl⟩
 |false=>exact⟨_,d,rfl,rfl⟩
theorem aE.h6{x:List ar}(A:aE b G D j f)(c:e7 e b.K j g x):∃Xq:List ab,bY x Xq/\gn e f.heap g Xq.toArray/\x.length<=sizeLine:=by
 cases e with
 |true=>
  let⟨@Xq,s,o,C⟩:=A.list c;exact⟨Xq,s,o.isList,C⟩
 |false=>
  let⟨@Xq,s,o,C⟩:=A.tuple c;exact⟨Xq,s,o,C⟩
theorem aE.DJ{x Xp:List ar}(A:aE b G D j f)(c:e7 e b.K j g x)(M:e7 e b.K j g Xp):x=Xp:=by
 cases e with
 |true=>exact A.D1 c M
 |false=>exact A.DW c M
section
variable{Xm:bJ}{l:bc}{O:bw}{Xg:ab->ah->Prop}{f:ah}
theorem q9(b:fw e f.heap Xj i a)(bQ:gn e f.heap i Xy)(c:Xy[a]?=Z h)(p:∀M,fw e M Xj i (a+1)->aV.SameBut Xj f.heap M->B h {f with heap:=M}):wpAny (aM Xm l) O (aX.SmallTypes.nextOf<|.ref Xj) B Xg f:=by
 cases e with
 |true=>exact wpAny_nextOf_list_item b bQ c p
 |false=>exact U5 b bQ c p
theorem t5(b:O.handled=Y)(c:fw e f.heap Xj i a)(bQ:gn e f.heap i Xy)(g:Xy[a]?=Y)(p:∀M d,aV.ExtBut Xj f.heap M->(∃m,M.get? d=Z m/\m.cls=.type "StopIteration")->Xg (.ref d) {f with heap:=M}):wpAny (aM Xm l) O (aX.SmallTypes.nextOf<|.ref Xj) B Xg f:=by
 cases e with
 |true=>exact wpAny_nextOf_list_end b c bQ g p
 |false=>exact NK b c bQ g p
variable{e g:ab}
theorem Er{C bF bD b c p q:af}{H:ab}(y:lr C bF bD b c p q)(r:jY f.heap C bF bD .none)(ap:gg f.heap bF (.ref b) (.ref c))(as:gg f.heap bD g e)(z:fw aQ f.heap b p XF)(E:fw aR f.heap c q XH)(a1:gn aQ f.heap p x)(a2:gn aR f.heap q Xp)(bd:x[XF]?=Z h)(be:Xp[XH]?=Z H)(bi:∀M,jY M C bF bD (ey f.heap.objs.size)->gg M bD h H->fw aQ M b p (XF+1)->fw aR M c q (XH+1)->gg M f.heap.objs.size h H->
   (∀n m,n≠C->n≠bD->n≠b->n≠c->f.heap.get? n=Z m->M.get? n=Z m)->B (.ref f.heap.objs.size) {f with heap:=M}):
  wpAny (aM Xm l) O (aX.«zip.__next__» ⟨[.ref C],[]⟩) (λbm Xe=>∃u,bm=.done (.ret u)/\B u Xe) Xg f:=by
 show wpAny _ _ (jc (.ref C) 2 >>= _) _ _ _;refine ak (gd r rfl (x:=.bool au) rfl ?_);show wpAny _ _ (jc (.ref C) 3 >>= _) _ _ _;refine ak (gd r rfl (x:=.ref bF) rfl<|ak<|gJ ap rfl ?_);show wpAny _ _ (aX.SmallTypes.ownedTupleIsFree (.ref C) >>= _) _ _ _;apply ak;unfold aX.SmallTypes.ownedTupleIsFree;refine ak (gd r rfl (x:=.none) rfl<|aK ?_);simp only[ie];refine ak (h7 (ak (gd r rfl (x:=.ref bD) rfl (ak (oZ r (by simp) λQ F i=>?_)))));replace F:jY Q C bF bD .ellipsis:=F;apply ak;simp only[z2,Ca,sg,w4];refine ak (ak<|w0 ?_);show wpAny _ _ (aX.SmallTypes.nextOf (.ref b) >>= _) _ _ _;refine ak (q9 (f:={f with heap:=Q}) (fb z λm d=>i.extBut _ m y.i1z d) (kO a1 λm d=>i.extBut _ m y.l1z d) bd λG Yb k=>aK ?_);have XR:gg G bD g e:=k.extBut _ _ y.TOi1 (i.extBut _ _ y.TOz as);refine ak (gJ (s:={f with heap:=G}) XR rfl<|ak<|zY (s:={f with heap:=G}) XR λR X2 o=>?_);replace X2:gg R bD h e:=X2;refine ak (mT<|aK<|ak<|ak<|w0 ?_);show wpAny _ _ (aX.SmallTypes.nextOf (.ref c) >>= _) _ _ _;refine ak (q9 (f:={f with heap:=R}) (fb E λm d=>o.extBut _ m y.TOi2.symm<|k.extBut _ m y.i12.symm<|i.extBut _ m y.i2z d) (kO a2 λm d=>o.extBut _ m y.l2TO<|k.extBut _ m y.l2i1<|i.extBut _ m y.l2z d) be λI bn s=>aK ?_);have X5:gg I bD h e:=s.extBut _ _ y.TOi2 X2;refine ak (gJ (s:={f with heap:=I}) X5 rfl<|ak<|zY (s:={f with heap:=I}) X5 λa P t=>?_);replace P:gg a bD h H:=P;refine ak (mT<|aK<|aK<|ak<|gJ (s:={f with heap:=a}) P rfl<|ak<|yj ?_);have S:a.objs.size=f.heap.objs.size:=by rw[t.1,s.1,o.1,k.1,i.1]
 have T:jY a C bF bD .ellipsis:=t.extBut _ _ y.TOz.symm (s.extBut _ _ y.i2z.symm<|o.extBut _ _ y.TOz.symm<|k.extBut _ _ y.i1z.symm F);have bs:∀n m,n≠C->n≠bD->n≠b->n≠c->f.heap.get? n=Z m->a.get? n=Z m:=λn m j v J L d=>t.extBut _ _ v (s.extBut _ _ L<|o.extBut _ _ v<|k.extBut _ _ J<|i.extBut _ _ j d);have aQ:fw aQ a b p (XF+1):=fb Yb λm d=>t.extBut _ m y.TOi1.symm (s.extBut _ m y.i12<|o.extBut _ m y.TOi1.symm d);have aR:fw aR a c q (XH+1):=fb bn λm d=>t.extBut _ m y.TOi2.symm d;have U:C<a.objs.size:=bI T;show wpAny _ _ (aX.SmallTypes.ownedTupleHandOut (.ref C) (.ref a.objs.size) >>= _) _ _ _;apply ak;unfold aX.SmallTypes.ownedTupleHandOut;have bv:jY (a.push {cls:=.type "tuple",data:=.seq #[h,H]}) C bF bD .ellipsis:=bH _ T;refine ak (oZ bv (by simp) λca N al=>?_);replace N:jY ca C bF bD (ey a.objs.size):=N;refine oZ N (by simp) λw A am=>?_;replace A:jY w C bF bD (ey a.objs.size):=A;have D:∀n m,n≠C->a.get? n=Z m->w.get? n=Z m:=λn m j d=>am.extBut _ _ j (al.extBut _ _ j<|bH _ d);have an:gg w a.objs.size h H:=am.extBut _ _ (iM U) (al.extBut _ _ (iM U)<|cI _ rfl);rw[S]at A an;refine aK ⟨_,rfl,?_⟩;show B (.ref a.objs.size) _;rw[S];exact bi w A (D _ _ y.TOz P) (fb aQ λm d=>D _ m y.i1z d) (fb aR λm d=>D _ m y.i2z d) an λn m j v J L d=>D n m j (bs n m j v J L d)
theorem EM{C bF bD k o v w:af}{B:PySem.Fin->ah->Prop}(L:O.handled=Y)(y:lr C bF bD k o v w)(q:jY f.heap C bF bD .none)(U:gg f.heap bF (.ref k) (.ref o))(al:gg f.heap bD g e)(z:fw aQ f.heap k v XF)(E:fw aR f.heap o w XH)(N:gn aQ f.heap v x)(am:gn aR f.heap w Xp)(an:x[XF]?=Y\/Xp[XH]?=Y)(P:∀M d,(∀n m,n≠C->n≠bD->n≠k->n≠o->f.heap.get? n=Z m->M.get? n=Z m)->(∃m,M.get? d=Z m/\m.cls=.type "StopIteration")->Xg (.ref d) {f with heap:=M}):
  wpAny (aM Xm l) O (aX.«zip.__next__» ⟨[.ref C],[]⟩) B Xg f:=by
 show wpAny _ _ (jc (.ref C) 2 >>= _) _ _ _;refine ak (gd q rfl (x:=.bool au) rfl ?_);show wpAny _ _ (jc (.ref C) 3 >>= _) _ _ _;refine ak (gd q rfl (x:=.ref bF) rfl<|ak<|gJ U rfl ?_);show wpAny _ _ (aX.SmallTypes.ownedTupleIsFree (.ref C) >>= _) _ _ _;apply ak;unfold aX.SmallTypes.ownedTupleIsFree;refine ak (gd q rfl (x:=.none) rfl<|aK ?_);simp only[ie];refine ak (h7 (ak (gd q rfl (x:=.ref bD) rfl (ak (oZ q (by simp) λA u a=>?_)))));replace u:jY A C bF bD .ellipsis:=u;apply ak;simp only[z2,Ca,sg,w4];refine ak (ak<|w0 ?_);show wpAny _ _ (aX.SmallTypes.nextOf (.ref k) >>= _) _ _ _;cases D:x[XF]? with
 |none=>
  refine ak (t5 (f:={f with heap:=A}) L (fb z λm d=>a.extBut _ m y.i1z d) (kO N λm d=>a.extBut _ m y.l1z d) D λr d b F=>?_);let⟨@G,i,s⟩:=F;have Q:jY r C bF bD .ellipsis:=b _ _ y.i1z.symm u;have H:d≠C:=λp=>by subst p;rw[Q]at i;cases i;simp at s
  refine oZ Q (by simp) λI W j=>P I d (λn m t W J W p=>j.extBut _ _ t<|b _ _ J<|a.extBut _ _ t p) ⟨G,j.extBut _ _ H i,s⟩
 |some h=>
  have ap:Xp[XH]?=Y:=by
   rcases an with c|c
   ·rw[D]at c;cases c
   ·exact c
  refine ak (q9 (f:={f with heap:=A}) (fb z λm d=>a.extBut _ m y.i1z d) (kO N λm d=>a.extBut _ m y.l1z d) D λr Yb b=>aK ?_);have XR:gg r bD g e:=b.extBut _ _ y.TOi1 (a.extBut _ _ y.TOz al);refine ak (gJ (s:={f with heap:=r}) XR rfl<|ak<|zY (s:={f with heap:=r}) XR λI X2 j=>?_);refine ak (mT<|aK<|ak<|ak<|w0 ?_);show wpAny _ _ (aX.SmallTypes.nextOf (.ref o) >>= _) _ _ _;refine ak (t5 (f:={f with heap:=I}) L (fb E λm d=>j.extBut _ m y.TOi2.symm<|b.extBut _ m y.i12.symm<|a.extBut _ m y.i2z d) (kO am λm d=>j.extBut _ m y.l2TO<|b.extBut _ m y.l2i1<|a.extBut _ m y.l2z d) ap λas d R F=>?_);let⟨@G,i,s⟩:=F;have S:jY as C bF bD .ellipsis:=R _ _ y.i2z.symm (j.extBut _ _ y.TOz.symm<|b.extBut _ _ y.i1z.symm u);have H:d≠C:=λp=>by subst p;rw[S]at i;cases i;simp at s
  refine oZ S (by simp) λa1 W T=>P a1 d (λn m t a2 J bd p=>T.extBut _ _ t<|R _ _ bd<|j.extBut _ _ a2<|b.extBut _ _ J<|a.extBut _ _ t p) ⟨G,T.extBut _ _ H i,s⟩
end
def gK(aQ aR:Bool)(c:aV)(a b:af):aV:=((((c.push {cls:=.type (e5 aQ),data:=.fields #[.ref a,.int 0 0]}).push {cls:=.type (e5 aR),data:=.fields #[.ref b,.int 0 0]}).push {cls:=.type "tuple",data:=.seq #[.ref c.objs.size,.ref (c.push {cls:=.type (e5 aQ),data:=.fields #[.ref a,.int 0 0]}).objs.size]}).push {cls:=.type "tuple",data:=.seq #[.none,.none]})
theorem Cp(aQ aR:Bool)(a b:af)(x Xp:Array ab):
    Meets (aX.«zip.__new__» ⟨[.type "zip", .ref a,.ref b],[]⟩) (λ_ Xf f => gn aQ f.heap a x /\ gn aR f.heap b Xp /\
      Xf (.ok<|.ret<|.ref (gK aQ aR f.heap a b).objs.size) {f with heap:=(gK aQ aR f.heap a b).push {cls:=.type "zip", data:=.fields #[.none,.bool au,.bool au,.ref ((f.heap.push {cls:=.type (e5 aQ),data:=.fields #[.ref a,.int 0 0]}).push {cls:=.type (e5 aR),data:=.fields #[.ref b,.int 0 0]}).objs.size,
        .ref (((f.heap.push {cls:=.type (e5 aQ),data:=.fields #[.ref a,.int 0 0]}).push {cls:=.type (e5 aR),data:=.fields #[.ref b,.int 0 0]}).push {cls:=.type "tuple", data:=.seq #[.ref f.heap.objs.size,.ref (f.heap.push {cls:=.type (e5 aQ),data:=.fields #[.ref a,.int 0 0]}).objs.size]}).objs.size]} }) :=
  .of_wp λXm l O Xf f c => by
    let⟨e,I,v,XT,Xw⟩:=f;let@⟨h,j,c⟩:=c;have k:=sub_zip;have i:gn aR (e.push {cls:=.type (e5 aQ),data:=.fields #[.ref a,.int 0 0]}) b Xp:=kO j λm d => bH _ d;cases aQ <;> cases aR
    · have cf:aV.IsTuple (ah.heap ⟨e,I,v,XT,Xw⟩) a x:=h
      have g:aV.IsTuple (ah.heap ⟨e.push {cls:=.type "tuple_iterator", data:=.fields #[.ref a,.int 0 0]}, I,v,XT,Xw⟩) b Xp:=i
      wp_walk using wpAny_pyIter_tuple cf,wpAny_pyIter_tuple g
      exact ⟨_,rfl,c⟩
    · have cf:aV.IsTuple (ah.heap ⟨e,I,v,XT,Xw⟩) a x:=h
      have g:aV.IsList (ah.heap ⟨e.push {cls:=.type "tuple_iterator", data:=.fields #[.ref a,.int 0 0]}, I,v,XT,Xw⟩) b Xp:=i
      wp_walk using wpAny_pyIter_tuple cf,wpAny_pyIter_list g
      exact ⟨_,rfl,c⟩
    · have cf:aV.IsList (ah.heap ⟨e,I,v,XT,Xw⟩) a x:=h
      have g:aV.IsTuple (ah.heap ⟨e.push {cls:=.type "list_iterator", data:=.fields #[.ref a,.int 0 0]}, I,v,XT,Xw⟩) b Xp:=i
      wp_walk using wpAny_pyIter_list cf,wpAny_pyIter_tuple g
      exact ⟨_,rfl,c⟩
    · have cf:aV.IsList (ah.heap ⟨e,I,v,XT,Xw⟩) a x:=h
      have g:aV.IsList (ah.heap ⟨e.push {cls:=.type "list_iterator", data:=.fields #[.ref a,.int 0 0]}, I,v,XT,Xw⟩) b Xp:=i
      wp_walk using wpAny_pyIter_list cf,wpAny_pyIter_list g
      exact ⟨_,rfl,c⟩
def p2(aQ aR:Bool)(Xd:PySem.W.Frag)(g e:af):fq:=
 ⟨λa j=>∃x Xp h H,e7 aQ Xd j g x/\e7 aR Xd j e Xp/\x[a]?=Z h/\Xp[a]?=Z H,
  λa j u N=>∃T h H,j T=Y/\u=.ref T/\N=upd j T (.tup [h,H])/\(∀x,e7 aQ Xd j g x->x[a]?=Z h)/\(∀Xp,e7 aR Xd j e Xp->Xp[a]?=Z H),
  λa j=>∃x Xp,e7 aQ Xd j g x/\e7 aR Xd j e Xp/\(x.length<=a\/Xp.length<=a)⟩
def qo(aQ aR:Bool)(g e C bF bD b d:af)(a:Nat)(c:aV):Prop:=jY c C bF bD .none/\gg c bF (.ref b) (.ref d)/\(∃o p,gg c bD o p)/\fw aQ c b g a/\fw aR c d e a
theorem Ru{Xs:bJ}{l:bc}(g e C bF bD v F:af)(y:lr C bF bD v F g e):
  rf Xs l Xd (.Tuple S R Xu) (p2 aQ aR Xd g e) [C,bF,bD,v,F] C (qo aQ aR g e C bF bD v F) where
 mem:=by simp
 obj:=λa c X n i=>by
  let@⟨z,E,⟨o,@p,k⟩,r,t⟩:=X;simp only[bO,i8,eY]at i;rcases i with rfl|rfl|rfl|rfl|rfl
  ·exact⟨_,z,λu d=>by cases d⟩
  ·exact⟨_,E,λu d=>by cases d⟩
  ·exact⟨_,k,λu d=>by cases d⟩
  ·exact lI r
  ·exact lI t
 keep:=λa c M X q=>by
  let@⟨z,E,⟨o,@p,k⟩,r,t⟩:=X;exact⟨q C (by simp) _ z,q bF (by simp) _ E,⟨o,p,q bD (by simp) _ k⟩,fb r λm d=>q v (by simp) m d,fb t λm d=>q F (by simp) m d⟩
 item:=by
  intro b am an ap i a G f D j Xg A P X as;subst am an ap;let⟨x,Xp,h,@H,U,al,be,bi⟩:=as;let⟨@Xq,a1,o,I⟩:=A.h6 U;let⟨@a2,bd,XZ,bs⟩:=A.h6 al;let⟨@L,bv,ca⟩:=a1.get be;let⟨@bm,cd,ce⟩:=bd.get bi;have ch:=X;let@⟨z,E,⟨bM,@hy,k⟩,r,t⟩:=X;have J:f.TypeIs (.ref C) "zip" := ⟨_,z,rfl⟩;unfold ff;refine ak (oA (lK (name:=aB.ofString "__next__") J qI (hA qI J yz
   (Er (B:=λu Xe=>wpAny (aM b.prog b.w) b.A (pure<|Z u) (λs ci=>∃L,s=Z L/\wpAny (aM b.prog b.w) b.A (tE (.Tuple S R Xu) (.ref C) L) (λ_ bn=>∃h N,aE b G D N bn/\cq h L/\(p2 aQ aR b.K g e).rE a j h N/\qo aQ aR g e C bF bD v F (a+1) bn.heap/\∀e∈[C,bF,bD,v,F],N e=Y) Xg ci) Xg Xe)
    y z E k r t (show gn aQ f.heap g Xq.toArray from o) (show gn aR f.heap e a2.toArray from XZ) (h:=L) (H:=bm) (by simpa using bv) (by simpa using cd) λM cl co cr cs db cA=>aK ⟨_,rfl,?_⟩) (z6 _))));refine wpAny_letOwnedTupleGo_zip cl λds dL cQ=>?_;have lt:∀n∈[C,bF,bD,v,F],n<f.heap.objs.size:=λn i=>by
   let@⟨z,E,⟨o,@p,k⟩,r,t⟩:=ch;simp only[bO,i8,eY]at i;rcases i with rfl|rfl|rfl|rfl|rfl
   ·exact bI z
   ·exact bI E
   ·exact bI k
   ·let⟨@m,d,W⟩:=lI r;exact bI d
   ·let⟨@m,d,W⟩:=lI t;exact bI d
  have c5:∀n m,n∉[C,bF,bD,v,F]->f.heap.get? n=Z m->ds.get? n=Z m:=λn m i d=>by
   simp only[bO,i8,eY,oT]at i;exact cQ.extBut _ _ i.1 (cA n m i.1 i.2.2.1 i.2.2.2.1 i.2.2.2.2 d)
  have eq:f.heap.objs.size≠C:=iM (lt C (by simp));have ev:j f.heap.objs.size=Y:=A.aZ.fresh (ba _);refine⟨.ref f.heap.objs.size,upd j f.heap.objs.size<|.tup [h,H],A.Gh (XM:=f.toks) P c5 (ba _) ⟨by show 2<=sizeLine;decide,[L,bm],.cons ca<|.cons ce .nil,?_⟩,rfl,⟨_,h,H,ev,rfl,rfl,λQ I=>?_,λQ I=>?_⟩,?_,λn i=>?_⟩
  ·exact⟨_,cQ.extBut _ _ eq db,rfl,0,rfl⟩
  ·rw[A.DJ I U];exact be
  ·rw[A.DJ I al];exact bi
  ·exact⟨dL,cQ.extBut _ _ y.TIz<|cA _ _ y.TIz y.TITO y.TIi1 y.TIi2 E,⟨_,_,cQ.extBut _ _ y.TOz co⟩,fb cr λm d=>cQ.extBut _ m y.i1z d,fb cs λm d=>cQ.extBut _ m y.i2z d⟩
  ·rw[dp (cZ<|lt n i)];exact (P n i).1
 done:=by
  intro b am an ap i a G f D j Xg A P X as;subst am an ap;let⟨x,@Xp,U,al,ex⟩:=as;let⟨@Xq,a1,o,I⟩:=A.h6 U;let⟨@a2,bd,XZ,bs⟩:=A.h6 al;let@⟨z,E,⟨bM,@hy,k⟩,r,t⟩:=X;have J:f.TypeIs (.ref C) "zip" := ⟨_,z,rfl⟩;have fr:=a1.length;have f0:=bd.length;unfold ff;refine ak (oA (lK (name:=aB.ofString "__next__") J qI (hA qI J yz
   (EM (A.ok.hd i) y z E k r t (show gn aQ f.heap g Xq.toArray from o) (show gn aR f.heap e a2.toArray from XZ) (by
    rcases ex with c|c
    ·exact .inl (by simp;lia)
    ·exact .inr (by simp;lia)) λM d cA ⟨m,fd,fn⟩=>?_) (z6 _))))
  refine ak (ow (T := "StopIteration") (b:=aa) ⟨m,fd,fn⟩ vu<|aK ⟨rfl,A.J1 (XM:=f.toks) P λn m i d=>?_⟩);simp only[bO,i8,eY,oT]at i;exact cA n m i.1 i.2.2.1 i.2.2.2.1 i.2.2.2.2 d
 self:=λ_ W W W W X c=>zx X.1 c
section
variable{b:aO}
def OB(Xd:PySem.W.Frag)(X4:en):bF:=λD j Xf=>X4 D j λXc Xn=>∃aQ aR g e,Xc=[.ref g,.ref e]/\(∃x,e7 aQ Xd Xn g x)/\(∃Xp,e7 aR Xd Xn e Xp)/\Xf (p2 aQ aR Xd g e) Xn
theorem Fn{g e:bx}{X4:en}(H:dS b "zip")(I:b.aH "zip" = Y)(J:gM b [g,e] X4)(Xi:bL [g,e] b.env=[(au,bZ g b.env),(au,bZ e b.env)]:=by rfl)(u:bL [e] b.env=[(au,bZ e b.env)]:=by rfl):
  jN b (.Tuple S R Xo) (.Call (.Name "zip" o) [g,e] [] Xu) (OB b.K X4):=by
 intro G f D j Xf A c;refine rb (jt A H I boot_zip (mc (cc (J Xu G f D j _ A c) λXE a ⟨Xc,Xn,k,L,M⟩=>?_) (by rw[Xi,u]) (by rw[u];rfl)));let⟨aQ,aR,h,@i,d,⟨@x,N⟩,⟨@Xp,O⟩,p⟩:=M;subst d;cases L with
 |cons s r=>
  cases r with
  |cons X9 r=>
   cases r;cases s;cases X9;let⟨@Xq,U,o,al⟩:=k.h6 N;let⟨@P,am,XZ,an⟩:=k.h6 O;have Q:h<a.heap.objs.size:=by let⟨@m,d⟩:=pP o;exact bI d
   have T:i<a.heap.objs.size:=by let⟨@m,d⟩:=pP XZ;exact bI d
   refine BV GG (by decide) (BU _ _) (Ji _ _) (λobj=>I9 obj _ _) D8 (Cp aQ aR h i Xq.toArray P.toArray) ⟨o,XZ,?_⟩;have t:(a.heap.push {cls:=.type (e5 aQ),data:=.fields #[.ref h,.int 0 0]}).objs.size=a.heap.objs.size+1:=gN ..;have l:((a.heap.push {cls:=.type (e5 aQ),data:=.fields #[.ref h,.int 0 0]}).push {cls:=.type (e5 aR),data:=.fields #[.ref i,.int 0 0]}).objs.size=a.heap.objs.size+2:=by rw[gN,t]
   have q:(((a.heap.push {cls:=.type (e5 aQ),data:=.fields #[.ref h,.int 0 0]}).push {cls:=.type (e5 aR),data:=.fields #[.ref i,.int 0 0]}).push
    {cls:=.type "tuple",data:=.seq #[.ref a.heap.objs.size,.ref (a.heap.push {cls:=.type (e5 aQ),data:=.fields #[.ref h,.int 0 0]}).objs.size]}).objs.size=a.heap.objs.size+3:=by rw[gN,l]
   have v:(gK aQ aR a.heap h i).objs.size=a.heap.objs.size+4:=by unfold gK;rw[gN,q]
   show _/\_;refine⟨⟨_,cI _ rfl,rfl⟩,zx (TI:=a.heap.objs.size+2) (TO:=a.heap.objs.size+3) (f0:=.none) ?_ ?_⟩
   ·rw[l,q];exact cI _ rfl
   ·rw[l,q,v];have w:((gK aQ aR a.heap h i).push {cls:=.type "zip",data:=.fields #[.none,.bool au,.bool au,.ref<|a.heap.objs.size+2,.ref<|a.heap.objs.size+3]}).get? (a.heap.objs.size+4)=Z {cls:=.type "zip",data:=.fields #[.none,.bool au,.bool au,.ref<|a.heap.objs.size+2,.ref<|a.heap.objs.size+3]}:=by rw[<-v];exact cI _ rfl
    have z:((gK aQ aR a.heap h i).push {cls:=.type "zip",data:=.fields #[.none,.bool au,.bool au,.ref<|a.heap.objs.size+2,.ref<|a.heap.objs.size+3]}).get? (a.heap.objs.size+3)=Z {cls:=.type "tuple",data:=.seq #[.none,.none]}:=by
     rw[<-q];exact bH _ (cI _ rfl)
    have B:((gK aQ aR a.heap h i).push {cls:=.type "zip",data:=.fields #[.none,.bool au,.bool au,.ref<|a.heap.objs.size+2,.ref<|a.heap.objs.size+3]}).get? (a.heap.objs.size+2)=Z {cls:=.type "tuple",data:=.seq #[.ref a.heap.objs.size,.ref<|a.heap.objs.size+1]}:=by
     rw[<-l,<-t];exact bH _ (bH _<|cI _ rfl)
    have C:((gK aQ aR a.heap h i).push {cls:=.type "zip",data:=.fields #[.none,.bool au,.bool au,.ref<|a.heap.objs.size+2,.ref<|a.heap.objs.size+3]}).get? (a.heap.objs.size+1)=Z {cls:=.type (e5 aR),data:=.fields #[.ref i,.int 0 0]}:=by
     rw[<-t];exact bH _ (bH _<|bH _<|cI _ rfl)
    have E:((gK aQ aR a.heap h i).push {cls:=.type "zip",data:=.fields #[.none,.bool au,.bool au,.ref<|a.heap.objs.size+2,.ref<|a.heap.objs.size+3]}).get? a.heap.objs.size=Z {cls:=.type (e5 aQ),data:=.fields #[.ref h,.int 0 0]}:=
     bH _ (bH _<|bH _<|bH _<|cI _ rfl);have c5:∀n m,a.heap.get? n=Z m->((gK aQ aR a.heap h i).push {cls:=.type "zip",data:=.fields #[.none,.bool au,.bool au,.ref<|a.heap.objs.size+2,.ref<|a.heap.objs.size+3]}).get? n=Z m:=λn m d=>
     bH _ (bH _<|bH _<|bH _<|bH _ d);generalize ((gK aQ aR a.heap h i).push {cls:=.type "zip",data:=.fields #[.none,.bool au,.bool au,.ref<|a.heap.objs.size+2,.ref<|a.heap.objs.size+3]})=ap at E C B z w c5 ⊢;have y:lr (a.heap.objs.size+4) (a.heap.objs.size+2) (a.heap.objs.size+3) a.heap.objs.size (a.heap.objs.size+1) h i:=IE _ _ _ Q T;refine⟨_,_,_,_,Xn,rfl,k.kept (XM:=a.toks) c5,Ru h i _ _ _ _ _ y,⟨w,B,⟨_,_,z⟩,wA E,wA C⟩,λn F=>?_,p⟩;have:a.heap.objs.size<=n:=by
     simp only[bO,i8,eY]at F;rcases F with rfl|rfl|rfl|rfl|rfl
     ·exact jU _ _
     ·exact jU _ _
     ·exact jU _ _
     ·exact ba _
     ·exact jU _ _
    exact k.n7 this (k.aZ.fresh this)
end
section
variable{b:aO}
noncomputable def ec:List V->List V->List V
 |h::x,H::Xp=>.tup [h,H]::ec x Xp
 |_,_=>[]
theorem Af:∀(x Xp:List V),(ec x Xp).length=min x.length Xp.length
 |[],Xp=>by simp[ec]
 |h::x,[]=>by simp[ec]
 |h::x,H::Xp=>by simp[ec,Af x Xp]
theorem xZ:∀(x Xp:List V) (a:Nat) (v:V),(ec x Xp)[a]?=Z v->∃h H,x[a]?=Z h/\Xp[a]?=Z H/\v=.tup [h,H]
 |[],Xp,a,v,c=>by simp[ec]at c
 |h::x,[],a,v,c=>by simp[ec]at c
 |h::x,H::Xp,0,v,c=>by simp[ec]at c;exact⟨h,H,rfl,rfl,c.symm⟩
 |h::x,H::Xp,a+1,v,c=>by
  let⟨g,@e,z,E,b⟩:=xZ x Xp a v (by simpa [ec] using c);exact⟨g,e,by simpa using z,by simpa using E,b⟩
@[simp] def me(I:az (List bq)):jm:=λy=>(I y).bind λo=>(eW o.2 o.1).bind λJ=>match J with
 |[.im (.tup h),.im<|.tup H]=>Z ((ec h H,Y),o.2)
 |_=>Y
theorem K_{e:af}{x Xp:List ar}{J S:List V}(c:j g=Z (.tup x))(hd:br j J x)(M:j e=Z (.tup Xp))(b:br j S Xp):kg (p2 au au Xd g e) j [] (ec J S) where
 go:=λN i q a v d=>by
  let⟨h,@H,p,r,rfl⟩:=xZ J S a v d;let⟨@u,k,s⟩:=hd.get p;let⟨@L,XF,XH⟩:=b.get r;have l:=cH.of (Xd:=Xd) (i.tup g _ c);have m:=cH.of (Xd:=Xd) (i.tup e _ M);refine⟨⟨x,Xp,u,L,l,m,k,XF⟩,λC A ⟨T,B,D,F,t,w,y,z⟩=>?_⟩;subst t w;have n:=y x l;have o:=z Xp m;rw[k]at n;rw[XF]at o;cases n;cases o;have f:bV N (upd N T<|.tup [u,L]):=(bV.refl N).upd F;exact⟨f,T,[u,L],rfl,e_,⟨u,[L],rfl,(s.mono i.tup).mono f.tupS.tup,L,[],rfl,(XH.mono i.tup).mono f.tupS.tup,rfl⟩⟩
 stop:=λN i q=>⟨x,Xp,cH.of<|i.tup g _ c,cH.of<|i.tup e _ M,by rw[Af,<-hd.length,<-b.length];lia⟩
theorem te{g e:bx}(i:dS b "zip")(k:b.aH "zip" = Y)(a:fL b [g,e] I)(Xi:bL [g,e] b.env=[(au,bZ g b.env),(au,bZ e b.env)]:=by rfl)(l:bL [e] b.env=[(au,bZ e b.env)]:=by rfl):
  lB b (.Tuple S R Xo) (.Call (.Name "zip" o) [g,e] [] Xu) (me I):=by
 refine qn (Fn i k a Xi l) λD j A m=>?_;let⟨y,P,s,@XC,X,ag,n,p⟩:=m;let⟨@⟨Xw,Xl⟩,z,E⟩:=bG.mp n;let⟨@J,q,c⟩:=bG.mp E;refine⟨y,P,Xw,Xl,X,ag,z,λXc Xn Xz B f XJ r=>?_⟩;have t:=XJ.read f q;split at c
 ·cases c;let⟨u,@L,rfl,d,v⟩:=vf t;let⟨g,@x,rfl,XF,XH⟩:=d;let⟨e,@Xp,rfl,h,w⟩:=v;exact⟨au,au,g,e,rfl,⟨x,cH.of XF⟩,⟨Xp,cH.of h⟩,p _ Xn Xz [] f (K_ XF XH h w) trivial (λg a=>nomatch a) (by rw[cC];exact r.both)⟩
 ·cases c
theorem Az{X8:List Nat}:∀y s XC,me I y=Z (s,XC)->nD X8 s.2:=by
 intro y s XC c;let⟨@⟨Xw,Xl⟩,z,E⟩:=bG.mp c;let⟨@J,b,a⟩:=bG.mp E;split at a
 ·cases a;trivial
 ·cases a
@[simp] noncomputable def WI:hN:=λJ=>match J with
 |[.im (.int a),.im<|.int r,.im<|.int q]=>Z (.im<|.int<|min (min a r) q)
 |_=>Y
noncomputable def lg(lt:V->V->Bool)(h:V):List V->List V
 |[]=>[h]
 |H::s=>if lt h H=aa then h::H::s else H::lg lt h s
def gs(lt:V->V->Bool):List V->List V
 |[]=>[]
 |h::s=>lg lt h (gs lt s)
noncomputable def uG:V->V->Bool
 |.int a,.int r=>decide (a<r)
 |_,_=>au
noncomputable def l_:List V->Option (List Int)
 |[]=>Z []
 |.int a::s=>(l_ s).map λf=>a::f
 |_::_=>Y
@[simp] def r1:hN:=λJ=>match J with
 |[.lst h]=>(l_ h).bind λXA=>if XA.Nodup/\XA.length<=1000 then Z (.lst<|gs uG h) else Y
 |_=>Y
theorem R7(XA:List Int):l_ (XA.map .int)=Z XA:=by
 induction XA with
 |nil=>rfl
 |cons w s a=>rw[cw,l_,a];rfl
noncomputable def mF(h:Int):List Int->List Int
 |[]=>[h]
 |H::s=>if h<H then h::H::s else H::mF h s
def f6:List Int->List Int
 |[]=>[]
 |h::s=>mF h (f6 s)
theorem GJ(h:Int):∀t:List Int,lg uG (.int h) (t.map .int)=(mF h t).map .int
 |[]=>rfl
 |H::s=>by
  rw[cw,lg,mF,uG];by_cases c:h<H
  ·rw[aA (by simpa using c),aA c];rfl
  ·rw[aI (by simpa using c),aI c,GJ h s];rfl
theorem Ag:∀t:List Int,gs uG (t.map .int)=(f6 t).map .int
 |[]=>rfl
 |h::s=>by rw[cw,gs,Ag s,GJ];rfl
theorem yh(h:Int):∀t:List Int,(mF h t).Perm (h::t)
 |[]=>List.Perm.refl _
 |H::s=>by
  rw[mF];split
  ·exact List.Perm.refl _
  ·exact ((yh h s).cons H).trans (List.Perm.swap h H s)
theorem u_:∀t:List Int,(f6 t).Perm t
 |[]=>List.Perm.refl _
 |h::s=>(yh h _).trans ((u_ s).cons h)
theorem Jl(h:Int):∀t:List Int,t.Pairwise (·<=·)->(mF h t).Pairwise (·<=·)
 |[],_=>fP _ _
 |H::s,c=>by
  let@⟨z,E⟩:=gB.mp c;rw[mF];split
  ·rename_i b;refine gB.mpr ⟨λC a=>?_,c⟩;rcases bO.mp a with rfl|a
   ·lia
   ·have:=z C a;lia
  ·rename_i b;refine gB.mpr ⟨λC a=>?_,Jl h s E⟩;rcases bO.mp ((yh h s).mem_iff.mp a) with rfl|a
   ·lia
   ·exact z C a
theorem CB:∀t:List Int,(f6 t).Pairwise (·<=·)
 |[]=>List.Pairwise.nil
 |h::s=>Jl h _ (CB s)
theorem Ic{t:List Int}(c:t.Nodup):(f6 t).Pairwise (· < ·):=by
 have z:=CB t;have E:(f6 t).Nodup:=(u_ t).nodup_iff.mpr c;exact LP (λg e h H=>⋯) z E
theorem EA:∀{t k:List Int},t.Perm k->t.Pairwise (· < ·)->k.Pairwise (· < ·)->t=k
 |[],k,c,_,_=>c.nil_eq
 |g::t,[],c,_,_=>absurd c.length_eq (by simp)
 |g::t,e::k,c,f,h=>by
  have a:=gB.mp f;have b:=gB.mp h;have d:g=e:=by
   rcases bO.mp (c.mem_iff.mp<|.head _) with C|C
   ·exact C
   ·rcases bO.mp (c.mem_iff.mpr<|.head _) with H|H
    ·exact H.symm
    ·have z:=a.1 e H;have E:=b.1 g C;omega
  subst d;rw[EA c.cons_inv a.2 b.2]
theorem Dt:∀{h:List V}{XA:List Int},l_ h=Z XA->h=XA.map .int
 |[],XA,c=>by cases c;rfl
 |.int a::s,XA,c=>by
  rw[l_]at c;let⟨@f,z,rfl⟩:=cD.mp c;rw[Dt z];rfl
 |.aW::_,_,c=>by cases c
 |.aG _::_,_,c=>by cases c
 |.str _::_,_,c=>by cases c
 |.tup _::_,_,c=>by cases c
 |.fn _::_,_,c=>by cases c
 |.aU _::_,_,c=>by cases c
 |.fd::_,_,c=>by cases c
theorem tW{j:aw}:∀{XA:List Int}{Xc:List ar},br j (XA.map .int) Xc->Xc=XA.map ar.int
 |[],Xc,c=>c
 |w::s,Xc,c=>by
  let⟨u,@i,rfl,z,E⟩:=c;cases (show u=.int w from z);rw[tW E];rfl
theorem Hx{j:aw}:∀XA:List Int,br j (XA.map .int) (XA.map ar.int)
 |[]=>rfl
 |w::s=>⟨.int w,_,rfl,rfl,Hx s⟩
theorem E_(e:b.calm=aa)(m:b.A.units+20<bU):hl b (.builtin "sorted") r1:=by
 refine (PR e).imp λx j B f=>?_;let⟨J,@v,g,d,p⟩:=f;unfold r1 at d;split at d
 ·rename_i h;let⟨@XA,i,a⟩:=bG.mp d;split at a
  ·rename_i c;cases a;let⟨@u,rfl,⟨W,o,@x,rfl,z,E,W⟩⟩:=g6 g;cases Dt i;cases tW E;refine⟨o,XA,rfl,z,c.1,c.2,λt n aU XP k=>?_⟩;rw[Ag]at p;rw[EA (XP.trans (u_ XA).symm) k (Ic c.1)];exact ck.l p aU (Hx _)
  ·cases a
 ·cases d
theorem IS(a:b.A.units+20<bU):wm b nL:=Dr
end
end L2
namespace L2
open PySem
variable{g c I e:bA}{d:az aj}{own k w:Nat}{J:List aj}{XX:List Nat}{m:Option (Nat×aj)}{x:List V}{v:aj}{Xl y:a4}{n:az Bool}{XK:fi}{Xx:Type}{r a:Int}
@[simp] theorem W4(v:V)(y:a4):aC v y=Z (.im v,y):=rfl
@[simp] theorem vz(y:a4):aF y=Z ([],y):=rfl
@[simp] theorem WJ(y:a4):fA y=Z (.aS,y):=rfl
@[simp] theorem WN(y:a4):jK y=Z (Y,y):=rfl
@[simp] theorem WQ(y:a4):e1 y=Z (aa,y):=rfl
@[simp] theorem WS(v:V):(aj.im v).d7=aa:=rfl
@[simp] theorem WR(v:List V):(aj.dn v).d7=aa:=rfl
@[simp] theorem W6(v:List V):(aj.lst v).d7=au:=rfl
@[simp] theorem W7(v:List (List V×V)):(aj.a_ v).d7=au:=rfl
@[simp] theorem WX(v:List (eG×V)):(aj.dQ v).d7=au:=rfl
@[simp] theorem GA(y:a4)(v:aj):fa y (.b5 v)=Z v:=rfl
@[simp] theorem F3(y:a4)(a:Nat):fa y (.aY a)=(y[a]?).getD Y:=rfl
@[simp] theorem ug(y:a4):eW y []=Z []:=rfl
@[simp] theorem wU(y:a4)(m:bq)(Xw:List bq):eW y (m::Xw)=(fa y m).bind λv=>(eW y Xw).map λJ=>v::J:=rfl
@[simp] theorem WG(y:a4):es [] y=Z ([],y):=rfl
@[simp] theorem WH(v:aj)(Xw:List bq)(y:a4):es (.b5 v::Xw) y=(es Xw y).map λo=>(v::o.1,o.2):=rfl
@[simp] theorem W2(a:Nat)(Xw:List bq)(y:a4):es (.aY a::Xw) y=(fp a y).bind λo=>(es Xw o.2).map λp=>(o.1::p.1,p.2):=rfl
@[simp] theorem W0:g_ []=Z []:=rfl
@[simp] theorem WM(v:V)(J:List aj):g_ (.im v::J)=(g_ J).map λs=>v::s:=rfl
@[simp] theorem WY(e:Bool):qX (.im<|.aG e)=Z e:=rfl
theorem n9(z : -(2^64)<r)(E:r<2^64):h4 a r=aa:=by
 have:aX.Int.intBits r<=64:=Kb z E;have M:¬ (aX.Int.intBits r>w6):=qY.mpr this;unfold h4;rw[d3 M];simp
theorem mU(z : -(2^64)<a)(E:a<2^64):h4 a r=aa:=by
 have:aX.Int.intBits a<=64:=Kb z E;have M:¬ (aX.Int.intBits a>w6):=qY.mpr this;unfold h4;rw[d3 M];simp
theorem I5{x:List Xx}(c:x.length<=w):x.take w=x:=vy c
theorem H5(x:List Xx)(q:Nat):e6 x (Z (q:Int)) Y=x.drop q:=by
 unfold e6;rw[dj.BD,dj.Fo];by_cases c:q<=x.length
 ·rw[rj c,I5 (by rw[e4];lia)]
 ·rw[GZ ⋯,Br,wR,mO ⋯]
theorem Km(x:List Xx)(q:Nat):e6 x Y (Z (q:Int))=x.take q:=by
 unfold e6;rw[dj.BD,dj.Fo,k0,vw];by_cases c:q<=x.length
 ·rw[rj c]
 ·rw[GZ ⋯,rl,I5 ⋯]
theorem Jm(x:List Xx):e6 x Y (Z<|-1)=x.dropLast:=by
 unfold e6 dj.cu;simp only[k0,vw];rw[aA (by decide),List.dropLast_eq_take];congr 1;lia
theorem qV{x:List Xx}{v:Xx}(b:0<=a)(c:x[a.toNat]?=Z v):dV x a=Z v:=by
 unfold dV l6;have U:a.toNat<x.length:=(ek.mp c).1;rw[aA b,aA ⋯];exact c
theorem An{x:List Xx}{v:Xx}(c:x.getLast?=Z v):dV x (-1)=Z v:=by
 rw[List.getLast?_eq_getElem?]at c;have U:x.length-1<x.length:=(ek.mp c).1;unfold dV l6;rw[aI (by decide),aA ⋯];show x[(-1+(x.length:Int)).toNat]?=Z v;rw[show (-1+(x.length:Int)).toNat=x.length-1 by lia];exact c
theorem VB(A:Nat->a4->Prop)(Xf:aj->a4->Prop):∀{x:List V}{y:a4},A 0 y->
  (∀(a:Nat) (h:V) (y:a4),x[a]?=Z h->A a y->∃Xl aU XO,XK (.im h) y=Z Xl/\e Xl=Z (aU,XO)/\(((aU=.aS\/aU=.cx)/\A (a+1) XO)\/∃v,aU=.dT v/\Xf v XO))->
  (∃XC,d2 XK e x y=Z (.aS,XC)/\A x.length XC)\/∃v XC,d2 XK e x y=Z (.dT v,XC)/\Xf v XC:=by
 intro x;induction x generalizing A with
 |nil=>intro y b W;exact .inl ⟨y,rfl,b⟩
 |cons h s f=>
  intro y b c;let⟨Xl,aU,@XO,z,E,g⟩:=c 0 h y rfl b;rcases g with ⟨i,j⟩|⟨v,rfl,k⟩
  ·have:=f (λa=>A<|a+1) (y:=XO) j λa H XC l m=>c (a+1) H XC (by simpa using l) m;have d:d2 XK e (h::s) y=d2 XK e s XO:=by
    rw[d2];dsimp only;rw[z];show (e Xl).bind _=_;rw[E];rcases i with rfl|rfl<;>rfl
   rw[d];exact this
  ·refine .inr ⟨v,XO,?_,k⟩;rw[d2];dsimp only;rw[z];show (e Xl).bind _=_;rw[E];rfl
theorem zP(A:Nat->a4->Prop){x:List V}{y:a4}(b:A 0 y)(c:∀(a:Nat) (h:V) (y:a4),x[a]?=Z h->A a y->∃Xl aU XO,XK (.im h) y=Z Xl/\e Xl=Z (aU,XO)/\(aU=.aS\/aU=.cx)/\A (a+1) XO):
  ∃XC,d2 XK e x y=Z (.aS,XC)/\A x.length XC:=by
 rcases VB A (λ_ W=>False) b (λa h y d f=>by
  let⟨Xl,aU,@XO,z,E,g,i⟩:=c a h y d f;exact⟨Xl,aU,XO,z,E,.inl ⟨g,i⟩⟩) with c|⟨_,_,_,c⟩
 ·exact c
 ·exact c.elim
theorem Ar(A:Nat->a4->Prop)(b:a4->Prop)(step:∀k y,A k y->∃i Xl,n y=Z (i,Xl)/\(i=aa->∃aU XO,e Xl=Z (aU,XO)/\(aU=.aS\/aU=.cx)/\∃a,a<k/\A a XO)/\(i=au->b Xl)):
  ∀(w k:Nat) (y:a4),A k y->k<w->∃XC,kn n e w y=Z (.aS,XC)/\b XC:=by
 intro w;induction w with
 |zero=>intro k y W c;lia
 |succ w d=>
  intro k y f o;let⟨i,@Xl,z,E,g⟩:=step k y f;rw[kn];dsimp only;rw[z];cases i with
  |false=>exact⟨Xl,rfl,g rfl⟩
  |true=>
   let⟨aU,@XO,h,hf,⟨@a,p,j⟩⟩:=E rfl;let⟨@XC,l,m⟩:=d a XO j ⋯;refine⟨XC,?_,m⟩;simp only[sv,ie,h];rcases hf with rfl|rfl<;>exact l
theorem Lc(x:List Xx):x.filter (λ_=>aa)=x:=List.filter_eq_self.mpr λ_ W=>rfl
theorem nx(d:I y=Z (.aS,Xl)):bz I c y=c Xl:=by unfold bz;rw[d];rfl
theorem oO(d:I y=Z (.dT v,Xl)):bz I c y=Z (.dT v,Xl):=by unfold bz;rw[d];rfl
theorem Sv{I:jm}{XO:a4}{aU:oj}(d:I y=Z ((x,m),Xl))(c:d2 XK e x Xl=Z (aU,XO)):gW I XK e y=Z (aU,lY m XO):=by
 unfold gW;rw[d];show (d2 XK e x Xl).map _=_;rw[c];rfl
theorem VO{s:aj}(a:J.length=w)(d:I (J.map Z++List.replicate (k-w) Y)=Z (.dT s,y)):dA w k XX I J=Z (s,iZ XX J y 0):=by
 unfold dA;rw[aA a,d]
theorem PN{XU:List Nat}{l:jm}{a:a4}{J:List V}(z:l y=Z ((x,m),Xl))(E:hG own XK n d x [] (lj XU Xl)=Z (J,a)):eZ own XU l XK n d y=Z (.lst J,lY m<|jr XU a Xl):=by
 unfold eZ;rw[z];show (hG own XK n d x []<|lj XU Xl).map _=_;rw[E];rfl
theorem eB{I:az aj}(d:I y=Z (v,Xl)):cV I y=Z (.dT v,Xl):=by unfold cV;rw[d];rfl
theorem T4{a:Nat}{I:az aj}(d:I y=Z (v,Xl))(c:a<Xl.length):b_ a I y=Z (.aS,Xl.set a<|Z v):=by unfold b_;rw[d];show (if a<Xl.length then _ else _)=_;rw[aA c]
theorem zR(d:n y=Z (aa,Xl)):ei n g e y=g Xl:=by unfold ei;rw[d];rfl
theorem AD(d:n y=Z (au,Xl)):ei n g e y=e Xl:=by unfold ei;rw[d];rfl
theorem p8(y:a4){s:aj}{i:List aj}(a:J.length=w)(d:I (J.map Z++List.replicate (k-w) Y)=Z (.dT s,y))(b:iZ XX J y 0=i):dA w k XX I J=Z (s,i):=by
 rw[VO a d,b]
theorem uK{Xx:Type}{own:Nat}{XK:fi}{n:az Bool}{d:az aj}{aP:a4}(b:Xx->V)(o:Xx->Bool)(F:Xx->V):∀(x:List Xx) (a:List V),(∀h∈x,∃Xl XO,XK (.im<|b h) (List.replicate own Y++aP)=Z Xl/\n Xl=Z (o h,XO)/\(o h=au->XO.drop own=aP)/\(o h=aa->∃A,d XO=Z (.im<|F h,A)/\A.drop own=aP))->
  a.length+x.length<=100000->hG own XK n d (x.map b) a aP=Z (a++(x.filter o).map F,aP)
 |[],a,_,_=>by simp[hG]
 |h::s,a,c,g=>by
  let⟨Xl,@XO,z,E,i,j⟩:=c h (.head _);rw[c3]at g;rw[cw,hG,z];show (n Xl).bind _=_;rw[E];show (if o h=aa then _ else _)=_;cases e:o h with
  |false=>
   rw[aI dy];show hG own XK n d (s.map b) a (XO.drop own)=_;rw[i e,uK b o F s a (λH f=>c H<|.tail _ f) ⋯,zk,e];rfl
  |true=>
   let⟨@A,k,l⟩:=j e;rw[aA rfl];show (d XO).bind _=_;rw[k];show (if a.length<100000 then hG own XK n d (s.map b) (a++[F h]) (A.drop own) else Y)=_;rw[aA ⋯,l,uK b o F s (a++[F h]) (λH f=>c H<|.tail _ f) (by rw[c7,nX];lia),zk,e];simp
theorem kz{aP:a4}(a:Xx->V)(F:Xx->V)(x:List Xx)(c:∀h∈x,∃Xl XO A,XK (.im<|a h) (List.replicate own Y++aP)=Z Xl/\n Xl=Z (aa,XO)/\d XO=Z (.im<|F h,A)/\A.drop own=aP)(g:x.length<=100000):hG own XK n d (x.map a) [] aP=Z (x.map F,aP):=by
 have:=uK (own:=own) (XK:=XK) (n:=n) (d:=d) (aP:=aP) a (λ_=>aa) F x [] (λh b=>by
  let⟨Xl,XO,@A,z,E,e,f⟩:=c h b;exact⟨Xl,XO,z,E,(λC=>by cases C),(λ_=>⟨A,e,f⟩)⟩) (by rw[hF];lia)
 rw[Lc]at this;exact this
theorem vJ{Xx Ya:Type}(a:Xx->V)(b:Ya->V):∀(x:List Xx) (Xp:List Ya),ec (x.map a) (Xp.map b)=(x.zip Xp).map λo=>.tup [a o.1,b o.2]
 |[],Xp=>by simp[ec]
 |h::x,[]=>by simp[ec]
 |h::x,H::Xp=>by simp[ec,vJ a b x Xp]
theorem sN{Ya:Type}(F:Xx->Ya)(x:List Xx)(R U:Option Int):e6 (x.map F) R U=(e6 x R U).map F:=by
 unfold e6;rw[a9,jy,jG]
end L2
namespace G
open PySem L2
abbrev ax(a:Int):aj:=.im (.int a)
end G
namespace L2
open PySem PySem.Spec PyProof.Rows
section
variable{b:aO}
end
section
variable{b:aO}
noncomputable def tH:V->Option eG
 |.int a=>Z (.inl a)
 |.str h=>Z (.inr h)
 |_=>Y
@[simp] theorem WV(a:Int):tH (.int a)=Z (.inl a):=rfl
@[simp] theorem WU(h:aB):tH (.str h)=Z (.inr h):=rfl
noncomputable def Cn:eG->V
 |.inl a=>.int a
 |.inr h=>.str h
@[simp] theorem WL(a:Int):Cn (.inl a)=.int a:=rfl
@[simp] theorem WD(h:aB):Cn (.inr h)=.str h:=rfl
theorem RK{j:aw}{v:V}{u:ar}{q:eG}(c:cL j v u)(d:tH v=Z q):u=cG q:=by
 cases v with
 |int a=>cases d;exact c
 |str h=>cases d;exact c
 |_=>cases d
noncomputable def hE{XG:Type}[DecidableEq XG](Xt:List (XG×V))(q:XG)(v:V):List (XG×V):=
 if (Xt.any λa=>decide (a.1=q))=aa then Xt.map (λa=>if a.1=q then (a.1,v) else a) else Xt++[(q,v)]
variable{XG:Type}
theorem eU.any[DecidableEq XG]{j:aw}{q:XG}{t:List (XG×V)}{k:List (XG×ar)}(c:eU j t k):(t.any λa=>decide (a.1=q))=(k.any λa=>decide (a.1=q)):=by
 unfold eU at c;induction c with
 |nil=>rfl
 |cons s _ b=>rw[ni,ni,b,s.1]
theorem eU.upd[DecidableEq XG]{j:aw}{q:XG}{v:V}{u:ar}(l:cL j v u){t:List (XG×V)}{k:List (XG×ar)}(c:eU j t k):eU j (t.map λa=>if a.1=q then (a.1,v) else a) (k.map λa=>if a.1=q then (a.1,u) else a):=by
 unfold eU at c;induction c with
 |nil=>exact .nil
 |@cons o p _ _ s _ e=>
  rw[cw,cw];refine .cons ?_ e;by_cases d:o.1=q
  ·have b:p.1=q:=s.1.symm.trans d;rw[aA d,aA b];exact⟨s.1,l⟩
  ·have b:¬ p.1=q:=λC=>d (s.1.trans C);rw[aI d,aI b];exact s
theorem Ta{Xx Ya:Type}{P:Xx->Ya->Prop}{t:List Xx}{k:List Ya}{g:Xx}{e:Ya}(c:dY P t k)(h:P g e):dY P (t++[g]) (k++[e]):=by
 induction c with
 |nil=>exact .cons h .nil
 |cons s _ a=>exact .cons s a
theorem eU.put[DecidableEq XG]{j:aw}{q:XG}{v:V}{u:ar}(l:cL j v u){t:List (XG×V)}{k:List (XG×ar)}(c:eU j t k):eU j (hE t q v) (hR k q u):=by
 unfold hE hR;rw[c.any];split
 ·exact c.upd l
 ·exact Ta c ⟨rfl,l⟩
@[simp] noncomputable def xJ:az aj:=λy=>Z (.a_ [],y)
theorem HL{Xu:Pos}:cS b (.Dict [] [] Xu) xJ:=by
 refine eP MS λD j B ⟨y,P,s,XC,X,ag,c,p⟩ o a=>?_;cases c;have f:bV j (L2.upd j o<|.a_ []):=(bV.refl j).upd a;have e:bu j P j (P++[]):=by rw[cC];exact bu.perm ag (List.Perm.refl _)
 exact p _ _ P [o] (X.mono f.tupS λg W m d=>f g m d) ⟨o,[],rfl,e_,.nil,rfl⟩ (e.new f (fP _ _) (λg h=>by rw[cK.mp h];exact a) X.chg)
@[simp] def WE(a b:az aj):az aj:=λy=>(a y).bind λo=>(b o.2).bind λp=>match o.1,p.1 with
 |.im q,.im v=>(tH q).map λc=>(.dQ [(c,v)],p.2)
 |_,_=>Y
@[simp] def kU(n q v:aj):Option aj:=match n,q,v with
 |.lst x,.im<|.int a,.im v=>(l6 x.length a).map λr=>.lst (x.set r v)
 |.dQ Xt,.im q,.im v=>(tH q).bind λb=>if Xt.length<100000 then Z (.dQ<|hE Xt b v) else Y
 |.a_ Xt,.im<|.tup q,.im v=>if V.keys 7 q=aa/\Xt.length<100000 then Z (.a_<|hE Xt q v) else Y
 |_,_,_=>Y
theorem yb(F:b.A.units+20<bU):wm b kU:=by
 intro G f D j m a u H I L B A k l o ⟨n,q,v,J,Xf,Xr,r,d4,s,ag,d,p⟩;unfold kU at d;split at d
 ·exact Dr G f D j m a u H I L B A k l o ⟨_,_,_,J,Xf,Xr,r,d4,s,ag,d,p⟩
 ·let⟨@P,M,w⟩:=bG.mp d;split at w
  ·rename_i c;cases w;let⟨g,@Xp,rfl,z,E,rfl⟩:=r;let@⟨hd,rfl⟩:=s;have n:gR j g:=⟨_,z,(λ_ d=>by cases d),(λ_ W d=>by cases d)⟩;cases k;have N:=RK d4.1 M;subst N;refine I4 F A (og.k z (by rw[<-E.length];exact xx c)) l o λXe y=>⟨_,y,p _ [g] ?_ (bu.chg (.head _) n (fP _ _) λh C=>by simpa using C)⟩;exact⟨g,_,rfl,e_,(eU.put hd E).mono<|cL.oC n,rfl⟩
  ·cases w
 ·split at d
  ·rename_i c;cases d;let⟨g,@Xp,rfl,z,E,rfl⟩:=r;let@⟨hd,rfl⟩:=s;have n:gR j g:=⟨_,z,(λ_ d=>by cases d),(λ_ W d=>by cases d)⟩;cases k;let⟨e,@x,rfl,XF,XH⟩:=d4.1;refine I4 F A (og.t z ⟨c.1,e,x,rfl,XF,XH⟩ (by rw[<-E.length];exact xx c.2)) l o λXe y=>⟨_,y,p _ [g] ?_ (bu.chg (.head _) n (fP _ _) λh C=>by simpa using C)⟩;exact⟨g,_,rfl,e_,(eU.put hd E).mono<|cL.oC n,rfl⟩
  ·cases d
 ·cases d
theorem AS{Xx Ya:Type}{P:Xx->Ya->Prop}:∀{b:List Xx}{d:List Ya},dY P b d->∀(a:Nat),a<b.length->∃g e,b[a]?=Z g/\d[a]?=Z e/\P g e
 |_,_,.nil,a,c=>by simp at c
 |_,_,.cons s i,0,c=>⟨_,_,rfl,rfl,s⟩
 |_,_,.cons s i,a+1,c=>by
  let⟨g,@e,h,H,C⟩:=AS i a (by simpa using c);exact⟨g,e,by simpa using h,by simpa using H,C⟩
end
section
variable{b:aO}
noncomputable def sR:bq->aj->Option (Nat×aj)
 |.aY a,v=>Z (a,v)
 |.b5 _,_=>Y
@[simp] theorem W3(a:Nat)(v:aj):sR (.aY a) v=Z (a,v):=rfl
@[simp] theorem W5(n v:aj):sR (.b5 n) v=Y:=rfl
@[simp] def rW(I:az (List bq)):jm:=λy=>(I y).bind λo=>(es o.1 o.2).bind λp=>match o.1,p.1 with
 |[XJ,XR],[XY,X1]=>(fU XY).bind λh=>(fU X1).bind λH=>
   if X1.d7=aa then Z ((ec h H,if XY.d7=aa then Y else sR XJ XY),p.2)
   else if XY.d7=aa then Z ((ec h H,sR XR X1),p.2) else Y
 |_,_=>Y
variable{Xd:PySem.W.Frag}{j:aw}{Xf:List af}{J:List V}
theorem vD{v:aj}{u:ar}(l:cT j v u Xf)(d:fU v=Z J):
  ∃e g x,u=.ref g/\br j J x/\∀N,fm j N->(∀g∈Xf,∀m,j g=Z m->N g=Z m)->e7 e Xd N g x:=by
 unfold fU at d;split at d
 ·cases d;let@⟨⟨g,@x,rfl,z,E⟩,rfl⟩:=l;exact⟨au,g,x,rfl,E,λN i q=>cH.of<|i.tup g _ z⟩
 ·cases d;let⟨g,@x,rfl,z,E,rfl⟩:=l;exact⟨aa,g,x,rfl,E,λN i q=>df.of<|q g (.head _) _ z⟩
 ·cases d;let⟨g,x,@m,rfl,z,E,rfl⟩:=l;exact⟨aa,g,x,rfl,E,λN i q=>.inl<|.inr ⟨m,i.dk _ _ _ z⟩⟩
 ·cases d
variable{g:af}{x:List ar}
theorem EF{e:Bool}{a:Nat}{h H:ar}(c:∀Q,e7 e Xd j g Q->Q[a]?=Z h)(z:e7 e Xd j g x)(E:x[a]?=Z H):h=H:=by
 have:=c x z;rw[E]at this;exact (Option.some.inj this).symm
theorem NV{aQ aR:Bool}{e:af}{Xp:List ar}{S:List V}(hd:br j J x)(b:br j S Xp)(c:∀N,fm j N->(∀g∈Xf,∀m,j g=Z m->N g=Z m)->e7 aQ Xd N g x)(M:∀N,fm j N->(∀g∈Xf,∀m,j g=Z m->N g=Z m)->e7 aR Xd N e Xp):kg (p2 aQ aR Xd g e) j Xf (ec J S) where
 go:=λN i q a v d=>by
  let⟨h,@H,o,p,rfl⟩:=xZ J S a v d;let⟨@u,k,r⟩:=hd.get o;let⟨@L,XF,XH⟩:=b.get p;have l:=c N i q;have n:=M N i q;refine⟨⟨x,Xp,u,L,l,n,k,XF⟩,λC z ⟨T,A,B,F,s,t,w,y⟩=>?_⟩;subst s t;cases EF w l k;cases EF y n XF;have f:bV N (L2.upd N T<|.tup [u,L]):=(bV.refl N).upd F;exact⟨f,T,[u,L],rfl,e_,⟨u,[L],rfl,(r.mono i.tup).mono f.tupS.tup,L,[],rfl,(XH.mono i.tup).mono f.tupS.tup,rfl⟩⟩
 stop:=λN i q=>⟨x,Xp,c N i q,M N i q,by rw[Af,<-hd.length,<-b.length];lia⟩
theorem Of{g e:bx}{I:az (List bq)}{o Xu:Pos}{S:List bx}{R:Nat}{Xo:Pos}(G:dS b "zip")(M:b.aH "zip" = Y)(c:fL b [g,e] I)(Xi:bL [g,e] b.env=[(au,bZ g b.env),(au,bZ e b.env)]:=by rfl)(O:bL [e] b.env=[(au,bZ e b.env)]:=by rfl):
  lB b (.Tuple S R Xo) (.Call (.Name "zip" o) [g,e] [] Xu) (rW I):=by
 refine qn (Fn G M c Xi O) λD j ci Q=>?_;let⟨y,P,s,@XC,X,ag,T,p⟩:=Q;let⟨@⟨Xw,Xl⟩,z,E⟩:=bG.mp T;let⟨@⟨J,XO⟩,U,l⟩:=bG.mp E;refine⟨y,P,Xw,Xl,X,ag,z,λXc Xn Xz cl al XJ am=>?_⟩;let⟨XS,@Xr,A,XQ,XP⟩:=nH al XJ U;have f:=am.kN XP.symm;dsimp only at l;split at l
 ·rename_i an ap co cr;let⟨@h,as,a1⟩:=bG.mp l;let⟨@H,a2,k⟩:=bG.mp a1;let⟨u,W,m,@W,rfl,fR,⟨L,W,r,@W,rfl,gL,@⟨rfl,rfl⟩,rfl⟩,rfl⟩:=XQ;rw[cC]at f;let⟨cs,W,db,@W,jB,bd,⟨ds,W,dL,@W,be,bi,@⟨rfl,rfl⟩,rfl⟩,rfl⟩:=XJ;cases jB;cases be;let⟨t,v,@x,rfl,bm,B⟩:=vD (Xd:=b.K) fR as;let⟨w,Yb,@Xp,rfl,bn,F⟩:=vD (Xd:=b.K) gL a2;have bs:e7 t b.K Xn v x:=B Xn (AA Xn) λ_ W W d=>d;have bv:e7 w b.K Xn Yb Xp:=F Xn (AA Xn) λ_ W W d=>d;have Xj:kg (p2 t w b.K v Yb) Xn (m++r) (ec h H):=NV bm bn (λN i q=>B N i λg c=>q g<|gc _ c) (λN i q=>F N i λg c=>q g<|fj _ c);have Yo:∀g∈m++r,gR Xn g:=λg c=>(ee.mp c).elim (λC=>fR.chg g C) λC=>gL.chg g C;refine⟨t,w,v,Yb,rfl,⟨x,bs⟩,⟨Xp,bv⟩,?_⟩;split at k
  ·rename_i ca;cases k;have cd:=gL.d7 ca;subst cd;rw[cC]at f Xj Yo;refine p _ Xn XS m A Xj ?_ Yo f;dsimp only;split
   ·trivial
   ·cases an with
    |aY a=>exact⟨_,bd.1,fR⟩
    |b5 n=>trivial
  ·split at k
   ·rename_i ce;cases k;have ch:=fR.d7 ce;subst ch;rw[jb]at f Xj Yo;refine p _ Xn XS r A Xj ?_ Yo f;cases ap with
    |aY a=>exact⟨_,bi.1,gL⟩
    |b5 n=>trivial
   ·cases k
 ·cases l
end
section
variable{Xm:bJ}{l:bc}{O:bw}{Xg:ab->ah->Prop}{f:ah}
end
section
variable{b:aO}
end
section
variable{b:aO}
theorem ub{XA:List Int}{XE:List ab}(s:bY (XA.map ar.int) XE)(a:Nat)(u:ab)(c:XE[a]?=Z u):∃i,u=.int ((XA[a]?).getD 0) i:=by
 have b:=s.length;rw[a9]at b;have U:a<XA.length:=by rw[b];exact (ek.mp c).1
 let⟨@L,e,⟨@i,d⟩⟩:=s.get (a:=a) (h:=ar.int XA[a]) (by simp[U]);rw[c]at e;cases e;exact⟨i,by rw[d];simp[U]⟩
noncomputable def Qf:List Int->Option Int
 |[]=>Y
 |h::s=>Z (s.foldl max h)
@[simp] def W_:hN:=λJ=>match J with
 |[.lst h]=>(l_ h).bind λXA=>(Qf XA).map λk=>.im (.int k)
 |_=>Y
@[simp] def Dz(I:az (List bq)):az aj:=λy=>(I y).bind λo=>(eW o.2 o.1).bind λJ=>match J with
 |[XY,X1]=>(fU XY).bind λh=>(fU X1).map λH=>(.im<|.tup<|ec h H,o.2)
 |_=>Y
end
variable{XU:List Nat}{own:List aB}{XI:hI}{Ys:List bx}{Yu Ye XK e g:bx}{R i r XZ o Xu:Pos}{Yh:aB}{Xg B:ab->ah->Prop}{f:ah}{O:bw}{D:a3}{G:List (af×a0)}{Xp x:Array ab}{XH XF:Nat}{q:a0}{n aR aQ:Bool}{j:aw}
abbrev pH(c:aV)(C bF bD T:af)(n:Bool):Prop:=c.get? C=Z {cls:=.type "zip",dict:=Y,data:=.fields #[ey T,.bool n,.bool au,.ref bF,.ref bD],slots:=#[]}
section
variable{Xm:bJ}{l:bc}{O:bw}{Xg:ab->ah->Prop}{f:ah}
theorem O9{az:gA}{g:af}{B:Option a0->ah->Prop}(c:B (f.heap.get? g) f):wpAny az O (loadIfAlive g) B Xg f:=λa o b=>by
 show dz.wp az a (.loadIfAlive g .pure) _ _ o f;rw[dz.wp,dz.wp];exact c
theorem Co{C bF bD T:af}{B:Bool->ah->Prop}(a:pH f.heap C bF bD T n)(b:f.heap.get? T=Z q)(p:∀M,pH M C bF bD T aa->aV.SameBut C f.heap M->B au {f with heap:=M}):wpAny (aM Xm l) O (aX.SmallTypes.ownedTupleIsFree<|.ref C) B Xg f:=by
 unfold aX.SmallTypes.ownedTupleIsFree;refine ak (gd a rfl (x:=ey T) rfl ?_);show wpAny _ _ (loadIfAlive ((T:Int).toNat) >>= _) _ _ _;refine ak (O9 ?_);rw[kV,b];show wpAny _ _ (jc (.ref C) 1 >>= _) _ _ _;refine ak (gd a rfl (x:=.bool n) rfl ?_);cases n with
 |true=>
  show wpAny _ _ (pure au) _ _ _;exact aK (p f.heap a ⟨rfl,λ_ W=>rfl⟩)
 |false=>
  show wpAny _ _ (vv (.ref C) 1 (.bool aa) >>= _) _ _ _;refine ak (oZ a (by simp) λM c Xe=>aK<|p M c Xe)
theorem OE{C bF bD T b c i j:af}{h H:ab}(y:lr C bF bD b c i j)(r:pH f.heap C bF bD T n)(v:f.heap.get? T=Z q)(w:gg f.heap bF (.ref b) (.ref c))(z:fw aQ f.heap b i XF)(E:fw aR f.heap c j XH)(A:gn aQ f.heap i x)(D:gn aR f.heap j Xp)(F:x[XF]?=Z h)(G:Xp[XH]?=Z H)(I:∀M,pH M C bF bD T aa->fw aQ M b i (XF+1)->fw aR M c j (XH+1)->gg M f.heap.objs.size h H->M.objs.size=f.heap.objs.size+1->
   (∀n m,n≠C->n≠b->n≠c->f.heap.get? n=Z m->M.get? n=Z m)->B (.ref f.heap.objs.size) {f with heap:=M}):
  wpAny (aM Xm l) O (aX.«zip.__next__» ⟨[.ref C],[]⟩) (λJ Xe=>∃u,J=.done (.ret u)/\B u Xe) Xg f:=by
 refine ak (m:=jc (.ref C) 2) (gd r rfl (x:=.bool au) rfl ?_);refine ak (m:=jc (.ref C) 3) (gd r rfl (x:=.ref bF) rfl<|ak<|gJ w rfl ?_);refine ak (m:=aX.SmallTypes.ownedTupleIsFree (.ref C)) (Co r v λL N e=>?_);simp only[gQ,fx];rw[<-px];simp only[sg,w4];refine ak (ak<|ak<|fl ?_);show wpAny _ _ (aX.SmallTypes.nextOf (.ref b) >>= _) _ _ _;refine ak (q9 (f:={f with heap:=L}) (fb z λm d=>e.extBut _ m y.i1z d) (kO A λm d=>e.extBut _ m y.l1z d) F λP Yb g=>aK<|aK ?_);refine ak (ak<|fl ?_);show wpAny _ _ (aX.SmallTypes.nextOf (.ref c) >>= _) _ _ _;refine ak (q9 (f:={f with heap:=P}) (fb E λm d=>g.extBut _ m y.i12.symm<|e.extBut _ m y.i2z d) (kO D λm d=>g.extBut _ m y.l2i1<|e.extBut _ m y.l2z d) G λa Q o=>aK<|aK<|aK ?_);refine ak (m:=r_ [h,H]) (yj<|aK ⟨_,rfl,?_⟩);have R:a.objs.size=f.heap.objs.size:=by rw[o.1,g.1,e.1]
 show B (.ref a.objs.size) _;have s:gg (a.push {cls:=.type "tuple",data:=.seq #[h,H]}) a.objs.size h H:=cI _ rfl;have t:(a.push {cls:=.type "tuple",data:=.seq #[h,H]}).objs.size=a.objs.size+1:=gN ..;have p:∀n m,a.get? n=Z m->(a.push {cls:=.type "tuple",data:=.seq #[h,H]}).get? n=Z m:=λn m d=>bH _ d;rw[R]at s t ⊢;refine I _ (p _ _<|o.extBut _ _ y.i2z.symm<|g.extBut _ _ y.i1z.symm N) (fb Yb λm d=>p _ _<|o.extBut _ _ y.i12 d) (fb Q λm d=>p _ _ d) s t λn m S U al d=>p _ _ (o.extBut _ _ al<|g.extBut _ _ U<|e.extBut _ _ S d)
end
section
variable{Xm:bJ}{l:bc}{O:bw}{Xg:ab->ah->Prop}{f:ah}
theorem Qo{C bF bD T b e i j:af}{B:PySem.Fin->ah->Prop}(w:O.handled=Y)(y:lr C bF bD b e i j)(o:pH f.heap C bF bD T n)(G:f.heap.get? T=Z q)(H:gg f.heap bF (.ref b) (.ref e))(z:fw aQ f.heap b i XF)(E:fw aR f.heap e j XH)(A:gn aQ f.heap i x)(I:gn aR f.heap j Xp)(J:x[XF]?=Y\/Xp[XH]?=Y)(D:∀M d,(∀n m,n≠C->n≠b->n≠e->f.heap.get? n=Z m->M.get? n=Z m)->(∃m,M.get? d=Z m/\m.cls=.type "StopIteration")->Xg (.ref d) {f with heap:=M}):
  wpAny (aM Xm l) O (aX.«zip.__next__» ⟨[.ref C],[]⟩) B Xg f:=by
 refine ak (m:=jc (.ref C) 2) (gd o rfl (x:=.bool au) rfl ?_);refine ak (m:=jc (.ref C) 3) (gd o rfl (x:=.ref bF) rfl<|ak<|gJ H rfl ?_);refine ak (m:=aX.SmallTypes.ownedTupleIsFree (.ref C)) (Co o G λF R a=>?_);simp only[gQ,fx];rw[<-px];simp only[sg,w4];refine ak (ak<|ak<|fl ?_);show wpAny _ _ (aX.SmallTypes.nextOf (.ref b) >>= _) _ _ _;cases r:x[XF]? with
 |none=>
  refine ak (t5 (f:={f with heap:=F}) w (fb z λm d=>a.extBut _ m y.i1z d) (kO A λm d=>a.extBut _ m y.l1z d) r λs d g t=>?_);exact D s d (λn m u v W p=>g _ _ v<|a.extBut _ _ u p) t
 |some h=>
  have L:Xp[XH]?=Y:=J.resolve_left λc=>by rw[r]at c;cases c
  refine ak (q9 (f:={f with heap:=F}) (fb z λm d=>a.extBut _ m y.i1z d) (kO A λm d=>a.extBut _ m y.l1z d) r λs Yb g=>aK<|aK ?_);refine ak (ak<|fl ?_);show wpAny _ _ (aX.SmallTypes.nextOf (.ref e) >>= _) _ _ _;refine ak (t5 (f:={f with heap:=s}) w (fb E λm d=>g.extBut _ m y.i12.symm<|a.extBut _ m y.i2z d) (kO I λm d=>g.extBut _ m y.l2i1<|a.extBut _ m y.l2z d) L λN d P t=>?_);exact D N d (λn m u Q v p=>P _ _ v<|g.extBut _ _ Q<|a.extBut _ _ u p) t
theorem v7{C:af}{B:Option ab->ah->Prop}(a:f.TypeIs (.ref C) "zip")(c:wpAny (aM Xm l) O.in1 (aX.«zip.__next__» ⟨[.ref C],[]⟩) (λb Xe=>∃u,b=.done (.ret u)/\B (Z u) Xe) (λd Xe=>∃g,d=.ref g/\(∃m,Xe.heap.get? g=Z m/\m.cls=.type "StopIteration")/\B Y Xe) f):
  wpAny (aM Xm l) O (ff<|.ref C) B Xg f:=by
 unfold ff;refine ak (oA<|lK (name:=aB.ofString "__next__") a qI<|hA qI a yz (gT c (λb Xe ⟨u,d,p⟩=>⟨u,d,?_⟩)<|λd Xe ⟨g,h,i,p⟩=>?_)<|z6 _)
 ·exact aK p
 ·subst h;let⟨@m,j,k⟩:=i;exact ak (ow (T := "StopIteration") (b:=aa) ⟨m,j,k⟩ vu<|aK p)
end
theorem gV.upd{b:aO}{G:List (af×a0)}{j:aw}{e T:af}{m:gG}(c:gV b G j e)(w:e≠T):gV b G (upd j T m) e:=⟨by rw[dp w];exact c.1,c.2⟩
def mu(j:aw)(x Xp Q:List ar):Prop:=∀(a:Nat) (u:ar),Q[a]?=Z u->∃T h H,u=.ref T/\j T=Z (.tup [h,H])/\x[a]?=Z h/\Xp[a]?=Z H
theorem mu.push{N:aw}{x Xp Q:List ar}{T:af}{h H:ar}(c:mu j x Xp Q)(b:bV j N)(e:N T=Z (.tup [h,H]))(f:x[Q.length]?=Z h)(g:Xp[Q.length]?=Z H):mu N x Xp (Q++[.ref T]):=by
 intro a u d;by_cases U:a<Q.length
 ·rw[kb U]at d;let⟨i,k,@l,m,n,o⟩:=c a u d;exact⟨i,k,l,m,b _ _ n,o⟩
 ·rw[jS ⋯]at d;have q:a-Q.length=0:=by
   cases p:a-Q.length with
   |zero=>rfl
   |succ w=>rw[p]at d;simp at d
  rw[q]at d;cases d;have:a=Q.length:=⋯
  subst this;exact⟨T,h,H,rfl,e,f,g⟩
abbrev Ap(c:aV)(Xr:af)(a:Array ab)(n:Nat):Prop:=c.get? Xr=Z {cls:=.type "list",dict:=Y,data:=.seq a n,slots:=#[]}
def Kd(aQ aR:Bool)(g e C bF bD b d Xr:af)(a:Nat)(c:aV):Prop:=∃T n q,pH c C bF bD T n/\c.get? T=Z q/\T∉[Xr,C,bF,bD,b,d]/\gg c bF (.ref b) (.ref d)/\(∃o p,gg c bD o p)/\fw aQ c b g a/\fw aR c d e a
section
variable{b:aO}
theorem Nw{g e C bF bD o p Xr:af}(dL:O.handled=Y)(y:lr C bF bD o p g e)(gl:Xr∉[C,bF,bD,o,p])(kt:Xr≠g)(kw:Xr≠e){x Xp:List ar}{am:aw}(eq:∀N,bV am N->e7 aQ b.K N g x)(ev:∀N,bV am N->e7 aR b.K N e Xp)(lc:min x.length Xp.length<=sizeLine)(an:ab){Xf:oV->ah->Prop}(gt:∀Xe N ca ex E,bV am N->aE b G D N Xe->(∀n∈[Xr,C,bF,bD,o,p],gV b G N n)->Ap Xe.heap Xr ex E->bY ca ex.toList->ca.length=min x.length Xp.length->mu N x Xp ca->Xf (.ok<|.ret an) Xe):
  ∀(k a:Nat) (f:ah) (j:aw) (Q:List ar) (z:Array ab) (n:Nat),min x.length Xp.length-a=k->a<=min x.length Xp.length->bV am j->aE b G D j f->(∀n∈[Xr,C,bF,bD,o,p],gV b G j n)->
   (qo aQ aR g e C bF bD o p a f.heap\/Kd aQ aR g e C bF bD o p Xr a f.heap)->Ap f.heap Xr z n->bY Q z.toList->Q.length=a->mu j x Xp Q->
   codeAny (aM b.prog b.w) O (.builtin "list.extend.loop" ⟨[.ref Xr,.ref C,an],[]⟩) Xf f:=by
 intro k;have g1:Xr≠C/\Xr≠bF/\Xr≠bD/\Xr≠o/\Xr≠p:=by simpa [oT] using gl
 let@⟨ap,fd,as,a1,a2⟩:=g1;induction k with
 |zero=>
  intro a f j Q z n cd U I A J X bd be bi ce;let⟨@Xq,ch,P,W⟩:=A.h6 (eq j I);let⟨@fn,ci,XZ,W⟩:=A.h6 (ev j I);have lf:=ch.length;have li:=ci.length;have fr:Xq.toArray[a]?=Y\/fn.toArray[a]?=Y:=by
   rcases gz a x.length with c|c
   ·exact .inr (by simp;omega)
   ·exact .inl (by simp;omega)
  refine hD IP ?_;rw[iD rB _];show wpAny _ O.in1 (ff (.ref C) >>= _) _ _ f;have bm:∀M d,(∀n m,n≠C->n≠bD->n≠o->n≠p->f.heap.get? n=Z m->M.get? n=Z m)->(∃m,M.get? d=Z m/\m.cls=.type "StopIteration")->Xf (.ok<|.ret an) {f with heap:=M}:=λM d cA W=>by
   refine gt {f with heap:=M} j Q z n I (A.J1 (XM:=f.toks) J λv m hd d=>?_) J (cA _ _ ap as a1 a2 bd) be (by omega) ce;simp only[bO,i8,eY,oT]at hd;exact cA v m hd.2.1 hd.2.2.2.1 hd.2.2.2.2.1 hd.2.2.2.2.2 d
  rcases X with ⟨i,r,⟨bM,hy,u⟩,s,t⟩|⟨T,E,q,i,ew,bn,r,u,s,t⟩
  ·exact ak (v7 ⟨_,i,rfl⟩<|EM (O:=O.in1.in1) dL y i r u s t P XZ fr λM d cA R=>⟨d,rfl,R,aK<|bm M d cA R⟩)
  ·exact ak (v7 ⟨_,i,rfl⟩<|Qo (O:=O.in1.in1) dL y i ew r s t P XZ fr λM d cA R=>⟨d,rfl,R,aK<|bm M d (λn m cl W co cr=>cA n m cl co cr) R⟩)
 |succ k g2=>
  intro a f j Q z n cd U I A J X bd be bi ce;let⟨@Xq,ch,P,W⟩:=A.h6 (eq j I);let⟨@fn,ci,XZ,W⟩:=A.h6 (ev j I);have f0:x[a]?=Z x[a]:=dv (by omega);have f1:Xp[a]?=Z Xp[a]:=dv (by omega);let⟨@L,f2,g3⟩:=ch.get f0;let⟨@bs,f4,he⟩:=ci.get f1;refine hD IP ?_;rw[iD rB _];show wpAny _ O.in1 (ff (.ref C) >>= _) _ _ f;have lt:∀n∈[Xr,C,bF,bD,o,p],n<f.heap.objs.size:=λn B=>by
   have hf:(∃m,f.heap.get? C=Z m)/\(∃m,f.heap.get? bF=Z m)/\(∃m,f.heap.get? bD=Z m)/\(∃m,f.heap.get? o=Z m)/\(∃m,f.heap.get? p=Z m):=by
    rcases X with ⟨i,r,⟨bM,hy,u⟩,s,t⟩|⟨T,E,q,i,ew,bn,r,⟨bM,hy,u⟩,s,t⟩
    ·exact⟨⟨_,i⟩,⟨_,r⟩,⟨_,u⟩,let ⟨m,d,_⟩:=lI s;⟨m,d⟩,let ⟨m,d,_⟩:=lI t;⟨m,d⟩⟩
    ·exact⟨⟨_,i⟩,⟨_,r⟩,⟨_,u⟩,let ⟨m,d,_⟩:=lI s;⟨m,d⟩,let ⟨m,d,_⟩:=lI t;⟨m,d⟩⟩
   let@⟨⟨@_,hm⟩,⟨@_,hw⟩,⟨@_,h0⟩,⟨@_,ii⟩,⟨@_,im⟩⟩:=hf;simp only[bO,i8,eY]at B;rcases B with rfl|rfl|rfl|rfl|rfl|rfl
   ·exact bI bd
   ·exact bI hm
   ·exact bI hw
   ·exact bI h0
   ·exact bI ii
   ·exact bI im
  have neT:∀n∈[Xr,C,bF,bD,o,p],n≠f.heap.objs.size:=λn B=>cZ (lt n B);have io:j f.heap.objs.size=Y:=A.aZ.fresh (ba _);have f8:bV j (upd j f.heap.objs.size<|.tup [x[a],Xp[a]]):=(bV.refl j).upd io;have ga:z.size=a:=by rw[<-bi,<-dr];exact (dY.length be).symm
  have go:∀M,gg M f.heap.objs.size L bs->(∀n m,n≠C->n≠bD->n≠o->n≠p->f.heap.get? n=Z m->M.get? n=Z m)->(∀S,(∀n m,n≠Xr->M.get? n=Z m->S.get? n=Z m)->qo aQ aR g e C bF bD o p (a+1) S\/Kd aQ aR g e C bF bD o p Xr (a+1) S)->
    wpAny (aM b.prog b.w) O.in1 (nf Xr (·.push (.ref f.heap.objs.size)) >>= λ_=>again<|.builtin "list.extend.loop" ⟨[.ref Xr,.ref C,an],[]⟩) (λbm Xe=>match bm with | .done F=>Xf (.ok F) Xe | .again E=>E.quiet=aa/\codeAny (aM b.prog b.w) O E Xf Xe) (λd Xe=>Xf (.error d) Xe) {f with heap:=M}:=by
   intro M n6 cA it;have ge:Ap M Xr z n:=cA _ _ ap as a1 a2 bd;refine ak (l1 (s:={f with heap:=M}) ge rfl (aK ⟨hP rB _,g2 (a+1) _ (upd j f.heap.objs.size<|.tup [x[a],Xp[a]]) (Q++[.ref f.heap.objs.size]) (z.push<|.ref f.heap.objs.size) _ (by omega) (by omega) (I.trans f8) ?_ (λn B=>(J n B).upd<|neT n B) (it _ λn m B d=>(gw _ _<|eN B).trans d) (jq _ ge rfl) ?_ (by simp;omega) ?_⟩)
    (by rw[ga];omega) (by show (z.push _).size<=sizeLine+1;rw[Ei,ga];omega))
   ·refine A.Gh (XM:=f.toks) J (λv m hd d=>?_) (ba _) ⟨by show 2<=sizeLine;decide,[L,bs],.cons g3<|.cons he .nil,?_⟩
    ·simp only[bO,i8,eY,oT]at hd;exact (gw _ _<|eN hd.1).trans (cA v m hd.2.1 hd.2.2.2.1 hd.2.2.2.2.1 hd.2.2.2.2.2 d)
    ·exact⟨_,(gw _ _<|neT Xr<|.head _).trans n6,rfl,0,rfl⟩
   ·rw[wk];exact be.append (.cons rfl .nil)
   ·exact ce.push f8 e_ (by rw[bi];exact f0) (by rw[bi];exact f1)
  rcases X with ⟨i,r,⟨bM,hy,u⟩,s,t⟩|⟨T,E,q,i,ew,bn,r,⟨bM,hy,u⟩,s,t⟩
  ·refine ak (v7 ⟨_,i,rfl⟩ (Er (O:=O.in1.in1) y i r u s t P XZ (h:=L) (H:=bs) (by simpa using f2) (by simpa using f4) λM cs jp db ds bv cA=>go M bv cA λS XH=>.inr ?_));exact⟨_,_,_,XH _ _ ap.symm cs,XH _ _ (neT Xr<|.head _).symm bv,λcd=>absurd rfl<|neT _ cd,XH _ _ fd.symm<|cA _ _ y.TIz y.TITO y.TIi1 y.TIi2 r,⟨_,_,XH _ _ as.symm jp⟩,fb db λm d=>XH _ _ a1.symm d,fb ds λm d=>XH _ _ a2.symm d⟩
  ·have al:=bn;simp only[bO,i8,eY,oT]at al;refine ak (v7 ⟨_,i,rfl⟩ (OE (O:=O.in1.in1) y i ew r s t P XZ (h:=L) (H:=bs) (by simpa using f2) (by simpa using f4) λM cs db ds bv W cA=>go M bv (λn m cl W co cr=>cA n m cl co cr) λS XH=>.inr ?_));exact⟨T,aa,q,XH _ _ ap.symm cs,XH _ _ al.1<|cA _ _ al.2.1 al.2.2.2.2.1 al.2.2.2.2.2 ew,bn,XH _ _ fd.symm<|cA _ _ y.TIz y.TIi1 y.TIi2 r,⟨bM,hy,XH _ _ as.symm<|cA _ _ y.TOz y.TOi1 y.TOi2 u⟩,fb db λm d=>XH _ _ a1.symm d,fb ds λm d=>XH _ _ a2.symm d⟩
end
theorem Nn:n4 (.type "zip") "__len__" = pure Y:=by rw[o8,o5];kernel_rfl
theorem NC:n4 (.type "zip") "__length_hint__" = pure Y:=by rw[o8,o5];kernel_rfl
section
variable{b:aO}
theorem Ny{g e C bF bD i k:af}{B:List ab->ah->Prop}(T:O.handled=Y)(y:lr C bF bD i k g e){x Xp:List ar}(I:∀N,bV j N->e7 aQ b.K N g x)(J:∀N,bV j N->e7 aR b.K N e Xp)(A:aE b G D j f)(U:∀n∈[C,bF,bD,i,k],gV b G j n)(X:qo aQ aR g e C bF bD i k 0 f.heap)(al:∀Xe N Q L,bV j N->aE b G D N Xe->bY Q L->Q.length=min x.length Xp.length->mu N x Xp Q->B L Xe):wpAny (aM b.prog b.w) O (vK<|.ref C) B Xg f:=by
 let⟨@Xq,cd,am,ce⟩:=A.h6 (I j<|bV.refl j);let⟨@ch,ci,XZ,cl⟩:=A.h6 (J j<|bV.refl j);let⟨@co,an⟩:=pP am;let⟨@cr,ap⟩:=pP XZ;have lt:∀n∈[C,bF,bD,i,k],n<f.heap.objs.size:=λn h=>by
  let@⟨z,E,⟨o,@p,q⟩,r,s⟩:=X;simp only[bO,i8,eY]at h;rcases h with rfl|rfl|rfl|rfl|rfl
  ·exact bI z
  ·exact bI E
  ·exact bI q
  ·let⟨@m,d,W⟩:=lI r;exact bI d
  ·let⟨@m,d,W⟩:=lI s;exact bI d
 have as:f.heap.objs.size∉[C,bF,bD,i,k]:=λc=>jJ _ (lt _ c);have a1:f.heap.objs.size≠C:=iM (lt C (by simp));unfold vK;refine ak (AU<|hD F.entry_proto_collect ?_);rw[iD F.plain_proto_collect _];show wpAny _ O.in1 (n3 [] >>= λt=>again<|.builtin "list.__iadd__" ⟨[t,.ref C],[]⟩) _ _ f;refine ak (gh<|aK ⟨hP H7 _,hD F.entry_list_iadd ?_⟩);rw[iD H7 _];have v:∀n m,f.heap.get? n=Z m->(f.heap.push {cls:=.type "list",data:=.seq ([]:List ab).toArray}).get? n=Z m:=λn m d=>bH _ d;have M:(f.heap.push {cls:=.type "list",data:=.seq ([]:List ab).toArray}).get? f.heap.objs.size=Z {cls:=.type "list",data:=.seq ([]:List ab).toArray}:=cI _ rfl;have a2:gV b G j f.heap.objs.size:=A.n7 (ba _) (A.aZ.fresh<|ba _);have H:ah.TypeIs ({f with heap:=f.heap.push {cls:=.type "list",data:=.seq ([]:List ab).toArray} }:ah) (.ref C) "zip" := ⟨_,v _ _ X.1,rfl⟩;show wpAny _ O.in1 (aX.List.listExtendWith (.ref f.heap.objs.size) (.ref C)<|.ref f.heap.objs.size) _ _ _;unfold aX.List.listExtendWith;refine ak (wpAny_typeOf H ?_);have bd:aX.List.listSameRef (.ref f.heap.objs.size) (.ref C)=au:=by simp[aX.List.listSameRef,a1]
 rw[aI (by rw[bd];decide)];refine ak (zx (v _ _ X.1)<|ak<|fl ?_);unfold aX.List.listLengthHint;refine ak (my H Nn ?_);show wpAny _ O.in1 (specialOf (.ref C) (aB.ofString "__length_hint__") >>= _) _ _ _;refine ak (my H NC<|aK ?_);show wpAny _ O.in1 (rule "list.extend.makes-room" >>= λ_=>aX.List.listTouch (.ref f.heap.objs.size) >>= λ_=>again<|.builtin "list.extend.loop" ⟨[.ref f.heap.objs.size,.ref C,.ref f.heap.objs.size],[]⟩) _ _ _;refine ak (h7<|ak ?_);show wpAny _ O.in1 (nf f.heap.objs.size (·.push .none) >>= λ_=>nf f.heap.objs.size (·.pop)) _ _ _;refine ak (l1 M rfl ?_);have R:=jq (a0.mapSeq (·.push ab.none)) M rfl;refine l1 R rfl ?_;have be:=jq (a0.mapSeq (·.pop)) R rfl;have S:∀n m,n≠f.heap.objs.size->f.heap.get? n=Z m->
   (((f.heap.push {cls:=.type "list",data:=.seq ([]:List ab).toArray}).update f.heap.objs.size (a0.mapSeq (·.push ab.none))).update f.heap.objs.size (a0.mapSeq (·.pop))).get? n=Z m:=
  λn m h d=>(gw _ _<|eN h).trans ((gw _ _<|eN h).trans<|v n m d);refine aK ⟨hP rB _,Nw (b:=b) (G:=G) (D:=D) (O:=O) T y as (iM<|bI an) (iM<|bI ap) I J (by rw[HR];split<;>omega) _ (λXe N Q cs db bi bm W bn bs bv ca=>?_) _ 0 _ j [] #[] _ rfl (gC _) (bV.refl j) ?_ ?_ (.inl ?_) be .nil rfl (λa u d=>by simp at d)⟩
 ·show wpAny _ O (load f.heap.objs.size >>= _) _ _ Xe;exact ak (vn bn<|aK<|al Xe N Q _ bi bm bs bv ca)
 ·exact A.kept (XM:=f.toks) λn m d=>S n m (cZ<|bI d) d
 ·intro n h;rcases bO.mp h with rfl|h
  ·exact a2
  ·exact U n h
 ·let@⟨z,E,⟨o,@p,q⟩,r,s⟩:=X;have XR:∀n∈[C,bF,bD,i,k],∀m,f.heap.get? n=Z m->_:=λn h m d=>S n m (cZ<|lt n h) d;exact⟨XR C (by simp) _ z,XR bF (by simp) _ E,⟨o,p,XR bD (by simp) _ q⟩,fb r λm d=>XR i (by simp) m d,fb s λm d=>XR k (by simp) m d⟩
theorem OU{g e C bF bD h i:af}(t:O.handled=Y)(y:lr C bF bD h i g e){x Xp:List ar}(q:∀N,bV j N->e7 aQ b.K N g x)(v:∀N,bV j N->e7 aR b.K N e Xp)(A:aE b G D j f)(z:∀n∈[C,bF,bD,h,i],gV b G j n)(X:qo aQ aR g e C bF bD h i 0 f.heap)(E:∀Xe N Q T,bV j N->aE b G D (upd N T<|.tup Q) Xe->N T=Y->Q.length=min x.length Xp.length->mu N x Xp Q->B (.ref T) Xe):
  wpAny (aM b.prog b.w) O (call (.type "tuple") [.ref C]) B Xg f:=by
 refine ym (Q₁:=λobj a=>a.TypeIs obj "tuple" /\ B obj a) Bd (F.typeCall_tuple_1 _) F.entry_object_init (zD ?_) λobj a k=>⟨k.1,F.args_object_init_2 obj _,object_init_meets Bd.init.lookup Bd.made (by decide) b.prog b.w O.in1 _ a ⟨k.1,rfl,k.2⟩⟩;show wpAny _ _ (do Df "tuple.__new__" ⟨[.type "tuple",.ref C],[]⟩;again (.builtin "tuple.__new__" ⟨[.type "tuple",.ref C],[]⟩)) _ _ f;refine ak (oW (F.newCall_tuple_1 _)<|aK ⟨hP CP _,hD F.entry_tuple_new ?_⟩);rw[iD CP _];have M:=sub_tuple_self;have R:=init_tuple_lookup;have S:=madeHere_tuple;have H:f.TypeIs (.ref C) "zip" := ⟨_,X.1,rfl⟩
 wp_walk using wpAny_typeOf H,Ny (O:=O.in1.in1) t y q v A z X
 intro Xe N Q c I r o p J;have s:c.length<=sizeLine:=by
  let⟨@W,W,W,U⟩:=A.h6 (q j<|bV.refl j);have:=o.length;rw[HR]at p;split at p<;>lia
 show wpAny _ _ (aX.Tuple.tupleExact c.toArray >>= λu=>ret u) _ _ _;unfold aX.Tuple.tupleExact;refine ak (gh (aK ?_) (by show c.toArray.size<=sizeLine;simpa using s));refine⟨⟨_,cI _ rfl,rfl⟩,E _ N Q _ I (r.laid (XM:=Xe.toks) (λn m d=>bH _ d) (ba _) ⟨by rw[o.length];exact s,c,o,?_⟩) (r.aZ.fresh<|ba _) p J⟩;exact⟨_,cI _ rfl,rfl,0,rfl⟩
end
section
variable{b:aO}
def Pp(Xd:PySem.W.Frag)(X4:en):cn:=λD j B=>X4 D j λXc Xn=>∃aQ aR g e x Xp,Xc=[.ref g,.ref e]/\(∀N,bV Xn N->e7 aQ Xd N g x)/\(∀N,bV Xn N->e7 aR Xd N e Xp)/\
 ∀N Q T,bV Xn N->N T=Y->Q.length=min x.length Xp.length->mu N x Xp Q->B (.ref T) (upd N T<|.tup Q)
theorem Td{X4:en}(l:b.calm=aa)(L:dS b "tuple")(M:b.aH "tuple" = Y)(O:dS b "zip")(P:b.aH "zip" = Y)(R:gM b [g,e] X4)(Xi:bL [g,e] b.env=[(au,bZ g b.env),(au,bZ e b.env)]:=by rfl)(u:bL [e] b.env=[(au,bZ e b.env)]:=by rfl):
  b6 b (.Call (.Name "tuple" XZ) [.Call (.Name "zip" o) [g,e] [] Xu] [] r) (Pp b.K X4):=by
 intro G f D j B A c;refine pE (jt A L M (show eT "tuple" = Z (.type "tuple") by decide +kernel) (mc ?_ rfl rfl) (by decide) (by decide));refine uz ?_;refine rb (jt A O P boot_zip (mc (cc (R Xu G f D j _ A c) λXE a ⟨Xc,Xn,k,S,U⟩=>?_) (by rw[Xi,u]) (by rw[u];rfl)));let⟨aQ,aR,h,i,x,@Xp,d,v,w,p⟩:=U;subst d;let⟨W,@W,rfl,al,am⟩:=pO S;cases al;cases am;let⟨@Xq,bi,o,z⟩:=k.h6 (v Xn<|bV.refl Xn);let⟨@an,bm,XZ,bn⟩:=k.h6 (w Xn<|bV.refl Xn);have ap:h<a.heap.objs.size:=by let⟨@m,d⟩:=pP o;exact bI d
 have as:i<a.heap.objs.size:=by let⟨@m,d⟩:=pP XZ;exact bI d
 refine BV GG (by decide) (BU _ _) (Ji _ _) (λobj=>I9 obj _ _) D8 (Cp aQ aR h i Xq.toArray an.toArray) ⟨o,XZ,?_⟩;have q:(a.heap.push {cls:=.type (e5 aQ),data:=.fields #[.ref h,.int 0 0]}).objs.size=a.heap.objs.size+1:=gN ..;have s:((a.heap.push {cls:=.type (e5 aQ),data:=.fields #[.ref h,.int 0 0]}).push {cls:=.type (e5 aR),data:=.fields #[.ref i,.int 0 0]}).objs.size=a.heap.objs.size+2:=by rw[gN,q]
 have t:(((a.heap.push {cls:=.type (e5 aQ),data:=.fields #[.ref h,.int 0 0]}).push {cls:=.type (e5 aR),data:=.fields #[.ref i,.int 0 0]}).push
  {cls:=.type "tuple",data:=.seq #[.ref a.heap.objs.size,.ref (a.heap.push {cls:=.type (e5 aQ),data:=.fields #[.ref h,.int 0 0]}).objs.size]}).objs.size=a.heap.objs.size+3:=by rw[gN,s]
 have C:(gK aQ aR a.heap h i).objs.size=a.heap.objs.size+4:=by unfold gK;rw[gN,t]
 show _/\_;refine⟨⟨_,cI _ rfl,rfl⟩,wt ?_⟩;rw[s,t,C];have E:((gK aQ aR a.heap h i).push {cls:=.type "zip",data:=.fields #[.none,.bool au,.bool au,.ref<|a.heap.objs.size+2,.ref<|a.heap.objs.size+3]}).get? (a.heap.objs.size+4)=Z {cls:=.type "zip",data:=.fields #[.none,.bool au,.bool au,.ref<|a.heap.objs.size+2,.ref<|a.heap.objs.size+3]}:=by rw[<-C];exact cI _ rfl
 have F:((gK aQ aR a.heap h i).push {cls:=.type "zip",data:=.fields #[.none,.bool au,.bool au,.ref<|a.heap.objs.size+2,.ref<|a.heap.objs.size+3]}).get? (a.heap.objs.size+3)=Z {cls:=.type "tuple",data:=.seq #[.none,.none]}:=by
  rw[<-t];exact bH _ (cI _ rfl)
 have H:((gK aQ aR a.heap h i).push {cls:=.type "zip",data:=.fields #[.none,.bool au,.bool au,.ref<|a.heap.objs.size+2,.ref<|a.heap.objs.size+3]}).get? (a.heap.objs.size+2)=Z {cls:=.type "tuple",data:=.seq #[.ref a.heap.objs.size,.ref<|a.heap.objs.size+1]}:=by
  rw[<-s,<-q];exact bH _ (bH _<|cI _ rfl)
 have I:((gK aQ aR a.heap h i).push {cls:=.type "zip",data:=.fields #[.none,.bool au,.bool au,.ref<|a.heap.objs.size+2,.ref<|a.heap.objs.size+3]}).get? (a.heap.objs.size+1)=Z {cls:=.type (e5 aR),data:=.fields #[.ref i,.int 0 0]}:=by
  rw[<-q];exact bH _ (bH _<|bH _<|cI _ rfl)
 have J:((gK aQ aR a.heap h i).push {cls:=.type "zip",data:=.fields #[.none,.bool au,.bool au,.ref<|a.heap.objs.size+2,.ref<|a.heap.objs.size+3]}).get? a.heap.objs.size=Z {cls:=.type (e5 aQ),data:=.fields #[.ref h,.int 0 0]}:=
  bH _ (bH _<|bH _<|bH _<|cI _ rfl);have c5:∀n m,a.heap.get? n=Z m->((gK aQ aR a.heap h i).push {cls:=.type "zip",data:=.fields #[.none,.bool au,.bool au,.ref<|a.heap.objs.size+2,.ref<|a.heap.objs.size+3]}).get? n=Z m:=λn m d=>
  bH _ (bH _<|bH _<|bH _<|bH _ d);generalize ((gK aQ aR a.heap h i).push {cls:=.type "zip",data:=.fields #[.none,.bool au,.bool au,.ref<|a.heap.objs.size+2,.ref<|a.heap.objs.size+3]})=bs at J I H F E c5 ⊢;have y:lr (a.heap.objs.size+4) (a.heap.objs.size+2) (a.heap.objs.size+3) a.heap.objs.size (a.heap.objs.size+1) h i:=IE _ _ _ ap as;refine OU (b:=b) (G:=G) (D:=D) (k.ok.hd l) y v w (k.kept (XM:=a.toks) c5) (λn l=>?_) ⟨E,H,⟨_,_,F⟩,wA J,wA I⟩ λXe N Q T a1 a2 bd z be=>⟨.ref T,_,a2,rfl,p N Q T a1 bd z be⟩;have:a.heap.objs.size<=n:=by
  simp only[bO,i8,eY]at l;rcases l with rfl|rfl|rfl|rfl|rfl
  ·exact jU _ _
  ·exact jU _ _
  ·exact jU _ _
  ·exact ba _
  ·exact jU _ _
 exact k.n7 this (k.aZ.fresh this)
theorem So:∀{J S:List V}{x Xp Q:List ar},br j J x->br j S Xp->Q.length=min x.length Xp.length->mu j x Xp Q->br j (ec J S) Q:=by
 intro J;induction J with
 |nil=>
  intro S x Xp Q z E b c;have:=z.length;cases Q with
  |nil=>rfl
  |cons C s=>simp at this b;lia
 |cons v J e=>
  intro S x Xp Q z E b c;cases S with
  |nil=>
   have:=E.length;cases Q with
   |nil=>rfl
   |cons C s=>simp at this b;lia
  |cons d S=>
   let⟨h,@m,rfl,XF,XH⟩:=z;let⟨H,@n,rfl,f,g⟩:=E;cases Q with
   |nil=>simp at b
   |cons C s=>
    let⟨T,o,@q,rfl,i,k,l⟩:=c 0 C rfl;cases k;cases l;refine⟨.ref T,s,rfl,⟨T,[h,H],rfl,i,⟨h,[H],rfl,XF,H,[],rfl,f,rfl⟩⟩,e XH g (by simp at b ⊢;lia) λa u p=>?_⟩;exact c (a+1) u p
theorem L9{I:az (List bq)}(n:dS b "tuple")(q:b.aH "tuple" = Y)(t:dS b "zip")(v:b.aH "zip" = Y)(c:fL b [g,e] I)(Xi:bL [g,e] b.env=[(au,bZ g b.env),(au,bZ e b.env)]:=by rfl)(w:bL [e] b.env=[(au,bZ e b.env)]:=by rfl)(A:b.calm=aa:=by rfl):
  cS b (.Call (.Name "tuple" XZ) [.Call (.Name "zip" o) [g,e] [] Xu] [] r) (Dz I):=by
 refine eP (Td A n q t v c Xi w) λD j B C=>?_;let⟨y,P,s,@XC,X,ag,F,p⟩:=C;let⟨@⟨Xw,Xl⟩,z,E⟩:=bG.mp F;let⟨@J,G,f⟩:=bG.mp E;refine⟨y,P,Xw,Xl,X,ag,z,λXc Xn Xz bs i XJ M=>?_⟩;have O:=XJ.read i G;split at f
 ·rename_i XY X1;let⟨@h,R,S⟩:=bG.mp f;let⟨@H,U,al⟩:=cD.mp S;cases al;let⟨u,@L,rfl,⟨@bv,fR⟩,⟨@ca,gL⟩⟩:=yy O;let⟨am,an,@x,rfl,ap,as⟩:=vD (Xd:=b.K) fR R;let⟨a1,Yb,@Xp,rfl,a2,bd⟩:=vD (Xd:=b.K) gL U;refine⟨am,a1,an,Yb,x,Xp,rfl,λN a=>as N a.tupS λg W m d=>a g m d,λN a=>bd N a.tupS λg W m d=>a g m d,λN Q T a be bi bm=>?_⟩;have l:bV N (upd N T<|.tup Q):=(bV.refl N).upd be;have k:=a.trans l;have bn:br N (ec h H) Q:=So (ap.mono a.tupS.tup) (a2.mono a.tupS.tup) bi bm;exact p _ _ Xz [] (i.mono k.tupS λg W m d=>k g m d) ⟨⟨T,Q,rfl,e_,bn.mono l.tupS.tup⟩,rfl⟩ (M.new k iH (λg c=>nomatch c) i.chg)
 ·cases f
end
section
variable{b:aO}
theorem Rm{n:Nat}{Yw:bF}{I:kk->hh}{YA:kk->eu}{Yk:kk->cn}(s:b.N.Nodup)(t:b.N[n]?=Z Yh)(v:lS b.env.scope Yh)(w:b.calm=aa)(Xr:j0 b XI own XU)(U:jN b XK Ye Yw)(x:∀a,ka (b.dt (gX b own XU) XI a) XK<|I a)(bQ:∀a,td (b.dt (gX b own XU) XI a) Ys<|YA a)(z:∀a,b6 (b.dt (gX b own XU) XI a) Yu<|Yk a)(Xi:∀h,mH Ye b.env h=pure h:=by intro W;rfl)(B:oY (.ListComp Yu [⟨XK,Ye,Ys,0⟩] XI Xu) (Z<|.Name Yh i) R.line b.env=pure aa:=by rfl)(E:b.fn Yh=aa\/b.env.scope.names.lookup Yh=Z .local:=by first|exact .inl rfl|exact .inr rfl|assumption):
  iN b (.Assign [.Name Yh i] (.ListComp Yu [⟨XK,Ye,Ys,0⟩] XI Xu) R) (Ad (vW own XU Yw I YA Yk)<|xG n):=by
 intro G f D j H A c;rw[exec_Assign_Name_used _ _ _ _ B];refine ak (ur<|ak ?_);show wpAny _ b.A (do let _ <-yq (.ListComp Yu [⟨XK,Ye,Ys,0⟩] XI Xu) XI b.env _ (n3 []) au (bZ Ye b.env) (Z<|js (.Name Yh i) b.env)) _ _ f;refine ak (gT (J7 (use:=Z (js (.Name Yh i) b.env)) (f0:=λ_ Xe=>er b G H .next Xe) w Xr U x bQ z Xi A c λy aP a1 J k L P F q r C o p=>?_) (λ_ Xe Q=>aK<|aK Q) λ_ W d=>d);show wpAny _ b.A (js (.Name Yh i) b.env<|.ref y) _ _ J;refine DO (H3 L s t v (u:=.ref y) rfl (λS T al=>?_) E);let⟨@g,am,l⟩:=al;have an:aP≠g:=by
  rcases l with rfl|l
  ·exact eN q
  ·exact eN (r _ _ l)
 exact⟨k,P.sameBut am an,λM cQ=>⟨_,_,T.turned (Xj:=aP) (XM:=S.toks) (λe m ap d=>(cQ.2 e ap).trans d) F (eN q) (.inr C) r o,p⟩⟩
end
section
variable{b:aO}
theorem Sj{XX:List Nat}{a:Nat}{l:jm}{H:fi}{Yv:az Bool}{Yx:az aj}(d:b.N.Nodup)(e:b.N[a]?=Z Yh)(f:lS b.env.scope Yh)(g:b.calm=aa)(Xr:j0 b XI own XU)(ag:XU.Nodup)(U:lB b XK Ye l)(k:∀c,iR (b.dt (gX b own XU) XI c) (sU own.length XU.length) XK H)(bQ:∀c,tM (b.dt (gX b own XU) XI c) Ys Yv)(m:∀c,cS (b.dt (gX b own XU) XI c) Yu Yx)(n:a∉XX)(Xi:∀h,mH Ye b.env h=pure h:=by intro W;rfl)(o:oY (.ListComp Yu [⟨XK,Ye,Ys,0⟩] XI Xu) (Z<|.Name Yh i) R.line b.env=pure aa:=by rfl)(q:b.fn Yh=aa\/b.env.scope.names.lookup Yh=Z .local:=by first|exact .inl rfl|exact .inr rfl|assumption):
  iF b XX (.Assign [.Name Yh i] (.ListComp Yu [⟨XK,Ye,Ys,0⟩] XI Xu) R) (b_ a<|eZ own.length XU l H Yv Yx):=by
 refine lx (Rm d e f g Xr U k bQ m Xi o q) λXg D j r=>?_;let⟨y,P,aU,@XC,X,t,v,p⟩:=r;let⟨@⟨s,Xl⟩,z,E⟩:=bG.mp v;split at E
 ·rename_i w;cases E;refine Ec ag ⟨y,P,s,_,X,t,z,λu Xn Xz Xf x XQ A=>?_⟩;let⟨XS,@b4,B,XP⟩:=x.put (a:=a) XQ w;exact p _ Xn XS (dm.set n) B (A.less XP)
 ·cases E
end
section
variable{b:aO}
noncomputable def Dy:aj->aj
 |.lst h=>.im (.aU h)
 |.a_ []=>.im .fd
 |v=>v
@[simp] theorem Xa(h:List V):Dy (.lst h)=.im (.aU h):=rfl
@[simp] theorem WW(v:V):Dy (.im v)=.im v:=rfl
end
end L2
namespace dj
open PySem PySem.Spec PyProof.Rows
section
variable{Xm:bJ}{l:bc}{O:bw}{Xg:ab->ah->Prop}{f:ah}
end
end dj
namespace L2
open PySem PySem.Spec PyProof.Rows
section
variable{b:aO}
theorem br.rev{j:aw}:∀{J:List V}{x:List ar},br j J x->br j J.reverse x.reverse
 |[],x,c=>by cases (show x=[] from c);rfl
 |v::J,x,c=>by
  let⟨u,@s,rfl,z,E⟩:=c;rw[EV,EV];exact E.rev.app ⟨u,[],rfl,z,rfl⟩
end
variable{B:ab->ah->Prop}{e:Bool}{X1:aj}{L u:ab}{H h:ar}{f:ah}{D:a3}{G:List (af×a0)}{v:V}{j:aw}
theorem JW{c:aV}:∀(w:Nat) {h H:V}{u:ab},V.bo w h=aa->V.bo w H=aa->dM c h u->dM c H u->h=H
 |w,.aW,H,u,_,a6,f,b=>by
  cases (show u=.none from f);cases H with
  |aW=>rfl
  |aG e=>cases b
  |int r=>let⟨@L,d⟩:=b;cases d
  |str C=>let⟨@L,d⟩:=b;cases d
  |tup J=>let⟨W,W,W,@W,d,W⟩:=b;cases d
  |fn g=>cases w<;>cases a6
  |aU g=>cases w<;>cases a6
  |fd=>cases w<;>cases a6
 |w,.aG e,H,u,_,a6,f,b=>by
  cases (show u=.bool e from f);cases H with
  |aW=>cases b
  |aG n=>cases b;rfl
  |int r=>let⟨@L,d⟩:=b;cases d
  |str C=>let⟨@L,d⟩:=b;cases d
  |tup J=>let⟨W,W,W,@W,d,W⟩:=b;cases d
  |fn g=>cases w<;>cases a6
  |aU g=>cases w<;>cases a6
  |fd=>cases w<;>cases a6
 |w,.int a,H,u,_,a6,f,b=>by
  let⟨@i,rfl⟩:=f;cases H with
  |aW=>cases b
  |aG n=>cases b
  |int r=>let⟨@L,d⟩:=b;injection d with d;rw[d]
  |str C=>let⟨@L,d⟩:=b;cases d
  |tup J=>let⟨W,W,W,@W,d,W⟩:=b;cases d
  |fn g=>cases w<;>cases a6
  |aU g=>cases w<;>cases a6
  |fd=>cases w<;>cases a6
 |w,.str a,H,u,_,a6,f,b=>by
  let⟨@i,rfl⟩:=f;cases H with
  |aW=>cases b
  |aG n=>cases b
  |int r=>let⟨@L,d⟩:=b;cases d
  |str C=>let⟨@L,d⟩:=b;injection d with d;rw[d]
  |tup J=>let⟨W,W,W,@W,d,W⟩:=b;cases d
  |fn g=>cases w<;>cases a6
  |aU g=>cases w<;>cases a6
  |fd=>cases w<;>cases a6
 |w+1,.tup J,H,u,o,a6,f,b=>by
  let⟨g,m,Xy,@k,rfl,z,E,t,x⟩:=f;cases H with
  |aW=>cases b
  |aG n=>cases b
  |int r=>let⟨@L,d⟩:=b;cases d
  |str C=>let⟨@L,d⟩:=b;cases d
  |fn g=>cases a6
  |aU g=>cases a6
  |fd=>cases a6
  |tup S=>
   let⟨D,R,F,@G,d,l,I,j,y⟩:=b;cases d;rw[z]at l;cases l;rw[t]at j;injection j with j _;subst j;have all:∀(J S:List V) (Xc:List ab),V.c2 w J=aa->V.c2 w S=aa->dI c J Xc->dI c S Xc->J=S:=by
    intro J;induction J with
    |nil=>
     intro S Xc W W g e;cases S with
     |nil=>rfl
     |cons d S=>let⟨W,@W,p,W⟩:=e;rw[show Xc=[] from g]at p;cases p
    |cons v J A=>
     intro S Xc XF XH g e;let⟨u,@s,rfl,B,Yb⟩:=g;cases S with
     |nil=>cases (show u::s=[] from e)
     |cons d S=>
      let⟨M,@X9,p,aQ,aR⟩:=e;cases p;rw[V.c2,cU]at XF XH;rw[JW w XF.1 XH.1 B aQ,A S s XF.2 XH.2 Yb aR]
   rw[all J S _ o a6 x y]
 |0,.tup _,_,_,q,_,_,_=>by cases q
 |w,.fn _,_,_,q,_,_,_=>by cases w<;>cases q
 |w,.aU _,_,_,q,_,_,_=>by cases w<;>cases q
 |w,.fd,_,_,q,_,_,_=>by cases w<;>cases q
open Classical in
def kT(c:aV)(v:V)(u:ab):Bool:=if C:∃h,V.bo 8 h=aa/\dM c h u then cy C.choose v else au
theorem nI{c:aV}{h:V}(q:V.bo 8 h=aa)(a:dM c h u):kT c v u=cy h v:=by
 unfold kT;have C:∃h,V.bo 8 h=aa/\dM c h u:=⟨h,q,a⟩;rw[dif_pos C,JW 8 C.choose_spec.1 q C.choose_spec.2 a]
theorem tj{c:aV}{v:V}:∀{J:List V}{Xc:List ab},V.c2 8 J=aa->dI c J Xc->Xc.any (kT c v)=J.any λh=>cy h v
 |[],Xc,_,d=>by rw[show Xc=[] from d];rfl
 |h::J,Xc,q,d=>by
  let⟨u,@s,rfl,z,E⟩:=d;rw[V.c2,cU]at q;rw[ni,ni,nI q.1 z,tj q.2 E]
theorem q_{c:aV}:∀{J:List V}{Xc:List ab}{u:ab},V.c2 8 J=aa->dI c J Xc->u∈Xc->∃h,V.bo 8 h=aa/\dM c h u
 |[],Xc,u,_,d,k=>by rw[show Xc=[] from d]at k;cases k
 |h::J,Xc,u,q,d,k=>by
  let⟨L,@s,rfl,z,E⟩:=d;rw[V.c2,cU]at q;rcases bO.mp k with rfl|k
  ·exact⟨h,q.1,z⟩
  ·exact q_ q.2 E k
section
variable{b:aO}
def iP(v:V):aj->Option Bool
 |.im (.tup J)=>if (V.bo 8 v&&V.c2 8 J)=aa then Z (J.any λh=>cy h v) else Y
 |.lst J=>if (V.bo 8 v&&V.c2 8 J)=aa then Z (J.any λh=>cy h v) else Y
 |.a_ Xt=>match v with
  |.tup q=>if V.keys 7 q=aa then Z (fB Xt q).isSome else Y
  |_=>Y
 |.dQ Xt=>match v with
  |.int a=>Z (fB Xt<|.inl a).isSome
  |.str h=>Z (fB Xt<|.inr h).isSome
  |_=>Y
 |_=>Y
@[simp] theorem N0(v:V)(J:List V):iP v (.im<|.tup J)=if (V.bo 8 v&&V.c2 8 J)=aa then Z (J.any λh=>cy h v) else Y:=rfl
@[simp] theorem MA(v:V)(J:List V):iP v (.lst J)=if (V.bo 8 v&&V.c2 8 J)=aa then Z (J.any λh=>cy h v) else Y:=rfl
@[simp] theorem WZ(q:List V)(Xt:List (List V×V)):iP (.tup q) (.a_ Xt)=if V.keys 7 q=aa then Z (fB Xt q).isSome else Y:=rfl
@[simp] def nU:gx:=λg e=>match g with
 |.im v=>(iP v e).map λs=>.im (.aG s)
 |_=>Y
@[simp] def oS:gx:=λg e=>match g with
 |.im v=>(iP v e).map λs=>.im (.aG<|!s)
 |_=>Y
theorem qC{XG:Type}[DecidableEq XG]{j:aw}{q:XG}{Xt:List (XG×V)}{M:List (XG×ar)}(c:eU j Xt M):(h2 M q).isSome=(fB Xt q).isSome:=by
 cases d:fB Xt q with
 |none=>rw[(p_ c).2 d];rfl
 |some v=>let⟨@u,z,W⟩:=(p_ c).1 v d;rw[z];rfl
theorem MV(N:b.A.units+20<bU)(A:aE b G D j f)(m:cq h u)(n:cq H L)(r:cL j v h)(s:fX j X1 H)(d:iP v X1=Z e)(p:∀Xe,aE b G D j Xe->B (.bool e) Xe):wpAny (aM b.prog b.w) b.A (eQ .In u L) B b.cW f:=by
 unfold iP at d;split at d
 ·rename_i J;split at d
  ·rename_i c;cases d;rw[cU]at c;let⟨g,@x,rfl,z,E⟩:=s.i;cases n;let⟨@Xq,Q,o,W⟩:=A.tuple (cH.of z);have y:=E.fc A.aZ Q;refine SeqAt.in_tupleAt (kT f.heap v) (show f.heap.IsTuple g Xq.toArray from o) (λl P=>?_) ?_
   ·let⟨@C,F,I⟩:=q_ c.2 y (by simpa using P);rw[nI F I];exact iO 8 F c.1 (by show b.A.units+1+8+1<bU;lia) I (r.fc A.aZ m)
   ·rw[wO,tj c.2 y];exact p f A
  ·cases d
 ·rename_i J;split at d
  ·rename_i c;cases d;rw[cU]at c;let⟨W,g,@x,rfl,z,E,W⟩:=s;cases n;let⟨@Xq,o,y,W⟩:=qy A z E;refine SeqAt.in_listAt (kT f.heap v) o (λl P=>?_) ?_
   ·let⟨@C,F,I⟩:=q_ c.2 y (by simpa using P);rw[nI F I];exact iO 8 F c.1 (by show b.A.units+1+8+1<bU;lia) I (r.fc A.aZ m)
   ·rw[wO,tj c.2 y];exact p f A
  ·cases d
 ·rename_i Xt;split at d
  ·rename_i q;split at d
   ·rename_i R;cases d;let⟨W,g,@M,rfl,z,E,W⟩:=s;cases n;let⟨e,@Xp,rfl,S,T⟩:=r;rw[<-qC E]at p;exact Av N A (g0.t z ⟨R,e,Xp,rfl,S,T⟩) m p
   ·cases d
  ·cases d
 ·rename_i Xt;split at d
  ·rename_i a;cases d;let⟨W,g,@M,rfl,z,E,W⟩:=s;cases n;rw[<-qC E]at p;cases (show h=cG (.inl a) from r);exact Av N A (g0.k z) m p
  ·rename_i a;cases d;let⟨W,g,@M,rfl,z,E,W⟩:=s;cases n;rw[<-qC E]at p;cases (show h=cG (.inr a) from r);exact Av N A (g0.k z) m p
  ·cases d
 ·cases d
theorem E0(c:b.A.units+20<bU):f7 b (eQ .In) nU:=by
 intro G f D j h H u L B A g k ⟨XY,X1,v,l,m,d,p⟩;unfold nU at d;split at d
 ·let⟨@e,n,o⟩:=cD.mp d;cases o;exact MV c A g k l.i m n λXe q=>⟨.aG e,j,q,rfl,ck.i p rfl⟩
 ·cases d
theorem Mw(N:b.A.units+20<bU)(A:aE b G D j f)(m:cq h u)(n:cq H L)(r:cL j v h)(s:fX j X1 H)(d:iP v X1=Z e)(p:∀Xe,aE b G D j Xe->B (.bool<|!e) Xe):wpAny (aM b.prog b.w) b.A (eQ .NotIn u L) B b.cW f:=by
 unfold iP at d;split at d
 ·rename_i J;split at d
  ·rename_i c;cases d;rw[cU]at c;let⟨g,@x,rfl,z,E⟩:=s.i;cases n;let⟨@Xq,Q,o,W⟩:=A.tuple (cH.of z);have y:=E.fc A.aZ Q;refine SeqAt.notIn_tupleAt (kT f.heap v) (show f.heap.IsTuple g Xq.toArray from o) (λl P=>?_) ?_
   ·let⟨@C,F,I⟩:=q_ c.2 y (by simpa using P);rw[nI F I];exact iO 8 F c.1 (by show b.A.units+1+8+1<bU;lia) I (r.fc A.aZ m)
   ·rw[wO,tj c.2 y];exact p f A
  ·cases d
 ·rename_i J;split at d
  ·rename_i c;cases d;rw[cU]at c;let⟨W,g,@x,rfl,z,E,W⟩:=s;cases n;let⟨@Xq,o,y,W⟩:=qy A z E;refine SeqAt.notIn_listAt (kT f.heap v) o (λl P=>?_) ?_
   ·let⟨@C,F,I⟩:=q_ c.2 y (by simpa using P);rw[nI F I];exact iO 8 F c.1 (by show b.A.units+1+8+1<bU;lia) I (r.fc A.aZ m)
   ·rw[wO,tj c.2 y];exact p f A
  ·cases d
 ·rename_i Xt;split at d
  ·rename_i q;split at d
   ·rename_i R;cases d;let⟨W,g,@M,rfl,z,E,W⟩:=s;cases n;let⟨e,@Xp,rfl,S,T⟩:=r;rw[<-qC E]at p;exact AO N A (g0.t z ⟨R,e,Xp,rfl,S,T⟩) m p
   ·cases d
  ·cases d
 ·rename_i Xt;split at d
  ·rename_i a;cases d;let⟨W,g,@M,rfl,z,E,W⟩:=s;cases n;rw[<-qC E]at p;cases (show h=cG (.inl a) from r);exact AO N A (g0.k z) m p
  ·rename_i a;cases d;let⟨W,g,@M,rfl,z,E,W⟩:=s;cases n;rw[<-qC E]at p;cases (show h=cG (.inr a) from r);exact AO N A (g0.k z) m p
  ·cases d
 ·cases d
theorem TJ(c:b.A.units+20<bU):f7 b (eQ .NotIn) oS:=by
 intro G f D j h H u L B A g k ⟨XY,X1,v,l,m,d,p⟩;unfold oS at d;split at d
 ·let⟨@e,n,o⟩:=cD.mp d;cases o;exact Mw c A g k l.i m n λXe q=>⟨.aG<|!e,j,q,rfl,ck.i p rfl⟩
 ·cases d
@[simp] def HO(F a:gx)(Yj Yd Yv:az bq):az aj:=λy=>(Yj y).bind λo=>(Yd o.2).bind λp=>(fa p.2 o.1).bind λXY=>(fa p.2 p.1).bind λX1=>(F XY X1).bind λv=>(qX v).bind λq=>
 if q=aa then (Yv p.2).bind λs=>(fa s.2 p.1).bind λb=>(fa s.2 s.1).bind λc=>(a b c).bind λC=>(qX C).map λe=>(.im<|.aG e,s.2) else Z (.im<|.aG au,p.2)
end
mutual
noncomputable def bl:V->V->Bool
 |.int a,.int r=>decide (a<r)
 |.tup g,.tup e=>gy g e
 |_,_=>au
noncomputable def gy:List V->List V->Bool
 |[],[]=>au
 |[],_::_=>aa
 |_::_,[]=>au
 |g::s,e::i=>if V.beq g e=aa then gy s i else bl g e
end
mutual
noncomputable def eI:Nat->V->V->Bool
 |_,.int _,.int _=>aa
 |w+1,.tup g,.tup e=>gb w g e
 |_,_,_=>au
noncomputable def gb:Nat->List V->List V->Bool
 |_,[],[]=>aa
 |w,g::s,e::i=>eI w g e&&gb w s i
 |_,_,_=>au
end
theorem ua:∀{w:Nat}{g e:List V},gb w g e=aa->g.length=e.length
 |_,[],[],_=>rfl
 |w,g::s,e::i,c=>by
  rw[gb,cU]at c;rw[c3,c3,ua c.2]
 |_,[],_::_,c=>by cases c
 |_,_::_,[],c=>by cases c
mutual
theorem q6:∀{w:Nat}{g e:V},eI w g e=aa->V.bo w g=aa/\V.bo w e=aa/\cy g e=V.beq g e
 |w,.int a,.int r,_=>by
  refine⟨by cases w<;>rfl,by cases w<;>rfl,?_⟩;rw[cy,V.beq];by_cases c:a=r<;>simp[c]
 |w+1,.tup g,.tup e,c=>by
  rw[eI]at c;let@⟨z,E,b⟩:=Eu c;exact⟨z,E,by rw[cy,V.beq];exact b⟩
theorem Eu:∀{w:Nat}{g e:List V},gb w g e=aa->V.c2 w g=aa/\V.c2 w e=aa/\fC g e=V.mB g e
 |w,[],[],_=>⟨by cases w<;>rfl,by cases w<;>rfl,rfl⟩
 |w,g::s,e::i,c=>by
  rw[gb,cU]at c;let@⟨z,E,a⟩:=q6 c.1;let@⟨b,d,f⟩:=Eu c.2;exact⟨by rw[V.c2,z,b];rfl,by rw[V.c2,E,d];rfl,by rw[fC,V.mB,a,f]⟩
end
theorem n0{g e:V}(c:¬ g=e):V.beq g e=au:=by
 cases d:V.beq g e with
 |false=>rfl
 |true=>exact absurd ((V.beq_iff g e).mp d) c
mutual
theorem wJ:∀g:V,bl g g=au
 |.int a=>by simp[bl]
 |.tup g=>by rw[bl];exact HI g
 |.aW=>rfl
 |.aG _=>rfl
 |.str _=>rfl
 |.fn _=>rfl
 |.aU _=>rfl
 |.fd=>rfl
theorem HI:∀g:List V,gy g g=au
 |[]=>rfl
 |g::s=>by rw[gy,aA<|(V.beq_iff g g).mpr rfl];exact HI s
end
mutual
theorem pS:∀{w:Nat}{g e:V},eI w g e=aa->g≠e->bl g e=!(bl e g)
 |w,.int a,.int r,_,c=>by
  have:a≠r:=λd=>c (by rw[d]);rw[bl,bl];rcases Int.lt_or_gt_of_ne this with I|I
  ·simp[I];lia
  ·simp[I];lia
 |w+1,.tup g,.tup e,c,d=>by
  rw[eI]at c;rw[bl,bl];exact D3 c λC=>d (by rw[C])
theorem D3:∀{w:Nat}{g e:List V},gb w g e=aa->g≠e->gy g e=!(gy e g)
 |w,[],[],_,c=>absurd rfl c
 |w,g::s,e::i,c,d=>by
  rw[gb,cU]at c;rw[gy,gy];by_cases C:g=e
  ·subst C;rw[aA ((V.beq_iff g g).mpr rfl),aA<|(V.beq_iff g g).mpr rfl];exact D3 c.2 λl=>d (by rw[l])
  ·rw[n0 C,n0<|λl=>C l.symm,aI dy,aI dy];exact pS c.1 C
end
mutual
theorem tL:∀{w:Nat}{g e n:V},eI w g e=aa->eI w e n=aa->bl g e=aa->bl e n=aa->bl g n=aa
 |w,.int a,.int r,.int q,_,_,z,E=>by
  rw[bl]at z E ⊢;have:=fD z;have:=fD E;exact dU (by omega)
 |w+1,.tup g,.tup e,.tup n,b,c,z,E=>by
  rw[eI]at b c;rw[bl]at z E ⊢;exact Ft b c z E
theorem Ft:∀{w:Nat}{g e n:List V},gb w g e=aa->gb w e n=aa->gy g e=aa->gy e n=aa->gy g n=aa
 |w,[],[],[],_,_,c,_=>c
 |w,g::s,e::i,n::L,d,b,z,E=>by
  rw[gb,cU]at d b;rw[gy]at z E ⊢;by_cases f:g=e
  ·subst f;rw[aA ((V.beq_iff g g).mpr rfl)]at z;by_cases a:g=n
   ·subst a;rw[aA ((V.beq_iff g g).mpr rfl)]at E ⊢;exact Ft d.2 b.2 z E
   ·rw[n0 a,aI dy]at E ⊢;exact E
  ·rw[n0 f,aI dy]at z;by_cases a:e=n
   ·subst a;rw[n0 f,aI dy];exact z
   ·rw[n0 a,aI dy]at E;have h:=tL d.1 b.1 z E;have j:¬ g=n:=λl=>by
     subst l;have:=pS b.1 a;rw[z,E]at this;cases this
    rw[n0 j,aI dy];exact h
end
def xQ(O:bw)(f:ah)(H h:ab)(q:Bool):Prop:=∀(Xm:bJ) (l:bc) (Xg:ab->ah->Prop) (B:ab->ah->Prop),B (.bool q) f->wpAny (aM Xm l) O (oK .Lt H h) B Xg f
noncomputable def h8(F:Bool):List (Bool×Bool)->Bool
 |[]=>F
 | (d,q)::s=>if d=aa then h8 F s else q
section
open PySem.SeqAt
open PySem.AutoSeq1 (wpAny_loadPart')
open PySem.MeetsSeq PySem.MeetsSeq2 PySem.MeetsSeq3
theorem TQ(t e:af)(Xy b:Array ab)(w Yq:Nat)(y A:Option af)(aY B:Array (Option ab))(Xo:List (Bool×Bool))(Q:Xo.length=min Xy.size b.size):
  Meets (aX.«tuple.__lt__» ⟨[.ref t,.ref e],[]⟩)
   (λO Xf f=>f.heap.get? t=Z {cls:=.type "tuple",dict:=y,data:=.seq Xy w,slots:=aY}/\f.heap.get? e=Z {cls:=.type "tuple",dict:=A,data:=.seq b Yq,slots:=B}/\
    (∀r (z:r<Xy.size) (E:r<b.size) (m:r<Xo.length),EqAt O.in1 f Xy[r] b[r] (Xo[r]).1/\((Xo[r]).1=au->xQ O.in1 f Xy[r] b[r] (Xo[r]).2))/\
    Xf (.ok<|.ret<|.bool<|h8 (decide (Xy.size<b.size)) Xo) f):=
 .of_wp λXm l O Xf f c=>by
  let⟨j,I,v,XT,Xw⟩:=f;let@⟨C,D,F,c⟩:=c;have R:=E6;have o:(Xy.toList.zip b.toList).length=min Xy.size b.size:=by simp
  wp_walk using wpAny_loadPart' C,wpAny_loadPart' D,nc _ (λc4 e Xe=>e.1=Y/\Xe=⟨j,I,v,XT,Xw⟩/\∃a,c4=(Xy.toList.zip b.toList).drop a/\
   Xf (.ok<|.ret<|.bool<|h8 (decide (Xy.size<b.size))<|Xo.drop a) ⟨j,I,v,XT,Xw⟩) _
  case turn=>
   rintro⟨H,h⟩ c4 e Xe ⟨n,rfl,a,g,i⟩;have p:a<(Xy.toList.zip b.toList).length:=by
    rcases gz a (Xy.toList.zip b.toList).length with M|M
    ·exact M
    ·rw[mO M]at g;cases g
   have S:a<min Xy.size b.size:=o ▸ p;have z:a<Xy.size:=⋯
   have E:a<b.size:=⋯
   have m:a<Xo.length:=⋯
   rw[jH p]at g;injection g with s G;have J:H=Xy[a]:=by have:=congrArg Prod.fst s;simpa using this
   have L:h=b[a]:=by have:=congrArg Prod.snd s;simpa using this
   subst J L;rw[jH m]at i;let@⟨u,x⟩:=F a z E m;generalize Xo[a]=N at i u x;let⟨d,q⟩:=N;refine ak (u Xm l _ _ ?_);cases d with
   |true=>
    have k:Xf (.ok<|.ret<|.bool<|h8 (decide (Xy.size<b.size))<|Xo.drop<|a+1) ⟨j,I,v,XT,Xw⟩:=i
    wp_walk
    exact⟨rfl,rfl,a+1,G,k⟩
   |false=>
    have k:Xf (.ok<|.ret<|.bool q) ⟨j,I,v,XT,Xw⟩:=i;have P:=x rfl Xm l
    wp_walk using P
    exact⟨_,rfl,by simpa using k⟩
  case fin=>
   rintro⟨aQ,aR⟩ Xe ⟨n,rfl,a,g,i⟩;simp only at n;subst n;have T:min Xy.size b.size<=a:=by
    rcases gz a (Xy.toList.zip b.toList).length with M|M
    ·rw[jH M]at g;cases g
    ·exact o ▸ M
   rw[mO ⋯]at i;have k:Xf (.ok<|.ret<|.bool<|decide (Xy.size<b.size)) ⟨j,I,v,XT,Xw⟩:=i
   wp_walk
   exact⟨_,rfl,by simpa [aX.Tuple.tupleCompareSizes] using k⟩
  case h=>
   exact⟨rfl,rfl,0,rfl,by simpa using c⟩
end
def lL(J S:List V):List (Bool×Bool):=(J.zip S).map λo=>(cy o.1 o.2,bl o.1 o.2)
theorem Ja:∀{w:Nat}{J S:List V},gb w J S=aa->h8 au (lL J S)=gy J S
 |_,[],[],_=>rfl
 |w,g::s,e::i,c=>by
  rw[gb,cU]at c;show (if cy g e=aa then h8 au (lL s i) else bl g e)=gy (g::s) (e::i);rw[gy,(q6 c.1).2.2,Ja c.2]
 |_,[],_::_,c=>by cases c
 |_,_::_,[],c=>by cases c
theorem z4{w:Nat}:∀{J S:List V}{r:Nat}{g e:V},gb w J S=aa->J[r]?=Z g->S[r]?=Z e->eI w g e=aa
 |[],S,r,g,e,_,c,_=>by simp at c
 |v::J,[],r,g,e,c,_,_=>by cases c
 |v::J,d::S,0,g,e,c,z,E=>by
  rw[gb,cU]at c;cases z;cases E;exact c.1
 |v::J,d::S,r+1,g,e,c,z,E=>by
  rw[gb,cU]at c;exact z4 (r:=r) c.2 (by simpa using z) (by simpa using E)
theorem DS{O:bw}{a r:Int}(b:dM f.heap (.int a) L)(c:dM f.heap (.int r) u):xQ O f L u (bl (.int a)<|.int r):=by
 let⟨@i,rfl⟩:=b;let⟨@XM,rfl⟩:=c;intro Xm l Xg B p;rw[bl]at p;exact dj.Tx O f a i r XM Xm l Xg B p
theorem tK:∀{w:Nat}{h H:V},eI w h H=aa->(∃a r,h=.int a/\H=.int r)\/∃k g e,w=k+1/\h=.tup g/\H=.tup e/\gb k g e=aa:=by
 intro w h H c;unfold eI at c;split at c
 ·exact .inl ⟨_,_,rfl,rfl⟩
 ·exact .inr ⟨_,_,_,rfl,rfl,rfl,c⟩
 ·cases c
theorem Ge(w:Nat):∀{O:bw}{h H:V}{L u:ab},eI w h H=aa->O.units+w+2<bU->dM f.heap h L->dM f.heap H u->xQ O f L u (bl h H):=by
 induction w with
 |zero=>
  intro O h H L u c I b i;rcases tK c with ⟨a,r,rfl,rfl⟩|⟨k,_,_,d,_⟩
  ·exact DS b i
  ·cases d
 |succ w M=>
  intro O h H L u c I b i;rcases tK c with ⟨a,r,rfl,rfl⟩|⟨k,J,S,d,rfl,rfl,c⟩
  ·exact DS b i
  cases d;let⟨g,m,Xq,@k,rfl,z,E,j,n⟩:=b;let⟨e,R,y,@N,rfl,o,q,s,t⟩:=i;let⟨cls,Q,data,aY⟩:=m;let⟨bd,T,be,U⟩:=R;simp only at E j q s;subst E j q s;have bi:=ua c;have al:J.length=Xq.size:=by rw[n.length,dr]
  have am:S.length=y.size:=by rw[t.length,dr]
  intro Xm l Xg B p;rw[bl,<-Ja c]at p;have an:(lL J S).length=min Xq.size y.size:=by rw[lL,a9,lR,al,am]
  have hd:decide (Xq.size<y.size)=au:=d3 ⋯;refine JO (op:=.Lt) ⟨_,z,rfl⟩ ⟨_,o,rfl⟩ PySem.F.slot_tuple_lt PySem.F.entry_tuple_lt (PySem.F.args_tuple_lt_2 _ _) (TQ g e Xq y k N Q T aY U (lL J S) an)
   ⟨z,o,λr ap as a1=>?_,show ab.bool (h8 (decide (Xq.size<y.size))<|lL J S)≠ab.notImplemented/\B (.bool<|h8 (decide (Xq.size<y.size))<|lL J S) f from ⟨(λh=>nomatch h),by rw[hd];exact p⟩⟩ ⋯;let⟨@XY,v,x⟩:=n.get (r:=r) (u:=Xq[r]) (by rw[eS];simp[ap]);let⟨@X1,A,D⟩:=t.get (r:=r) (u:=y[r]) (by rw[eS];simp[as]);have lk:=z4 c v A;have G:=q6 lk;have a2:(lL J S)[r]=(cy XY X1,bl XY X1):=by
   have:(lL J S)[r]?=Z (cy XY X1,bl XY X1):=by
    rw[lL,dZ,(mi (z:=(XY,X1))).mpr ⟨v,A⟩];rfl
   rw[dv a1]at this;exact Option.some.inj this
  rw[a2];exact⟨iO w G.1 G.2.1 (by show O.units+1+w+1<bU;lia) x D,λ_=>M lk (by show O.units+1+w+2<bU;lia) x D⟩
end L2
namespace L2
open PySem PySem.Spec PyProof.Rows PySem.W
variable{Xq:List ab}{t J:List V}
theorem DF{Xx:Type}{o p:Xx->Bool}:∀{t:List Xx},(∀h∈t,o h=aa->p h=aa)->(∃h∈t,p h=aa/\o h=au)->t.countP o<t.countP p
 |[],_,c=>by let⟨@h,a,W⟩:=c;cases a
 |g::t,c,⟨h,a,z,E⟩=>by
  rw[D7,D7];have le:t.countP o<=t.countP p:=List.countP_mono_left λH b=>c H (.tail _ b);rcases bO.mp a with rfl|a
  ·rw[z,E];simp;omega
  ·have:=DF (λH b=>c H<|.tail _ b) ⟨h,a,z,E⟩;have d:=c g (.head _);cases e:o g<;>cases f:p g<;>rw[e,f]at d<;>simp at d ⊢<;>omega
structure oN(J:List V):Prop where
 iQ:J.length<=1000
 jX:∀g∈J,∀e∈J,eI 6 g e=aa
structure uA(J:List V):Prop where
 iQ:J.length<=1000
 jX:∀g∈J,∀e∈J,eI 6 g e=aa
 ag:J.Nodup
theorem uA.w{J:List V}(m:uA J):oN J:=⟨m.iQ,m.jX⟩
def rg(J:List V)(h:V):Nat:=J.countP λv=>bl v h
theorem J8(m:oN J){h H:V}(a:h∈J)(b:H∈J)(c:bl h H=aa):rg J h<rg J H:=
 DF (λC e d=>tL (m.jX C e h a) (m.jX h a H b) d c) ⟨h,a,c,wJ h⟩
theorem Jn(m:oN J){h H:V}(a:h∈J)(b:H∈J):decide ((rg J h:Int)<(rg J H:Int))=bl h H:=by
 cases d:bl h H with
 |true=>exact dU (by have:=J8 m a b d;lia)
 |false=>
  refine d3 λC=>?_;by_cases c:h=H
  ·subst c;lia
  ·have i:=pS (m.jX h a H b) c;rw[d]at i;have XM:bl H h=aa:=by cases p:bl H h<;>rw[p]at i<;>simp at i ⊢
   have:=J8 m b a XM;lia
def oX(J:List V)(a:Nat):Int:=rg J (J.getD a .aW)
theorem vG{a:Nat}(c:a<J.length):J.getD a .aW∈J:=by
 rw[cM,dv c];exact r6 c
theorem Bl(m:oN J){o:Array Nat}(b:b7 J.length o)(i:iS (oX J) o J.length):(o.toList.map λa=>J.getD a .aW).Pairwise (λg e=>bl e g=au):=by
 rw[nF];intro a r U c l;have Xi:=b.size;have j:a<J.length:=by simpa [Xi] using U
 have f:r<J.length:=by simpa [Xi] using c
 have le:=i a r ⋯ f;have I:∀q (h:q<(o.toList.map λa=>J.getD a .aW).length),(o.toList.map λa=>J.getD a .aW)[q]=J.getD (o.getD q 0) .aW:=λq h=>by
  have k:q<o.size:=by simpa using h
  rw[IV,Dg];simp[Array.getD,k]
 rw[I a U,I r c];rw[<-Jn m (vG<|b.lt f) (vG<|b.lt j)];refine d3 ?_;have d:∀q,(rg J (J.getD (o.getD q 0) .aW):Int)=bb (oX J) o q:=λ_=>rfl;rw[d a,d r];lia
theorem C3:∀{t k:List V},t.Perm k->t.Pairwise (λg e=>bl g e=aa)->k.Pairwise (λg e=>bl g e=aa)->(∀g∈t,∀e∈t,bl g e=aa->bl e g=au)->t=k
 |[],k,o,_,_,_=>(List.nil_perm.mp o).symm
 |g::t,k,o,z,E,a=>by
  cases k with
  |nil=>exact absurd o.length_eq (by simp)
  |cons e k=>
   have d:g=e:=by
    by_cases d:g=e
    ·exact d
    ·have f:g∈k:=by
      rcases bO.mp (o.mem_iff.mp<|.head _) with C|C
      ·exact absurd C d
      ·exact C
     have b:e∈t:=by
      rcases bO.mp (o.mem_iff.mpr<|.head _) with C|C
      ·exact absurd C.symm d
      ·exact C
     have i:=(gB.mp z).1 e b;have c:=(gB.mp E).1 g f;rw[a g (.head _) e (.tail _ b) i]at c;cases c
   subst d;rw[C3 (TF o) (gB.mp z).2 (gB.mp E).2 λh j H l=>a h (.tail _ j) H<|.tail _ l]
theorem tZ(h:V):∀t:List V,(lg bl h t).Perm (h::t)
 |[]=>List.Perm.refl _
 |H::s=>by
  rw[lg];split
  ·exact List.Perm.refl _
  ·exact (List.Perm.cons H<|tZ h s).trans (List.Perm.swap h H s)
theorem i7:∀t:List V,(gs bl t).Perm t
 |[]=>List.Perm.refl _
 |h::s=>(tZ h _).trans (List.Perm.cons h<|i7 s)
theorem FU{h:V}:∀{t:List V},t.Pairwise (λg e=>bl g e=aa)->(∀H∈t,h≠H)->(∀g∈h::t,∀e∈h::t,eI 6 g e=aa)->(lg bl h t).Pairwise (λg e=>bl g e=aa)
 |[],_,_,_=>fP _ _
 |H::s,c,w,lk=>by
  have M:=gB.mp c;rw[lg];split
  ·rename_i d;refine gB.mpr ⟨λC a=>?_,c⟩;rcases bO.mp a with rfl|a
   ·exact d
   ·exact tL (lk h (.head _) H<|.tail _<|.head _) (lk H (.tail _<|.head _) C<|.tail _<|.tail _ a) d (M.1 C a)
  ·rename_i d;refine gB.mpr ⟨λC a=>?_,FU M.2 (λC a=>w C<|.tail _ a) λg b e f=>lk g ?_ e ?_⟩
   ·rcases bO.mp ((tZ h s).mem_iff.mp a) with rfl|a
    ·have i:=pS (lk C (.head _) H<|.tail _<|.head _) (w H<|.head _);cases p:bl H C with
     |true=>rfl
     |false=>rw[p]at i;exact absurd i d
    ·exact M.1 C a
   ·rcases bO.mp b with rfl|b
    ·exact .head _
    ·exact .tail _ (.tail _ b)
   ·rcases bO.mp f with rfl|f
    ·exact .head _
    ·exact .tail _ (.tail _ f)
theorem pq:∀{t:List V},t.Nodup->(∀g∈t,∀e∈t,eI 6 g e=aa)->(gs bl t).Pairwise (λg e=>bl g e=aa)
 |[],_,_=>.nil
 |h::s,ag,lk=>by
  have c:=g5.mp ag;refine FU (pq c.2 λg a e b=>lk g (.tail _ a) e<|.tail _ b) (λH f d=>c.1 (by rw[d];exact (i7 s).mem_iff.mp f)) λg a e b=>lk g ?_ e ?_
  ·rcases bO.mp a with rfl|a
   ·exact .head _
   ·exact .tail _ ((i7 s).mem_iff.mp a)
  ·rcases bO.mp b with rfl|b
   ·exact .head _
   ·exact .tail _ ((i7 s).mem_iff.mp b)
theorem zg(m:uA J)(o:t.Perm J)(c:t.Pairwise (λg e=>bl g e=aa)):t=gs bl J:=by
 refine C3 (o.trans (i7 J).symm) c (pq m.ag m.jX) λg a e b d=>?_;have i:=pS (m.jX g (o.mem_iff.mp a) e<|o.mem_iff.mp b) (λC=>by subst C;rw[wJ]at d;cases d);rw[d]at i;cases p:bl e g with
 |false=>rfl
 |true=>rw[p]at i;cases i
theorem GS{h:V}:∀{t:List V},t.Pairwise (λg e=>bl e g=au)->(∀g∈h::t,∀e∈h::t,eI 6 g e=aa)->(lg bl h t).Pairwise (λg e=>bl e g=au)
 |[],_,_=>fP _ _
 |H::s,c,lk=>by
  have M:=gB.mp c;unfold lg;split
  ·rename_i d;refine gB.mpr ⟨λC a=>?_,c⟩;cases p:bl C h with
   |false=>rfl
   |true=>
    have i:=tL (lk C (.tail _ a) h<|.head _) (lk h (.head _) H<|.tail _<|.head _) p d;rcases bO.mp a with rfl|a
    ·rw[wJ]at i;cases i
    ·rw[M.1 C a]at i;cases i
  ·rename_i d;refine gB.mpr ⟨λC a=>?_,GS M.2 λg b e f=>lk g ?_ e ?_⟩
   ·rcases bO.mp ((tZ h s).mem_iff.mp a) with rfl|a
    ·cases p:bl C H with
     |false=>rfl
     |true=>exact absurd p d
    ·exact M.1 C a
   ·rcases bO.mp b with rfl|b
    ·exact .head _
    ·exact .tail _ (.tail _ b)
   ·rcases bO.mp f with rfl|f
    ·exact .head _
    ·exact .tail _ (.tail _ f)
theorem Ii:∀{t:List V},(∀g∈t,∀e∈t,eI 6 g e=aa)->(gs bl t).Pairwise (λg e=>bl e g=au)
 |[],_=>.nil
 |h::s,lk=>by
  refine GS (Ii λg a e b=>lk g (.tail _ a) e<|.tail _ b) λg a e b=>lk g ?_ e ?_
  ·rcases bO.mp a with rfl|a
   ·exact .head _
   ·exact .tail _ ((i7 s).mem_iff.mp a)
  ·rcases bO.mp b with rfl|b
   ·exact .head _
   ·exact .tail _ ((i7 s).mem_iff.mp b)
theorem xy(m:oN J)(o:t.Perm J)(c:t.Pairwise (λg e=>bl e g=au)):t=gs bl J:=by
 refine Qu (λg e a b h H=>?_) c (Ii m.jX) (o.trans (i7 J).symm);by_cases d:g=e
 ·exact d
 ·have i:=pS (m.jX g (o.mem_iff.mp a) e<|(i7 J).mem_iff.mp b) d;rw[h,H]at i;cases i
noncomputable def ir:V->Bool
 |.tup (.int _::_)=>aa
 |_=>au
noncomputable def nS:V->Bool
 |.tup (.tup _::_)=>aa
 |_=>au
section
variable{Xm:bJ}{l:bc}{O:bw}{Xg:ab->ah->Prop}{f:ah}
theorem HF{e:Bool}(w:Nat)(k:O.units+w+2<bU){B:Bool->ah->Prop}:∀{J S:List V}{Xc b:List ab}{a:Nat},gb w J S=aa->dI f.heap J Xc->dI f.heap S b->(e=aa->a=0->∃q s,J=.int q::s)->B (gy J S) f->KatLex Xm l O e au B (Xc.zip b) a f
 |[],[],Xc,b,a,_,z,E,_,p=>by
  rw[show Xc=[] from z];exact kat_nil p
 |v::J,d::S,Xc,b,a,c,z,E,n,p=>by
  rw[gb,cU]at c;let⟨u,@Xc,rfl,h,Yb⟩:=z;let⟨L,@b,rfl,aQ,aR⟩:=E;rw[zl];let@⟨o,XZ,t⟩:=q6 c.1;refine kat_cons (iO w o XZ ⋯ h aQ Xm l _ _ ?_);rw[t];rw[gy]at p;cases m:V.beq v d with
  |true=>
   rw[m,aA rfl]at p;exact kat_yes (HF w k c.2 Yb aR (λ_ C=>⋯) p)
  |false=>
   rw[m,aI dy]at p;refine kat_no ?_;by_cases g:(e&&a==0)=aa
   ·rw[g];rw[cU]at g;let⟨q,@s,C⟩:=n g.1 (by simpa using g.2);cases C;rcases tK c.1 with ⟨y,r,j,x⟩|⟨_,_,_,_,j,_⟩
    ·cases j;cases x;let⟨@i,rfl⟩:=h;let⟨@XM,rfl⟩:=aQ;rw[bl]at p;exact oneLt_int p
    ·cases j
   ·rw[show (e&&a==0)=au by simpa using g];exact kat_one _ _ (Ge w c.1 k h aQ Xm l _ _ p)
 |[],_::_,_,_,_,c,_,_,_,_=>by cases c
 |_::_,[],_,_,_,c,_,_,_,_=>by cases c
theorem Bo{e:Bool}(m:oN J)(i:dI f.heap J Xq)(bQ:∀v∈J,∃s,v=.tup s)(w:e=aa->∀v∈J,ir v=aa)(M:O.units+9<bU):
  gq Xq.length (oX J) (fK Xm l O (pQ e)<|Xq.toArray.zip Xq.toArray) f:=by
 intro a r aP U y p;have N:=i.length;have b:=vG (J:=J) (a:=a) ⋯;have d:=vG (J:=J) (a:=r) ⋯;unfold oX at p;rw[Jn m b d]at p;let⟨@XY,k,z⟩:=i.get (r:=a) (u:=Xq[a]) (by simp);let⟨@X1,n,A⟩:=i.get (r:=r) (u:=Xq[r]) (by simp);rw[cM,k,cM,n]at p;rw[cM,k]at b;rw[cM,n]at d;let⟨@g,B⟩:=bQ XY b;let⟨@j,C⟩:=bQ X1 d;subst B C;have lk:gb 5 g j=aa:=m.jX _ b _ d;unfold fK;rw[tP rfl,tP rfl,cM,cM,dv U,dv y];show wpAny _ _ (keyLt' (pQ e) Xq[a] Xq[r]) _ _ _;let⟨h,P,x,@Q,D,E,R,F,o⟩:=z;let⟨H,S,Xp,@Yq,G,XF,XH,I,q⟩:=A;rw[D,G];refine kat_lt (b:=e) E F XF I ?_;have T:g.length=x.size:=by rw[o.length,dr]
 have al:j.length=Xp.size:=by rw[q.length,dr]
 rw[show decide (x.size<Xp.size)=au from d3 (by have:=ua lk;lia)];refine HF 5 ⋯ lk o q (λL W=>?_) (by have t:aP (bl (.tup g)<|.tup j) f:=p;rw[bl]at t;exact t);have:=w L _ b;unfold ir at this;split at this
 ·rename_i c;cases c;exact⟨_,_,rfl⟩
 ·cases this
theorem Ka:∀{J:List V}{Xq:List ab},dI f.heap J Xq->(∀v∈J,ir v=aa)\/(∀v∈J,nS v=aa)->∃aN,KatTups f.heap Xq aN/\aN.length=Xq.length/\
  ((∀v∈J,ir v=aa)->∀u∈aN,∃a i,u=ab.int a i)/\((∀v∈J,nS v=aa)->∀u∈aN,∃g j,u=ab.ref g/\f.heap.get? g=Z j/\j.cls=.type "tuple")
 |[],Xq,c,_=>by
  rw[show Xq=[] from c];exact⟨[],trivial,rfl,(λ_ W c=>nomatch c),(λ_ W c=>nomatch c)⟩
 |v::J,Xq,c,k=>by
  let⟨u,@s,rfl,z,E⟩:=c;let⟨@aN,o,q,r,t⟩:=Ka E (k.imp (λC h b=>C h<|.tail _ b) λC h b=>C h<|.tail _ b);have x:∃F X9,v=.tup (F::X9):=by
   rcases k with C|C
   ·have:=C v (.head _);unfold ir at this;split at this
    ·exact⟨_,_,rfl⟩
    ·cases this
   ·have:=C v (.head _);unfold nS at this;split at this
    ·exact⟨_,_,rfl⟩
    ·cases this
  let⟨F,@X9,rfl⟩:=x;let⟨g,m,Xy,@w,rfl,y,A,B,D⟩:=z;let⟨l,@M,d,n,N⟩:=D;have G:Xy[0]?=Z l:=by
   rw[<-eS,d];rfl
  refine⟨l::aN,KatTups.cons y A B G o,by simp[q],λC L e=>?_,λC L e=>?_⟩
  ·rcases bO.mp e with rfl|e
   ·have:=C _ (.head _);unfold ir at this;split at this
    ·rename_i p;cases p;exact⟨_,n⟩
    ·cases this
   ·exact r (λh b=>C h<|.tail _ b) L e
  ·rcases bO.mp e with rfl|e
   ·have:=C _ (.head _);unfold nS at this;split at this
    ·rename_i p;cases p;let⟨H,R,W,@W,I,XF,XH,W⟩:=n;exact⟨H,R,I,XF,XH⟩
    ·cases this
   ·exact t (λh b=>C h<|.tail _ b) L e
end
section
variable{b:aO}
theorem br.pick{j:aw}{Xp:List ar}(c:br j J Xp):∀{o:List Nat},(∀q∈o,q<J.length)->br j (o.map λa=>J.getD a .aW) (o.map λa=>Xp.getD a .aW)
 |[],_=>rfl
 |q::o,b=>by
  let⟨@u,d,e⟩:=c.get (a:=q) (v:=J.getD q .aW) (by
   have:=b q (.head _);rw[cM,dv this];rfl)
  refine⟨u,_,?_,e,c.pick λr f=>b r<|.tail _ f⟩;rw[cw,cM,d];rfl
structure j1(J:List V):Prop where
 ord:uA J
 fst:(∀v∈J,ir v=aa)\/(∀v∈J,nS v=aa)
structure rM(J:List V):Prop where
 ord:oN J
 fst:(∀v∈J,ir v=aa)\/(∀v∈J,nS v=aa)
theorem j1.w{J:List V}(m:j1 J):rM J:=⟨m.ord.w,m.fst⟩
theorem rM.tup(m:rM J):∀v∈J,∃s,v=.tup s:=λv hd=>by
 rcases m.fst with C|C
 ·have:=C v hd;unfold ir at this;split at this
  ·exact⟨_,rfl⟩
  ·cases this
 ·have:=C v hd;unfold nS at this;split at this
  ·exact⟨_,rfl⟩
  ·cases this
theorem dI.rh{c M:aV}(q:∀e m,c.get? e=Z m->M.get? e=Z m){J:List V}{Xc:List ab}(h:dI c J Xc):dI M J Xc:=h.keep λg m W W d W W=>q g m d
theorem zv{c:aV}{f:ah}(m:rM J)(E:2<=Xq.length)(j:dI f.heap J Xq)(O:bw)(Xg:ab->ah->Prop)(B:g9->ah->Prop)(d:B (pQ<|decide (∀v∈J,ir v=aa)) f):
  wpAny (aM b.prog b.w) O (yu Xq.toArray) B Xg f:=by
 let⟨@aN,k,t,n,o⟩:=Ka j m.fst;have x:=j.length;by_cases e:∀v∈J,ir v=aa
 ·rw[dU e]at d;refine kat_kind (T:=ab.type "int") k ⋯ (λu h=>?_) rfl ?_
  ·let⟨a,@i,rfl⟩:=n e u h;exact Iq rfl
  ·rw[show (ab.type "int" != ab.type "tuple")=aa by decide];exact d
 ·rw[d3 e]at d;have p:=m.fst.resolve_left e;refine kat_kind (T:=ab.type "tuple") k ⋯ (λu h=>?_) rfl ?_
  ·let⟨g,@q,rfl,r,s⟩:=o p u h;have:Looks (aM b.prog b.w) f.heap (ud<|.ref g) q.cls:=(Looks.ld r).andThen .now;rw[s]at this;exact this
  ·rw[show (ab.type "tuple" != ab.type "tuple")=au by decide];exact d
theorem BJ(y:b.calm=aa)(R:b.A.units+20<bU):eK b (.builtin "sorted") (λx j B=>∃(g:af) (J:List V) (Xp:List ar),x=[.ref g]/\(df b.K j g Xp\/cH b.K j g Xp)/\br j J Xp/\rM J/\
  ∀t Q,j t=Y->br j (gs bl J) Q->B (.ref t) (upd j t<|.lst Q)):=by
 intro G f D j x XE B A s c;let⟨g,J,@Xp,rfl,Xi,U,m,p⟩:=c;let⟨@L,rfl,z⟩:=hK s;cases z;have C:Xp.length<=1000:=by rw[<-U.length];exact m.ord.iQ
 have go:∀{T:String}{Xq:List ab}{w:Nat}{e:a0},(T = "list" \/ T = "tuple")->bY Xp Xq->f.heap.get? g=Z e->e.cls=.type T->e.data=.seq Xq.toArray w->wpAny (aM b.prog b.w) b.A (call (.builtin "sorted") [.ref g]) (eM b G D B) b.cW f:=by
  intro T Xq w e F h d aC i;have n:=U.fc A.aZ h;have H:Xq.length=J.length:=n.length.symm;refine Fi y (oX J) (pQ<|decide (∀v∈J,ir v=aa)) A h F d aC i C (λE r XT q O Xg B I=>zv (c:=r) m E (n.rh q) O Xg B I) (λr XT q=>?_) (.inl (by have:=m.ord.iQ;lia)) λo t k u aU=>?_
  ·refine Bo (f:={f with heap:=r,toks:=XT}) m.ord (n.rh q) m.tup (λM=>?_) (by show b.A.units+1+1+9<bU;lia);exact fD M
  ·rw[H]at k u;have N:(o.toList.map λa=>J.getD a .aW)=gs bl J:=xy m.ord (vo k) (Bl m.ord k u);refine p t _ aU ?_;rw[<-N];exact U.pick λq P=>eJ.mp (k.mem_iff.mp P)
 rcases Xi with Xi|Xi
 ·let⟨@Xq,h,o,W⟩:=A.list Xi;let⟨@e,d,aC,⟨@w,i⟩⟩:=o.isList;exact go (.inl rfl) h d aC i
 ·let⟨@Xq,h,o,W⟩:=A.tuple Xi;let⟨@e,d,aC,⟨@w,i⟩⟩:=o;exact go (.inr rfl) h d aC i
end
section
variable{b:aO}
theorem EL{j:aw}:∀{Xt:List (List V×ar)}{S:List (List V×af×ab)},dY (λ(o:List V×ar) (p:List V×af×ab)=>o.1=p.1/\hX j o.1 p.2.1/\cq o.2 p.2.2) Xt S->
  br j (Xt.map λo=>.tup o.1) (S.map λh=>ar.ref h.2.1)/\bY (S.map λh=>ar.ref h.2.1) (S.map λh=>ab.ref h.2.1)
 |_,_,.nil=>⟨rfl,.nil⟩
 |_,_,.cons s i=>by
  let@⟨z,E⟩:=EL i;exact⟨⟨_,_,rfl,s.2.1.2,z⟩,.cons rfl E⟩
theorem VK(bi:b.calm=aa)(ds:b.A.units+20<bU):eK b (.builtin "sorted") (λx j B=>∃(v:af) (Xt:List (List V×ar)),x=[.ref v]/\j v=Z (.a_ Xt)/\j1 (Xt.map λo=>.tup o.1)/\
  ∀t Q,j t=Y->br j (gs bl<|Xt.map λo=>.tup o.1) Q->B (.ref t) (upd j t<|.lst Q)):=by
 intro G f D j x XE B A s c;let⟨v,@Xt,rfl,hd,g,p⟩:=c;let⟨@L,rfl,bm⟩:=hK s;cases bm;let@⟨C,R,⟨@S,rel,⟨m,bn,@XN,bs,bv,ca,cd,ag⟩⟩⟩:=A.aZ v _ hd;let@⟨U,n⟩:=EL rel;have an:hQ f.heap v (S.map λh=>ab.ref h.2.1) XN:=⟨m,bn,bs,bv,ca,by rw[cd,eD];rfl⟩;generalize (S.map λh=>ab.ref h.2.1)=Xq at n an;generalize (S.map λh=>ar.ref h.2.1)=Xp at U n;generalize dL:(Xt.map λo=>V.tup o.1)=J at U g p;have I:=U.fc A.aZ n;have ap:Xq.length=J.length:=I.length.symm;have iQ:=g.ord.iQ;have eq:Xp.length=Xq.length:=n.length;have as:Xq.length<=sizeLine:=e0 ⋯ (show 1000<=sizeLine by decide);refine za A2 yD yI (BA _) ?C
 case C=>
  unfold aX.«sorted»;refine ak (m:=Bc "sorted" 1 1 _) (aK<|ak<|kdu_collect (A:=b.A.in1) (Tw R) (A.ok.hd bi) an as λM XT N P a1=>?_);have ce:N.toList=Xq:=by
   apply xX
   ·rw[dr];exact a1.1
   ·intro a z E;have:=a1.2 a N.toList[a] (by rw[<-eS];exact dv z);have this:Xq[a]?=Z N.toList[a]:=this;rw[dv E]at this;exact (Option.some.inj this).symm
  rw[ce];refine ak (vl ?_ as);have Yn:(M.push<|fN "list" Xq.toArray 0).get? M.objs.size=Z (fN "list" Xq.toArray 0):=cI _ rfl;have cg:∀e m,f.heap.get? e=Z m->(M.push<|fN "list" Xq.toArray 0).get? e=Z m:=λe m d=>bH _ (P e m d);have a2:aE b G D j {f with heap:=M,toks:=XT}:=A.kept P;have bd:∀e m,f.heap.get? e=Z m->e≠M.objs.size:=λe m d=>cZ (bI<|P e m d);refine ak (fl<|hA x4 ⟨_,Yn,rfl⟩ y1 ?H<|z_ _)
  case H=>
   refine yX (f:={f with heap:=M.push (fN "list" Xq.toArray 0),toks:=XT}) (oX J) (pQ<|decide (∀v∈J,ir v=aa)) Yn
    (λE T al B ch=>zv (b:=b) (c:=T) g.w E (I.rh λe m r=>al e m (bd e m r)<|cg e m r) _ _ B ch)
    (λT al=>Bo (f:={f with heap:=T,toks:=XT}) g.w.ord (I.rh λe m r=>al e m (bd e m r)<|cg e m r) g.w.tup (λci=>fD ci) (by show b.A.units+1+1+9<bU;lia))
    (.inl ⋯) ⋯ λo E i be XH ⟨cl,co⟩=>⟨_,rfl,aK ⟨_,rfl,?_⟩⟩;have cr:j M.objs.size=Y:=a2.aZ.fresh (ba _);have cs:∀e m,M.get? e=Z m->e≠M.objs.size:=λe m d=>cZ (bI d);rw[ap]at i be;refine⟨.ref M.objs.size,upd j M.objs.size<|.lst<|o.toList.map λa=>Xp.getD a .aW,?_,rfl,p _ _ cr ?_⟩
   ·refine a2.laid (XM:=XT) (λe L d=>XH e L (cs e L d)<|bH _ d) (ba _) ⟨?_,_,cl,?_,co⟩
    ·rw[a9,dr,i.size];lia
    ·refine si (by simp) λa u L z E=>?_;rw[dZ]at z E;cases am:o.toList[a]? with
     |none=>rw[am]at z;cases z
     |some q=>
      rw[am]at z E;cases z;cases E;have y:q<Xq.length:=by rw[ap];exact eJ.mp (i.mem_iff.mp<|fH am)
      let⟨@L,F,db⟩:=n.get (a:=q) (h:=Xp[q]'⋯) (by simp[show q<Xp.length by lia]);rw[dv y]at F;have F:=Option.some.inj F;simp only[List.getD,dv y,dv (show q<Xp.length by lia),sq];rw[F];exact db
   ·rw[<-xy g.w.ord (vo i) (Bl g.w.ord i be)];exact U.pick λq y=>eJ.mp (i.mem_iff.mp y)
def rH(J:List V):Bool:=decide (J.length<=1000)&&J.all (λg=>J.all λe=>eI 6 g e)&&decide J.Nodup&&(J.all ir || J.all nS)
theorem o2:rH J=aa↔j1 J:=by
 unfold rH;rw[cU,cU,cU,t8,gE,gE,jT,jT,jT];constructor
 ·rintro⟨⟨⟨z,E⟩,a⟩,b⟩;exact⟨⟨z,λg c e d=>jT.mp (E g c) e d,a⟩,b⟩
 ·rintro⟨⟨z,E,a⟩,b⟩;exact⟨⟨⟨z,λg c=>jT.mpr λe d=>E g c e d⟩,a⟩,b⟩
def i2(J:List V):Option aj:=if rH J=aa then Z (.lst<|gs bl J) else Y
def ha:hN:=λJ=>match J with
 |[.lst h]=>match l_ h with
  |some XA=>r1 [.lst h]
  |none=>i2 h
 |[.im (.tup h)]=>i2 h
 |[.a_ Xt]=>i2 (Xt.map λo=>.tup o.1)
 |_=>Y
theorem xo{v:aj}(c:i2 J=Z v):j1 J/\v=.lst (gs bl J):=by
 unfold i2 at c;split at c
 ·rename_i d;cases c;exact⟨o2.mp d,rfl⟩
 ·cases c
theorem IT{j:aw}:∀{Xt:List (List V×V)}{M:List (List V×ar)},eU j Xt M->(Xt.map λo=>V.tup o.1)=M.map λo=>V.tup o.1
 |_,_,.nil=>rfl
 |_,_,.cons s i=>by rw[cw,cw,IT i,s.1]
theorem n2(g:b.calm=aa)(k:b.A.units+20<bU):hl b (.builtin "sorted") ha:=by
 intro G f D j x XE B A s ⟨J,v,m,d,p⟩;unfold ha at d;split at d
 ·rename_i h;split at d
  ·exact E_ g k G f D j x XE B A s ⟨_,v,m,d,p⟩
  ·let@⟨c,rfl⟩:=xo d;let⟨@u,rfl,⟨W,o,@Xp,rfl,z,E,W⟩⟩:=g6 m;exact BJ g k G f D j _ XE B A s ⟨o,h,Xp,rfl,.inl<|df.of z,E,c.w,λt Q aU e=>ck.l p aU e⟩
 ·rename_i h;let@⟨c,rfl⟩:=xo d;let⟨@u,rfl,n⟩:=g6 m;let⟨o,@Xp,rfl,z,E⟩:=n.i;exact BJ g k G f D j _ XE B A s ⟨o,h,Xp,rfl,.inr<|cH.of z,E,c.w,λt Q aU e=>ck.l p aU e⟩
 ·rename_i Xt;let@⟨c,rfl⟩:=xo d;let⟨@u,rfl,⟨W,o,@M,rfl,z,E,W⟩⟩:=g6 m;rw[IT E]at c p;exact VK g k G f D j _ XE B A s ⟨o,M,rfl,z,c,λt Q aU e=>ck.l p aU e⟩
 ·cases d
end
end L2
namespace PySem
open Sem (wp)
theorem Mk:n4 (.type "list") "keys" = pure Y:=by rw[o8,o5];kernel_rfl
theorem ME{Xm:bJ}{l:bc}{O:bw}{Xg:ab->ah->Prop}{f:ah}{g:af}{x:Array ab}{q:Nat}{B:Option ab->ah->Prop}(a:f.heap.get? g=Z {cls:=.type "list",data:=.seq x q})(j:O.handled=Y)(c:∀M XT,(∀e m,f.heap.get? e=Z m->M.get? e=Z m)->B Y {f with heap:=M,toks:=XT}):wpAny (aM Xm l) O (getAttr? (.ref g) "keys") B Xg f:=by
 let⟨k,I,v,XT,Xw⟩:=f;have b:∀h,(⟨k,I,v,h,Xw⟩:ah).TypeIs (.ref g) "list" := λ_=>⟨_,a,rfl⟩;have r:=sub_AttributeError;have s:=zW.lookup;have t:=zW.bind (.ref g);have u:=am_list_getattr_none;unfold getAttr? getAttrBy? getAttrBy;repeat (any_goals (first|assumption|exact b _|((with_reducible show wpAny _ _ (call (ab.builtin "list.__getattribute__") _ _) _ _ _);refine q4 zW (b _) am_entry_list_getattribute (F.args_list_getattribute_2 _ _) (meets_getattribute_miss_list g x q _ "keys" _ Mk (by decide +kernel) (by decide)) ⟨a,j,λM h d i=>?_⟩)|wp_step))
 let⟨XM,@w,n⟩:=i.there;show wpAny _ _ (BY _ _ _ _ _ _ _) _ _ _;unfold BY;have o:∀p,(⟨M,I,v,p,Xw⟩:ah).TypeIs (.ref d) "AttributeError" := λ_=>⟨_,n,rfl⟩;repeat (any_goals (first|assumption|exact o _|wp_step))
 exact c M _ i.keeps
end PySem
namespace PySem
namespace F
theorem C5:qP rk "dict.update.loop" = Z aX.«dict.update.loop»:=D0 (by kernel_rfl)
theorem tR:plainId "dict.update.loop" = aa:=by decide +kernel
end F
end PySem
namespace L2
open PySem PySem.Spec PyProof.Rows PySem.W
variable{f:ah}
theorem zz{Xx Ya:Type}{P:Xx->Ya->Prop}:∀{b:List Xx}{d:List Ya},dY P b d->∀(a:Nat),a<b.length->∃g e,b[a]?=Z g/\d[a]?=Z e/\P g e
 |_,_,.nil,a,c=>by simp at c
 |_,_,.cons s i,0,c=>⟨_,_,rfl,rfl,s⟩
 |_,_,.cons s i,a+1,c=>by
  let⟨g,@e,h,H,C⟩:=zz i a (by simpa using c);exact⟨g,e,by simpa using h,by simpa using H,C⟩
noncomputable def pJ:List V->Option (List<|List V×V)
 |[]=>Z []
 |.tup [.tup q,v]::s=>(pJ s).map λf=>(q,v)::f
 |_=>Y
theorem VT:∀{h:List V}{Xo:List (List V×V)},pJ h=Z Xo->h=Xo.map λo=>.tup [.tup o.1,o.2]:=by
 intro h;induction h with
 |nil=>intro Xo c;cases c;rfl
 |cons g h a=>
  intro Xo c;unfold pJ at c;split at c
  ·cases c;rename_i d;cases d
  ·rename_i q v s d;cases d;let⟨@f,b,e⟩:=cD.mp c;cases e;rw[cw,<-a b]
  ·cases c
def nG(Xo:List (List V×V)):List (List V×V):=Xo.foldl (λg o=>hE g o.1 o.2) []
def yB(j:aw)(u:ar)(o:List V×V):Prop:=∃i g H,u=.ref i/\j i=Z (.tup [.ref g,H])/\hX j o.1 g/\cL j o.2 H
theorem JY{j:aw}:∀{Xo:List (List V×V)}{Xp:List ar},(∀o∈Xo,V.keys 7 o.1=aa)->br j (Xo.map λo=>.tup [.tup o.1,o.2]) Xp->dY (yB j) Xp Xo
 |[],Xp,_,c=>by rw[show Xp=[] from c];exact .nil
 |o::Xo,Xp,a,c=>by
  let⟨u,@s,rfl,⟨i,@Q,rfl,z,⟨v1,@q,rfl,E,⟨b,@d,rfl,e,f⟩⟩⟩,h⟩:=c;cases (show d=[] from f);let⟨g,@k,rfl,l,m⟩:=E;exact .cons ⟨i,g,b,rfl,z,⟨a o<|.head _,g,k,rfl,l,m⟩,e⟩ (JY (λp n=>a p<|.tail _ n) h)
section
variable{b:aO}{G:List (af×a0)}{D:L2.a3}{j:aw}{N:ah}
theorem dg.is{Xt:List (List V×ar)}{x:List (List V×af×ab)}(s:dg j Xt x):∀h∈x,hX j h.1 h.2.1:=by
 intro h b;let⟨a,U,rfl⟩:=ks.mp b;let⟨o,@p,z,E,c,d,W⟩:=zz s a (by rw[dY.length s];exact U);rw[dv U]at E;have E:=Option.some.inj E;subst E;rw[<-c];exact d
theorem Ax(a:aE b G D j N){y:af}{c M:aV}{Xt:List (List V×ar)}{x:List (List V×af×ab)}(d:c.DictOfH (eC b.prog b.w) y x)(X_:dg j Xt x)(c5:∀e m,N.heap.get? e=Z m->M.get? e=Z m)(f:∀m,c.get? y=Z m->M.get? y=Z m):M.DictOfH (eC b.prog b.w) y x:=by
 let⟨m,S,@XN,z,E,g,i,W,k⟩:=d;have n:aE b G D j {N with heap:=M}:=a.kept (XM:=N.toks) c5;exact⟨m,S,XN,f m z,E,g,i,λh o=>nO (c:=M) n.aZ<|X_.is h o,k⟩
theorem Wo(s:aE b G D j N){O:bw}(a1:O.units+20<bU){y fq t:af}{Xc:List ab}{Xp:List ar}{Xo:List (List V×V)}{a3:Nat->aV->Prop}{Xf:oV->ah->Prop}(v:bY Xp Xc)(R:dY (yB j) Xp Xo)(fr:Xo.length<=1000)(W:h1 b.prog b.w O.in1 fq [fq,t] [fq] Xc.length (λa u=>Xc[a]?=Z u) a3)(a2:N.heap.get? y=Y)(z:N.heap.get? fq=Y)(A:y≠fq)(bd:y≠t)(be:∀(f:ah) (x:List (List V×af×ab)) (Xt:List (List V×ar)),(∀e m,N.heap.get? e=Z m->f.heap.get? e=Z m)->f.heap.DictOfH (eC b.prog b.w) y x->dg j Xt x->eU j (nG Xo) Xt->Xt.length<=1000->
   f.gens=N.gens->f.drawn=N.drawn->f.os=N.os->Xf (.ok<|.ret .none) f):
  ∀(k a:Nat) (i:hO) (f:ah) (x:List (List V×af×ab)) (Xt:List (List V×ar)),Xc.length-a=k->a<=Xc.length->a3 a f.heap->(∀e m,N.heap.get? e=Z m->f.heap.get? e=Z m)->
   f.heap.DictOfH (eC b.prog b.w) y x->dg j Xt x->eU j (nG<|Xo.take a) Xt->Xt.length<=a->f.gens=N.gens->f.drawn=N.drawn->f.os=N.os->
   codeAny (aM b.prog b.w) O (.builtin "dict.update.loop" ⟨[.ref y,.ref fq,.int a i,.none],[]⟩) Xf f:=by
 have f0:Xc.length=Xo.length:=by rw[<-v.length,dY.length R]
 intro k;induction k with
 |zero=>
  intro a i f x Xt bi U X c5 B X_ r bm E I J;have bn:a=Xc.length:=⋯
  refine hD F.C5 ?_;rw[iD F.tR _];refine ak (m:=ff (.ref fq)) (W.done f _ _ (bn ▸ X) λM XT keep=>?_);refine ak (m:=aX.Dict.addKeywords y []) (aK<|aK ?_);have p:∀e m,e≠fq->f.heap.get? e=Z m->M.get? e=Z m:=λe m h d=>keep e m (by simpa using h) d;refine be _ x Xt (λe m d=>p e m (λC=>by rw[C,z]at d;cases d)<|c5 e m d) ?_ X_ (by rw[vy ⋯]at r;exact r) ⋯ E I J;exact Ax s B X_ (λe m d=>p e m (λC=>by rw[C,z]at d;cases d)<|c5 e m d) λm d=>p y m A d
 |succ k bs=>
  intro a i f x Xt bi U X c5 B X_ r bm E I J;have lt:a<Xc.length:=⋯
  refine hD F.C5 ?_;rw[iD F.tR _];refine ak (m:=ff (.ref fq)) (W.item a f _ _ lt X λu M XT bv ca keep=>?_);have p:∀e m,e≠fq->f.heap.get? e=Z m->M.get? e=Z m:=λe m h d=>keep e m (by simpa using h) d;let⟨H,@n,cd,ce,⟨o,g,@S,rfl,ch,T,ci⟩⟩:=zz R a (by rw[v.length];exact lt);let⟨@L,al,cl⟩:=v.get cd;rw[bv]at al;cases al;cases cl;have Q:∀e m,N.heap.get? e=Z m->M.get? e=Z m:=λe m d=>p e m (λC=>by rw[C,z]at d;cases d) (c5 e m d);have am:aE b G D j {N with heap:=M}:=s.kept (XM:=N.toks) Q;have co:=Ax s B X_ Q λm d=>p y m A d;let@⟨_,⟨@Xq,cr,⟨@m,an,cs,⟨@w,db⟩⟩⟩⟩:=am.aZ _ _ ch;let⟨dw,@da,rfl,ds,dL⟩:=pO cr;cases ds;show wpAny (aM b.prog b.w) O.in1 (holding [.ref o] _ >>= λ_=>again _) _ _ _;refine ak (fl<|ak<|tc ?_);unfold aX.Dict.pairItems;refine ak (wpAny_typeOf (s:={f with heap:=M,toks:=XT}) (⟨m,an,(Prod.mk.inj cs).1⟩:ah.TypeIs {f with heap:=M,toks:=XT} (.ref o) "tuple") ?_);rw[aA (by decide)];refine ak (gJ (s:={f with heap:=M,toks:=XT}) an db<|aK ?_);show wpAny (aM b.prog b.w) O.in1 (holding [.ref g,da]<|dictSet y (.ref g) da) _ _ _;refine fl (wpAny_dictSet_heap (s:={f with heap:=M,toks:=XT}) (k:=n.1) (knd:=eC b.prog b.w) (qL a1) (nO (c:=M) am.aZ T) co (λeq ev cQ=>?_) (by
   have:=dY.length X_;exact e0 (show x.length<=1000 by lia) (by decide)))
  have ap:∀e m,e≠y->M.get? e=Z m->eq.get? e=Z m:=λe m h d=>(cQ.2 e h).trans d;have ex:=X_.put n.1 (e:=g) (H:=S) (L:=da) T dL;have fd:Xo.take (a+1)=Xo.take a++[n]:=by
   have as:=(ek.mp ce);rw[IJ as.1,as.2]
  have fn:eU j (nG<|Xo.take<|a+1) (hR Xt n.1 S):=by
   rw[fd];unfold nG;rw[yd];exact eU.put ci r
  refine aK ⟨hP F.tR _,bs (a+1) 0 _ _ _ ⋯ lt (W.frame _ _ _ ca λe h m d=>ap e m (λC=>by
    subst C;rcases bO.mp h with C|h
    ·exact A C
    ·exact bd (cK.mp h)) d) (λe m d=>ap e m (λC=>by rw[C,a2]at d;cases d)<|Q e m d) ev ex fn ?_ E I J⟩
  unfold hR;split
  ·rw[a9];lia
  ·simp;lia
theorem KC(r:b.calm=aa)(ce:b.A.units+30<bU):eK b (.type "dict") (λx j B=>∃(t:af) (Xp:List ar) (Xo:List (List V×V)),x=[.ref t]/\j t=Z (.lst Xp)/\dY (yB j) Xp Xo/\Xo.length<=1000/\
  ∀(v:af) (Xt:List (List V×ar)),j v=Y->eU j (nG Xo) Xt->B (.ref v) (upd j v<|.a_ Xt)):=by
 intro G f D j x XE B A s c;let⟨t,Xp,@Xo,rfl,N,Q,R,p⟩:=c;let⟨@L,rfl,T⟩:=hK s;cases T;let@⟨C,⟨Xq,@w,U,d⟩⟩:=A.aZ t _ N;have E:t<f.heap.objs.size:=bI d;refine ym (Q₁:=λobj H=>obj=.ref f.heap.objs.size/\H={f with heap:=f.heap.push {cls:=.type "dict",data:=.dict #[]} }) PySem.F.kt_called_dict (PySem.F.kt_typeCall_dict_1 _) PySem.F.entry_dict_init (kt_code_dict_new _ ⟨rfl,rfl⟩) ?_;rintro obj H ⟨rfl,rfl⟩;have al:(f.heap.push {cls:=.type "dict",data:=.dict #[]}).DictOfH (eC b.prog b.w) f.heap.objs.size []:=aV.DictOfH.new f.heap;have I:ah.TypeIs {f with heap:=f.heap.push {cls:=.type "dict",data:=.dict #[]} } (.ref f.heap.objs.size) "dict" := ⟨_,cI _ rfl,rfl⟩;have g:(f.heap.push {cls:=.type "dict",data:=.dict #[]}).get? t=Z {cls:=.type "list",data:=.seq Xq.toArray w}:=bH _ d;refine⟨I,PySem.F.args_dict_init_2 _ _,?_⟩;unfold aX.«dict.__init__»;refine ak ?_;unfold aX.Dict.selfAndRest;refine ak (Il I ?_);show wpAny _ _ (pure (f.heap.objs.size,[ab.ref t])) _ _ _;refine aK ?_;show wpAny _ _ (aX.Dict.updateFrom "dict.__init__" f.heap.objs.size (.ref t) [] .none) _ _ _;unfold aX.Dict.updateFrom;refine ak (wpAny_typeOf (⟨_,g,rfl⟩:ah.TypeIs {f with heap:=f.heap.push {cls:=.type "dict",data:=.dict #[]} } (.ref t) "list") ?_);rw[aA (by decide)];refine ak (ME (f:={f with heap:=f.heap.push {cls:=.type "dict",data:=.dict #[]} }) g (A.ok.hd r) λz XT XF=>?_);rw[aA (show (Y:Option ab).isNone=aa from rfl)];refine ak (m:=rule _) (h7 ?_);have J:z.IsList t Xq.toArray:=⟨_,XF _ _ g,rfl,w,rfl⟩;refine ak (wpAny_pyIter_list (s:={f with heap:=z,toks:=XT}) J ?_);have h:f.heap.objs.size<z.objs.size:=bI (XF _ _<|cI _ rfl);have c5:∀e m,f.heap.get? e=Z m->(z.push {cls:=.type "list_iterator",data:=.fields #[.ref t,.int 0 0]}).get? e=Z m:=λe m i=>bH _ (XF e m<|bH _ i);refine aK ⟨hP PySem.F.tR _,?_⟩;have am:(z.push {cls:=.type "list_iterator",data:=.fields #[.ref t,.int 0 0]}).DictOfH (eC b.prog b.w) f.heap.objs.size []:=Ax A (Xt:=[]) al .nil c5 λm an=>bH _ (XF _ _ an);have bT:t≠z.objs.size:=cZ (qz E h);refine Wo A (O:=b.A.in1) (by show b.A.units+1+20<bU;lia) (y:=f.heap.objs.size) (fq:=z.objs.size) (t:=t) (a3:=λa c=>c.IsListIter z.objs.size t a/\c.IsList t Xq.toArray) U Q R ?_ (Ay<|ba _) (Ay<|lV h) (cZ h) (iM E)
  (λXe x Xt ap as a1 a2 ci n o q=>?_) Xq.length 0 0 _ [] [] rfl (gC _) ?_ c5 am .nil .nil (ba _) rfl rfl rfl
 ·have W:=h1.list (prog:=b.prog) (w:=b.w) (A:=b.A.in1.in1) (A.ok.hd r) z.objs.size t bT Xq.toArray;have bd:(λ(a:Nat) (u:ab)=>Xq.toArray[a]?=Z u)=λa u=>Xq[a]?=Z u:=by
   funext a u;rw[r3]
  rw[bd,cO]at W;exact W
 ·let⟨M,be,bi,XM,bm⟩:=Xe;have n:be=f.gens:=n;have o:bi=f.drawn:=o;have q:bm=f.os:=q;subst n o q;have yE:j f.heap.objs.size=Y:=A.aZ.fresh (ba _);let⟨m,S,@XN,bn,bs,bv,ca,P,cd⟩:=as;refine⟨rfl,.ref f.heap.objs.size,_,A.laid (m:=.a_ Xt) (M:=M) (XM:=XM) ap (ba _) ⟨e0 (show Xt.length<=1000 by lia) (by decide),xU.mpr<|eN<|cZ A.big,x,a1.keeps λe Xp i=>FK i yE,m,S,XN,bn,bs,bv,ca,cd⟩,rfl,p _ Xt yE a2⟩
 ·exact⟨⟨_,cI _ rfl,rfl,rfl⟩,J.push _⟩
@[simp] def rQ:hN:=λJ=>match J with
 |[.lst h]=>(pJ h).bind λXo=>if (Xo.all λo=>V.keys 7 o.1)=aa/\Xo.length<=1000 then Z (.a_<|nG Xo) else Y
 |_=>Y
theorem Sw(e:b.calm=aa)(i:b.A.units+30<bU):hl b (.type "dict") rQ:=by
 refine (KC e i).imp λx j B k=>?_;let⟨J,@v,l,d,p⟩:=k;unfold rQ at d;split at d
 ·rename_i h;let⟨@Xo,m,a⟩:=bG.mp d;split at a
  ·rename_i c;cases a;let⟨@u,rfl,⟨W,o,@Xp,rfl,z,E,W⟩⟩:=g6 l;rw[VT m]at E;refine⟨o,Xp,Xo,rfl,z,JY (λp n=>jT.mp c.1 p n) E,c.2,λv Xt hd q=>?_⟩;have f:bV j (upd j v<|.a_ Xt):=(bV.refl j).upd hd;exact p _ _ [v] f ⟨v,Xt,rfl,e_,q.mono f.tupS.tup,rfl⟩ (fP _ _) λg r=>by rw[cK.mp r];exact hd
  ·cases a
 ·cases d
end
section
variable{b:aO}
end
def Rn:String->aX:=(⟨_,rfl⟩:{F:String->aX // F "max" = aX.«max» }).1
def Ot:String->mI->aX:=(⟨_,rfl⟩:{F:String->mI->aX // F "max" .Gt=aX.«max.loop» }).1
section
variable{Xm:bJ}{l:bc}{O:bw}{Xg:ab->ah->Prop}{f:ah}
theorem Ew{t j:String}{X7:mI}(k:(toString t++toString ".loop" : String)=j)(T:builtinKind t=Y)(U:plainId t=aa)(al:qP rk t=Z (Rn t))(am:∀g e:ab,tD t ⟨[g,e],[]⟩)(a:plainId j=aa)(p:qP rk j=Z (Ot t X7)){g e:ab}{q:Bool}{B:ab->ah->Prop}(an:O.handled=Y)(ap:∀Xe:ah,(∀n m,f.heap.get? n=Z m->Xe.heap.get? n=Z m)->∀(B:ab->ah->Prop) (Xg:ab->ah->Prop),B (.bool q) Xe->wpAny (aM Xm l) O.in1 (oK X7 e g) B Xg Xe)(c:∀M XT,(∀n m,f.heap.get? n=Z m->M.get? n=Z m)->B (if q=aa then e else g) {f with heap:=M,toks:=XT}):wpAny (aM Xm l) O (call (.builtin t) [g,e]) B Xg f:=by
 refine call_function_tree T U al (am _ _) ?_;show wpAny _ O.in1 (aX.Builtins.bindParams t ["key","default"] 0 ⟨[],[]⟩ >>= _) _ _ f;refine ak (oW (show aX.Builtins.bindParams t ["key","default"] 0 ⟨[],[]⟩=pure [Y,Y] from rfl) ?_);show wpAny _ O.in1 (r_ [g,e] >>= _) _ _ f;refine ak (gh ?_);have A:(f.heap.push {cls:=.type "tuple",data:=.seq #[g,e]}).IsTuple f.heap.objs.size #[g,e]:=⟨_,cI _ rfl,rfl,0,rfl⟩;refine ak (wpAny_pyIter_tuple A<|ak<|gh ?_);have o:(f.heap.push {cls:=.type "tuple",data:=.seq #[g,e]}).objs.size=f.heap.objs.size+1:=gN ..;have W:=h1.tuple (prog:=Xm) (w:=l) (A:=O.in1) an (f.heap.push {cls:=.type "tuple",data:=.seq #[g,e]}).objs.size f.heap.objs.size (by rw[o];exact cZ (kE _)) #[g,e];rw[k];refine aK ⟨hP a _,?_⟩;have r:((f.heap.push {cls:=.type "tuple",data:=.seq #[g,e]}).push {cls:=.type "tuple_iterator",data:=.fields #[.ref f.heap.objs.size,.int 0 0]}).IsTupleIter (f.heap.push {cls:=.type "tuple",data:=.seq #[g,e]}).objs.size f.heap.objs.size 0:=⟨_,cI _ rfl,rfl,rfl⟩;have D:=A.push {cls:=.type "tuple_iterator",data:=.fields #[.ref f.heap.objs.size,.int 0 0]};have s:((f.heap.push {cls:=.type "tuple",data:=.seq #[g,e]}).push {cls:=.type "tuple_iterator",data:=.fields #[.ref f.heap.objs.size,.int 0 0]}).objs.size=f.heap.objs.size+2:=by rw[gN,o]
 have c5:∀n m,f.heap.get? n=Z m->((f.heap.push {cls:=.type "tuple",data:=.seq #[g,e]}).push {cls:=.type "tuple_iterator",data:=.fields #[.ref f.heap.objs.size,.int 0 0]}).get? n=Z m:=λn m d=>bH _ (bH _ d);rw[o]at W r;rw[o,s];generalize bv:((f.heap.push {cls:=.type "tuple",data:=.seq #[g,e]}).push {cls:=.type "tuple_iterator",data:=.fields #[.ref f.heap.objs.size,.int 0 0]})=g2 at r D s c5 ⊢;have F:(g2.push {cls:=.type "list",data:=.seq ([]:List ab).toArray}).get? (f.heap.objs.size+2)=Z {cls:=.type "list",data:=.seq ([]:List ab).toArray}:=by rw[<-s];exact cI _ rfl
 have v:f.heap.objs.size+2∉[f.heap.objs.size+1]:=by simp
 have G:∀n∈[f.heap.objs.size+1,f.heap.objs.size],f.heap.objs.size+2≠n:=λn b C=>by
  simp only[bO,i8,eY]at b;rcases b with d|d
  ·rw[d]at C;exact absurd C (iM<|kE _)
  ·rw[d]at C;exact absurd C (iM (Fq (by decide)))
 have h:∀n m,f.heap.get? n=Z m->n∉[f.heap.objs.size+1]/\n≠f.heap.objs.size+2:=λn m d=>by
  have lt:=bI d;refine⟨λC=>?_,cZ<|fI lt<|jU _ _⟩;rw[cK.mp C]at lt;exact jJ _ (Nat.lt_of_succ_lt lt)
 have H:∀(M:aV) (XT:Nat) (i:ab) (I:Nat),(∀n m,f.heap.get? n=Z m->M.get? n=Z m)->M.get? (f.heap.objs.size+2)=Z {cls:=.type "list",dict:=Y,data:=.seq #[i,i] I,slots:=#[]}->
   M.IsTupleIter (f.heap.objs.size+1) f.heap.objs.size 2/\M.IsTuple f.heap.objs.size #[g,e]->i=(if q=aa then e else g)->
   codeAny (aM Xm l) O (.builtin j ⟨[.ref (f.heap.objs.size+1),.none,.ref<|f.heap.objs.size+2],[]⟩) (wants B Xg) {f with heap:=M,toks:=XT}:=by
  intro M XT i I XF J X jB;refine hD p ?_;rw[iD a _];show wpAny _ O.in1 (nq (.ref<|f.heap.objs.size+2) >>= _) _ _ _;refine ak (gJ (s:={f with heap:=M,toks:=XT}) J rfl ?_);show wpAny _ O.in1 (tryCatch (ff<|.ref<|f.heap.objs.size+1) _ >>= _) _ _ _;refine ak (tc<|W.done {f with heap:=M,toks:=XT} _ _ X λE as cA=>?_);have a1:=cA _ _ v J;show wpAny _ O.in1 (nf (f.heap.objs.size+2) (λ_=>#[]) >>= _) _ _ _;refine ak (l1 a1 rfl<|ak<|mT<|aK ?_);show B i _;rw[jB];exact c _ as λn m d=>(gw _ _<|eN (h n m d).2).trans (cA n m (h n m d).1 (XF n m d))
 refine hD p ?_;rw[iD a _];show wpAny _ O.in1 (nq (.ref<|f.heap.objs.size+2) >>= _) _ _ _;refine ak (gJ (s:={f with heap:=g2.push {cls:=.type "list",data:=.seq ([]:List ab).toArray} }) F rfl ?_);show wpAny _ O.in1 (tryCatch (ff<|.ref<|f.heap.objs.size+1) _ >>= _) _ _ _;refine ak (tc (W.item 0 {f with heap:=g2.push {cls:=.type "list",data:=.seq ([]:List ab).toArray} } _ _ (by simp) ⟨let ⟨m,a2,bd⟩:=r;⟨m,bH _ a2,bd⟩,D.push _⟩ λu z ca w be XF=>?_));cases w;have L:=XF _ _ v F;show wpAny _ O.in1 (nf (f.heap.objs.size+2) (λ_=>#[g,g]) >>= _) _ _ _;refine ak (l1 L rfl ?_);rw[k];refine aK ⟨hP a _,hD p ?_⟩;have N:=jq (a0.mapSeq<|λ_=>(#[g,g]:Array ab)) L rfl;have bi:=W.frame _ _ (z.update (f.heap.objs.size+2)<|a0.mapSeq<|λ_=>(#[g,g]:Array ab)) be λn b m d=>(gw _ _<|G n b).trans d;have bm:∀n m,f.heap.get? n=Z m->(z.update (f.heap.objs.size+2)<|a0.mapSeq<|λ_=>(#[g,g]:Array ab)).get? n=Z m:=λn m d=>(gw _ _<|eN (h n m d).2).trans (XF n m (h n m d).1 (bH _<|c5 n m d));rw[iD a _];show wpAny _ O.in1 (nq (.ref<|f.heap.objs.size+2) >>= _) _ _ _;refine ak (gJ N rfl ?_);show wpAny _ O.in1 (tryCatch (ff<|.ref<|f.heap.objs.size+1) _ >>= _) _ _ _;refine ak (tc (W.item 1 _ _ _ (by simp) bi λu bn P w Q R=>?_));cases w;have x:=R _ _ v N;have y:∀n m,f.heap.get? n=Z m->bn.get? n=Z m:=λn m d=>R n m (h n m d).1 (bm n m d);show wpAny _ O.in1 (tryCatch (holding [e,e]<|oK X7 e g >>= _) _ >>= _) _ _ _;refine ak (tc<|fl<|ak<|ap _ y _ _ ?_);refine ak (fl<|qW ?_);refine ak (mT<|aK ?_);cases S:q with
 |true=>
  simp only[ie];refine ak (l1 x rfl<|ak<|mT ?_);rw[k];have bs:=jq (a0.mapSeq<|λ_=>(#[e,e]:Array ab)) x rfl;refine aK ⟨hP a _,H _ P e _ (λn m d=>(gw _ _<|eN (h n m d).2).trans<|y n m d) bs (W.frame _ _ _ Q λn b m d=>(gw _ _<|G n b).trans d) (by rw[S];rfl)⟩
 |false=>
  simp only[gQ,fx];refine ak (mT ?_);rw[k];exact aK ⟨hP a _,H _ P g _ y x Q (by rw[S];rfl)⟩
end
section
variable{Xm:bJ}{l:bc}{O:bw}{Xg:ab->ah->Prop}{f:ah}{g e:ab}{q:Bool}{B:ab->ah->Prop}
theorem Tq(a:O.handled=Y)(b:∀Xe:ah,(∀n m,f.heap.get? n=Z m->Xe.heap.get? n=Z m)->∀(B:ab->ah->Prop) (Xg:ab->ah->Prop),B (.bool q) Xe->wpAny (aM Xm l) O.in1 (oK .Gt e g) B Xg Xe)(c:∀M XT,(∀n m,f.heap.get? n=Z m->M.get? n=Z m)->B (if q=aa then e else g) {f with heap:=M,toks:=XT}):wpAny (aM Xm l) O (call (.builtin "max") [g,e]) B Xg f:=
 Ew (by decide) F.kind_max F.plain_max F.entry_max F.args_max2 F.plain_max_loop F.entry_max_loop a b c
theorem Mx(a:O.handled=Y)(b:∀Xe:ah,(∀n m,f.heap.get? n=Z m->Xe.heap.get? n=Z m)->∀(B:ab->ah->Prop) (Xg:ab->ah->Prop),B (.bool q) Xe->wpAny (aM Xm l) O.in1 (oK .Lt e g) B Xg Xe)(c:∀M XT,(∀n m,f.heap.get? n=Z m->M.get? n=Z m)->B (if q=aa then e else g) {f with heap:=M,toks:=XT}):wpAny (aM Xm l) O (call (.builtin "min") [g,e]) B Xg f:=
 Ew (by decide) F.kind_min F.plain_min F.entry_min F.args_min2 F.plain_min_loop F.entry_min_loop a b c
end
def AK(O:bw)(f:ah)(H h:ab)(q:Bool):Prop:=∀(Xm:bJ) (l:bc) (Xg:ab->ah->Prop) (B:ab->ah->Prop),B (.bool q) f->wpAny (aM Xm l) O (oK .Gt H h) B Xg f
section
open PySem.SeqAt
open PySem.AutoSeq1 (wpAny_loadPart')
open PySem.MeetsSeq PySem.MeetsSeq2 PySem.MeetsSeq3
theorem MJ(t e:af)(Xy b:Array ab)(w Yq:Nat)(y A:Option af)(aY B:Array (Option ab))(Xo:List (Bool×Bool))(Q:Xo.length=min Xy.size b.size):
  Meets (aX.«tuple.__gt__» ⟨[.ref t,.ref e],[]⟩)
   (λO Xf f=>f.heap.get? t=Z {cls:=.type "tuple",dict:=y,data:=.seq Xy w,slots:=aY}/\f.heap.get? e=Z {cls:=.type "tuple",dict:=A,data:=.seq b Yq,slots:=B}/\
    (∀r (z:r<Xy.size) (E:r<b.size) (m:r<Xo.length),EqAt O.in1 f Xy[r] b[r] (Xo[r]).1/\((Xo[r]).1=au->AK O.in1 f Xy[r] b[r] (Xo[r]).2))/\
    Xf (.ok<|.ret<|.bool<|h8 (decide (b.size<Xy.size)) Xo) f):=
 .of_wp λXm l O Xf f c=>by
  let⟨j,I,v,XT,Xw⟩:=f;let@⟨C,D,F,c⟩:=c;have R:=E6;have o:(Xy.toList.zip b.toList).length=min Xy.size b.size:=by simp
  wp_walk using wpAny_loadPart' C,wpAny_loadPart' D,nc _ (λc4 e Xe=>e.1=Y/\Xe=⟨j,I,v,XT,Xw⟩/\∃a,c4=(Xy.toList.zip b.toList).drop a/\
   Xf (.ok<|.ret<|.bool<|h8 (decide (b.size<Xy.size))<|Xo.drop a) ⟨j,I,v,XT,Xw⟩) _
  case turn=>
   rintro⟨H,h⟩ c4 e Xe ⟨n,rfl,a,g,i⟩;have p:a<(Xy.toList.zip b.toList).length:=by
    rcases gz a (Xy.toList.zip b.toList).length with M|M
    ·exact M
    ·rw[mO M]at g;cases g
   have S:a<min Xy.size b.size:=o ▸ p;have z:a<Xy.size:=⋯
   have E:a<b.size:=⋯
   have m:a<Xo.length:=⋯
   rw[jH p]at g;injection g with s G;have J:H=Xy[a]:=by have:=congrArg Prod.fst s;simpa using this
   have L:h=b[a]:=by have:=congrArg Prod.snd s;simpa using this
   subst J L;rw[jH m]at i;let@⟨u,x⟩:=F a z E m;generalize Xo[a]=N at i u x;let⟨d,q⟩:=N;refine ak (u Xm l _ _ ?_);cases d with
   |true=>
    have k:Xf (.ok<|.ret<|.bool<|h8 (decide (b.size<Xy.size))<|Xo.drop<|a+1) ⟨j,I,v,XT,Xw⟩:=i
    wp_walk
    exact⟨rfl,rfl,a+1,G,k⟩
   |false=>
    have k:Xf (.ok<|.ret<|.bool q) ⟨j,I,v,XT,Xw⟩:=i;have P:=x rfl Xm l
    wp_walk using P
    exact⟨_,rfl,by simpa using k⟩
  case fin=>
   rintro⟨aQ,aR⟩ Xe ⟨n,rfl,a,g,i⟩;simp only at n;subst n;have T:min Xy.size b.size<=a:=by
    rcases gz a (Xy.toList.zip b.toList).length with M|M
    ·rw[jH M]at g;cases g
    ·exact o ▸ M
   rw[mO ⋯]at i;have k:Xf (.ok<|.ret<|.bool<|decide (b.size<Xy.size)) ⟨j,I,v,XT,Xw⟩:=i
   wp_walk
   exact⟨_,rfl,by simpa [aX.Tuple.tupleCompareSizes] using k⟩
  case h=>
   exact⟨rfl,rfl,0,rfl,by simpa using c⟩
end
def lH(J S:List V):List (Bool×Bool):=(J.zip S).map λo=>(cy o.1 o.2,bl o.2 o.1)
theorem Lr(g e:V):V.beq g e=V.beq e g:=by
 rw[lD,V.beq_iff,V.beq_iff];exact⟨λc=>c.symm,λc=>c.symm⟩
theorem FC:∀{w:Nat}{J S:List V},gb w J S=aa->h8 au (lH J S)=gy S J
 |_,[],[],_=>rfl
 |w,g::s,e::i,c=>by
  rw[gb,cU]at c;show (if cy g e=aa then h8 au (lH s i) else bl e g)=gy (e::i) (g::s);rw[gy,(q6 c.1).2.2,FC c.2,Lr]
 |_,[],_::_,c=>by cases c
 |_,_::_,[],c=>by cases c
theorem EZ{O:bw}{a r:Int}{L u:ab}(b:dM f.heap (.int a) L)(c:dM f.heap (.int r) u):AK O f L u (bl (.int r)<|.int a):=by
 let⟨@i,rfl⟩:=b;let⟨@XM,rfl⟩:=c;intro Xm l Xg B p;rw[bl]at p;exact (TH p:wpAny (aM Xm l) O (eQ .Gt (.int a i)<|.int r XM) B Xg f)
theorem Qs(w:Nat):∀{O:bw}{h H:V}{L u:ab},eI w h H=aa->O.units+w+2<bU->dM f.heap h L->dM f.heap H u->AK O f L u (bl H h):=by
 induction w with
 |zero=>
  intro O h H L u c I b i;rcases tK c with ⟨a,r,rfl,rfl⟩|⟨k,_,_,d,_⟩
  ·exact EZ b i
  ·cases d
 |succ w M=>
  intro O h H L u c I b i;rcases tK c with ⟨a,r,rfl,rfl⟩|⟨k,J,S,d,rfl,rfl,c⟩
  ·exact EZ b i
  cases d;let⟨g,m,Xq,@k,rfl,z,E,j,n⟩:=b;let⟨e,R,y,@N,rfl,o,q,s,t⟩:=i;let⟨cls,Q,data,aY⟩:=m;let⟨bd,T,be,U⟩:=R;simp only at E j q s;subst E j q s;have bi:=ua c;have al:J.length=Xq.size:=by rw[n.length,dr]
  have am:S.length=y.size:=by rw[t.length,dr]
  intro Xm l Xg B p;rw[bl,<-FC c]at p;have an:(lH J S).length=min Xq.size y.size:=by rw[lH,a9,lR,al,am]
  have hd:decide (y.size<Xq.size)=au:=d3 ⋯;refine JO (op:=.Gt) ⟨_,z,rfl⟩ ⟨_,o,rfl⟩ PySem.F.slot_tuple_gt PySem.F.entry_tuple_gt (PySem.F.args_tuple_gt_2 _ _) (MJ g e Xq y k N Q T aY U (lH J S) an)
   ⟨z,o,λr ap as a1=>?_,show ab.bool (h8 (decide (y.size<Xq.size))<|lH J S)≠ab.notImplemented/\B (.bool<|h8 (decide (y.size<Xq.size))<|lH J S) f from ⟨(λh=>nomatch h),by rw[hd];exact p⟩⟩ ⋯;let⟨@XY,v,x⟩:=n.get (r:=r) (u:=Xq[r]) (by rw[eS];simp[ap]);let⟨@X1,A,D⟩:=t.get (r:=r) (u:=y[r]) (by rw[eS];simp[as]);have lk:=z4 c v A;have G:=q6 lk;have a2:(lH J S)[r]=(cy XY X1,bl X1 XY):=by
   have:(lH J S)[r]?=Z (cy XY X1,bl X1 XY):=by
    rw[lH,dZ,(mi (z:=(XY,X1))).mpr ⟨v,A⟩];rfl
   rw[dv a1]at this;exact Option.some.inj this
  rw[a2];exact⟨iO w G.1 G.2.1 (by show O.units+1+w+1<bU;lia) x D,λ_=>M lk (by show O.units+1+w+2<bU;lia) x D⟩
section
variable{b:aO}
theorem PC(h:b.calm=aa)(k:b.A.units+20<bU):eK b (.builtin "max") (λx j B=>∃(v d:V) (u L:ar),x=[u,L]/\eI 6 d v=aa/\cL j v u/\cL j d L/\B (if bl v d=aa then L else u) j):=by
 intro G f D j x XE B A s c;let⟨v,d,u,@L,rfl,lk,z,E,p⟩:=c;let⟨n,@o,rfl,a,e⟩:=pO s;refine Tq (q:=bl v d) (A.ok.hd h) (λXe q B Xg i=>?_) λM XT q=>⟨if bl v d=aa then L else u,j,A.kept q,?_,p⟩
 ·exact Qs 6 lk (by show b.A.units+1+6+2<bU;lia) ((E.fc A.aZ e).keep λg m W W d W W=>q g m d) ((z.fc A.aZ a).keep λg m W W d W W=>q g m d) b.prog b.w Xg B i
 ·split
  ·exact e
  ·exact a
theorem QK(h:b.calm=aa)(k:b.A.units+20<bU):eK b (.builtin "min") (λx j B=>∃(v d:V) (u L:ar),x=[u,L]/\eI 6 d v=aa/\cL j v u/\cL j d L/\B (if bl d v=aa then L else u) j):=by
 intro G f D j x XE B A s c;let⟨v,d,u,@L,rfl,lk,z,E,p⟩:=c;let⟨n,@o,rfl,a,e⟩:=pO s;refine Mx (q:=bl d v) (A.ok.hd h) (λXe q B Xg i=>?_) λM XT q=>⟨if bl d v=aa then L else u,j,A.kept q,?_,p⟩
 ·exact Ge 6 lk (by show b.A.units+1+6+2<bU;lia) ((E.fc A.aZ e).keep λg m W W d W W=>q g m d) ((z.fc A.aZ a).keep λg m W W d W W=>q g m d) b.prog b.w Xg B i
 ·split
  ·exact e
  ·exact a
def u6:hN:=λJ=>match J with
 |[.im (.int a),.im<|.int r]=>qt [.im (.int a),.im<|.int r]
 |[.im (.tup g),.im<|.tup e]=>if eI 6 (.tup e) (.tup g)=aa then Z (.im<|if bl (.tup g) (.tup e)=aa then .tup e else .tup g) else Y
 |_=>Y
def v8:hN:=λJ=>match J with
 |[.im (.int a),.im<|.int r]=>q7 [.im (.int a),.im<|.int r]
 |[.im (.tup g),.im<|.tup e]=>if eI 6 (.tup e) (.tup g)=aa then Z (.im<|if bl (.tup e) (.tup g)=aa then .tup e else .tup g) else Y
 |_=>Y
theorem TB(c:b.calm=aa)(k:b.A.units+20<bU):hl b (.builtin "max") u6:=by
 intro G f D j x XE B A s ⟨J,v,h,d,p⟩;unfold u6 at d;split at d
 ·exact yY c G f D j x XE B A s ⟨_,v,h,d,p⟩
 ·split at d
  ·rename_i g e lk;cases d;let⟨u,@L,rfl,z,E⟩:=vf h;refine PC c k G f D j _ XE B A s ⟨_,_,u,L,rfl,lk,z,E,ck.i p ?_⟩;split
   ·exact E
   ·exact z
  ·cases d
 ·cases d
theorem Nk(c:b.calm=aa)(k:b.A.units+20<bU):hl b (.builtin "min") v8:=by
 intro G f D j x XE B A s ⟨J,v,h,d,p⟩;unfold v8 at d;split at d
 ·exact Bm c G f D j x XE B A s ⟨_,v,h,d,p⟩
 ·split at d
  ·rename_i g e lk;cases d;let⟨u,@L,rfl,z,E⟩:=vf h;refine QK c k G f D j _ XE B A s ⟨_,_,u,L,rfl,lk,z,E,ck.i p ?_⟩;split
   ·exact E
   ·exact z
  ·cases d
 ·cases d
end
section
variable{Xm:bJ}{l:bc}{O:bw}{Xg:ab->ah->Prop}{f:ah}
end
section
variable{Xm:bJ}{l:bc}{O:bw}{Xg:ab->ah->Prop}{f:ah}
end
section
variable{b:aO}
end
section
variable{b:aO}
end
mutual
noncomputable def uR:V->tJ
 |.int a=>.int a
 |.aG e=>.bool e
 |.str h=>.str h
 |.tup J=>.tuple (r9 J)
 |_=>.none
noncomputable def r9:List V->List tJ
 |[]=>[]
 |v::s=>uR v::r9 s
end
mutual
theorem Qd{c:aV}:∀{w:Nat}{v:V}{L:ab},V.bo w v=aa->dM c v L->Reads c L (uR v) []
 |_,.aW,L,_,d=>by cases (show L=.none from d);exact .none
 |_,.aG e,L,_,d=>by cases (show L=.bool e from d);exact .bool e
 |_,.int a,L,_,d=>by let⟨@i,rfl⟩:=d;exact .int a i
 |_,.str h,L,_,d=>by let⟨@i,rfl⟩:=d;exact .str h i
 |w+1,.tup J,L,q,d=>by
  let⟨g,m,Xy,@k,rfl,z,E,b,f⟩:=d;exact .tuple z E b (JM (w:=w) q f)
 |0,.tup J,L,q,d=>by cases q
 |w,.fn g,L,q,d=>by cases w<;>cases q
 |w,.aU g,L,q,d=>by cases w<;>cases q
 |w,.fd,L,q,d=>by cases w<;>cases q
theorem JM{c:aV}:∀{w:Nat}{J:List V}{XE:List ab},V.c2 w J=aa->dI c J XE->ReadsAll c XE (r9 J) []
 |_,[],XE,_,d=>by rw[show XE=[] from d];exact .nil
 |w,v::J,XE,q,d=>by
  let⟨u,@s,rfl,z,E⟩:=d;rw[V.c2,cU]at q;exact .cons (Qd q.1 z) (JM q.2 E)
end
mutual
theorem Vp:∀v:V,tJ.hasDict (uR v)=au
 |.aW=>rfl
 |.aG _=>rfl
 |.int _=>rfl
 |.str _=>rfl
 |.fn _=>rfl
 |.aU _=>rfl
 |.fd=>rfl
 |.tup J=>EX J
theorem EX:∀J:List V,tJ.hasDictAll (r9 J)=au
 |[]=>rfl
 |v::s=>by
  show (tJ.hasDict (uR v) || PyData.hasDictAll (r9 s))=au;rw[Vp v,EX s];rfl
end
section
variable{b:aO}
end
section
variable{Xm:bJ}{l:bc}{O:bw}{Xg:ab->ah->Prop}{f:ah}
end
section
variable{b:aO}
end
end L2
namespace G
open PySem L2
variable{n e g:Int×Int}{Xb:List (Int×Int)}
def DG:bA:=(cV<|d6<|ao (ae<|b9 v8<|ao (ai 0)<|ao (ai 1) aF)<|ao (ae<|b9 u6<|ao (ai 0)<|ao (ai 1) aF) aF)
def sF:c9:=dA 2 2 [0,1] DG
def RU:bA:=(bz (ei (cg<|ay ot (ae<|ay bE (ai 0)<|ae<|aC<|.int 0)<|ae<|aC<|.int 0) (bz (b_ 2<|ay gf (ae<|ay bE (ai 0)<|ae<|aC<|.int 0)<|ai 1)<|bz (h_ (ay kh (ae<|ay bE (ai 0)<|ae<|aC<|.int 0)<|ai 1)<|j6 0 (aC<|.int 0) nL)<|cV<|fp 2) fA)<|bz (h_ (ay c0 (ae<|ay bE (ai 0)<|ae<|aC<|.int 2)<|ae<|aC<|.int 1)<|j6 0 (aC<|.int 2) nL)<|bz (b_ 3<|ay gf (ae<|ay fE (ae<|ay c0 (ae<|ay bE (ai 0)<|ae<|aC<|.int 1)<|ae<|ay fE (ae<|ay bE (ai 0)<|ae<|aC<|.int 2)<|ae<|aC<|.int 104729)<|ae<|aC<|.int 48271)<|ae<|aC<|.int 2305843009213693951)<|bz (h_ (ay gf (ae<|ay fE (ai 3)<|ae<|ay c0 (ae<|ay gf (ai 3)<|ae<|aC<|.int 1009)<|ae<|aC<|.int 69621)<|ae<|aC<|.int 2305843009213693951)<|j6 0 (aC<|.int 1) nL)<|cV<|ay gf (ae<|ay kh (ae<|ay bE (ai 0)<|ae<|aC<|.int 1)<|ae<|aC<|.int 1000003)<|ai 1)
def tv:c9:=dA 2 4 [0,1] RU
def M7:bA:=(cV<|eH<|ao (ae<|d6<|ao (ae<|ay hk (ae<|ay bE (ai 0)<|ae<|aC<|.int 0)<|ae<|aC<|.int 1)<|ao (ae<|ay bE (ai 0)<|ae<|aC<|.int 1) aF)<|ao (ae<|d6<|ao (ae<|ay bE (ai 0)<|ae<|aC<|.int 0)<|ao (ae<|ay hk (ae<|ay bE (ai 0)<|ae<|aC<|.int 1)<|ae<|aC<|.int 1) aF)<|ao (ae<|d6<|ao (ae<|ay bE (ai 0)<|ae<|aC<|.int 0)<|ao (ae<|ay c0 (ae<|ay bE (ai 0)<|ae<|aC<|.int 1)<|ae<|aC<|.int 1) aF)<|ao (ae<|d6<|ao (ae<|ay c0 (ae<|ay bE (ai 0)<|ae<|aC<|.int 0)<|ae<|aC<|.int 1)<|ao (ae<|ay bE (ai 0)<|ae<|aC<|.int 1) aF) aF)
def S3:c9:=dA 1 1 [0] M7
def Rd:bA:=(bz (b_ 4<|ay bE (ae<|b2 1 G.S3<|ao (ae<|ay bE (ai 2)<|ae<|b2 2 G.tv<|ao (ai 0)<|ao (ae<|b9 fV<|ao (ai 2) aF) aF) aF)<|ae<|b2 2 G.tv<|ao (ai 0)<|ao (ae<|aC<|.int 4) aF)<|ei (hn (cg<|ay oS (ai 4)<|ai 2)<|hn (cg<|HO lG lG (ae<|aC<|.int 0) (ae<|ay bE (ai 4)<|ae<|aC<|.int 0)<|ae<|aC<|.int 24)<|cg<|HO lG lG (ae<|aC<|.int 0) (ae<|ay bE (ai 4)<|ae<|aC<|.int 1)<|ae<|aC<|.int 24) (hY<|gm hr 2 hH<|ao (ai 4) aF) fA)
def VS:bA:=(bz (b_ 2<|eH<|ao (ae<|d6<|ao (ae<|aC<|.int 12)<|ao (ae<|aC<|.int 12) aF) aF)<|bz (gW (jQ<|ao (ae<|b2 2 G.tv<|ao (ai 0)<|ao (ai 1) aF) aF) (bS 3) G.Rd)<|cV<|fp 2)
def MW:c9:=dA 2 5 [0,1] VS
def QX:bA:=(hY<|gm hr 5 nt<|ao (ae<|b2 2 G.tv<|ao (ai 0)<|ao (ae<|b9 fV<|ao (ai 5) aF) aF) aF)
def VW:az aj:=(fp 0)
def SK:az Bool:=(cg<|ay ke (ae<|ay fE (ae<|ay gf (ae<|ay bE (ai 0)<|ae<|aC<|.int 0)<|ae<|aC<|.int 2)<|ae<|ay gf (ae<|ay gf (ae<|ay bE (ai 0)<|ae<|aC<|.int 1)<|ae<|aC<|.int 3)<|ae<|aC<|.int 2)<|ae<|aC<|.int 0)
def aq(o:Int×Int):V:=.tup [.int o.1,.int o.2]
abbrev aL(Xo:List (Int×Int)):aj:=.im (.tup<|Xo.map aq)
abbrev bk(Xo:List (Int×Int)):aj:=.lst (Xo.map aq)
abbrev el(v f i:Int):aj:=.lst [.int v,.int f,.int i]
def cB(o:Int×Int):List V:=[.int o.1,.int o.2]
theorem zU(o:Int×Int):aq o=.tup (cB o):=rfl
theorem nE(c:cB g=cB e):g=e:=by
 unfold cB at c;simp at c;exact e2 c.1 c.2
theorem UG(c:aq g=aq e):g=e:=by
 rw[zU,zU]at c;exact nE (by injection c)
theorem By(o:Int×Int):V.keys 7 (cB o)=aa:=rfl
noncomputable def nj:V->Int×Int
 |.tup [.int g,.int e]=>(g,e)
 |_=>(0,0)
theorem Gv(o:Int×Int):nj (aq o)=o:=rfl
theorem r0(o:Int×Int):V.bo 8 (aq o)=aa:=rfl
theorem oa:∀Xo:List (Int×Int),V.c2 8 (Xo.map aq)=aa
 |[]=>rfl
 |o::s=>by rw[cw,V.c2,r0,oa s];rfl
theorem mn(g e:Int×Int):cy (aq g) (aq e)=decide (g=e):=by
 show ((g.1==e.1)&&((g.2==e.2)&&aa))=_;let⟨a,Yb⟩:=g;let⟨aQ,aR⟩:=e;by_cases z:a=aQ<;>by_cases E:Yb=aR<;>simp[z,E]
theorem Wv(Xo:List (Int×Int))(n:Int×Int):((Xo.map aq).any λh=>cy h<|aq n)=decide (n∈Xo):=by
 rw[Bh,lD,ny,gE];constructor
 ·rintro⟨h,a,d⟩;have:decide (h=n)=aa:=by rw[<-mn];exact d
  rw[<-fD this];exact a
 ·intro c;refine⟨n,c,?_⟩;show cy (aq n) (aq n)=aa;rw[mn];exact dU rfl
theorem IU:∀(t:List V) (Xb:List (Int×Int)),(∀h∈t,h∈Xb.map aq)->t=(t.map nj).map aq
 |[],_,_=>rfl
 |h::t,Xb,c=>by
  let⟨@o,W,d⟩:=cN.mp (c h<|.head _);rw[cw,cw,<-IU t Xb λH a=>c H<|.tail _ a,<-d,Gv]
theorem Hu{t:List V}(c:t.Perm (Xb.map aq)):∃G:List (Int×Int),G.Perm Xb/\t=G.map aq:=by
 refine⟨t.map nj,?_,IU t Xb λh a=>c.mem_iff.mp a⟩;have:=vt nj c;rw[eD]at this;have d:(nj ∘ aq:Int×Int->Int×Int)=id:=funext Gv;rw[d,xP]at this;exact this
theorem rX(ag:Xb.Nodup)(a:Xb.length<=1000):j1 (Xb.map aq):=by
 refine⟨⟨by rw[a9];exact a,λg b e c=>?_,?_⟩,.inl λv hd=>?_⟩
 ·let⟨@h,W,rfl⟩:=cN.mp b;let⟨@H,W,rfl⟩:=cN.mp c;rfl
 ·exact Dw aq (λg e w d=>w<|UG d) ag
 ·let⟨@h,W,rfl⟩:=cN.mp hd;rfl
def d0(Xb:List (Int×Int)):List (List V×V):=Xb.map λn=>(cB n,.aG aa)
theorem Fu(Xb:List (Int×Int))(n:Int×Int):((d0 Xb).any λo=>decide (o.1=cB n))=decide (n∈Xb):=by
 unfold d0;rw[Bh,lD,ny,gE];constructor
 ·rintro⟨h,a,d⟩;have:cB h=cB n:=fD d;rw[<-nE this];exact a
 ·intro c;exact⟨n,c,dU rfl⟩
theorem Qr(c:n∉Xb):hE (d0 Xb) (cB n) (.aG aa)=d0 (Xb++[n]):=by
 unfold hE;rw[aI (by rw[Fu];simpa using c)];unfold d0;rw[fQ];rfl
theorem Im{r:List (Int×Int)}{a:Int}(b:0<=a)(c:r[a.toNat]?=Z n):dV (r.map aq) a=Z (aq n):=qV b (by rw[dZ,c];rfl)
theorem F4(Xo:List (Int×Int))(n:Int×Int):iP (aq n) (bk Xo)=Z (decide (n∈Xo)):=by
 rw[MA,r0,oa,Wv];rfl
theorem zI{Xx Ya:Type}(F:Xx->Ya):∀(t:List Xx) (q:Nat),(t.map F).eraseIdx q=(t.eraseIdx q).map F
 |[],_=>rfl
 |_::_,0=>rfl
 |g::t,q+1=>by simp[zI F t q]
def mid:bA:=(ei (qa (cg<|ay ke (ai 2)<|ae<|aC<|.int 1)<|cg<|ay ke (ai 2)<|ae<|aC<|.int 2) (gW (jQ<|ao (ae<|b2 2 G.tv<|ao (ai 0)<|ao (ae<|ay c0 (ae<|aC<|.int 1)<|ae<|ay kh (ae<|b9 fV<|ao (ai 5) aF)<|ae<|aC<|.int 2) aF) aF) (bS 6) G.QX)<|ei (cg<|ay ke (ai 2)<|ae<|aC<|.int 3) (b_ 5<|eZ 1 [] (fv<|ai 5) (bS 0) G.SK G.VW)<|ei (cg<|ay ot (ai 2)<|ae<|aC<|.int 3) (b_ 5<|b2 2 G.MW<|ao (ai 0)<|ao (ai 1) aF) fA)
abbrev bR:=(Int×Int)×(Int×Int)
def iU(d:bR):List V:=[aq d.1,aq d.2]
def ji(g e:Int×Int):bR:=(if bl (aq e) (aq g)=aa then e else g,if bl (aq g) (aq e)=aa then e else g)
theorem Mh(g e:Int×Int):v8 [.im (aq g),.im<|aq e]=Z (.im<|aq (ji g e).1):=by
 show (if eI 6 (aq e) (aq g)=aa then Z (aj.im<|if bl (aq e) (aq g)=aa then aq e else aq g) else Y)=Z (.im<|aq<|if bl (aq e) (aq g)=aa then e else g);rw[aA (show eI 6 (aq e) (aq g)=aa from rfl)];split<;>rfl
theorem Ol(g e:Int×Int):u6 [.im (aq g),.im<|aq e]=Z (.im<|aq (ji g e).2):=by
 show (if eI 6 (aq e) (aq g)=aa then Z (aj.im<|if bl (aq g) (aq e)=aa then aq e else aq g) else Y)=Z (.im<|aq<|if bl (aq g) (aq e)=aa then e else g);rw[aA (show eI 6 (aq e) (aq g)=aa from rfl)];split<;>rfl
noncomputable def bump:List (bR×Int)->bR->List (bR×Int)
 |[],d=>[(d,1)]
 | (F,w)::s,d=>if F=d then (F,w+1)::s else (F,w)::bump s d
theorem S1(g e:Int×Int):sF [.im (aq g),.im<|aq e]=Z (.im<|.tup<|iU<|ji g e,[.im (aq g),.im<|aq e]):=by
 have z:=Mh g e;have E:=Ol g e;simp -implicitDefEqProofs [sF,DG,z,E,iU]
end G
namespace L2
open PySem PySem.Spec PyProof.Rows PySem.W
variable{r a:Int}{g:af}
def kS:List V->V->Option Nat
 |[],_=>Y
 |h::s,v=>if cy h v=aa then Z 0 else (kS s v).map (·+1)
theorem F5{c:aV}{v:V}:∀{J:List V}{Xc:List ab}{r:Nat},V.c2 8 J=aa->dI c J Xc->kS J v=Z r->
  ∃u,Xc[r]?=Z u/\kT c v u=aa/\∀k L,k<r->Xc[k]?=Z L->kT c v L=au
 |[],Xc,r,_,_,d=>by cases d
 |h::J,Xc,r,q,f,d=>by
  let⟨u,@s,rfl,z,E⟩:=f;rw[V.c2,cU]at q;unfold kS at d;split at d
  ·rename_i C;cases d;exact⟨u,rfl,by rw[nI q.1 z];exact C,λk L b=>absurd b<|qR k⟩
  ·rename_i C;let⟨@a,g,rfl⟩:=cD.mp d;let⟨@l,i,j,m⟩:=F5 q.2 E g;refine⟨l,i,j,λk L b e=>?_⟩;cases k with
   |zero=>
    cases e;rw[nI q.1 z];exact Bool.eq_false_iff.mpr C
   |succ k=>exact m k L ⋯ e
section
variable{b:aO}
end
structure kQ(Xd:PySem.W.Frag)(Xs:bJ)(l:bc)(X_:List (af×List V))(cR:List (af×List (List V×af))):Prop where
 tup:∀o∈X_,∃x,(∀j,cH Xd j o.1 x)/\∀j,br j o.2 x
 Mm:∀o∈cR,∃x:List (List V×af×ab),(∀c:aV,Xd.In c->c.DictOfH (eC Xs l) o.1 x)/\(x.map λh=>(h.1,h.2.2))=o.2.map λp=>(p.1,ab.ref p.2)
structure di where
 fR:af
 kt:List (af×List V)
 cR:List (af×List (List V×af))
@[simp] noncomputable def vQ(cR:List (af×List (List V×af)))(g:af)(q:List V):Option af:=(cR.find? λo=>decide (o.1=g)).bind λo=>(o.2.find? λp=>decide (p.1=q)).map (·.2)
@[simp] def kr(X_:List (af×List V))(g:af)(a:Int):Option V:=(X_.find? λo=>decide (o.1=g)).bind λo=>dV o.2 a
@[simp] def ea(X_:List (af×List V))(cR:List (af×List (List V×af))):gx:=λg e=>match g,e with
 |.im (.fn g),.im (.int a)=>(kr X_ g a).map .im
 |.im (.fn g),.im (.tup q)=>if V.keys 7 q=aa then (vQ cR g q).map λv=>.im (.fn v) else Y
 |g,e=>bE g e
theorem HZ:∀{x:List (List V×af×ab)}{Xp:List (List V×af)}{q:List V}{p:List V×af},(x.map λh=>(h.1,h.2.2))=(Xp.map λp=>(p.1,ab.ref p.2))->(Xp.find? λp=>decide (p.1=q))=Z p->∃n,kG x q=Z (n,.ref p.2)
 |[],[],q,p,_,F=>by cases F
 |[],H::Xp,q,p,d,F=>by cases d
 |h::x,[],q,p,d,F=>by cases d
 |h::x,H::Xp,q,p,d,F=>by
  rw[cw,cw]at d;injection d with a b;injection a with e f;rw[jn]at F;unfold kG;rw[jn,e];split at F
  ·rename_i c;cases F;rw[c];exact⟨h.2.1,by rw[<-f];rfl⟩
  ·rename_i c;rw[c];exact HZ b F
section
variable{b:aO}{X_:List (af×List V)}{cR:List (af×List (List V×af))}
theorem O7(d:b.A.units+20<bU)(T:kQ b.K b.prog b.w X_ cR):iz b (λh H j B=>∃g q e v,h=.ref g/\H=.ref e/\hX j q e/\vQ cR g q=Z v/\B (.ref v) j):=by
 intro k I G f D j h H u L B A i m ⟨g,q,e,v,r,s,t,hd,p⟩ Xi;subst r s;cases i;cases m;let⟨@o,c,z⟩:=bG.mp hd;let⟨@x,y,J⟩:=T.Mm o (HW c);have bM:=GQ c;have bM:o.1=g:=fD bM;let⟨@C,E,rfl⟩:=cD.mp z;have a:=y f.heap A.nV;rw[bM]at a;let⟨@n,F⟩:=HZ J E;exact xC a.typeIs Ie.lookup (II (qL d) (nO A.aZ t) a F ⟨.ref C.2,j,A.tok _,rfl,p⟩) Xi
theorem j5(n:b.A.units+20<bU)(T:kQ b.K b.prog b.w X_ cR):iz b (λh H j B=>∃XY X1 v,fX j XY h/\fX j X1 H/\ea X_ cR XY X1=Z v/\∀u N Xf,bV j N->cT N v u Xf->Xf.Nodup->(∀g∈Xf,j g=Y)->B u N):=by
 refine ((H2 n).or<|EP.or<|O7 n T).imp λh H j B s=>?_;let⟨XY,X1,@v,c,f,d,p⟩:=s;unfold ea at d;split at d
 ·let⟨@q,k,m⟩:=cD.mp d;cases m;let⟨@o,r,t⟩:=bG.mp k;let⟨@x,Xr,Yg⟩:=T.tup o (HW r);have bM:=GQ r;have bM:=fD bM;let⟨@u,y,z⟩:=vj (Yg j) t;exact .inr (.inl ⟨o.1,x,_,u,by rw[bM];exact c.i,f.i,Xr j,y,ck.i p z⟩)
 ·split at d
  ·rename_i C;let⟨@q,k,m⟩:=cD.mp d;cases m;let⟨e,@x,rfl,XF,XH⟩:=f.i;exact .inr (.inr ⟨_,_,e,q,c.i,rfl,⟨C,e,x,rfl,XF,XH⟩,k,ck.i p rfl⟩)
  ·cases d
 ·exact .inl ⟨XY,X1,v,c,f,d,p⟩
end
noncomputable def lC(a b Yh c XJ d e XR f g X2 h i:af):di:=⟨a,[(b,[.fn Yh,.fn c]),(XJ,[.fn d,.fn e]),(XR,[.fn f,.fn g]),(X2,[.fn h,.fn i]),(Yh,[.int (-1),.int 0]),(c,[.int 0,.int 1]),(d,[.int 0,.int 1]),(e,[.int 1,.int 0]),(f,[.int 1,.int 0]),(g,[.int 0,.int<|-1]),(h,[.int 0,.int<|-1]),(i,[.int (-1),.int 0])],
 [(a,[([.int 0,.int 0],b),([.int 0,.int 1],XJ),([.int 1,.int 1],XR),([.int 1,.int 0],X2)])]⟩
def hU(Xd:PySem.W.Frag)(g:af)(a r:Int):Prop:=∃v i L w f,Xd.lookup g=Z ⟨.type "tuple",v,.seq #[.int a i,.int r L] w,f⟩
def pl(Xd:PySem.W.Frag)(g h H:af):Prop:=∃v w f,Xd.lookup g=Z ⟨.type "tuple",v,.seq #[.ref h,.ref H] w,f⟩
variable{Xd:PySem.W.Frag}{Xs:bJ}{l:bc}
theorem hU.tup(c:hU Xd g a r):∃x,(∀j,cH Xd j g x)/\∀j,br j [.int a,.int r] x:=by
 let⟨v,i,L,w,@f,d⟩:=c;refine⟨[.int a,.int r],λj=>.inr ⟨_,_,w,d,rfl,rfl,by show 2<=sizeLine;decide,.cons ⟨i,rfl⟩<|.cons ⟨L,rfl⟩ .nil⟩,λj=>⟨_,_,rfl,rfl,_,_,rfl,rfl,rfl⟩⟩
theorem pl.tup{h H:af}(c:pl Xd g h H):∃x,(∀j,cH Xd j g x)/\∀j,br j [.fn h,.fn H] x:=by
 let⟨v,w,@f,d⟩:=c;refine⟨[.ref h,.ref H],λj=>.inr ⟨_,_,w,d,rfl,rfl,by show 2<=sizeLine;decide,.cons rfl<|.cons rfl .nil⟩,λj=>⟨_,_,rfl,rfl,_,_,rfl,rfl,rfl⟩⟩
theorem hU.is(c:hU Xd g a r){e:aV}(b:Xd.In e):(eC Xs l).is e [.int a,.int r] g:=by
 let⟨v,i,L,w,@f,d⟩:=c;exact⟨rfl,g,_,_,w,rfl,b _ _ d,rfl,rfl,_,_,rfl,⟨i,rfl⟩,_,_,rfl,⟨L,rfl⟩,rfl⟩
theorem OC{n p a Yh e XF XJ f g XH XR i j q X2 k m:af}{r z E s:Int}{w:Nat}(u:Xd.lookup n=Z ⟨.type "dict",Y,.dict #[⟨r,.ref p,.ref a⟩,⟨z,.ref XF,.ref XJ⟩,⟨E,.ref XH,.ref XR⟩,⟨s,.ref q,.ref X2⟩] w,#[]⟩)(v:r=c_ l (.tup [.int 0,.int 0]))(x:z=c_ l (.tup [.int 0,.int 1]))(y:E=c_ l (.tup [.int 1,.int 1]))(A:s=c_ l (.tup [.int 1,.int 0]))(fg:hU Xd p 0 0)(B:hU Xd XF 0 1)(C:hU Xd XH 1 1)(D:hU Xd q 1 0)(F:pl Xd a Yh e)(G:pl Xd XJ f g)(H:pl Xd XR i j)(I:pl Xd X2 k m)(N:hU Xd Yh (-1) 0)(J:hU Xd e 0 1)(L:hU Xd f 0 1)(M:hU Xd g 1 0)(O:hU Xd i 1 0)(P:hU Xd j 0 (-1))(Q:hU Xd k 0 (-1))(R:hU Xd m (-1) 0):
  kQ Xd Xs l (lC n a Yh e XJ f g XR i j X2 k m).kt (lC n a Yh e XJ f g XR i j X2 k m).cR:=by
 constructor
 ·intro o d;simp only[lC,bO,fO,eY]at d;rcases d with c|c|c|c|c|c|c|c|c|c|c|c<;>subst c
  ·exact F.tup
  ·exact G.tup
  ·exact H.tup
  ·exact I.tup
  ·exact N.tup
  ·exact J.tup
  ·exact L.tup
  ·exact M.tup
  ·exact O.tup
  ·exact P.tup
  ·exact Q.tup
  ·exact R.tup
 ·intro o d;simp only[lC,bO,fO,eY]at d;subst d;subst v x y A;refine⟨[([.int 0,.int 0],p,.ref a),([.int 0,.int 1],XF,.ref XJ),([.int 1,.int 1],XH,.ref XR),([.int 1,.int 0],q,.ref X2)],λc b=>⟨_,_,w,b _ _ u,⟨rfl,rfl,rfl⟩,rfl,rfl,λh t=>?_,?_⟩,rfl⟩
  ·simp only[bO,fO,eY]at t;rcases t with c|c|c|c<;>subst c
   ·exact fg.is b
   ·exact B.is b
   ·exact C.is b
   ·exact D.is b
  ·simp
end L2
namespace L2
open PySem PySem.Spec PyProof.Rows PySem.W
variable{a:Nat}
noncomputable def o1(y:a4)(a:Nat)(J:List V):Bool:=match y[a]? with
 |some (Z<|.lst H)=>decide (H=J)
 |_=>au
def lu(a:Nat)(J:List V)(XK:fi)(e:bA):List V->bA
 |[]=>λy=>if o1 y a J=aa then Z (.aS,y) else Y
 |h::s=>λy=>if o1 y a J=aa then (XK (.im h) y).bind λXl=>(e Xl).bind λp=>match p.1 with
  |.aS=>lu a J XK e s p.2
  |.cx=>lu a J XK e s p.2
  |.f_=>Z (.aS,p.2)
  |.dT v=>Z (.dT v,p.2) else Y
def xv(a:Nat)(XK:fi)(e:bA):bA:=λy=>match y[a]? with
 |some (Z<|.lst J)=>lu a J XK e J y
 |_=>Y
theorem Hf{y:a4}{J:List V}(c:o1 y a J=aa):y[a]?=Z (Z<|.lst J):=by
 unfold o1 at c;split at c
 ·rename_i H d;rw[d,fD c]
 ·cases c
section
variable{b:aO}
theorem Nh{XX X8:List Nat}{XK Ye:bx}{Yt:List b8}{H:fi}{Yd:bA}{Xu:Pos}(bs:qZ (aM b.prog b.w) b.A b.env b.cW)(bv:b.calm=aa)(U:dR b Ye (ai a))(ca:iR b X8 XK H)(cd:jg b X8 Yt Yd)(ce:∀a∈XX,a∈X8)(Xi:a∈X8)(ch:∀h,mH Ye b.env h=pure h:=by intro W;rfl):iF b XX (.For XK Ye Yt [] Xu) (xv a H Yd):=by
 refine lx (FI bs bv (Jw U) ca cd ch) λXg D j ci=>?_;let⟨y,P,F,@XO,X,ag,M,p⟩:=ci;unfold xv at M;split at M
 ·rename_i J ap;refine⟨y,P,.aY a,y,X,ag,by unfold ai;rw[ap],λu Xn Xz Xf as XJ a1=>?_⟩;let@⟨XJ,rfl⟩:=XJ;rw[cC]at a1;have S:∀{N:aw}{e:a4}{i:a3}{X0:List af},bC N e i X0->i[a]?=Z (Z u)->e[a]?=Z (Z<|.lst J)->∃g x,u=.ref g/\N g=Z (.lst x)/\br N J x:=λB cl co=>by
   let⟨f2,f4,@f8,a2,cr,W⟩:=B.out co;rw[cl]at a2;cases a2;let⟨g,@x,d,z,E,W⟩:=cr;exact⟨g,x,d,z,E⟩
  let⟨g,@x,rfl,z,E⟩:=S as XJ ap;refine⟨g,rfl,.inl ⟨⟨x,df.of z⟩,?_⟩⟩;have T:∀{C:a3},dm X8 D C->dm XX D C:=λF=>⟨F.1,λa U=>F.2 a<|ce a U⟩;refine⟨λr k i N=>k+r=J.length/\∃e X0,dm X8 D i/\bC N e i X0/\bu j P N X0/\lu a J H Yd (J.drop r) e=Z (F,XO),⟨J.length,rfl,y,Xz,dm.refl,as,a1,M⟩,?_⟩;rintro r k i N ⟨ga,e,X0,n,B,Xe,f⟩;by_cases bd:r<J.length
  ·rw[jH bd,lu]at f;dsimp only at f;split at f
   ·rename_i al;let⟨cs,@db,d,XF,XH⟩:=S B ((n.2 a Xi).trans XJ) (Hf al);cases d;let@⟨ds,dL⟩:=(yH (Xd:=b.K) XF XH).go N (fm.of (λ_ W d=>d)<|λ_ W W d=>d) (λ_ W W d=>d) r J[r] (by simp[bd]);let⟨@A,dw,da⟩:=bG.mp f;let⟨@⟨be,am⟩,d9,Q⟩:=bG.mp da;refine .inr ⟨ds,λC XD=>(k-1)+(r+1)=J.length/\∃e X0,dm X8 D C/\bC XD e C X0/\bu j P XD X0/\lu a J H Yd (J.drop<|r+1) e=Z (F,XO),λC XD c=>⟨k-1,⋯,c⟩,λh XD eq=>?_⟩;let@⟨an,ev⟩:=dL h XD eq;have ex:=B.mono an.tupS λg W m d=>an g m d;have bi:=Xe.same an;refine⟨e,X0,.im J[r],[],A,ex,⟨ev,rfl⟩,by rw[cC];exact bi.ag,dw,λge fd bm R fn bn=>?_⟩;have G:bu j P fd bm:=bi.seq (by rw[cC]at bn;exact bn);refine⟨A,bm,be,am,fn,G.ag,d9,?_⟩;cases be with
    |aS=>exact λI L o q s t=>⟨⋯,am,o,(n.trans R).trans q,s,G.seq t,Q⟩
    |cx=>exact λI L o q s t=>⟨⋯,am,o,(n.trans R).trans q,s,G.seq t,Q⟩
    |f_=>
     cases Q;exact λI L o q s t=>p I L o (T<|(n.trans R).trans q) s (G.seq t)
    |dT v=>
     cases Q;exact λu I L o fr q s f0 t=>p u I L o fr (T<|(n.trans R).trans q) s f0 (G.seq t)
   ·cases f
  ·have f1:r=J.length:=⋯
   subst f1;rw[mO (ba _),lu]at f;dsimp only at f;split at f
   ·rename_i al;cases f;let⟨cs,@db,d,XF,XH⟩:=S B ((n.2 a Xi).trans XJ) (Hf al);cases d;exact .inl ⟨(yH (Xd:=b.K) XF XH).stop N (fm.of (λ_ W d=>d)<|λ_ W W d=>d)<|λ_ W W d=>d,p i N X0 (T n) B Xe⟩
   ·cases f
 ·cases M
end
end L2
namespace G
open PySem L2
def G1:bA:=(cV<|d6<|ao (ae<|ay hk (ae<|ay bE (ai 1)<|ae<|aC<|.int 0)<|ae<|ay gf (ae<|ay hk (ae<|ay bE (ai 1)<|ae<|aC<|.int 0)<|ae<|ay bE (ae<|ay bE (ai 0)<|ae<|aC<|.int 0)<|ae<|aC<|.int 0)<|ae<|aC<|.int 2)<|ao (ae<|ay hk (ae<|ay bE (ai 1)<|ae<|aC<|.int 1)<|ae<|ay gf (ae<|ay hk (ae<|ay bE (ai 1)<|ae<|aC<|.int 1)<|ae<|ay bE (ae<|ay bE (ai 0)<|ae<|aC<|.int 0)<|ae<|aC<|.int 1)<|ae<|aC<|.int 2) aF)
def s6:c9:=dA 2 2 [0,1] G1
def JV(Xb:di):bA:=(cV<|d6<|ao (ae<|ay c0 (ae<|ay (ea Xb.kt Xb.cR) (ai 0)<|ae<|aC<|.int 0)<|ae<|ay fE (ae<|ay (ea Xb.kt Xb.cR) (ai 1)<|ae<|aC<|.int 0)<|ai 2)<|ao (ae<|ay c0 (ae<|ay (ea Xb.kt Xb.cR) (ai 0)<|ae<|aC<|.int 1)<|ae<|ay fE (ae<|ay (ea Xb.kt Xb.cR) (ai 1)<|ae<|aC<|.int 1)<|ai 2) aF)
def lU(Xb:di):c9:=dA 3 3 [0,1,2] (JV Xb)
def Ip(Xb:di):bA:=(bz (b_ 3<|b2 2 G.s6<|ao (ai 0)<|ao (ai 2) aF)<|bz (b_ 4<|ay (ea Xb.kt Xb.cR) (ae<|aC<|.fn Xb.fR)<|ae<|d6<|ao (ae<|ay hk (ae<|ay (ea Xb.kt Xb.cR) (ai 2)<|ae<|aC<|.int 0)<|ae<|ay (ea Xb.kt Xb.cR) (ai 3)<|ae<|aC<|.int 0)<|ao (ae<|ay hk (ae<|ay (ea Xb.kt Xb.cR) (ai 2)<|ae<|aC<|.int 1)<|ae<|ay (ea Xb.kt Xb.cR) (ai 3)<|ae<|aC<|.int 1) aF)<|bz (ei (cg<|ay nU (ae<|b2 2 G.sF<|ao (ai 3)<|ao (ae<|b2 3 (G.lU Xb)<|ao (ai 3)<|ao (ae<|ay (ea Xb.kt Xb.cR) (ai 4)<|ae<|aC<|.int 0)<|ao (ae<|aC<|.int 2) aF) aF)<|ai 1) (cV<|b2 3 (G.lU Xb)<|ao (ai 2)<|ao (ae<|ay (ea Xb.kt Xb.cR) (ai 4)<|ae<|aC<|.int 0)<|ao (ae<|aC<|.int 1) aF) fA)<|cV<|b2 3 (G.lU Xb)<|ao (ai 2)<|ao (ae<|ay (ea Xb.kt Xb.cR) (ai 4)<|ae<|aC<|.int 1)<|ao (ae<|aC<|.int 1) aF)
def qv(Xb:di):c9:=dA 3 5 [0,1,2] (Ip Xb)
end G
namespace L2
open PySem PySem.Spec PyProof.Rows PySem.W
noncomputable def CG:aj->aj
 |.im (.aU h)=>.dn h
 |v=>v
@[simp] theorem WO(h:List V):CG (.im<|.aU h)=.dn h:=rfl
@[simp] theorem WK(h:List V):CG (.im<|.tup h)=.im (.tup h):=rfl
section
variable{b:aO}
end
end L2
namespace L2
open PySem
section
variable{y Xl XO:a4}
variable{v:aj}
theorem dE{I:az aj}(c:I y=Z (v,Xl)):ae I y=Z (.b5 v,Xl):=by unfold ae;rw[c];rfl
variable{h:bq}
theorem c6{I:az bq}{c:az (List bq)}{x:List bq}(a:I y=Z (h,Xl))(b:c Xl=Z (x,XO)):ao I c y=Z (h::x,XO):=by unfold ao;rw[a];show (c Xl).map _=_;rw[b];rfl
variable{XY X1:aj}
theorem ix{X7:aj->aj->Option aj}{Yj Yd:az bq}{H:bq}(a:Yj y=Z (h,Xl))(b:Yd Xl=Z (H,XO))(c:fa XO h=Z XY)(d:fa XO H=Z X1)(e:X7 XY X1=Z v):ay X7 Yj Yd y=Z (v,XO):=by
 unfold ay;rw[a];show (Yd Xl).bind _=_;rw[b];show (fa XO h).bind _=_;rw[c];show (fa XO H).bind _=_;rw[d];show (X7 XY X1).map _=_;rw[e];rfl
variable{I:az (List bq)}{w:Nat}{Xw:List bq}{J i:List aj}
theorem rK{Q:c9}{s:aj}(a:I y=Z (Xw,Xl))(b:Xw.length=w)(c:es Xw Xl=Z (J,XO))(d:Q J=Z (s,i)):b2 w Q I y=Z (s,gL Xw i XO):=by
 unfold b2;rw[a];show (if Xw.length=w then _ else _)=_;rw[aA b];show (es Xw Xl).bind _=_;rw[c];show (Q J).map _=_;rw[d];rfl
theorem r7{X7:List aj->Option aj}(a:I y=Z (Xw,Xl))(b:eW Xl Xw=Z J)(c:X7 J=Z v):b9 X7 I y=Z (v,Xl):=by
 unfold b9;rw[a];show (eW Xl Xw).bind _=_;rw[b];show (X7 J).map _=_;rw[c];rfl
variable{e:Bool}
theorem zt{I:az aj}(d:I y=Z (.im<|.aG e,Xl)):cg I y=Z (e,Xl):=by unfold cg;rw[d];rfl
theorem PA{I:az Bool}(d:I y=Z (e,Xl)):mN I y=Z (!e,Xl):=by unfold mN;rw[d];rfl
theorem Ef{I:az bq}(d:I y=Z (h,Xl))(a:fa Xl h=Z v)(b:pz v=Z e):kM I y=Z (e,Xl):=by
 unfold kM;rw[d];show (fa Xl h).bind _=_;rw[a];show (pz v).map _=_;rw[b];rfl
theorem nM{I:az aj}{c:fi}(d:I y=Z (v,Xl))(a:c v Xl=Z XO):h_ I c y=Z (.aS,XO):=by unfold h_;rw[d];show (c v Xl).map _=_;rw[a];rfl
theorem lq{I:az aj}(d:I y=Z (v,Xl)):hY I y=Z (.aS,Xl):=by unfold hY;rw[d];rfl
variable{A:a4}
theorem jW{ty:aj->Bool}{a:Nat}{d0:aj->List aj->Option (aj×aj)}{b n s c:aj}(d:y[a]?=Z (Z b))(e:ty b=aa)(f:I y=Z (Xw,Xl))(g:es Xw Xl=Z (J,XO))(h:XO[a]?=Z (Z n))(i:d0 n J=Z (s,c))(q:XO.set a (Z c)=A):gm ty a d0 I y=Z (s,A):=by
 subst q;unfold gm;rw[d];show (if ty b=aa then _ else _)=_;rw[aA e,f];show (es Xw Xl).bind _=_;rw[g];show (match XO[a]? with|some (Z n)=>_|_=>Y)=_;rw[h];show (d0 n J).map _=_;rw[i];rfl
theorem B_(a:I y=Z (Xw,Xl))(b:es Xw Xl=Z (J,XO))(c:J.length<=100000)(q:r2 J=v):d6 I y=Z (v,XO):=by
 unfold d6;rw[a];show (es Xw Xl).bind _=_;rw[b];show (if _ then _ else _)=_;rw[aA c,q]
theorem J_(a:I y=Z (Xw,Xl))(b:es Xw Xl=Z (J,XO))(c:J.length<=100000)(q:rx J=v):eH I y=Z (v,XO):=by
 unfold eH;rw[a];show (es Xw Xl).bind _=_;rw[b];show (if _ then _ else _)=_;rw[aA c,q]
variable{a:Int}
theorem RN{I:az aj}(d:I y=Z (.im<|.int a,Xl)):hM I y=Z (.im<|.int<|-a,Xl):=by unfold hM;rw[d];rfl
variable{h:List V}
theorem zo{v:V}(c:h.length<100000):hH (.lst h) [.im v]=Z (.im .aW,.lst<|h++[v]):=aA c
theorem Vr(a r:Int):ih (.im<|.int a) (.im<|.int r)=Z (.im<|.aG<|!decide (a=r)):=by
 show Z (aj.im<|.aG<|!(a==r))=_;by_cases c:a=r<;>simp[c]
variable{r:Int}
theorem hu(c:h4 a r=aa):fE (.im<|.int a) (.im<|.int r)=Z (.im<|.int<|a*r):=aA c
theorem kK(c:0<r):gf (.im<|.int a) (.im<|.int r)=Z (.im<|.int<|a%r):=aA (dU c)
theorem sb(c:0<r)(E:r<1073741824):kh (.im<|.int a) (.im<|.int r)=Z (.im<|.int<|a/r):=aA (dU (⟨c,E⟩:0<r/\r<1073741824))
theorem FL(c:decide (0<=r/\r<=1000000/\a.natAbs<2^64)=aa):nT (.im<|.int a) (.im<|.int r)=Z (.im<|.int<|a^r.toNat):=aA c
variable{s:Option (oj×a4)}{e:bA}{n:az Bool}
theorem kp{g:bA}(d:n y=Z (aa,Xl))(c:g Xl=s):ei n g e y=s:=(zR d).trans c
theorem hZ{g:bA}(d:n y=Z (au,Xl))(c:e Xl=s):ei n g e y=s:=(AD d).trans c
theorem cj{I c:bA}(d:I y=Z (.aS,Xl))(q:c Xl=s):bz I c y=s:=(nx d).trans q
variable{a:Nat}
theorem iJ{I:az aj}(d:I y=Z (v,Xl))(c:a<Xl.length)(q:Xl.set a (Z v)=XO):b_ a I y=Z (.aS,XO):=(T4 d c).trans (by rw[q])
variable{x:List V}{XK:fi}{m:Option (Nat×aj)}
theorem jl{I:jm}{aU:oj}(d:I y=Z ((x,m),Xl))(c:d2 XK e x Xl=Z (aU,XO))(q:lY m XO=A):gW I XK e y=Z (aU,A):=(Sv d c).trans (by rw[q])
theorem jZ{own:Nat}{XU:List Nat}{l:jm}{d:az aj}{a:a4}{J:List V}(z:l y=Z ((x,m),Xl))(E:hG own XK n d x [] (lj XU Xl)=Z (J,a))(q:lY m (jr XU a Xl)=A):eZ own XU l XK n d y=Z (.lst J,A):=(PN z E).trans (by rw[q])
variable{s:Option (Bool×a4)}{e g:az Bool}
theorem TO(d:g y=Z (au,Xl))(c:e Xl=s):qa g e y=s:=by unfold qa;rw[d];exact c
theorem pv(d:g y=Z (aa,Xl))(c:e Xl=s):hn g e y=s:=by unfold hn;rw[d];exact c
theorem z0(d:g y=Z (au,Xl)):hn g e y=Z (au,Xl):=by unfold hn;rw[d];rfl
variable{s:Option (aj×a4)}{e g:az aj}
theorem Ci(d:n y=Z (aa,Xl))(c:g Xl=s):oo n g e y=s:=by unfold oo;rw[d];exact c
theorem HB(d:n y=Z (au,Xl))(c:e Xl=s):oo n g e y=s:=by unfold oo;rw[d];exact c
theorem y0{r:Nat}(b:I y=Z (Xw,Xl))(c:es Xw Xl=Z ([XY,X1],XO))(U:a<XO.length)(d:r<XO.length)(q:(XO.set a<|Z XY).set r (Z X1)=A):pd a r I y=Z (.aS,A):=by
 unfold pd;rw[b];show (es Xw Xl).bind _=_;rw[c];show (if a<XO.length/\r<XO.length then _ else _)=_;rw[aA ⟨U,d⟩,q]
theorem D5{I:az Bool}{e:Bool}(d:I y=Z (e,Xl)):h3 I y=Z (.im<|.aG e,Xl):=by unfold h3;rw[d];rfl
variable{s:aj}
theorem dq{Q:c9}(a:I y=Z (Xw,Xl))(b:Xw.length=w)(c:es Xw Xl=Z (J,XO))(d:Q J=Z (s,i))(q:gL Xw i XO=A):b2 w Q I y=Z (s,A):=by rw[<-q];exact rK a b c d
theorem Tt{I:az Bool}(d:I y=Z (aa,Xl)):mN I y=Z (au,Xl):=PA d
variable{H:List V}
theorem uJ(a:I y=Z (Xw,Xl))(b:eW Xl Xw=Z [.im (.tup h),.im<|.tup H]):me I y=Z ((ec h H,Y),Xl):=by
 unfold me;rw[a];show (eW Xl Xw).bind _=_;rw[b];rfl
theorem Vo{XJ XR:bq}(a:I y=Z ([XJ,XR],Xl))(b:es [XJ,XR] Xl=Z ([XY,X1],XO))(c:fU XY=Z h)(d:fU X1=Z H)(e:X1.d7=aa)(q:(if XY.d7=aa then Y else sR XJ XY)=m):rW I y=Z ((ec h H,m),XO):=by
 unfold rW;rw[a];show (es [XJ,XR] Xl).bind _=_;rw[b];show (fU XY).bind _=_;rw[c];show (fU X1).bind _=_;rw[d];show (if X1.d7=aa then _ else _)=_;rw[aA e,q]
theorem y_{I:az bq}{t c:az (Option Int)}{h:bq}{R U:Option Int}{a:aj}(b:I y=Z (h,Xl))(d:t Xl=Z (R,XO))(e:c XO=Z (U,A))(f:fa A h=Z v)(g:kC v R U=Z a):iY I t c y=Z (a,A):=by
 unfold iY;rw[b];show (t Xl).bind _=_;rw[d];show (c XO).bind _=_;rw[e];show (fa A h).bind _=_;rw[f];show (kC v R U).map _=_;rw[g];rfl
theorem sS(a:I y=Z (Xw,Xl))(b:eW Xl Xw=Z [.im (.int r)])(c:small r):jQ I y=Z ((gD 0 r.toNat,Y),Xl):=by
 unfold jQ;rw[a];show (eW Xl Xw).bind _=_;rw[b];show (if small r then _ else _)=_;rw[aA c]
theorem eO{k:Nat}{XX:List Nat}{I:bA}(a:J.length=w)(d:I (J.map Z++List.replicate (k-w) Y)=Z (.dT s,y))(b:iZ XX J y 0=i):dA w k XX I J=Z (s,i):=p8 y a d b
end
end L2
namespace G
open PySem L2
variable{T:List bR}
abbrev aD:=Int×Int
variable{Xh:List aD}{n e:aD}
noncomputable def ct(e:aD):Nat->aD
 |0=>e
 |1=>(e.1,e.2+1)
 |2=>(e.1+1,e.2+1)
 |_=>(e.1+1,e.2)
noncomputable def e3(e:aD):Nat->aD
 |0=>(e.1-2,e.2)
 |1=>(e.1,e.2+2)
 |2=>(e.1+2,e.2)
 |_=>(e.1,e.2-2)
def hT(e:aD):List aD:=[e,(e.1,e.2+1),(e.1+1,e.2+1),(e.1+1,e.2)]
def fh(T:List bR)(g e:aD):Bool:=decide ((g,e)∈T\/(e,g)∈T)
theorem De(T:List bR)(g e:aD):fh T g e=fh T e g:=by
 unfold fh;rw[lD,gE,gE];exact Or.comm
def aS(T:List bR)(o:aD×Nat):aD×Nat:=if fh T o.1 (e3 o.1 o.2)=aa then (e3 o.1 o.2,(o.2+3)%4) else (o.1,(o.2+1)%4)
def kd(T:List bR)(o:aD×Nat):aD×Nat:=if fh T o.1 (e3 o.1<|(o.2+3)%4)=aa then (e3 o.1<|(o.2+3)%4,(o.2+1)%4) else (o.1,(o.2+3)%4)
theorem IZ(T:List bR)(e:aD){q:Nat}(a:q<4):kd T (aS T (e,q))=(e,q):=by
 unfold aS;by_cases c:fh T e (e3 e q)=aa
 ·rw[aA c];rw[De]at c;have d:e3 (e3 e q) (((q+3)%4+3)%4)=e:=by
   match q,a with
   |0,_=>simp[e3]
   |1,_=>simp[e3]
   |2,_=>simp[e3]
   |3,_=>simp[e3]
  unfold kd;dsimp only;rw[d,aA c];exact e2 rfl (by show ((q+3)%4+1)%4=q;omega)
 ·rw[aI c];have d:((q+1)%4+3)%4=q:=by omega
  unfold kd;dsimp only;rw[d,aI c]
theorem VX(T:List bR)(o:aD×Nat):(aS T o).2<4:=by
 unfold aS;split<;>exact qO _ (by decide)
structure jo(Xh:List aD):Prop where
 ne:Xh≠[]
 ag:Xh.Nodup
 len:Xh.length<=40
 nZ:∀e∈Xh,0<=e.1/\e.1<=29/\0<=e.2/\e.2<=29
 par:∀g∈Xh,∀e∈Xh,(g.1-e.1)%2=0/\(g.2-e.2)%2=0
 con:∀o:aD->aD,(∀g∈Xh,∀e∈Xh,(e=(g.1,g.2+2)\/e=(g.1+2,g.2))->o g=o e)->∀g∈Xh,∀e∈Xh,o g=o e
theorem C9:n∈hT e↔(n.1=e.1\/n.1=e.1+1)/\(n.2=e.2\/n.2=e.2+1):=by
 let⟨h,H⟩:=n;let⟨L,u⟩:=e;simp only[hT,bO,fO,eY,AV];constructor
 ·lia
 ·lia
theorem JB(e:aD){q:Nat}(a:q<4):ct e q∈hT e:=by
 match q,a with
 |0,_=>simp[ct,hT]
 |1,_=>simp[ct,hT]
 |2,_=>simp[ct,hT]
 |3,_=>simp[ct,hT]
theorem VC(c:n∈hT e):∃q,q<4/\n=ct e q:=by
 simp only[hT,bO,fO,eY]at c;rcases c with c|c|c|c
 ·exact⟨0,by decide,c⟩
 ·exact⟨1,by decide,c⟩
 ·exact⟨2,by decide,c⟩
 ·exact⟨3,by decide,c⟩
theorem jo.one(X6:jo Xh){g e n:aD}(a:g∈Xh)(b:e∈Xh)(z:n∈hT g)(E:n∈hT e):g=e:=by
 have o:=X6.par g a e b;rw[C9]at z E;exact e2 (by omega) (by omega)
def aG(m n:aD):aD:=(n.1-(n.1-m.1)%2,n.2-(n.2-m.2)%2)
noncomputable def cA(m n:aD):Nat:=if (n.1-m.1)%2=0 then (if (n.2-m.2)%2=0 then 0 else 1) else (if (n.2-m.2)%2=0 then 3 else 2)
theorem L4{m:aD}(z:(e.1-m.1)%2=0)(E:(e.2-m.2)%2=0){q:Nat}(a:q<4):aG m (ct e q)=e/\cA m (ct e q)=q:=by
 match q,a with
 |0,_=>
  refine⟨e2 ?_ ?_,?_⟩
  ·simp only[aG,ct];lia
  ·simp only[aG,ct];lia
  ·simp only[cA,ct];rw[aA z,aA E]
 |1,_=>
  refine⟨e2 ?_ ?_,?_⟩
  ·simp only[aG,ct];lia
  ·simp only[aG,ct];lia
  ·simp only[cA,ct];rw[aA z,aI ⋯]
 |2,_=>
  refine⟨e2 ?_ ?_,?_⟩
  ·simp only[aG,ct];lia
  ·simp only[aG,ct];lia
  ·simp only[cA,ct];rw[aI ⋯,aI ⋯]
 |3,_=>
  refine⟨e2 ?_ ?_,?_⟩
  ·simp only[aG,ct];lia
  ·simp only[aG,ct];lia
  ·simp only[cA,ct];rw[aI ⋯,aA E]
def hs(o:aD×Nat):aD:=ct o.1 o.2
def iq(Xh:List aD)(d:bR):Prop:=d.1∈Xh/\d.2∈Xh/\(d.2=(d.1.1,d.1.2+2)\/d.2=(d.1.1+2,d.1.2))
theorem T1(a:∀d∈T,iq Xh d){g e:aD}(c:fh T g e=aa):g∈Xh/\e∈Xh:=by
 rcases fD c with c|c
 ·exact⟨(a _ c).1,(a _ c).2.1⟩
 ·exact⟨(a _ c).2.1,(a _ c).1⟩
theorem P_(a:∀d∈T,iq Xh d){e:aD}(b:e∈Xh)(q:Nat):(aS T (e,q)).1∈Xh:=by
 unfold aS;split
 ·rename_i c;exact (T1 a c).2
 ·exact b
theorem tN{Xx:Type}[DecidableEq Xx]:∀{t k:List Xx},t.Nodup->(∀h∈t,h∈k)->k.length<=t.length->t.Perm k
 |[],k,_,_,c=>by rw[GN.mp (Nat.le_zero.mp c)]
 |h::t,k,ag,f,c=>by
  have b:=f h (.head _);let@⟨e,Yq⟩:=g5.mp ag;have o:=BI b;refine .trans (.cons h (tN Yq (λH a=>(v_ (λd=>e (by rw[<-d];exact a))).mpr<|f H<|.tail _ a) ?_)) o.symm;have:=o.length_eq;simp at this c;lia
def cells(Xh:List aD):List aD:=Xh.flatMap hT
theorem Kv:n∈cells Xh↔∃e∈Xh,∃q,q<4/\n=ct e q:=by
 unfold cells;rw[sT];constructor
 ·rintro⟨e,a,c⟩;exact⟨e,a,VC c⟩
 ·rintro⟨e,a,q,b,rfl⟩;exact⟨e,a,JB e b⟩
theorem Rg(e:aD):(hT e).Nodup:=by
 let⟨h,H⟩:=e;simp[hT,g5];lia
theorem vB{Xx Ya:Type}{F:Xx->List Ya}:∀{t:List Xx},t.Nodup->(∀g∈t,(F g).Nodup)->(∀g∈t,∀e∈t,∀h,h∈F g->h∈F e->g=e)->(t.flatMap F).Nodup
 |[],_,_,_=>by simp
 |g::t,ag,z,E=>by
  let@⟨c,Yq⟩:=g5.mp ag;rw[ip,dN];refine⟨z g<|.head _,vB Yq (λe a=>z e<|.tail _ a)<|λe a n f=>E e (.tail _ a) n<|.tail _ f,λh i H b d=>?_⟩;let⟨@e,a,b⟩:=sT.mp b;subst d;have:=E g (.head _) e (.tail _ a) h i b;subst this;exact c a
theorem jo.zj(X6:jo Xh):(cells Xh).Nodup:=vB X6.ag (λe W=>Rg e) λg a e b h z E=>X6.one a b z E
theorem sD:∀Xh:List aD,(cells Xh).length=4*Xh.length
 |[]=>rfl
 |e::Xh=>by
  have:=sD Xh;unfold cells at *;rw[ip,c7,this];simp[hT];lia
theorem ob{Xx Ya:Type}{F:Xx->Ya}{t:List Xx}(ag:t.Nodup)(c:∀g∈t,∀e∈t,F g=F e->g=e):(t.map F).Nodup:=by
 unfold List.Nodup;rw[pC];exact Dl (λa b w d=>w<|c _ a _ b d) ag
end G
namespace L2
open PySem
section
variable{y Xl:a4}
variable{v:aj}
theorem a7{I:az aj}(c:I y=Z (v,y)):ae I y=Z (.b5 v,y):=dE c
variable{h:bq}
theorem bK{I:az bq}{c:az (List bq)}{x:List bq}(a:I y=Z (h,y))(b:c y=Z (x,y)):ao I c y=Z (h::x,y):=c6 a b
theorem a5{X7:aj->aj->Option aj}{Yj Yd:az bq}{H:bq}{XY X1:aj}(a:Yj y=Z (h,y))(b:Yd y=Z (H,y))(c:fa y h=Z XY)(d:fa y H=Z X1)(e:X7 XY X1=Z v):ay X7 Yj Yd y=Z (v,y):=ix a b c d e
variable{I:az (List bq)}{Xw:List bq}{J:List aj}
theorem gS{X7:List aj->Option aj}(a:I y=Z (Xw,y))(b:eW y Xw=Z J)(c:X7 J=Z v):b9 X7 I y=Z (v,y):=r7 a b c
variable{e:Bool}
theorem iy{I:az aj}(d:I y=Z (.im<|.aG e,y)):cg I y=Z (e,y):=zt d
theorem Ha{I:az bq}(d:I y=Z (h,y))(a:fa y h=Z v)(b:pz v=Z e):kM I y=Z (e,y):=Ef d a b
theorem xI(a:I y=Z (Xw,y))(b:es Xw y=Z (J,y))(c:J.length<=100000)(q:r2 J=v):d6 I y=Z (v,y):=B_ a b c q
theorem yo(a:I y=Z (Xw,y))(b:es Xw y=Z (J,y))(c:J.length<=100000)(q:rx J=v):eH I y=Z (v,y):=J_ a b c q
theorem yT{I:az bq}{t c:az (Option Int)}{R U:Option Int}{a:aj}(b:I y=Z (h,y))(d:t y=Z (R,y))(e:c y=Z (U,y))(f:fa y h=Z v)(g:kC v R U=Z a):iY I t c y=Z (a,y):=y_ b d e f g
theorem f5{a:Nat}{I:az aj}(d:I y=Z (v,y))(c:a<y.length)(q:y.set a (Z v)=Xl):b_ a I y=Z (.aS,Xl):=iJ d c q
end
end L2
namespace G
open PySem L2
variable{T O J Xb:List bR}{aN G Xh:List aD}{XY j:Int}{n e m:aD}{o:aD->aD}{I:az aj}{Xl y:a4}{a:Nat}
structure nz(k:Int)(Xh:List aD):Prop where
 ne:Xh≠[]
 ag:Xh.Nodup
 len:(Xh.length:Int)<=k
 nZ:∀e∈Xh,0<=e.1/\e.1<=29/\0<=e.2/\e.2<=29
 par:∀g∈Xh,∀e∈Xh,(g.1-e.1)%2=0/\(g.2-e.2)%2=0
 con:∀o:aD->aD,(∀g∈Xh,∀e∈Xh,(e=(g.1,g.2+2)\/e=(g.1+2,g.2))->o g=o e)->∀g∈Xh,∀e∈Xh,o g=o e
def sr:List aD:=[(0,2),(2,0),(0,-2),(-2,0)]
theorem nz.add{k:Int}{Xh:List aD}(I:nz k Xh){n v:aD}(m:n∈Xh)(hd:v∈sr)(q:(n.1+v.1,n.2+v.2)∉Xh)(u:(Xh.length:Int)<k)(r:0<=n.1+v.1/\n.1+v.1<=29/\0<=n.2+v.2/\n.2+v.2<=29):nz k (Xh++[(n.1+v.1,n.2+v.2)]):=by
 have X1:v.1%2=0/\v.2%2=0:=by
  simp only[sr,bO,fO,eY]at hd;rcases hd with c|c|c|c<;>subst c<;>exact⟨by decide,by decide⟩
 refine⟨by simp,dN.mpr ⟨I.ag,fP _ _,λh b H s d=>q (by rw[cK.mp s]at d;rw[<-d];exact b)⟩,by simp;lia,λe a=>?_,λg f e a=>?_,λo i g f e a=>?_⟩
 ·rcases ee.mp a with c|c
  ·exact I.nZ e c
  ·rw[cK.mp c];exact r
 ·have Q:∀h∈Xh,(h.1-(n.1+v.1))%2=0/\(h.2-(n.2+v.2))%2=0:=λh b=>by
   have:=I.par h b n m;exact⟨⋯,⋯⟩
  rcases ee.mp f with z|z<;>rcases ee.mp a with E|E
  ·exact I.par g z e E
  ·rw[cK.mp E];exact Q g z
  ·rw[cK.mp z];have:=Q e E;exact⟨by show ((n.1+v.1)-e.1)%2=0;lia,by show ((n.2+v.2)-e.2)%2=0;lia⟩
  ·rw[cK.mp z,cK.mp E];exact⟨by simp,by simp⟩
 ·have fg:=I.con o λg f e a=>i g (gc _ f) e (gc _ a);have j:n∈Xh++[(n.1+v.1,n.2+v.2)]:=gc _ m;have l:(n.1+v.1,n.2+v.2)∈Xh++[(n.1+v.1,n.2+v.2)]:=fj _ (.head _);have t:o n=o (n.1+v.1,n.2+v.2):=by
   simp only[sr,bO,fO,eY]at hd;rcases hd with c|c|c|c
   ·subst c;exact i _ j _ l (.inl (e2 (by simp) (by simp)))
   ·subst c;exact i _ j _ l (.inr (e2 (by simp) (by simp)))
   ·subst c;exact (i _ l _ j (.inl (e2 (by simp) (by simp;lia)))).symm
   ·subst c;exact (i _ l _ j (.inr (e2 (by simp;lia) (by simp)))).symm
  have p:∀h∈Xh++[(n.1+v.1,n.2+v.2)],o h=o n:=λh b=>by
   rcases ee.mp b with c|c
   ·exact fg h c n m
   ·rw[cK.mp c];exact t.symm
  rw[p g f,p e a]
theorem Bp(c:Xh.length<100000):hH (bk Xh) [.im (aq m)]=Z (.im .aW,bk<|Xh++[m]):=by
 have:hH (bk Xh) [.im (aq m)]=Z (.im .aW,.lst<|Xh.map aq++[aq m]):=zo (by rw[a9];exact c);rw[this];simp
theorem EH(Xh:List aD):fV [bk Xh]=Z (ax (Xh.length:Int)):=by
 show Z (ax ((Xh.map aq).length:Int))=_;rw[a9]
theorem ru(Xh:List aD):fV [aL Xh]=Z (ax (Xh.length:Int)):=by
 show Z (ax ((Xh.map aq).length:Int))=_;rw[a9]
theorem pI{g:aD}:bl (aq g) (aq e)=aa↔g.1<e.1\/(g.1=e.1/\g.2<e.2):=by
 let⟨h,H⟩:=g;let⟨L,u⟩:=e;show (if V.beq (.int h) (.int L)=aa then (if V.beq (.int H) (.int u)=aa then au else decide (H<u)) else decide (h<L))=aa↔_;have d:∀a r:Int,V.beq (.int a) (.int r)=decide (a=r):=λa r=>by
  show (a==r)=_;by_cases c:a=r<;>simp[c]
 rw[d,d];by_cases z:h=L<;>by_cases E:H=u<;>simp[z,E]
def fJ(t:List aD):Prop:=(t.map aq).Pairwise (λg e=>bl g e=aa)
theorem AQ{Xb:List aD}(ag:Xb.Nodup)(c:Xb.length<=1000):∃G:List aD,G.Perm Xb/\i2 (Xb.map aq)=Z (bk G)/\fJ G:=by
 have a:=rX ag c;let⟨@G,XP,b⟩:=Hu (i7<|Xb.map aq);refine⟨G,XP,?_,?_⟩
 ·unfold i2;rw[aA (o2.mpr a),b]
 ·unfold fJ;rw[<-b];exact pq a.1.3 a.1.2
theorem Te{Xb:List aD}(o:G.Perm Xb)(s:fJ G)(b:Xb.length<=1000)(ag:Xb.Nodup):i2 (Xb.map aq)=Z (bk G):=by
 have a:=rX ag b;unfold i2;rw[aA (o2.mpr a),<-zg a.1 (o.map aq) s]
theorem vR:∀{h:List V},(∀v∈h,∃s,v=.tup s)->ha [.lst h]=i2 h
 |[],_=>rfl
 |v::h,c=>by
  let⟨@s,rfl⟩:=c v (.head _);rfl
theorem zV{Xb:List aD}(b:y[a]?=Z (Z<|bk Xb))(c:i2 (Xb.map aq)=Z (bk G)):b9 ha (ao (ai a) aF) y=Z (bk G,y):=by
 have d:ha [bk Xb]=Z (bk G):=by
  rw[vR,c];intro v hd;let⟨@n,W,rfl⟩:=cN.mp hd;exact⟨_,rfl⟩
 simp -implicitDefEqProofs only[b9,ao,ai,vz,b,sv,wi,wU,ug,F3,sq,d]
theorem ng{h:List V}(c:I y=Z (.lst h,Xl)):b9 hW (ao (ae I) aF) y=Z (.im<|.tup h,Xl):=by
 simp -implicitDefEqProofs only[b9,ao,ae,vz,c,sv,wi,wU,ug,GA,hW,fU]
def bP(d:bR):V:=.tup (iU d)
abbrev cz(S:List bR):aj:=.lst (S.map bP)
def tq:V->bR
 |.tup [g,e]=>(nj g,nj e)
 |_=>((0,0),(0,0))
theorem vk(d:bR):tq (bP d)=d:=rfl
theorem Pd{g e:bR}(c:bP g=bP e):g=e:=by rw[<-vk g,c,vk]
theorem JZ:∀(t:List V) (Xb:List bR),(∀h∈t,h∈Xb.map bP)->t=(t.map tq).map bP
 |[],_,_=>rfl
 |h::t,Xb,c=>by
  let⟨@o,W,d⟩:=cN.mp (c h<|.head _);rw[cw,cw,<-JZ t Xb λH a=>c H<|.tail _ a,<-d,vk]
theorem FY{t:List V}(c:t.Perm (Xb.map bP)):∃G:List bR,G.Perm Xb/\t=G.map bP:=by
 refine⟨t.map tq,?_,JZ t Xb λh a=>c.mem_iff.mp a⟩;have:=vt tq c;rw[eD]at this;have d:(tq ∘ bP:bR->bR)=id:=funext vk;rw[d,xP]at this;exact this
theorem yn(ag:Xb.Nodup)(a:Xb.length<=1000):j1 (Xb.map bP):=by
 refine⟨⟨by rw[a9];exact a,λg b e c=>?_,?_⟩,.inr λv hd=>?_⟩
 ·let⟨@h,W,rfl⟩:=cN.mp b;let⟨@H,W,rfl⟩:=cN.mp c;rfl
 ·exact Dw bP (λg e w d=>w<|Pd d) ag
 ·let⟨@h,W,rfl⟩:=cN.mp hd;rfl
theorem V8(ag:Xb.Nodup)(d:Xb.length<=1000)(f:y[a]?=Z (Z<|cz Xb)):∃G:List bR,G.Perm Xb/\b9 ha (ao (ai a) aF) y=Z (cz G,y)/\(G.map bP).Pairwise (λg e=>bl g e=aa):=by
 have b:=yn ag d;let⟨@G,XP,c⟩:=FY (i7<|Xb.map bP);refine⟨G,XP,?_,by rw[<-c];exact pq b.1.3 b.1.2⟩;have h:ha [cz Xb]=Z (cz G):=by
  rw[vR]
  ·unfold i2;rw[aA (o2.mpr b),c]
  ·intro v hd;let⟨@n,W,rfl⟩:=cN.mp hd;exact⟨_,rfl⟩
 simp -implicitDefEqProofs only[b9,ao,ai,vz,f,sv,wi,wU,ug,F3,sq,h]
theorem Q8(ag:Xb.Nodup)(b:Xb.length<=1000)(c:y[a]?=Z (Z<|cz Xb)):∃G:List bR,G.Perm Xb/\b9 ha (ao (ai a) aF) y=Z (cz G,y):=by
 let⟨@G,z,E,W⟩:=V8 ag b c;exact⟨G,z,E⟩
noncomputable def j2(Xh:List aD)(e:aD):List bR:=([(e.1,e.2+2),(e.1+2,e.2)].filter λm=>decide (m∈Xh)).map λm=>(e,m)
def j8(Xh:List aD):List bR:=Xh.flatMap (j2 Xh)
theorem HK{d:bR}:d∈j8 Xh↔iq Xh d:=by
 unfold j8 j2 iq;simp only[sT,cN,wb,bO,fO,eY,t_];constructor
 ·rintro⟨e,a,m,⟨b,E⟩,rfl⟩;exact⟨a,E,b⟩
 ·rintro⟨z,E,c⟩;exact⟨d.1,z,d.2,⟨c,E⟩,rfl⟩
theorem EG(Xh:List aD)(e:aD):(j2 Xh e).length<=2:=by
 unfold j2;rw[a9];exact List.length_filter_le _ _
theorem JG(Xh:List aD):∀t:List aD,(t.flatMap<|j2 Xh).length<=2*t.length
 |[]=>ba _
 |e::t=>by
  rw[ip,c7,c3];have:=JG Xh t;have:=EG Xh e;lia
theorem LG(ag:Xh.Nodup):(j8 Xh).Nodup:=by
 refine vB ag (λe W=>?_) λg W e W h z E=>?_
 ·unfold j2;refine ob (MU _ ?_) λg W e W d=>by injection d
  simp;lia
 ·unfold j2 at z E;let⟨@m,W,rfl⟩:=cN.mp z;let⟨@R,W,d⟩:=cN.mp E;injection d with a b;exact a.symm
def dc(Xh:List aD)(o:aD->aD):List (List V×V):=Xh.map λe=>(cB e,aq<|o e)
theorem DA:∀(t a:List (List V×V)),((a++t).map (·.1)).Nodup->t.foldl (λg o=>hE g o.1 o.2) a=a++t
 |[],a,_=>by simp
 |o::t,a,ag=>by
  have c:¬ (a.any λb=>decide (b.1=o.1))=aa:=λC=>by
   let⟨@p,e,d⟩:=ny.mp C;have d:=fD d;rw[fQ,dN]at ag;exact ag.2.2 p.1 (so e) o.1 (by simp) d
  rw[lT,show hE a o.1 o.2=a++[o] by unfold hE;rw[aI c],DA t (a++[o]) (by rw[bt];exact ag),bt];rfl
theorem T2(ag:Xh.Nodup)(o:aD->aD):nG (dc Xh o)=dc Xh o:=by
 unfold nG;rw[DA _ [] ?_,jb];unfold dc;rw[jb,eD];exact ob ag λg W e W d=>nE d
theorem Rq(o:aD->aD){n:aD}(c:n∈Xh):fB (dc Xh o) (cB n)=Z (aq<|o n):=by
 induction Xh with
 |nil=>cases c
 |cons e Xh a=>
  unfold fB dc;rw[cw,jn];by_cases d:e=n
  ·subst d;simp
  ·rw[show decide (((cB e,aq<|o e):List V×V).1=cB n)=au from d3 λC=>d<|nE C];exact a ((bO.mp c).resolve_left λC=>d C.symm)
theorem Lp(Xh:List aD)(o:aD->aD):pJ (Xh.map λe=>.tup [aq e,aq<|o e])=Z (dc Xh o):=by
 unfold dc;induction Xh with
 |nil=>rfl
 |cons n s a=>
  rw[cw,zU,pJ,a];rfl
theorem RL(Xh:List aD)(o:aD->aD):((dc Xh o).all λp=>V.keys 7 p.1)=aa:=by
 unfold dc;rw[Am,jT];intro n W;rfl
theorem Wj(ag:Xh.Nodup)(a:Xh.length<=1000)(c:I y=Z (.lst<|Xh.map λe=>.tup [aq e,aq<|o e],Xl)):b9 rQ (ao (ae I) aF) y=Z (.a_<|dc Xh o,Xl):=by
 have t:(dc Xh o).length<=1000:=by unfold dc;rw[a9];exact a
 have m:=RL Xh o;have F:=T2 ag o;have s:=Lp Xh o;simp -implicitDefEqProofs only[b9,ao,ae,c,vz,sv,wi,wU,GA,ug,rQ,s,m,t,F,and_self,ie]
inductive k_ (Xh:List aD):List bR->(aD->aD)->Prop where
 |nil:k_ Xh [] λe=>e
 |add {J:List bR}{o:aD->aD}{d:bR}:k_ Xh J o->iq Xh d->o d.1≠o d.2->k_ Xh (J++[d]) λe=>if o e=o d.1 then o d.2 else o e
theorem k_.zq(q:k_ Xh J o):∀d∈J,iq Xh d:=by
 induction q with
 |nil=>intro d c;cases c
 |add q z E a=>
  intro d c;rcases ee.mp c with c|c
  ·exact a d c
  ·rw[cK.mp c];exact z
structure kF(Xh:List aD)(O J:List bR)(o:aD->aD):Prop where
 iV:k_ Xh J o
 ag:(J++O).Nodup
 len:J.length+O.length<=80
 nP:∀d∈O,iq Xh d
 xM:∀d,iq Xh d->d∈O\/o d.1=o d.2
theorem kF.drop(Xd:kF Xh O J o){r:Nat}{d:bR}(e:O[r]?=Z d)(f:o d.1=o d.2):kF Xh (O.eraseIdx r) J o:=by
 let⟨@g,i⟩:=ek.mp e;refine⟨Xd.iV,Xd.ag.sublist<|MM (List.eraseIdx_sublist _ _) _,?_,λh b=>Xd.nP h<|J3 b,λh b=>?_⟩
 ·have:=Xd.len;rw[uZ,aA g];lia
 ·rcases Xd.xM h b with c|c
  ·by_cases C:h=d
   ·rw[C];exact .inr f
   ·left;rw[List.mem_eraseIdx_iff_getElem?];let⟨@a,U⟩:=List.mem_iff_getElem?.mp c;exact⟨a,λp=>C (by rw[p,e]at U;exact (Option.some.inj U).symm),U⟩
  ·exact .inr c
theorem oJ{Xx:Type}:∀{t:List Xx}{r:Nat} (c:r<t.length),(t[r]::t.eraseIdx r).Perm t
 |g::t,0,_=>List.Perm.refl _
 |g::t,r+1,c=>(List.Perm.swap _ _ _).trans (.cons g<|oJ<|yM c)
theorem kF.take(Xd:kF Xh O J o){r:Nat}{d:bR}(b:O[r]?=Z d)(i:o d.1≠o d.2):kF Xh (O.eraseIdx r) (J++[d]) (λe=>if o e=o d.1 then o d.2 else o e):=by
 let⟨@f,j⟩:=ek.mp b;have g:(d::O.eraseIdx r).Perm O:=by
  rw[<-j];exact oJ f
 refine⟨.add Xd.iV (Xd.nP d<|fH b) i,?_,?_,λh a=>Xd.nP h<|J3 a,λh a=>?_⟩
 ·rw[bt];exact (d5 J g).nodup_iff.mpr Xd.ag
 ·have:=Xd.len;rw[uZ,aA f,c7,nX];omega
 ·by_cases C:h=d
  ·right;subst C;show (if o h.1=o h.1 then _ else _)=(if o h.2=o h.1 then _ else _);rw[aA rfl];split<;>rfl
  ·rcases Xd.xM h a with c|c
   ·left;rcases bO.mp (g.mem_iff.mpr c) with c|c
    ·exact absurd c C
    ·exact c
   ·right;show (if o h.1=o d.1 then _ else _)=(if o h.2=o d.1 then _ else _);rw[c]
theorem NI(g e:aD):ih (.im<|aq g) (.im<|aq e)=Z (.im<|.aG<|!decide (g=e)):=by
 have c:=mn g e;show (if V.bo 8 (aq g)=aa then Z (aj.im<|.aG<|!cy (aq g) (aq e)) else Y)=_;rw[aA (r0 g),c]
theorem Qh(g e:aD):ke (.im<|aq g) (.im<|aq e)=Z (.im<|.aG<|decide (g=e)):=by
 have c:=mn g e;show (if V.bo 8 (aq g)=aa then Z (aj.im<|.aG<|cy (aq g)<|aq e) else Y)=_;rw[aA (r0 g),c]
theorem yF(o:aD->aD){n:aD}(c:n∈Xh):bE (.a_<|dc Xh o) (.im<|aq n)=Z (.im<|aq<|o n):=by
 have I:=Rq o c;show (if V.keys 7 (cB n)=aa then (fB (dc Xh o)<|cB n).map aj.im else Y)=_;rw[aA (By n),I];rfl
theorem Pg(Xh:List bR):fV [cz Xh]=Z (ax (Xh.length:Int)):=by
 show Z (ax ((Xh.map bP).length:Int))=_;rw[a9]
def p0(Xb:di)(a r j XY b c:Int):Prop:=∃g h H,vQ Xb.cR Xb.fR [.int a,.int r]=Z g/\kr Xb.kt g 0=Z (.fn h)/\kr Xb.kt g 1=Z (.fn H)/\kr Xb.kt h 0=Z (.int j)/\kr Xb.kt h 1=Z (.int XY)/\kr Xb.kt H 0=Z (.int b)/\kr Xb.kt H 1=Z (.int c)
structure qm(Xb:di):Prop where
 jD:p0 Xb 0 0 (-1) 0 0 1
 dw:p0 Xb 0 1 0 1 1 0
 da:p0 Xb 1 1 1 0 0 (-1)
 d9:p0 Xb 1 0 0 (-1) (-1) 0
theorem AG{Xb:di}{h:af}{k:Int}(a:kr Xb.kt h 0=Z (.int j))(z:kr Xb.kt h 1=Z (.int XY))(f:0<=k)(cf:k<10):lU Xb [.im (aq n),.im<|.fn h,ax k]=Z (.im<|aq (n.1+j*k,n.2+XY*k),[.im (aq n),.im<|.fn h,ax k]):=by
 have b:h4 j k=aa:=n9 ⋯ ⋯;have XF:h4 XY k=aa:=n9 ⋯ ⋯;have c:ea Xb.kt Xb.cR (.im<|aq n) (ax 0)=Z (ax n.1):=rfl;have d:ea Xb.kt Xb.cR (.im<|aq n) (ax 1)=Z (ax n.2):=rfl;have Yh:ea Xb.kt Xb.cR (.im<|.fn h) (ax 0)=Z (ax j):=congrArg (Option.map aj.im) a;have e:ea Xb.kt Xb.cR (.im<|.fn h) (ax 1)=Z (ax XY):=congrArg (Option.map aj.im) z;unfold lU JV;exact p8 [Z (.im<|aq n),Z<|.im<|.fn h,Z<|ax k] rfl (eB<|xI (bK (a7<|a5 (a7<|a5 rfl rfl rfl rfl c) (a7<|a5 (a7<|a5 rfl rfl rfl rfl Yh) rfl rfl rfl<|hu b) rfl rfl rfl)<|bK (a7<|a5 (a7<|a5 rfl rfl rfl rfl d) (a7<|a5 (a7<|a5 rfl rfl rfl rfl e) rfl rfl rfl<|hu XF) rfl rfl rfl) rfl) rfl (ft rfl) rfl) rfl
theorem Mu(c:aN[0]?=Z m):s6 [aL aN,.im<|aq n]=Z (.im<|aq<|aG m n,[aL aN,.im<|aq n]):=by
 have i:dV (aN.map aq) 0=Z (aq m):=Im (by decide) (by simpa using c);have a:bE (.im<|aq n) (ax 0)=Z (ax n.1):=rfl;have b:bE (.im<|aq n) (ax 1)=Z (ax n.2):=rfl;have d:bE (.im<|aq m) (ax 0)=Z (ax m.1):=rfl;have aQ:bE (.im<|aq m) (ax 1)=Z (ax m.2):=rfl;have XM:bE (aL aN) (ax 0)=Z (.im<|aq m):=by
  show (dV (aN.map aq) 0).map aj.im=_;rw[i];rfl
 unfold s6 G1;exact p8 [Z (aL aN),Z<|.im<|aq n] rfl (eB (xI (bK (a7 (a5 (a7<|a5 rfl rfl rfl rfl a) (a7 (a5 (a7<|a5 (a7<|a5 rfl rfl rfl rfl a) (a7<|a5 (a7<|a5 rfl rfl rfl rfl XM) rfl rfl rfl d) rfl rfl rfl) rfl rfl rfl (kK (by decide)))) rfl rfl rfl)) (bK (a7 (a5 (a7<|a5 rfl rfl rfl rfl b) (a7 (a5 (a7<|a5 (a7<|a5 rfl rfl rfl rfl b) (a7<|a5 (a7<|a5 rfl rfl rfl rfl XM) rfl rfl rfl aQ) rfl rfl rfl) rfl rfl rfl (kK (by decide)))) rfl rfl rfl)) rfl)) rfl (ft rfl) rfl)) rfl
theorem GH(d:bR):V.bo 8 (bP d)=aa:=rfl
theorem A1:∀Xo:List bR,V.c2 8 (Xo.map bP)=aa
 |[]=>rfl
 |o::s=>by rw[cw,V.c2,GH,A1 s];rfl
theorem Ez(g e:bR):cy (bP g) (bP e)=decide (g=e):=by
 show (cy (aq g.1) (aq e.1)&&(cy (aq g.2) (aq e.2)&&aa))=_;rw[mn,mn];let⟨a,Yb⟩:=g;let⟨aQ,aR⟩:=e;by_cases z:a=aQ<;>by_cases E:Yb=aR<;>simp[z,E]
theorem ML(Xo:List bR)(d:bR):iP (bP d) (.im<|.tup<|Xo.map bP)=Z (decide (d∈Xo)):=by
 rw[N0,GH,A1,Bh];show (if (aa&&aa)=aa then _ else _)=_;rw[aA (show (aa&&aa)=aa from rfl)];congr 1;rw[lD,ny,gE];constructor
 ·rintro⟨h,a,c⟩;have:decide (h=d)=aa:=by rw[<-Ez];exact c
  rw[<-fD this];exact a
 ·intro c;refine⟨d,c,?_⟩;show cy (bP d) (bP d)=aa;rw[Ez];exact dU rfl
def oI(T:List bR):Prop:=∀d∈T,d.1.1<d.2.1\/(d.1.1=d.2.1/\d.1.2<d.2.2)
theorem oI.of(c:∀d∈T,iq Xh d):oI T:=λd a=>by
 have:=(c d a).2.2;rcases this with c|c
 ·rw[c];exact .inr ⟨rfl,by show d.1.2<d.1.2+2;lia⟩
 ·rw[c];exact .inl (by show d.1.1<d.1.1+2;lia)
theorem Sb(a:oI T)(g e:aD):decide (ji g e∈T)=fh T g e:=by
 unfold fh;rw[lD,gE,gE];by_cases z:bl (aq g) (aq e)=aa
 ·have b:=pI.mp z;have E:¬ bl (aq e) (aq g)=aa:=λC=>by have:=pI.mp C;lia
  have d:ji g e=(g,e):=by unfold ji;rw[aA z,aI E]
  rw[d];constructor
  ·exact .inl
  ·rintro (c|c)
   ·exact c
   ·have:=a _ c;simp only at this;lia
 ·by_cases E:bl (aq e) (aq g)=aa
  ·have f:=pI.mp E;have d:ji g e=(e,g):=by unfold ji;rw[aI z,aA E]
   rw[d];constructor
   ·exact .inr
   ·rintro (c|c)
    ·have:=a _ c;simp only at this;lia
    ·exact c
  ·have b:=λC=>z (pI.mpr C);have f:=λC=>E (pI.mpr C);have d:g=e:=e2 ⋯ ⋯;subst d;have d:ji g g=(g,g):=by unfold ji;rw[aI z]
   rw[d];exact⟨.inl,λc=>c.elim id id⟩
theorem SI{Xb:di}{a r c d:Int}(p:p0 Xb a r j XY c d)(q:aN[0]?=Z m)(t:aG m n=e)(z:n.1-e.1=a)(E:n.2-e.2=r)(u:oI T):
  qv Xb [aL aN,.im<|.tup<|T.map bP,.im<|aq n]=Z (.im<|aq<|if fh T e (e.1+j*2,e.2+XY*2)=aa then (n.1+j*1,n.2+XY*1) else (n.1+c*1,n.2+d*1),[aL aN,.im<|.tup<|T.map bP,.im<|aq n]):=by
 let⟨g,h,@H,jD,dw,da,d9,f,w,x⟩:=p;have i:=Mu (n:=n) q;rw[t]at i;have cf:=AG (n:=e) (k:=2) d9 f (by decide) (by decide);have A:=AG (n:=n) (k:=1) d9 f (by decide) (by decide);have B:=AG (n:=n) (k:=1) w x (by decide) (by decide);have D:ea Xb.kt Xb.cR (.im<|aq n) (ax 0)=Z (ax n.1):=rfl;have F:ea Xb.kt Xb.cR (.im<|aq n) (ax 1)=Z (ax n.2):=rfl;have I:ea Xb.kt Xb.cR (.im<|aq e) (ax 0)=Z (ax e.1):=rfl;have aQ:ea Xb.kt Xb.cR (.im<|aq e) (ax 1)=Z (ax e.2):=rfl;have a6:ea Xb.kt Xb.cR (.im<|.fn Xb.fR) (.im<|.tup [.int a,.int r])=Z (.im<|.fn g):=by
  show (if V.keys 7 [.int a,.int r]=aa then (vQ Xb.cR Xb.fR [.int a,.int r]).map λv=>aj.im (.fn v) else Y)=_;rw[aA (show V.keys 7 [.int a,.int r]=aa from rfl),jD];rfl
 have l:ea Xb.kt Xb.cR (.im<|.fn g) (ax 0)=Z (.im<|.fn h):=by
  show (kr Xb.kt g 0).map aj.im=_;rw[dw];rfl
 have J:ea Xb.kt Xb.cR (.im<|.fn g) (ax 1)=Z (.im<|.fn H):=by
  show (kr Xb.kt g 1).map aj.im=_;rw[da];rfl
 have le:=S1 e (e.1+j*2,e.2+XY*2);have o:=ML T (ji e (e.1+j*2,e.2+XY*2));rw[Sb u]at o;have L:nU (.im<|.tup<|iU<|ji e (e.1+j*2,e.2+XY*2)) (.im<|.tup<|T.map bP)=Z (.im<|.aG<|fh T e (e.1+j*2,e.2+XY*2)):=by
  show (iP (bP<|ji e (e.1+j*2,e.2+XY*2))<|.im<|.tup<|T.map bP).map (λs=>aj.im<|.aG s)=_;rw[o];rfl
 unfold qv Ip;obtain⟨y,b⟩:∃y:a4,y=[Z (aL aN),Z<|.im<|.tup<|T.map bP,Z<|.im<|aq n,Z<|.im<|aq e,Z<|.im<|.fn g]:=⟨_,rfl⟩;have M:b_ 3 (b2 2 G.s6<|ao (ai 0)<|ao (ai 2) aF) [Z (aL aN),Z<|.im<|.tup<|T.map bP,Z<|.im<|aq n,Y,Y]=Z (.aS,[Z (aL aN),Z<|.im<|.tup<|T.map bP,Z<|.im<|aq n,Z<|.im<|aq e,Y]):=by
  exact iJ (rK rfl rfl rfl i) (show 3<5 by decide) rfl
 have N:b_ 4 (ay (ea Xb.kt Xb.cR) (ae<|aC<|.fn Xb.fR)<|ae<|d6<|ao (ae<|ay hk (ae<|ay (ea Xb.kt Xb.cR) (ai 2)<|ae<|aC<|.int 0)<|ae<|ay (ea Xb.kt Xb.cR) (ai 3)<|ae<|aC<|.int 0)<|ao (ae<|ay hk (ae<|ay (ea Xb.kt Xb.cR) (ai 2)<|ae<|aC<|.int 1)<|ae<|ay (ea Xb.kt Xb.cR) (ai 3)<|ae<|aC<|.int 1) aF) [Z (aL aN),Z<|.im<|.tup<|T.map bP,Z<|.im<|aq n,Z<|.im<|aq e,Y]=Z (.aS,y):=by
  rw[b];subst z;subst E;exact f5 (a5 rfl (a7<|xI (bK (a7<|a5 (a7<|a5 rfl rfl rfl rfl D) (a7<|a5 rfl rfl rfl rfl I) rfl rfl rfl)<|bK (a7<|a5 (a7<|a5 rfl rfl rfl rfl F) (a7<|a5 rfl rfl rfl rfl aQ) rfl rfl rfl) rfl) rfl (ft rfl) rfl) rfl rfl a6) (show 4<5 by decide) rfl
 have XF:cg (ay nU (ae<|b2 2 G.sF<|ao (ai 3)<|ao (ae<|b2 3 (G.lU Xb)<|ao (ai 3)<|ao (ae<|ay (ea Xb.kt Xb.cR) (ai 4)<|ae<|aC<|.int 0)<|ao (ae<|aC<|.int 2) aF) aF)<|ai 1) y=Z (fh T e (e.1+j*2,e.2+XY*2),y):=by
  rw[b];exact zt (ix (dE<|rK (c6 rfl<|c6 (dE<|rK (c6 rfl<|c6 (dE<|ix rfl rfl rfl rfl l) rfl) rfl rfl cf) rfl) rfl rfl le) rfl rfl rfl L)
 have O:cV (b2 3 (G.lU Xb)<|ao (ai 2)<|ao (ae<|ay (ea Xb.kt Xb.cR) (ai 4)<|ae<|aC<|.int 0)<|ao (ae<|aC<|.int 1) aF) y=Z (.dT<|.im<|aq (n.1+j*1,n.2+XY*1),y):=by
  rw[b];exact eB (dq (bK rfl<|bK (a7<|a5 rfl rfl rfl rfl l) rfl) rfl rfl A rfl)
 have P:cV (b2 3 (G.lU Xb)<|ao (ai 2)<|ao (ae<|ay (ea Xb.kt Xb.cR) (ai 4)<|ae<|aC<|.int 1)<|ao (ae<|aC<|.int 1) aF) y=Z (.dT<|.im<|aq (n.1+c*1,n.2+d*1),y):=by
  rw[b];exact eB (dq (bK rfl<|bK (a7<|a5 rfl rfl rfl rfl J) rfl) rfl rfl B rfl)
 refine p8 y rfl ((nx M).trans<|(nx N).trans ?_) (by rw[b];rfl);by_cases C:fh T e (e.1+j*2,e.2+XY*2)=aa
 ·rw[aA C];rw[C]at XF;exact oO ((zR XF).trans O)
 ·rw[aI C];rw[Bool.not_eq_true]at C;rw[C]at XF;exact (nx<|AD XF).trans P
noncomputable def X(e:aD):Nat->aD
 |0=>(e.1-1,e.2)
 |1=>(e.1,e.2+1)
 |2=>(e.1+1,e.2)
 |_=>(e.1,e.2-1)
theorem L0(T:List bR)(e:aD){q:Nat}(a:q<4):hs (aS T (e,q))=if fh T e (e3 e q)=aa then X (ct e q) q else ct e ((q+1)%4):=by
 unfold aS;dsimp only;split
 ·match q,a with
  |0,_=>simp[hs,ct,e3,X];lia
  |1,_=>simp[hs,ct,e3,X];lia
  |2,_=>simp[hs,ct,e3,X];lia
  |3,_=>simp[hs,ct,e3,X];lia
 ·rfl
theorem SH{Xb:di}(c:qm Xb){Xh aN:List aD}{T:List bR}{e m:aD}{q:Nat}(X6:jo Xh)(h:aN[0]?=Z m)(i:m∈Xh)(k:e∈Xh)(f:q<4)(n:oI T):
  qv Xb [aL aN,.im<|.tup<|T.map bP,.im<|aq<|ct e q]=Z (.im<|aq<|hs<|aS T (e,q),[aL aN,.im<|.tup<|T.map bP,.im<|aq<|ct e q]):=by
 have g:=X6.par e k m i;have o:=(L4 g.1 g.2 f).1;rw[L0 T e f];have d:∀{j XY a b:Int},p0 Xb ((ct e q).1-e.1) ((ct e q).2-e.2) j XY a b->(e.1+j*2,e.2+XY*2)=e3 e q->((ct e q).1+j*1,(ct e q).2+XY*1)=X (ct e q) q->((ct e q).1+a*1,(ct e q).2+b*1)=ct e ((q+1)%4)->
   qv Xb [aL aN,.im<|.tup<|T.map bP,.im<|aq<|ct e q]=Z (.im<|aq<|if fh T e (e3 e q)=aa then X (ct e q) q else ct e ((q+1)%4),[aL aN,.im<|.tup<|T.map bP,.im<|aq<|ct e q]):=λl p r s=>by
  rw[SI l h o rfl rfl n,p,r,s]
 match q,f with
 |0,_=>
  refine d (j := -1) (XY:=0) (a:=0) (b:=1) ?_ (e2 ?_ ?_) (e2 ?_ ?_) (e2 ?_ ?_)
  ·rw[show (ct e 0).1-e.1=0 by simp[ct],show (ct e 0).2-e.2=0 by simp[ct]];exact c.jD
  all_goals (simp[ct,e3,X];try lia)
 |1,_=>
  refine d (j:=0) (XY:=1) (a:=1) (b:=0) ?_ (e2 ?_ ?_) (e2 ?_ ?_) (e2 ?_ ?_)
  ·rw[show (ct e 1).1-e.1=0 by simp[ct],show (ct e 1).2-e.2=1 by simp[ct];lia];exact c.dw
  all_goals (simp[ct,e3,X])
 |2,_=>
  refine d (j:=1) (XY:=0) (a:=0) (b := -1) ?_ (e2 ?_ ?_) (e2 ?_ ?_) (e2 ?_ ?_)
  ·rw[show (ct e 2).1-e.1=1 by simp[ct];lia,show (ct e 2).2-e.2=1 by simp[ct];lia];exact c.da
  all_goals (simp[ct,e3,X];try lia)
 |3,_=>
  refine d (j:=0) (XY := -1) (a := -1) (b:=0) ?_ (e2 ?_ ?_) (e2 ?_ ?_) (e2 ?_ ?_)
  ·rw[show (ct e 3).1-e.1=1 by simp[ct];lia,show (ct e 3).2-e.2=0 by simp[ct]];exact c.d9
  all_goals (simp[ct,e3,X];try lia)
theorem QF(X6:jo Xh)(XP:aN.Perm (cells Xh))(O:fJ aN):∃m,aN[0]?=Z m/\m∈Xh:=by
 cases aN with
 |nil=>
  have z:=XP.length_eq;rw[sD]at z;have:=jk.mpr X6.ne;simp at z;lia
 |cons m s=>
  refine⟨m,rfl,?_⟩;let⟨@e,a,⟨@q,b,d⟩⟩:=Kv.mp (XP.mem_iff.mp<|.head _);have c:e∈m::s:=XP.mem_iff.mpr (Kv.mpr ⟨e,a,0,by decide,rfl⟩);by_cases C:e=m
  ·rw[<-C];exact a
  ·have f:e∈s:=(bO.mp c).resolve_left C;unfold fJ at O;rw[cw,gB]at O;have lt:=pI.mp (O.1 _<|so f);have F:=C9.mp (JB e b);rw[<-d]at F;lia
theorem Ky:ih (bk aN) (bk aN)=Z (.im<|.aG au):=by
 have a:=oa aN;have b:fC (aN.map aq) (aN.map aq)=aa:=by
  induction aN with
  |nil=>rfl
  |cons g s c=>
   show (cy (aq g) (aq g)&&fC (s.map aq) (s.map aq))=aa;rw[mn,c<|oa s];simp
 simp only[ih,a,b];rfl
theorem LH(XA:List Int):fV [.dn (XA.map .int)]=Z (ax (XA.length:Int)):=by
 show Z (ax ((XA.map V.int).length:Int))=_;rw[a9]
end G
namespace G
section
variable{Xx:Type}[DecidableEq Xx]
theorem AH:∀{t k:List Xx},t.Nodup->(∀h∈t,h∈k)->t.length<=k.length
 |[],k,_,_=>gC _
 |h::t,k,ag,f=>by
  have b:=f h (.head _);let@⟨c,Yq⟩:=g5.mp ag;have o:=BI b;have:=AH Yq (k:=k.erase h) λH a=>(v_ (λd=>c (by rw[<-d];exact a))).mpr (f H<|.tail _ a);have p:=o.length_eq;rw[c3]at p ⊢;lia
noncomputable def cY(F:Xx->Xx)(f:Xx):Nat->Xx
 |0=>f
 |w+1=>F (cY F f w)
theorem Ae(F:Xx->Xx)(f:Xx)(k:Nat):∀w,cY F f (k+w)=cY F (cY F f k) w
 |0=>rfl
 |w+1=>congrArg F (Ae F f k w)
structure j3(F:Xx->Xx)(b:List Xx):Prop where
 mG:∀h∈b,F h∈b
 inj:∀h∈b,∀H∈b,F h=F H->h=H
variable{F I:Xx->Xx}{b:List Xx}
theorem j3.cY(Xs:j3 F b){h:Xx}(c:h∈b):∀w,cY F h w∈b
 |0=>c
 |w+1=>Xs.mG _ (Xs.cY c w)
theorem j3.back(Xs:j3 F b){h:Xx}(c:h∈b):∀{a v:Nat},G.cY F h (a+v)=G.cY F h a->G.cY F h v=h
 |0,v,d=>by rw[D6]at d;exact d
 |a+1,v,d=>by
  rw[show a+1+v=(a+v)+1 by lia]at d;exact Xs.back c (Xs.inj _ (Xs.cY c _) _ (Xs.cY c _) d)
theorem BK(Xs:j3 F b){h:Xx}(c:h∈b)(XW:Nat):(∃v,0<v/\v<XW/\G.cY F h v=h)\/((range XW).map<|G.cY F h).Nodup:=by
 by_cases C:∃v,0<v/\v<XW/\G.cY F h v=h
 ·exact .inl C
 ·right;refine ob rC λa U r e d=>?_;have U:=eJ.mp U;have e:=eJ.mp e;rcases rO a r with t|t|t
  ·exfalso;refine C ⟨r-a,⋯,⋯,Xs.back c (a:=a) ?_⟩;rw[show a+(r-a)=r by lia];exact d.symm
  ·exact t
  ·exfalso;refine C ⟨a-r,⋯,⋯,Xs.back c (a:=r) ?_⟩;rw[show r+(a-r)=a by lia];exact d
theorem HQ(Xs:j3 F b){h:Xx}(c:h∈b):∃w,G.cY F h (w+1)=h:=by
 rcases BK Xs c (b.length+1) with ⟨v,z,E,d⟩|ag
 ·exact⟨v-1,by rw[show v-1+1=v by lia];exact d⟩
 ·have:=AH ag (k:=b) λH e=>by
   let⟨@a,W,rfl⟩:=cN.mp e;exact Xs.cY c a
  rw[a9,gU]at this;lia
inductive dX (F:Xx->Xx) (b:List Xx):Xx->Xx->Prop where
 | step {h:Xx}:h∈b->dX F b h (F h)
 | refl {h:Xx}:dX F b h h
 | symm {h H:Xx}:dX F b h H->dX F b H h
 | trans {h H C:Xx}:dX F b h H->dX F b H C->dX F b h C
theorem dX.UE(Xs:j3 F b){m:Xx}(f:m∈b){g e:Xx}(c:dX F b g e):(∃w,G.cY F m w=g)↔∃w,G.cY F m w=e:=by
 induction c with
 |@step h i=>
  constructor
  ·rintro⟨w,d⟩;exact⟨w+1,congrArg F d⟩
  ·rintro⟨w,d⟩;cases w with
   |succ q=>exact⟨q,Xs.inj _ (Xs.cY f q) _ i d⟩
   |zero=>
    let⟨@k,j⟩:=HQ Xs f;exact⟨k,Xs.inj _ (Xs.cY f k) _ i<|j.trans d⟩
 |refl=>exact Iff.rfl
 |symm _ l=>exact l.symm
 |trans _ _ a r=>exact a.trans r
theorem Ou(Xs:j3 F b){h H:Xx}(i:h∈b)(p:H∈b)(q:I h=F H)(s:I H=F h)(Yx:∀n∈b,n≠h->n≠H->I n=F n)(t:∀w,G.cY F h w≠H):
  (∀g e,dX F b g e->dX I b g e)/\dX I b h H:=by
 have u:∀w,dX I b (F h) (G.cY F h<|w+1)\/dX I b (F h) h:=λw=>by
  induction w with
  |zero=>exact .inl .refl
  |succ w j=>
   rcases j with c|c
   ·by_cases C:G.cY F h (w+1)=h
    ·rw[C]at c;exact .inr c
    ·left;have f:dX I b (G.cY F h<|w+1) (I<|G.cY F h<|w+1):=.step (Xs.cY i _);rw[Yx _ (Xs.cY i _) C (t _)]at f;exact c.trans f
   ·exact .inr c
 have X8:dX I b (F h) h:=by
  let⟨@w,d⟩:=HQ Xs i;rcases u w with c|c
  ·rw[d]at c;exact c
  ·exact c
 have k:dX I b H h:=by
  have f:dX I b H (I H):=.step p;rw[s]at f;exact f.trans X8
 have v:dX I b h (F H):=by
  have f:dX I b h (I h):=.step i;rw[q]at f;exact f
 refine⟨λg e c=>?_,k.symm⟩;induction c with
 |@step n l=>
  by_cases m:n=h
  ·rw[m];exact X8.symm
  ·by_cases o:n=H
   ·rw[o];exact k.trans v
   ·have f:dX I b n (I n):=.step l;rw[Yx n l m o]at f;exact f
 |refl=>exact .refl
 |symm _ j=>exact j.symm
 |trans _ _ a r=>exact a.trans r
theorem PL(Xs:j3 F b)(ag:b.Nodup){m:Xx}(c:m∈b)(all:∀h∈b,dX F b m h):((range b.length).map<|G.cY F m).Perm b/\G.cY F m b.length=m:=by
 have reach:∀h∈b,∃w,G.cY F m w=h:=λh f=>((all h f).UE Xs c).mp ⟨0,rfl⟩;have g:¬ ∃v,0<v/\v<b.length/\G.cY F m v=m:=by
  rintro⟨v,z,E,d⟩;have mul:∀p,G.cY F m (v*p)=m:=λp=>by
   induction p with
   |zero=>rfl
   |succ p i=>rw[Nat.mul_succ,tb,Ae,d,i]
  have:=AH ag (k:=(range v).map (G.cY F m)) λh f=>by
   let⟨@w,rfl⟩:=reach h f;refine cN.mpr ⟨w%v,eJ.mpr<|qO _ z,?_⟩
   conv=>rhs;rw[<-Nat.div_add_mod w v,Ae,mul]
  rw[a9,gU]at this;lia
 have Yq:((range b.length).map<|G.cY F m).Nodup:=(BK Xs c b.length).resolve_left g;have XP:=tN Yq (k:=b) (λH j=>by
  let⟨@a,W,rfl⟩:=cN.mp j;exact Xs.cY c a) (by rw[a9,gU];exact ba _)
 refine⟨XP,?_⟩;let⟨@a,U,d⟩:=cN.mp (XP.mem_iff.mpr<|Xs.cY c b.length);have U:=eJ.mp U;have e:=Xs.back c (a:=a) (v:=b.length-a) (by rw[show a+(b.length-a)=b.length by lia];exact d.symm);by_cases C:a=0
 ·subst C;rw[vw]at e;exact e
 ·exact absurd ⟨b.length-a,⋯,⋯,e⟩ g
end
variable{o:aD->aD}{J T:List bR}{Xh:List aD}
def eX(Xh:List aD):List (aD×Nat):=Xh.flatMap λe=>[(e,0),(e,1),(e,2),(e,3)]
theorem iv{f:aD×Nat}:f∈eX Xh↔f.1∈Xh/\f.2<4:=by
 unfold eX;rw[sT];constructor
 ·rintro⟨e,a,c⟩;simp only[bO,fO,eY]at c;rcases c with c|c|c|c<;>subst c<;>exact⟨a,by simp⟩
 ·rintro⟨z,E⟩;refine⟨f.1,z,?_⟩;let⟨e,q⟩:=f;simp only[bO,fO,eY,AV,true_and];simp only at E;lia
theorem Fl:∀Xh:List aD,(eX Xh).length=4*Xh.length
 |[]=>rfl
 |e::Xh=>by
  have:=Fl Xh;unfold eX at *;rw[ip,c7,this];simp;lia
theorem PF(ag:Xh.Nodup):(eX Xh).Nodup:=vB ag (λe W=>by simp) λg W e W h z E=>by
 simp only[bO,fO,eY]at z E;have a:h.1=g:=by rcases z with c|c|c|c<;>rw[c]
 have b:h.1=e:=by rcases E with c|c|c|c<;>rw[c]
 exact a.symm.trans b
theorem Au(b:∀d∈T,iq Xh d):j3 (aS T) (eX Xh) where
 mG:=λf Xi=>by
  have c:=iv.mp Xi;exact iv.mpr ⟨P_ b c.1 f.2,VX T f⟩
 inj:=λh e H g d=>by
  have z:=(iv.mp e).2;have E:=(iv.mp g).2;have a:=IZ T h.1 z;have XZ:=IZ T H.1 E;rw[show ((h.1,h.2):aD×Nat)=h from rfl]at a;rw[show ((H.1,H.2):aD×Nat)=H from rfl]at XZ;rw[<-a,d,XZ]
theorem IB{e:aD}{q r:Nat}(a:q<4)(b:r<4)(c:e3 e q=e3 e r):q=r:=by
 let⟨h,H⟩:=e
 match q,a,r,b with
 |0,_,0,_=>rfl
 |1,_,1,_=>rfl
 |2,_,2,_=>rfl
 |3,_,3,_=>rfl
 |0,_,1,_|0,_,2,_|0,_,3,_|1,_,0,_|1,_,2,_|1,_,3,_|2,_,0,_|2,_,1,_|2,_,3,_|3,_,0,_|3,_,1,_|3,_,2,_=>
  simp only[e3,AV]at c;lia
theorem Aa(T:List bR)(d:bR)(g e:aD):fh (T++[d]) g e=(fh T g e || decide ((g,e)=d\/(e,g)=d)):=by
 unfold fh;rw[lD,t8,gE,gE,gE,ee,ee,cK,cK];constructor
 ·rintro ((c|c)|(c|c))
  ·exact .inl (.inl c)
  ·exact .inr (.inl c)
  ·exact .inl (.inr c)
  ·exact .inr (.inr c)
 ·rintro ((c|c)|(c|c))
  ·exact .inl (.inl c)
  ·exact .inr (.inl c)
  ·exact .inl (.inr c)
  ·exact .inr (.inr c)
structure Un(Xh:List aD)(J:List bR)(o:aD->aD):Prop where
 ht:∀f∈eX Xh,o (aS J f).1=o f.1
 link:∀g∈eX Xh,∀e∈eX Xh,o g.1=o e.1->dX (aS J) (eX Xh) g e
 nP:∀d∈J,o d.1=o d.2
theorem Mb(q:k_ Xh J o):Un Xh J o:=by
 induction q with
 |nil=>
  have I:∀e q,aS [] (e,q)=(e,(q+1)%4):=λe q=>by
   unfold aS fh;simp
  refine⟨λf W=>by rw[show f=(f.1,f.2) from rfl,I],λg j e s d=>?_,(λ_ c=>by cases c)⟩;have d:g.1=e.1:=d;let⟨h,a⟩:=g;let⟨H,r⟩:=e;have d:h=H:=d;subst d;have k:=(iv.mp j).1;have X:∀q,q<4->dX (aS []) (eX Xh) (h,q) (h,(q+1)%4):=λq m=>by
   have:=dX.step (F:=aS []) (b:=eX Xh) (h:=(h,q)) (iv.mpr ⟨k,m⟩);rw[I]at this;exact this
  have C:∀q,q<4->dX (aS []) (eX Xh) (h,0) (h,q):=λq m=>by
   match q,m with
   |0,_=>exact .refl
   |1,_=>exact X 0 (by decide)
   |2,_=>exact (X 0 (by decide)).trans (X 1 (by decide))
   |3,_=>exact ((X 0 (by decide)).trans (X 1 (by decide))).trans (X 2 (by decide))
  exact (C a (iv.mp j).2).symm.trans (C r (iv.mp s).2)
 |@add J o d q x t i=>
  let⟨aQ,aR⟩:=d;let@⟨z,E,U⟩:=x;have z:aQ∈Xh:=z;have E:aR∈Xh:=E;have t:o aQ≠o aR:=t;obtain⟨XF,XH,L,M,XJ,XR,al,am⟩:∃XF XH,XF<4/\XH<4/\e3 aQ XF=aR/\e3 aR XH=aQ/\(XF+3)%4=(XH+1)%4/\(XH+3)%4=(XF+1)%4:=by
   rcases U with c|c
   ·have c:aR=(aQ.1,aQ.2+2):=c;refine⟨1,3,by decide,by decide,c.symm,?_,by decide,by decide⟩;rw[c];exact e2 rfl (by show aQ.2+2-2=aQ.2;lia)
   ·have c:aR=(aQ.1+2,aQ.2):=c;refine⟨2,0,by decide,by decide,c.symm,?_,by decide,by decide⟩;rw[c];exact e2 (by show aQ.1+2-2=aQ.1;lia) rfl
  have Xs:j3 (aS J) (eX Xh):=Au q.zq;have k:(aQ,XF)∈eX Xh:=iv.mpr ⟨z,L⟩;have y:(aR,XH)∈eX Xh:=iv.mpr ⟨E,M⟩;have N:fh J aQ aR=au:=by
   unfold fh;refine d3 ?_;rintro (c|c)
   ·exact t (i.nP _ c)
   ·exact t (i.nP _ c).symm
  have an:fh J aR aQ=au:=by rw[De];exact N
  have X8:aS J (aQ,XF)=(aQ,(XF+1)%4):=by unfold aS;dsimp only;rw[XJ,N];rfl
  have O:aS J (aR,XH)=(aR,(XH+1)%4):=by unfold aS;dsimp only;rw[XR,an];rfl
  have P:aS (J++[(aQ,aR)]) (aQ,XF)=aS J (aR,XH):=by
   rw[O];unfold aS;dsimp only;rw[XJ,Aa,dU<|.inl rfl,BF,aA rfl,al]
  have Q:aS (J++[(aQ,aR)]) (aR,XH)=aS J (aQ,XF):=by
   rw[X8];unfold aS;dsimp only;rw[XR,Aa,dU<|.inr rfl,BF,aA rfl,am]
  have Yx:∀n∈eX Xh,n≠(aQ,XF)->n≠(aR,XH)->aS (J++[(aQ,aR)]) n=aS J n:=λn ap as Yq=>by
   let⟨e,q⟩:=n;have m:q<4:=(iv.mp ap).2;unfold aS;dsimp only;rw[Aa,d3,Gr];rintro (c|c)
   ·injection c with A B;subst A;exact as (by rw[IB m L (B.trans XJ.symm)])
   ·injection c with A B;subst B;exact Yq (by rw[IB m M (A.trans XR.symm)])
  have ht:∀w,o (cY (aS J) (aQ,XF) w).1=o aQ:=λw=>by
   induction w with
   |zero=>rfl
   |succ w a=>exact (i.ht _<|Xs.cY k w).trans a
  let@⟨u,R⟩:=Ou Xs k y P Q Yx λw d=>t (by rw[<-ht w,d]);have D:(if o aQ=o aQ then o aR else o aQ)=o aR:=aA rfl;have XZ:(if o aR=o aQ then o aR else o aR)=o aR:=by split<;>rfl
  refine⟨λf Xi=>?_,λg j e s p=>?_,λd x=>?_⟩
  ·show (if o (aS (J++[(aQ,aR)]) f).1=o aQ then o aR else o (aS (J++[(aQ,aR)]) f).1)=(if o f.1=o aQ then o aR else o f.1);by_cases S:f=(aQ,XF)
   ·rw[S,P,O];exact XZ.trans D.symm
   ·by_cases T:f=(aR,XH)
    ·rw[T,Q,X8];exact D.trans XZ.symm
    ·rw[Yx f Xi S T,i.ht f Xi]
  ·have p:(if o g.1=o aQ then o aR else o g.1)=(if o e.1=o aQ then o aR else o e.1):=p;by_cases C:o g.1=o e.1
   ·exact u _ _ (i.link g j e s C)
   ·by_cases v:o g.1=o aQ
    ·rw[aA v,aI λl=>C<|v.trans l.symm]at p;exact ((u _ _<|i.link g j _ k v).trans R).trans (u _ _<|i.link _ y e s p)
    ·rw[aI v]at p;by_cases G:o e.1=o aQ
     ·rw[aA G]at p;exact ((u _ _<|i.link g j _ y p).trans R.symm).trans (u _ _<|i.link _ k e s G.symm)
     ·rw[aI G]at p;exact absurd p C
  ·show (if o d.1=o aQ then o aR else o d.1)=(if o d.2=o aQ then o aR else o d.2);rcases ee.mp x with c|c
   ·rw[i.nP d c]
   ·rw[cK.mp c];exact D.trans XZ.symm
theorem OG(c:T.Perm J)(g e:aD):fh T g e=fh J g e:=by
 unfold fh;rw[lD,gE,gE,c.mem_iff,c.mem_iff]
theorem O8(c:T.Perm J):aS T=aS J:=by
 funext f;unfold aS;rw[OG c]
theorem Nv{m:aD}(X6:jo Xh)(XP:T.Perm J)(iV:k_ Xh J o)(h:∀d,iq Xh d->o d.1=o d.2)(a:m∈Xh):
  ((range<|4*Xh.length).map<|cY (aS T) (m,0)).Perm (eX Xh)/\cY (aS T) (m,0) (4*Xh.length)=(m,0):=by
 have A:=Mb iV;have Xs:j3 (aS T) (eX Xh):=Au λd i=>iV.zq d (XP.mem_iff.mp i);rw[O8 XP]at Xs ⊢;have n:=X6.con o λg j e k c=>h (g,e) ⟨j,k,c⟩;have b:(m,0)∈eX Xh:=iv.mpr ⟨a,by simp⟩;have:=PL Xs (PF X6.ag) b λf Xi=>A.link _ b f Xi (n m a f.1 (iv.mp Xi).1);rw[Fl]at this;exact this
theorem Qb:(eX Xh).map hs=cells Xh:=by
 unfold eX cells;induction Xh with
 |nil=>rfl
 |cons e Xh a=>rw[ip,ip,fQ,a];rfl
end G
namespace G
open PySem L2
variable{Xf:aj->a4->Prop}{Xo:List (Int×Int)}{n g H I t b k i:Int}{j B XB f:List Int}{J x:List V}{v c:aj}{s:Option (oj×a4)}{XO Xl y:a4}{e:bA}{XK:fi}{h:V}{a w:Nat}
def CX(Xb:di):az Bool:=(cg<|ay mz (ae<|b9 fV<|ao (ai 2) aF)<|ae<|b9 fV<|ao (ai 0) aF)
def Jf(Xb:di):bA:=(hY<|gm hr 2 hH<|ao (ae<|b2 3 (G.qv Xb)<|ao (ai 0)<|ao (ai 1)<|ao (ae<|ay bE (ai 2)<|ae<|hM<|aC<|.int 1) aF) aF)
def FN(Xb:di):bA:=(bz (b_ 2<|eH<|ao (ae<|ay bE (ai 0)<|ae<|aC<|.int 0) aF)<|bz (kn (G.CX Xb) (G.Jf Xb) 1000000)<|cV<|b9 hW<|ao (ai 2) aF)
def pZ(Xb:di):c9:=dA 2 3 [0,1] (FN Xb)
def d4(T:List bR)(m:aD)(w:Nat):List aD:=(range w).map λa=>hs (cY (aS T) (m,0) a)
theorem HX(T:List bR)(m:aD)(w:Nat):(d4 T m w).length=w:=by unfold d4;rw[a9,gU]
theorem w_(T:List bR)(m:aD)(w:Nat):d4 T m (w+1)=d4 T m w++[hs (cY (aS T) (m,0) w)]:=by
 unfold d4;rw[List.range_succ,fQ];rfl
theorem Nq(T:List bR)(m:aD)(w:Nat):dV ((d4 T m<|w+1).map aq) (-1)=Z (aq<|hs<|cY (aS T) (m,0) w):=by
 refine An ?_;rw[w_];simp
theorem S6{Xb:di}(o:qm Xb){Xh aN:List aD}{T:List bR}{m:aD}(X6:jo Xh)(f:aN[0]?=Z m)(g:m∈Xh)(p:oI T)(q:∀d∈T,iq Xh d)(r:aN.length=4*Xh.length):
  pZ Xb [aL aN,.im<|.tup<|T.map bP]=Z (aL<|d4 T m<|4*Xh.length,[aL aN,.im<|.tup<|T.map bP]):=by
 have aG:=X6.len;have B:=jk.mpr X6.ne;have Xs:=Au q;have s:(m,0)∈eX Xh:=iv.mpr ⟨g,by simp⟩;obtain⟨a,h⟩:∃a:V,a=.tup (T.map bP):=⟨_,rfl⟩;have t:bE (aL aN) (ax 0)=Z (.im<|aq m):=by
  show (dV (aN.map aq) 0).map aj.im=_;rw[Im (by decide) (by simpa using f)];rfl
 have u:b_ 2 (eH<|ao (ae<|ay bE (ai 0)<|ae<|aC<|.int 0) aF) [Z (aL aN),Z<|.im a,Y]=Z (.aS,[Z (aL aN),Z<|.im a,Z<|bk<|d4 T m 1]):=by
  exact f5 (yo (bK (a7<|a5 rfl rfl rfl rfl t) rfl) rfl (ft rfl) rfl) (show 2<3 by decide) rfl
 let⟨@XC,v,rfl⟩:=Ar (n:=CX Xb) (e:=Jf Xb) (λk y=>∃w,y=[Z (aL aN),Z<|.im a,Z<|bk<|d4 T m<|w+1]/\w+1+k=4*Xh.length) (λy=>y=[Z (aL aN),Z<|.im a,Z<|bk<|d4 T m<|4*Xh.length])
  (λk y x=>by
   let⟨@w,rfl,i⟩:=x;refine⟨decide (w+1<4*Xh.length),[Z (aL aN),Z<|.im a,Z<|bk<|d4 T m<|w+1],?_,λhd=>?_,λhd=>?_⟩
   ·have j:=HX T m (w+1);have l:=EH (d4 T m<|w+1);have b:=ru aN;rw[j]at l;rw[r]at b;refine (iy<|a5 (a7<|gS rfl rfl l) (a7<|gS rfl rfl b) rfl rfl rfl).trans ?_;rw[show decide (((w+1:Nat):Int)<((4*Xh.length:Nat):Int))=decide (w+1<4*Xh.length) by rw[lD,gE,gE];lia]
   ·have hd:=fD hd;have Xi:=iv.mp (Xs.cY s w);have A:bE (bk<|d4 T m<|w+1) (ax<|-1)=Z (.im<|aq<|ct (cY (aS T) (m,0) w).1 (cY (aS T) (m,0) w).2):=by
     show (dV ((d4 T m<|w+1).map aq)<|-1).map aj.im=_;rw[Nq];rfl
    have c:=SH o (T:=T) X6 f g Xi.1 Xi.2 p;rw[<-h]at c;have j:=HX T m (w+1);have z:(d4 T m<|w+1).length<100000:=⋯
    refine⟨.aS,[Z (aL aN),Z<|.im a,Z<|bk<|d4 T m<|w+1+1],?_,.inl rfl,k-1,⋯,w+1,rfl,⋯⟩;have b:(d4 T m<|w+1).map aq++[aq (hs<|aS T<|cY (aS T) (m,0) w)]=(d4 T m<|w+1+1).map aq:=by
     rw[w_ T m (w+1),fQ];rfl
    rw[show (((cY (aS T) (m,0) w).1,(cY (aS T) (m,0) w).2):aD×Nat)=cY (aS T) (m,0) w from rfl]at c;have i:hH (bk<|d4 T m<|w+1) [.im (aq<|hs<|aS T<|cY (aS T) (m,0) w)]=Z (.im .aW,bk<|d4 T m<|w+1+1):=by
     rw[w_ T m (w+1)];exact Bp z
    exact lq (jW rfl rfl (c6 (dE<|rK (c6 rfl<|c6 rfl<|c6 (dE<|ix rfl (dE<|RN rfl) rfl rfl A) rfl) rfl rfl c) rfl) rfl rfl i (by rfl))
   ·have hd:=of_decide_eq_false hd;rw[show w+1=4*Xh.length by lia]) 1000000 (4*Xh.length-1) _ ⟨0,rfl,⋯⟩ ⋯
 rw[<-h];unfold pZ FN;exact p8 [Z (aL aN),Z<|.im a,Z<|bk<|d4 T m<|4*Xh.length] rfl ((nx u).trans<|(nx v).trans<|eB rfl) rfl
theorem zB{Xx:Type}(g e:Xx->V):∀t:List Xx,ec (t.map g) (t.map e)=t.map λa=>.tup [g a,e a]
 |[]=>rfl
 |h::t=>by rw[cw,cw,ec,zB g e t];rfl
def Gt:az aj:=(ay gf (ae<|ay hk (ae<|ay hk (ai 1)<|ai 0)<|ae<|aC<|.int 1)<|ai 2)
def N7:bA:=(cV<|eZ 2 [0] (me<|ao (ai 1)<|ao (ae<|ay c0 (ae<|iY (ai 1) (kL<|aC<|.int 1) jK)<|ae<|iY (ai 1) jK<|kL<|aC<|.int 1) aF) (ew 2<|de (bS 0)<|de (bS 1) fM) e1 G.Gt)
def uy:c9:=dA 2 2 [0,1] N7
def Vf:bA:=(bz (ei (cg<|ay ot (ai 1)<|ai 0) (cV<|aC .aW) fA)<|bz (ei (cg<|ay lG (ae<|ay fE (ai 1)<|ae<|aC<|.int 3)<|ai 0) (cV<|ay hk (ai 0)<|ae<|ay fE (ai 1)<|ae<|aC<|.int 2) fA)<|cV<|ay kh (ae<|ay hk (ai 0)<|ai 1)<|ae<|aC<|.int 2)
def ra:c9:=dA 2 2 [0,1] Vf
def Ln:bA:=(cV<|b9 q7<|ao (ai 1)<|ao (ae<|ay bE (ai 0)<|ae<|hM<|aC<|.int 1) aF)
def rF:c9:=dA 2 2 [0,1] Ln
def uq:bA:=(bz (b_ 5<|b2 2 G.ra<|ao (ai 1)<|ao (ae<|ay bE (ai 3)<|ae<|hM<|aC<|.int 1) aF)<|bz (ei (cg<|ay (m1 au) (ai 5)<|ae<|aC .aW) (cV<|b9 hW<|ao (ai 3) aF) fA)<|hY<|gm hr 3 hH<|ao (ae<|b9 qt<|ao (ae<|aC<|.int 0)<|ao (ae<|ay hk (ai 4)<|ai 5) aF) aF)
def TN:bA:=(bz (b_ 3<|eH<|ao (ai 2) aF)<|bz (gW (fv<|ae<|iY (ai 0) jK<|kL<|hM<|aC<|.int 1) (bS 4) G.uq)<|cV<|b9 hW<|ao (ai 3) aF)
def x6:c9:=dA 3 6 [0,1,2] TN
def Oy:bA:=(bz (b_ 3<|b2 2 G.ra<|ao (ai 1)<|ao (ae<|ay bE (ai 2)<|ae<|hM<|aC<|.int 1) aF)<|cV<|h3<|hn (cg<|ay (m1 aa) (ai 3)<|ae<|aC .aW)<|cg<|ay pF (ae<|ay c0 (ai 3)<|ae<|ay bE (ai 2)<|ae<|aC<|.int 0)<|ae<|ay bE (ai 0)<|ae<|hM<|aC<|.int 1)
def zA:c9:=dA 3 4 [0,1,2] Oy
def Ni:az aj:=(b2 3 G.x6<|ao (ai 1)<|ao (ai 2)<|ao (ai 0) aF)
def MK:bA:=(cV<|eZ 1 [0,1] (jQ<|ao (ae<|ay c0 (ae<|b2 2 G.rF<|ao (ai 0)<|ao (ai 1) aF)<|ae<|aC<|.int 1) aF) (bS 0) e1 G.Ni)
def u4:c9:=dA 2 2 [0,1] MK
def UU:az aj:=(fp 0)
def N6:az Bool:=(kM<|ae<|b2 3 G.zA<|ao (ai 1)<|ao (ai 2)<|ao (ai 0) aF)
def Mq:bA:=(cV<|eZ 1 [0,1] (fv<|ae<|b2 2 G.u4<|ao (ai 0)<|ao (ai 1) aF) (bS 0) G.N6 G.UU)
def tA:c9:=dA 2 2 [0,1] Mq
def Ho:az Bool:=(cg<|ay mz (ai 3)<|ai 4)
def Hy:bA:=(bz (b_ 5<|ay kh (ae<|ay c0 (ai 3)<|ai 4)<|ae<|aC<|.int 2)<|ei (kM<|ae<|b2 2 G.tA<|ao (ai 2)<|ao (ai 5) aF) (b_ 4<|fp 5)<|b_ 3<|ay c0 (ai 5)<|ae<|aC<|.int 1)
def Cx:bA:=(bz (b_ 2<|b2 2 G.uy<|ao (ai 0)<|ao (ai 1) aF)<|bz (b_ 3<|aC<|.int 0)<|bz (b_ 4<|ay hk (ai 0)<|ae<|aC<|.int 1)<|bz (kn G.Ho G.Hy 1000000)<|cV<|fp 3)
def om:c9:=dA 2 6 [0,1] Cx
def EB:bA:=(bz (b_ 2<|aC<|.int 0)<|bz (ei (cg<|ay mz (ai 1)<|ae<|b9 fV<|ao (ai 0) aF) (b_ 2<|ay bE (ai 0)<|ai 1) fA)<|bz (b_ 3<|ay fE (ae<|ay fE (ae<|ay nT (ae<|aC<|.int 10)<|ae<|aC<|.int 60)<|ae<|ay nT (ae<|aC<|.int 10)<|ae<|aC<|.int 60)<|ae<|ay nT (ae<|aC<|.int 10)<|ae<|aC<|.int 60)<|bz (b_ 4<|ay fE (ae<|ay gf (ai 2)<|ai 3)<|ae<|b9 vInt<|ao (ae<|ay pF (ai 2)<|ae<|ay nT (ae<|aC<|.int 10)<|ae<|aC<|.int 18) aF)<|cV<|eH<|ao (ai 4)<|ao (ae<|ay c0 (ae<|ay c0 (ae<|ay gf (ai 2)<|ae<|aC<|.int 2305843009213693951)<|ae<|ay fE (ae<|aC<|.int 7919)<|ai 1)<|ae<|aC<|.int 3)<|ao (ae<|aC<|.int 0) aF)
def uI:c9:=dA 2 5 [0,1] EB
def G_:bA:=(bz (ei (cg<|ay ot (ae<|ay bE (ai 0)<|ae<|aC<|.int 0)<|ae<|aC<|.int 0) (bz (b_ 2<|ay gf (ae<|ay bE (ai 0)<|ae<|aC<|.int 0)<|ai 1)<|bz (h_ (ay kh (ae<|ay bE (ai 0)<|ae<|aC<|.int 0)<|ai 1)<|j6 0 (aC<|.int 0) nL)<|cV<|fp 2) fA)<|bz (h_ (ay c0 (ae<|ay bE (ai 0)<|ae<|aC<|.int 2)<|ae<|aC<|.int 1)<|j6 0 (aC<|.int 2) nL)<|bz (b_ 3<|ay bE (ai 0)<|ae<|aC<|.int 2)<|bz (b_ 4<|ay gf (ae<|ay fE (ae<|ay bE (ai 0)<|ae<|aC<|.int 1)<|ae<|ay c0 (ae<|ay c0 (ae<|aC<|.int 48271)<|ae<|ay fE (ae<|ay fE (ae<|aC<|.int 2)<|ai 3)<|ai 3)<|ae<|ay fE (ae<|aC<|.int 65537)<|ai 3)<|ae<|aC<|.int 2305843009213693921)<|bz (b_ 5<|ay c0 (ae<|ay c0 (ae<|ay gf (ai 4)<|ae<|aC<|.int 1000003)<|ae<|ay fE (ai 3)<|ae<|aC<|.int 99991)<|ae<|aC<|.int 11)<|bz (b_ 4<|ay gf (ae<|ay fE (ai 4)<|ai 5)<|ae<|aC<|.int 2305843009213693907)<|cV<|ay gf (ae<|ay c0 (ae<|ay kh (ai 4)<|ae<|aC<|.int 97)<|ae<|ay kh (ai 4)<|ae<|aC<|.int 1000033)<|ai 1)
def jw:c9:=dA 2 6 [0,1] G_
def C8:bA:=(cV<|ay bE (ai 1)<|ae<|b2 2 G.jw<|ao (ai 0)<|ao (ae<|b9 fV<|ao (ai 1) aF) aF)
def m6:c9:=dA 2 2 [0,1] C8
def Rv(a:c9):az aj:=(b2 2 a<|ao (ai 0)<|ao (ai 1) aF)
def Nx(a:c9):bA:=(bz (ei (kM<|ae<|ou "tuple"<|ai 1) (bz (ei (qa (mN<|kM<|ae<|ou "tuple"<|ai 0)<|cg<|ay ih (ae<|b9 fV<|ao (ai 0) aF)<|ae<|b9 fV<|ao (ai 1) aF) (cV<|aC<|.aG au) fA)<|cV<|b9 vr<|ao (ae<|eZ 2 [] (me<|ao (ai 0)<|ao (ai 1) aF) (ew 2<|de (bS 0)<|de (bS 1) fM) e1<|G.Rv a) aF) fA)<|bz (ei (cg<|ay (m1 au) (ai 1)<|ae<|aC .aW) (cV<|ay (m1 au) (ai 0)<|ae<|aC .aW) fA)<|bz (ei (kM<|ae<|ou "str"<|ai 1) (cV<|h3<|hn (cg<|ou "str"<|ai 0)<|cg<|ay ke (ai 0)<|ai 1) fA)<|cV<|h3<|hn (cg<|ou "int"<|ai 0)<|hn (cg<|h3<|mN<|cg<|ou "bool"<|ai 0)<|cg<|ay ke (ai 0)<|ai 1)
def qD:Nat->c9
 |0=>λ_=>Y
 |q+1=>dA 2 2 [0,1] (Nx<|qD q)
def i1(i t:Int):Option Int:=if t>i then Y else if t*3<=i then Z (i-t*2) else Z ((i-t)/2)
noncomputable def Ai:Option Int->V
 |none=>.aW
 |some a=>.int a
theorem DE(i t:Int):ra [.im (.int i),.im<|.int t]=Z (.im<|Ai<|i1 i t,[.im (.int i),.im<|.int t]):=by
 have a:cg (ay ot (ai 1)<|ai 0) [Z (.im<|.int i),Z<|.im<|.int t]=Z (decide (t>i),[Z (.im<|.int i),Z<|.im<|.int t]):=rfl;have b:cg (ay lG (ae<|ay fE (ai 1)<|ae<|aC<|.int 3)<|ai 0) [Z (.im<|.int i),Z<|.im<|.int t]=Z (decide (t*3<=i),[Z (.im<|.int i),Z<|.im<|.int t]):=iy (a5 (a7 (a5 rfl rfl rfl rfl (hu (n9 (by decide) (by decide))))) rfl rfl rfl rfl);unfold i1;by_cases z:t>i
 ·rw[dU z]at a;rw[aA z];exact eO rfl (oO<|kp a rfl) rfl
 ·rw[d3 z]at a;rw[aI z];by_cases E:t*3<=i
  ·rw[dU E]at b;rw[aA E];exact eO rfl (cj (hZ a rfl) (oO (kp b (eB (a5 rfl (a7 (a5 rfl rfl rfl rfl (hu (n9 (by decide) (by decide))))) rfl rfl rfl))))) rfl
  ·rw[d3 E]at b;rw[aI E];exact eO rfl (cj (hZ a rfl) (cj (hZ b rfl) (eB (a5 (a7<|a5 rfl rfl rfl rfl rfl) rfl rfl rfl (sb (by decide) (by decide)))))) rfl
def tw(f L:Int):Int:=f*(48271+2*L*L+65537*L)%2305843009213693921
noncomputable def B6(f L:Int):Int:=tw f L*(tw f L%1000003+L*99991+11)%2305843009213693907/97+tw f L*(tw f L%1000003+L*99991+11)%2305843009213693907/1000033
abbrev hd(v f i:Int):aj:=.lst [.int v,.int f,.int i]
abbrev cJ(a:Int):aj:=.im (.int a)
theorem Mi{v f:Int}(e:0<=v)(o:0<=f)(p:f<2^63)(q:0<=i)(r:i<2^60)(a:0<k)(l:k<1073741824):
  ∃u g XM,jw [hd v f i,.im<|.int k]=Z (.im<|.int u,[hd g f XM,.im<|.int k])/\0<=u/\u<k/\0<=g/\i<=XM/\XM<=i+1:=by
 have b:∀v i:Int,bE (hd v f i) (cJ 0)=Z (cJ v):=λ_ W=>rfl;have m:∀v i:Int,bE (hd v f i) (cJ 1)=Z (cJ f):=λ_ W=>rfl;have j:∀v i:Int,bE (hd v f i) (cJ 2)=Z (cJ i):=λ_ W=>rfl;have XF:cg (ay ot (ae<|ay bE (ai 0)<|ae<|aC<|.int 0)<|ae<|aC<|.int 0) [Z (hd v f i),Z<|cJ k,Y,Y,Y,Y]=Z (decide (0<v),[Z (hd v f i),Z<|cJ k,Y,Y,Y,Y]):=iy (a5 (a7<|a5 rfl rfl rfl rfl<|b v i) rfl rfl rfl rfl);unfold jw G_;by_cases c:0<v
 ·refine⟨v%k,v/k,i,?_,mv _ ⋯,nh _ a,Int.ediv_nonneg e ⋯,⋯,⋯⟩;rw[dU c]at XF;refine eO (y:=[Z (hd (v/k) f i),Z<|cJ k,Z<|cJ<|v%k,Y,Y,Y]) rfl (oO (kp XF (cj (Xl:=[Z (hd v f i),Z<|cJ k,Z<|cJ<|v%k,Y,Y,Y]) (f5 (a5 (a7<|a5 rfl rfl rfl rfl<|b v i) rfl rfl rfl<|kK a) (by exact ft rfl) rfl)<|cj (nM (a5 (a7<|a5 rfl rfl rfl rfl<|b v i) rfl rfl rfl<|sb a l) rfl) rfl))) rfl
 ·have n:h4 (2*(i+1)) (i+1)=aa:=n9 ⋯ ⋯;refine⟨B6 f (i+1)%k,v,i+1,?_,mv _ ⋯,nh _ a,e,⋯,⋯⟩;rw[d3 c]at XF;unfold B6;generalize d:tw f (i+1)=h;have Yh:0<=h:=by rw[<-d];exact mv _ (by decide)
  have s:h<2305843009213693921:=by rw[<-d];exact nh _ (by decide)
  refine eO (y:=[Z (hd v f<|i+1),Z<|cJ k,Y,Z<|cJ<|i+1,Z<|cJ<|h*(h%1000003+(i+1)*99991+11)%2305843009213693907,Z<|cJ<|h%1000003+(i+1)*99991+11]) rfl (cj (hZ XF rfl) (cj (Xl:=[Z (hd v f<|i+1),Z<|cJ k,Y,Y,Y,Y]) (nM (a5 (a7<|a5 rfl rfl rfl rfl<|j v i) rfl rfl rfl rfl) rfl) (cj (Xl:=[Z (hd v f<|i+1),Z<|cJ k,Y,Z<|cJ<|i+1,Y,Y]) (f5 (a5 rfl rfl rfl rfl<|j v<|i+1) (by exact ft rfl) rfl)<|cj (Xl:=[Z (hd v f<|i+1),Z<|cJ k,Y,Z<|cJ<|i+1,Z<|cJ h,Y]) ?_<|cj (Xl:=[Z (hd v f<|i+1),Z<|cJ k,Y,Z<|cJ<|i+1,Z<|cJ h,Z<|cJ<|h%1000003+(i+1)*99991+11]) ?_<|cj (Xl:=[Z (hd v f<|i+1),Z<|cJ k,Y,Z<|cJ<|i+1,Z<|cJ<|h*(h%1000003+(i+1)*99991+11)%2305843009213693907,Z<|cJ<|h%1000003+(i+1)*99991+11]) ?_<|eB ?_))) rfl
  ·rw[<-d];exact f5 (a5 (a7 (a5 (a7<|a5 rfl rfl rfl rfl<|m v<|i+1) (a7 (a5 (a7 (a5 rfl (a7 (a5 (a7 (a5 rfl rfl rfl rfl (hu (mU (by decide) (by decide))))) rfl rfl rfl<|hu n)) rfl rfl rfl)) (a7 (a5 rfl rfl rfl rfl (hu (mU (by decide) (by decide))))) rfl rfl rfl)) rfl rfl (hu (mU ⋯ ⋯)))) rfl rfl rfl (kK (by decide))) (by exact ft rfl) rfl
  ·exact f5 (a5 (a7 (a5 (a7 (a5 rfl rfl rfl rfl (kK (by decide)))) (a7 (a5 rfl rfl rfl rfl (hu (n9 (by decide) (by decide))))) rfl rfl rfl)) rfl rfl rfl rfl) (by exact ft rfl) rfl
  ·exact f5 (a5 (a7 (a5 rfl rfl rfl rfl (hu (mU ⋯ ⋯)))) rfl rfl rfl (kK (by decide))) (by exact ft rfl) rfl
  ·exact a5 (a7 (a5 (a7 (a5 rfl rfl rfl rfl (sb (by decide) (by decide)))) (a7 (a5 rfl rfl rfl rfl (sb (by decide) (by decide)))) rfl rfl rfl)) rfl rfl rfl (kK a)
def e8(w:Nat)(c:aj):Prop:=∃v f i,c=hd v f i/\0<=v/\0<=f/\f<2^63/\0<=i/\i+w<2^60
theorem e8.mono{k:Nat}(h:e8 w c)(d:k<=w):e8 k c:=by
 let⟨v,f,@i,rfl,z,E,a,b,e⟩:=h;exact⟨v,f,i,rfl,z,E,a,b,⋯⟩
theorem n_(h:e8 (w+1) c)(e:0<k)(g:k<1073741824):∃u M,jw [c,.im<|.int k]=Z (.im<|.int u,[M,.im<|.int k])/\0<=u/\u<k/\e8 w M:=by
 let⟨v,f,@i,rfl,z,E,a,j,o⟩:=h;let⟨u,b,@XM,d,l,m,n,p,q⟩:=Mi (k:=k) z E a j ⋯ e g;exact⟨u,hd b f XM,d,l,m,b,f,XM,rfl,n,E,a,⋯,⋯⟩
theorem e9(h:e8 w c):∃J,c=.lst J:=by
 let⟨v,f,@i,rfl,W⟩:=h;exact⟨_,rfl⟩
theorem Nc{XA:List Int}{q:Int}(b:0<=q)(o:q<1000):∃c,uI [.dn (XA.map .int),.im<|.int q]=Z (c,[.dn (XA.map .int),.im<|.int q])/\e8 1000000 c:=by
 have Q:∀n:Int,e8 1000000 (hd (n%(10^60*10^60*10^60)*(if decide (10^18<=n) then 1 else 0)) (n%2305843009213693951+7919*q+3) 0):=λn=>by
  have z:=mv n (show (10^60*10^60*10^60:Int)≠0 by decide);have E:=mv n (show (2305843009213693951:Int)≠0 by decide);have p:=nh n (show (0:Int)<2305843009213693951 by decide);refine⟨_,_,_,rfl,?_,⋯,⋯,hB 0,by decide⟩;split
  ·rw[B1];exact z
  ·rw[Int.mul_zero];exact hB 0
 have hx:nT (cJ 10) (cJ 60)=Z (cJ<|10^60):=FL (by decide);have d:nT (cJ 10) (cJ 18)=Z (cJ<|10^18):=FL (by decide);have f:h4 (10^60) (10^60)=aa:=by decide +kernel
 have XZ:h4 (10^60*10^60) (10^60)=aa:=by decide +kernel
 have g:∀(h:Int) (e:Bool),h4 h (if e then 1 else 0)=aa:=λh e=>n9 (by cases e<;>decide) (by cases e<;>decide);have i:(0:Int)<10^60*10^60*10^60:=by decide
 obtain⟨n,j⟩:∃n:Int,ei (cg<|ay mz (ai 1)<|ae<|b9 fV<|ao (ai 0) aF) (b_ 2<|ay bE (ai 0)<|ai 1) fA [Z (.dn<|XA.map .int),Z<|cJ q,Z<|cJ 0,Y,Y]=Z (.aS,[Z (.dn<|XA.map .int),Z<|cJ q,Z<|cJ n,Y,Y]):=by
  have cA:cg (ay mz (ai 1)<|ae<|b9 fV<|ao (ai 0) aF) [Z (.dn<|XA.map .int),Z<|cJ q,Z<|cJ 0,Y,Y]=Z (decide (q<((XA.map V.int).length:Int)),[Z (.dn<|XA.map .int),Z<|cJ q,Z<|cJ 0,Y,Y]):=iy (a5 rfl (a7<|gS (bK rfl rfl) rfl rfl) rfl rfl rfl);rw[a9]at cA;by_cases a:q<(XA.length:Int)
  ·rw[dU a]at cA;have k:q.toNat<XA.length:=⋯
   have l:dV (XA.map V.int) q=Z (.int XA[q.toNat]):=qV b (by rw[dZ,dv k];rfl);have m:bE (.dn<|XA.map .int) (cJ q)=Z (cJ XA[q.toNat]):=by
    show (dV (XA.map V.int) q).map aj.im=_;rw[l];rfl
   exact⟨XA[q.toNat],kp cA<|f5 (a5 rfl rfl rfl rfl m) (ft rfl) rfl⟩
  ·rw[d3 a]at cA;exact⟨0,hZ cA rfl⟩
 refine⟨_,?_,Q n⟩;unfold uI EB;generalize XA.map V.int=X3 at *;refine eO (y:=[Z (.dn X3),Z<|cJ q,Z<|cJ n,Z<|cJ<|10^60*10^60*10^60,Z<|cJ<|n%(10^60*10^60*10^60)*(if decide (10^18<=n) then 1 else 0)]) rfl (cj (Xl:=[Z (.dn X3),Z<|cJ q,Z<|cJ 0,Y,Y]) rfl (cj j (cj (Xl:=[Z (.dn X3),Z<|cJ q,Z<|cJ n,Z<|cJ<|10^60*10^60*10^60,Y]) (f5 (a5 (a7<|a5 (a7<|a5 rfl rfl rfl rfl hx) (a7<|a5 rfl rfl rfl rfl hx) rfl rfl<|hu f) (a7<|a5 rfl rfl rfl rfl hx) rfl rfl<|hu XZ) (ft rfl) rfl) (cj (f5 (a5 (a7<|a5 rfl rfl rfl rfl<|kK i) (a7<|gS (bK (a7<|a5 rfl (a7<|a5 rfl rfl rfl rfl d) rfl rfl rfl) rfl) rfl rfl) rfl rfl<|hu<|g _ _) (ft rfl) rfl) (eB (yo (bK rfl (bK (a7 (a5 (a7 (a5 (a7 (a5 rfl rfl rfl rfl (kK (by decide)))) (a7 (a5 rfl rfl rfl rfl (hu (mU (by decide) (by decide))))) rfl rfl rfl)) rfl rfl rfl rfl))<|bK rfl rfl)) rfl (ft rfl) rfl)))))) rfl
theorem rz(h:e8 (w+1) c)(e:x≠[])(z:x.length<1073741824):∃v M,m6 [c,.lst x]=Z (.im v,[M,.lst x])/\v∈x/\e8 w M:=by
 have j:0<x.length:=jk.mpr e;let⟨u,@M,d,f,l,a⟩:=n_ (k:=x.length) h ⋯ ⋯;obtain⟨v,hd⟩:∃v,x[u.toNat]?=Z v:=⟨x[u.toNat]'⋯,by simp⟩;have g:dV x u=Z v:=qV f hd;let⟨@p,rfl⟩:=e9 h;let⟨@b,rfl⟩:=e9 a;refine⟨v,.lst b,?_,fH hd,a⟩;have i:bE (.lst x) (cJ u)=Z (.im v):=by
  show (dV x u).map aj.im=_;rw[g];rfl
 unfold m6 C8;exact eO (y:=[Z (.lst b),Z<|.lst x]) rfl (eB<|ix rfl (dE<|dq (Xw:=[.aY 0,.b5<|cJ x.length]) (c6 rfl<|c6 (dE<|r7 (c6 rfl rfl) rfl rfl) rfl) rfl rfl d rfl) rfl rfl i) rfl
structure oU(b:Int)(l:List Int):Prop where
 m0:1<=b
 cf:b<=200
 ne:l≠[]
 up:l.Pairwise (· < ·)
 mG:∀f∈l,0<=f/\f<b
 iQ:l.length<=8
theorem yi(c:(gD 0 w)[a]?=Z h):a<w/\h=.int (0+(a:Int)):=by
 have U:a<w:=by
  have:=(ek.mp c).1
  rwa [gD,a9,gU]at this
 rw[gD,dZ,Jb U]at c;exact⟨U,(Option.some.inj c).symm⟩
theorem Kk(R:Int)(w:Nat):(gD R w).length=w:=by rw[gD,a9,gU]
theorem Ll(w:Nat):gD 0 w=((range w).map λ(q:Nat)=>(q:Int)).map V.int:=by
 rw[gD,eD];refine mL λq W=>?_;show V.int (0+(q:Int))=V.int (q:Int);rw[Int.zero_add]
def b1(b:Int)(f:List Int):List Int:=(f.zip<|f.drop 1++f.take 1).map λo=>(o.2-o.1-1)%b
abbrev bX(f:List Int):aj:=.im (.tup<|f.map .int)
abbrev bT(f:List Int):aj:=.lst (f.map .int)
theorem BC(a:0<b)(h:f.length<=1000):uy [.im (.int b),bX f]=Z (bT<|b1 b f,[.im (.int b),bX f]):=by
 have c:(f.drop 1).length+(f.take 1).length<=100000:=by rw[e4,gv];omega
 have i:(f.length-1)+min 1 f.length<=100000:=by omega
 have d:kC (bX f) (Z 1) Y=Z (bX<|f.drop 1):=by
  show Z (aj.im<|.tup<|e6 (f.map V.int) (Z 1) Y)=_;rw[sN,show e6 f (Z 1) Y=f.drop 1 from H5 f 1]
 have e:kC (bX f) Y (Z 1)=Z (bX<|f.take 1):=by
  show Z (aj.im<|.tup<|e6 (f.map V.int) Y<|Z 1)=_;rw[sN,show e6 f Y (Z 1)=f.take 1 from Km f 1]
 have g:c0 (bX<|f.drop 1) (bX<|f.take 1)=Z (bX<|f.drop 1++f.take 1):=by
  show (if _ then Z (aj.im<|.tup<|_++_) else Y)=_;rw[aA (by rw[a9,a9];exact c)];show _=Z (aj.im<|.tup<|(f.drop 1++f.take 1).map .int);rw[fQ]
 refine eO (y:=[Z (.im<|.int b),Z<|bX f]) rfl (eB (jZ (m:=Y) (Xl:=[Z (.im<|.int b),Z<|bX f]) (a:=[Z (.im<|.int b)]) (x:=(f.zip<|f.drop 1++f.take 1).map λo=>.tup [.int o.1,.int o.2]) (J:=(b1 b f).map .int) ((uJ (bK rfl<|bK (a7<|a5 (a7<|yT rfl rfl rfl rfl d) (a7<|yT rfl rfl rfl rfl e) rfl rfl g) rfl) rfl).trans (by rw[vJ];rfl)) ?_ rfl)) rfl;unfold b1;rw[eD];refine kz _ _ _ (λo k=>⟨[Z (.im<|.int o.1),Z<|.im<|.int o.2,Z<|.im<|.int b],_,[Z (.im<|.int o.1),Z<|.im<|.int o.2,Z<|.im<|.int b],rfl,rfl,a5 rfl rfl rfl rfl<|kK a,rfl⟩) ?_;rw[lR,c7];lia
def cX(i:Int):Int->List Int->List Int
 |t,[]=>[t]
 |t,I::j=>match i1 i t with
  |none=>[t]
  |some s=>t::cX i (max 0<|I-s) j
theorem Pz(g e:Int):(if e>g then e else g)=max g e:=by
 by_cases c:e>g
 ·rw[aA c];lia
 ·rw[aI c];lia
theorem Wb(g e:Int):(if e<g then e else g)=min g e:=by
 by_cases c:e<g
 ·rw[aA c];lia
 ·rw[aI c];lia
theorem Sa{Xx:Type}(x:List Xx)(h:Xx):dV (x++[h]) (-1)=Z h:=An (by simp)
theorem H6(a:XK (.im h) y=Z Xl)(b:e Xl=Z (.aS,XO))(q:d2 XK e x XO=s):d2 XK e (h::x) y=s:=by
 rw[d2];show (XK (.im h) y).bind _=_;rw[a];show (e Xl).bind _=_;rw[b];exact q
theorem Wa(a:XK (.im h) y=Z Xl)(b:e Xl=Z (.dT v,XO)):d2 XK e (h::x) y=Z (.dT v,XO):=by
 rw[d2];show (XK (.im h) y).bind _=_;rw[a];show (e Xl).bind _=_;rw[b];rfl
theorem H8{i:Int}{Xr T b:aj}:∀(j:List Int) (a:List Int) (t:Int) (X5 P:Option aj),T=.im (.int i)->a.length+j.length<1000->
  (∃f h,d2 (bS 4) uq (j.map .int) [Z Xr,Z T,Z b,Z<|bT<|a++[t],X5,P]=Z (.aS,[Z Xr,Z T,Z b,Z<|bT<|a++cX i t j,f,h]))\/
  ∃f h s,d2 (bS 4) uq (j.map .int) [Z Xr,Z T,Z b,Z<|bT<|a++[t],X5,P]=Z (.dT<|bX<|a++cX i t j,[Z Xr,Z T,Z b,Z s,f,h])
 |[],a,t,X5,P,_,_=>.inl ⟨X5,P,rfl⟩
 |I::j,a,t,X5,P,m,o=>by
  subst m;rw[c3]at o;have p:dV ((a++[t]).map V.int) (-1)=Z (.int t):=by rw[fQ];exact Sa _ _
  have d:b_ 5 (b2 2 G.ra<|ao (ai 1)<|ao (ae<|ay bE (ai 3)<|ae<|hM<|aC<|.int 1) aF) [Z Xr,Z<|.im<|.int i,Z b,Z<|bT<|a++[t],Z<|.im<|.int I,P]=Z (.aS,[Z Xr,Z<|.im<|.int i,Z b,Z<|bT<|a++[t],Z<|.im<|.int I,Z<|.im<|Ai<|i1 i t]):=
   f5 (dq (bK rfl (bK (a7 (a5 rfl rfl rfl rfl (show (dV _<|-1).map _=_ by rw[p];rfl))) rfl)) rfl rfl (DE i t) rfl) (ft rfl) rfl;rw[cX];cases k:i1 i t with
  |none=>
   rw[k]at d;refine .inr ⟨Z<|.im<|.int I,Z<|.im .aW,bT<|a++[t],?_⟩;exact Wa rfl (cj d<|oO<|kp rfl<|eB<|gS (bK rfl rfl) rfl rfl)
  |some s=>
   rw[k]at d;have q:((a++[t]).map V.int).length<100000:=by rw[a9,c7];exact fI (Nat.add_lt_add_left (kE 1) _) ⋯
   have r:qt [.im (.int 0),.im<|.int<|I-s]=Z (.im<|.int<|max 0<|I-s):=by rw[<-Pz];rfl
   have l:uq [Z Xr,Z<|.im<|.int i,Z b,Z<|bT<|a++[t],Z<|.im<|.int I,P]=Z (.aS,[Z Xr,Z<|.im<|.int i,Z b,Z<|bT<|(a++[t])++[max 0 (I-s)],Z<|.im<|.int I,Z<|.im<|.int s]):=
    cj d (cj (hZ rfl rfl) (lq (jW rfl rfl (bK (a7<|gS (bK rfl<|bK (a7<|a5 rfl rfl rfl rfl rfl) rfl) rfl r) rfl) rfl rfl (zo q) (by rw[show bT (a++[t]++[max 0 (I-s)])=.lst ((a++[t]).map .int++[.int (max 0<|I-s)]) from congrArg aj.lst (fQ ..)];rfl))));have u:=H8 (i:=i) (Xr:=Xr) (T:=.im (.int i)) (b:=b) j (a++[t]) (max 0<|I-s) (Z<|.im<|.int I) (Z<|.im<|.int s) rfl (by rw[c7,nX];lia);dsimp only;rw[show a++t::cX i (max 0<|I-s) j=(a++[t])++cX i (max 0<|I-s) j from (bt a [t] _).symm];rcases u with ⟨g,e,c⟩|⟨g,e,n,c⟩
   ·exact .inl ⟨g,e,H6 rfl l c⟩
   ·exact .inr ⟨g,e,n,H6 rfl l c⟩
theorem UP(f:XB.length<900):x6 [bT XB,.im<|.int i,.im<|.int t]=Z (bX<|cX i t XB.dropLast,[bT XB,.im<|.int i,.im<|.int t]):=by
 have b:e6 (XB.map V.int) Y (Z<|-1)=XB.dropLast.map .int:=by rw[sN,Jm]
 have d:([]:List Int).length+XB.dropLast.length<1000:=by rw[q1,hF];omega
 have Yl:b_ 3 (eH<|ao (ai 2) aF) [Z (bT XB),Z<|.im<|.int i,Z<|.im<|.int t,Y,Y,Y]=Z (.aS,[Z (bT XB),Z<|.im<|.int i,Z<|.im<|.int t,Z<|bT<|[]++[t],Y,Y]):=f5 (yo (bK rfl rfl) rfl (ft rfl) rfl) (ft rfl) rfl;have a:fv (ae<|iY (ai 0) jK<|kL<|hM<|aC<|.int 1) [Z (bT XB),Z<|.im<|.int i,Z<|.im<|.int t,Z<|bT<|[]++[t],Y,Y]=Z ((XB.dropLast.map .int,Y),[Z (bT XB),Z<|.im<|.int i,Z<|.im<|.int t,Z<|bT<|[]++[t],Y,Y]):=by
  rw[<-b];rfl
 rcases H8 (i:=i) (Xr:=bT XB) (T:=.im (.int i)) (b:=.im (.int t)) XB.dropLast [] t Y Y rfl d with ⟨g,e,c⟩|⟨g,e,n,c⟩
 ·exact eO (y:=[Z (bT XB),Z<|.im<|.int i,Z<|.im<|.int t,Z<|bT<|[]++cX i t XB.dropLast,g,e]) rfl (cj Yl<|cj (jl a c rfl)<|eB<|gS (bK rfl rfl) rfl rfl) rfl
 ·exact eO (y:=[Z (bT XB),Z<|.im<|.int i,Z<|.im<|.int t,Z n,g,e]) rfl (cj Yl<|oO<|jl a c rfl) rfl
abbrev xj(s:List (List Int)):aj:=.lst (s.map λf=>.tup<|f.map .int)
def b3(f:List Int):Int:=f.getLast?.getD 0
theorem yO(c:f≠[]):dV (f.map V.int) (-1)=Z (.int<|b3 f):=by
 refine An ?_;rw[List.getLast?_map,b3];cases Xi:f.getLast? with
 |none=>exact absurd (Gg.mp Xi) c
 |some h=>rfl
theorem MO(c:f≠[]):dV (f.map V.int) 0=Z (.int<|f.head?.getD 0):=by
 cases f with
 |nil=>exact absurd rfl c
 |cons g s=>exact qV (by omega) rfl
theorem Bg{a:Int}{v:V}(c:dV J a=Z v):bE (.lst J) (.im<|.int a)=Z (.im v):=by show (dV J a).map _=_;rw[c];rfl
theorem Ed{a:Int}{v:V}(c:dV J a=Z v):bE (.im<|.tup J) (.im<|.int a)=Z (.im v):=by show (dV J a).map _=_;rw[c];rfl
theorem Lw{I:az aj}(d:I y=Z (v,Xl))(c:fU v=Z J):fv (ae I) y=Z ((J,Y),Xl):=by
 unfold fv ae;rw[d];show (fU v).map _=_;rw[c];rfl
theorem Rp(c:XB≠[]):rF [bT XB,ax i]=Z (ax<|min i<|b3 XB,[bT XB,ax i]):=by
 have k:q7 [ax i,ax<|b3 XB]=Z (ax<|min i<|b3 XB):=by rw[<-Wb];rfl
 exact eO rfl (eB<|gS (bK rfl<|bK (a7<|a5 rfl rfl rfl rfl<|Bg<|yO c) rfl) rfl k) rfl
def hi(i last:Int)(B:List Int):Bool:=match i1 i (b3 B) with
 |none=>au
 |some s=>decide (s+B.head?.getD 0 >= last)
theorem Wn(c:XB≠[])(a:B≠[]):zA [bT XB,ax i,bX B]=Z (.im<|.aG<|hi i (b3 XB) B,[bT XB,ax i,bX B]):=by
 have d:=yO c;have e:=yO a;have f:=MO a;have X:b_ 3 (b2 2 G.ra<|ao (ai 1)<|ao (ae<|ay bE (ai 2)<|ae<|hM<|aC<|.int 1) aF) [Z (bT XB),Z<|ax i,Z<|bX B,Y]=Z (.aS,[Z (bT XB),Z<|ax i,Z<|bX B,Z<|.im<|Ai<|i1 i<|b3 B]):=f5 (dq (bK rfl<|bK (a7<|a5 rfl rfl rfl rfl<|Ed e) rfl) rfl rfl (DE i<|b3 B) rfl) (ft rfl) rfl;unfold hi;cases b:i1 i (b3 B) with
 |none=>rw[b]at X;exact eO rfl (cj X<|eB<|D5<|z0 rfl) rfl
 |some s=>rw[b]at X;exact eO rfl (cj X<|eB<|D5<|pv rfl<|iy<|a5 (a7<|a5 rfl (a7<|a5 rfl rfl rfl rfl<|Ed f) rfl rfl rfl) (a7<|a5 rfl rfl rfl rfl<|Bg d) rfl rfl rfl) rfl
def gH(i:Int)(XB:List Int):List (List Int):=(range (min i (b3 XB)+1).toNat).map λ(q:Nat)=>cX i (q:Int) XB.dropLast
theorem nu(i t:Int)(j:List Int):cX i t j≠[]:=by
 cases j with
 |nil=>simp[cX]
 |cons I j=>
  rw[cX];cases i1 i t<;>simp
theorem RT(i:Int)(XB:List Int):(gH i XB).length=(min i (b3 XB)+1).toNat:=by rw[gH,a9,gU]
theorem RC(c:B∈gH i XB):B≠[]:=by
 let⟨@q,W,rfl⟩:=cN.mp c;exact nu _ _ _
theorem Vq(c:XB≠[])(a:XB.length<900)(e:0<=b3 XB)(z:b3 XB<1000)(bQ:0<=i):u4 [bT XB,ax i]=Z (xj<|gH i XB,[bT XB,ax i]):=by
 have b:small (min i (b3 XB)+1):=⟨⋯,⋯⟩;have d:gD 0 (min i (b3 XB)+1).toNat=(range (min i (b3 XB)+1).toNat).map λ(q:Nat)=>.int (q:Int):=by rw[Ll,eD];rfl
 have p:b2 2 G.rF (ao (ai 0)<|ao (ai 1) aF) [Z (bT XB),Z<|ax i]=Z (ax<|min i<|b3 XB,[Z (bT XB),Z<|ax i]):=dq (bK rfl<|bK rfl rfl) rfl rfl (Rp c) rfl;have s:jQ (ao (ae<|ay c0 (ae<|b2 2 G.rF<|ao (ai 0)<|ao (ai 1) aF)<|ae<|aC<|.int 1) aF) [Z (bT XB),Z<|ax i]=_:=sS (Xw:=[.b5 (ax<|min i (b3 XB)+1)]) (Xl:=[Z (bT XB),Z<|ax i]) (bK (a7<|a5 (a7 p) rfl rfl rfl rfl) rfl) rfl b;rw[d]at s;refine eO (y:=[Z (bT XB),Z<|ax i]) rfl (eB<|jZ (Xl:=[Z (bT XB),Z<|ax i]) (a:=[Z (bT XB),Z<|ax i]) (J:=(gH i XB).map λf=>.tup<|f.map .int) s ?_ rfl) rfl;unfold gH;rw[eD];exact kz (λ(q:Nat)=>.int (q:Int)) _ _ (λq W=>⟨[Z (ax (q:Int)),Z<|bT XB,Z<|ax i],_,[Z (ax (q:Int)),Z<|bT XB,Z<|ax i],rfl,rfl,dq (bK rfl<|bK rfl<|bK rfl rfl) rfl rfl (UP a) rfl,rfl⟩) (by rw[gU];omega)
theorem Ej(c:XB≠[])(a:XB.length<900)(b:0<=b3 XB)(z:b3 XB<1000)(bQ:0<=i):tA [bT XB,ax i]=Z (xj<|(gH i XB).filter<|hi i<|b3 XB,[bT XB,ax i]):=by
 refine eO (y:=[Z (bT XB),Z<|ax i]) rfl (eB (jZ (m:=Y) (Xl:=[Z (bT XB),Z<|ax i]) (a:=[Z (bT XB),Z<|ax i]) (x:=(gH i XB).map λf=>.tup<|f.map .int) (J:=((gH i XB).filter<|hi i<|b3 XB).map λf=>.tup<|f.map .int) ?_ (uK (λf=>.tup<|f.map .int) (hi i<|b3 XB) (λf=>.tup<|f.map .int) _ [] (λs d=>?_) (by rw[RT,hF];lia)) rfl)) rfl
 ·have p:b2 2 G.u4 (ao (ai 0)<|ao (ai 1) aF) [Z (bT XB),Z<|ax i]=Z (xj<|gH i XB,[Z (bT XB),Z<|ax i]):=dq (bK rfl<|bK rfl rfl) rfl rfl (Vq c a b z bQ) rfl;exact Lw p rfl
 ·exact⟨[Z (bX s),Z<|bT XB,Z<|ax i],[Z (bX s),Z<|bT XB,Z<|ax i],rfl,Ha (a7<|dq (bK rfl<|bK rfl<|bK rfl rfl) rfl rfl (Wn (i:=i) c<|RC d) rfl) rfl rfl,λ_=>rfl,λ_=>⟨_,rfl,rfl⟩⟩
theorem oD(b:Int)(f:List Int):(b1 b f).length=f.length:=by
 rw[b1,a9,lR,c7,e4,gv];lia
theorem rU(a:0<b)(c:I∈b1 b f):0<=I/\I<b:=by
 let⟨@o,W,rfl⟩:=cN.mp c;exact⟨mv _ (by omega),nh _ a⟩
theorem x3(c:f≠[]):b3 f∈f:=by
 rw[b3];cases Xi:f.getLast? with
 |none=>exact absurd (Gg.mp Xi) c
 |some h=>exact List.mem_of_getLast? Xi
theorem Qx{h:Int}(g:f[a]?=Z h)(e:f[(a+1)%f.length]?=Z H):(b1 b f)[a]?=Z ((H-h-1)%b):=by
 have U:a<f.length:=(ek.mp g).1;have E:(f.drop 1++f.take 1)[a]?=Z H:=by
  by_cases c:a+1<f.length
  ·rw[xb c]at e;rw[kb (by rw[e4];omega),k9,tb];exact e
  ·have d:a+1=f.length:=by omega
   rw[d,AN]at e;rw[jS (by rw[e4];omega),e4,show a-(f.length-1)=0 by omega,l4,aA (by omega)];exact e
 rw[b1,dZ,show (f.zip<|f.drop 1++f.take 1)[a]?=Z (h,H) by rw[mi];exact⟨g,E⟩];rfl
def d_(i t:Int):Int:=if t*3<=i then i-t*2 else (i-t)/2
theorem pk(i t:Int):i1 i t=if t>i then Y else Z (d_ i t):=by
 unfold i1 d_;split
 ·rfl
 ·split<;>rfl
def dW(t s:Int):Int:=t+s+(if s<t then s else t)
theorem qp(a:0<=t)(z:t<=i):dW t (d_ i t)<=i/\0<=d_ i t/\d_ i t<=i:=by
 unfold dW d_;split
 ·split<;>lia
 ·split<;>lia
theorem yP{s:Int}(a:0<=t)(z:t<=i)(b:0<=s)(c:dW t s<=i):s<=d_ i t:=by
 revert c;unfold dW d_;split
 ·split<;>lia
 ·split<;>lia
@[simp] theorem WT(h:List V)(J:List aj):g_ (.lst h::J)=Y:=rfl
theorem FJ{i:Int}:∀{j:List Int}{t:Int},0<=t->0<=b3 (cX i t j)
 |[],t,c=>by simpa [cX,b3] using c
 |I::j,t,c=>by
  rw[cX];cases i1 i t with
  |none=>simpa [b3] using c
  |some s=>
   have:=FJ (i:=i) (j:=j) (t:=max 0 (I-s)) (by omega);dsimp only;rw[b3,y7<|nu _ _ _];exact this
theorem Fz{i:Int}:∀{j:List Int}{t:Int},b3 (cX i t j)<=i->(cX i t j).length=j.length+1
 |[],t,c=>by simp[cX]
 |I::j,t,c=>by
  rw[cX,pk]at c ⊢;by_cases z:t>i
  ·rw[aA z]at c;simp[b3]at c;omega
  ·rw[aI z]at c ⊢;dsimp only at c ⊢;rw[b3,y7<|nu _ _ _]at c;rw[c3,Fz c,c3]
noncomputable def ts:Nat->V->Bool
 |_,.int _=>aa
 |_,.aW=>aa
 |_,.str _=>aa
 |w+1,.tup J=>decide (J.length<100000)&&J.all (ts w)
 |_,_=>au
theorem O_(J:List V):ec J J=J.map λv=>.tup [v,v]:=by
 induction J with
 |nil=>rfl
 |cons v s a=>rw[ec,a];rfl
theorem FO:∀J:List V,mE (J.map λ_=>.aG aa)=Z (J.map λ_=>aa)
 |[]=>rfl
 |v::s=>by rw[cw,mE,FO s];rfl
theorem BZ:∀(q:Nat) (v:V),ts q v=aa->qD (q+1) [.im v,.im v]=Z (.im<|.aG aa,[.im v,.im v])
 |q,.int a,_=>by show Z (aj.im<|.aG<|a==a,[aj.im (.int a),aj.im<|.int a])=_;rw[kH]
 |q,.aW,_=>rfl
 |q,.str a,_=>by show Z (aj.im<|.aG<|a==a,[aj.im (.str a),aj.im<|.str a])=_;rw[kH]
 |0,.tup J,c=>nomatch c
 |0,.aG e,c=>nomatch c
 |0,.fn e,c=>nomatch c
 |0,.aU e,c=>nomatch c
 |0,.fd,c=>nomatch c
 |q+1,.aG e,c=>nomatch c
 |q+1,.fn e,c=>nomatch c
 |q+1,.aU e,c=>nomatch c
 |q+1,.fd,c=>nomatch c
 |q+1,.tup J,c=>by
  rw[ts,cU,jT]at c;have f:=fD c.1;have u:∀s,mE (J.map λ_=>.aG aa)=Z s->vr [.lst (J.map λ_=>.aG aa)]=Z (.im<|.aG<|s.all id):=λs d=>by show (mE _).map _=_;rw[d];rfl
  have n:=u _ (FO J);rw[Am,show J.all (id ∘ λ_=>aa)=aa from jT.mpr λ_ W=>rfl]at n;generalize b:[Z (aj.im<|.tup J),Z<|aj.im<|.tup J]=Xr;refine eO (y:=Xr) rfl (oO (kp (Xl:=Xr) (by subst b;rfl) (cj (Xl:=Xr) (hZ (Xl:=Xr) (TO (Xl:=Xr) (by subst b;rfl) (zt (ix (Xl:=Xr) (h:=.b5 (.im<|.int J.length)) (H:=.b5 (.im<|.int J.length)) (by subst b;rfl) (by subst b;rfl) rfl rfl ((Vr _ _).trans (by rw[dU rfl];rfl))))) rfl) (eB (r7 (Xl:=Xr) (c6 (Xl:=Xr) (dE (jZ (Xl:=Xr) (a:=[]) (J:=J.map λ_=>.aG aa) (m:=Y) (x:=ec J J) (by subst b;rfl) ?_ rfl)) rfl) rfl n))))) (by subst b;rfl);rw[O_];exact kz _ (λ_=>.aG aa) _ (λv hd=>⟨[Z (.im v),Z<|.im v],_,[Z (.im v),Z<|.im v],rfl,rfl,dq (c6 rfl<|c6 rfl rfl) rfl rfl (BZ q v<|c.2 v hd) rfl,rfl⟩) (lV f)
theorem Eg(i:Int):∀(j:List Int) (t:Int),(cX i t j).length<=j.length+1
 |[],t=>by simp[cX]
 |I::j,t=>by
  rw[cX];cases i1 i t with
  |none=>simp
  |some s=>have:=Eg i j (max 0<|I-s);simp;omega
theorem zZ(c:f≠[]):b1 b f≠[]:=by
 have z:=oD b f;have E:=jk.mpr c;exact jk.mp ⋯
def fY:List Int->Int->Int->Int->Int->Prop
 |[],g,k,s,a=>s=g/\a=k
 |I::j,g,k,s,a=>∃e,0<=e/\e<=I/\fY j (I-e) (max k<|dW g e) s a
theorem fY.le:∀{j:List Int}{g k s a:Int},fY j g k s a->k<=a
 |[],g,k,s,a,c=>by have:=c.2;lia
 |I::j,g,k,s,a,⟨e,_,_,c⟩=>by have:=c.le;lia
theorem s7{s e:Int}(a:0<=t)(z:t<=g)(E:0<=s)(b:s<=e):dW t s<=dW g e:=by
 unfold dW;split<;>split<;>lia
theorem E9(a:0<=t)(z:t<=g)(E:g<=i):d_ i g<=d_ i t:=by
 let@⟨c,b,d⟩:=qp (i:=i) (t:=g) ⋯ E;refine yP a ⋯ b ?_;exact mY (s7 a z b<|hB _) c
theorem OY(i t:Int):b3 (cX i t [])=t:=rfl
theorem vN(c:t>i):cX i t (I::j)=[t]:=by rw[cX,pk,aA c]
theorem nk(c:¬ t>i):cX i t (I::j)=t::cX i (max 0<|I-d_ i t) j:=by rw[cX,pk,aI c]
theorem tf{h:Int}(c:f≠[]):b3 (h::f)=b3 f:=by rw[b3,y7 c];rfl
theorem zL(i t:Int)(j:List Int):(cX i t j).head?.getD 0=t:=by
 cases j with
 |nil=>rfl
 |cons I j=>
  by_cases c:t>i
  ·rw[vN c];rfl
  ·rw[nk c];rfl
theorem BM{i:Int}:∀{j:List Int}{t k:Int},(∀I∈j,0<=I)->k<=i->0<=t->b3 (cX i t j)<=i->∃a,fY j t k (b3<|cX i t j) a/\a<=i
 |[],t,k,_,d,_,_=>⟨k,⟨rfl,rfl⟩,d⟩
 |I::j,t,k,e,d,f,b=>by
  by_cases c:t>i
  ·rw[vN c]at b;have:b3 [t]=t:=rfl;lia
  ·rw[nk c,tf<|nu _ _ _]at b ⊢;have m:=e I (.head _);let@⟨g,n,o⟩:=qp (i:=i) f ⋯;have Xi:dW t (I-max 0 (I-d_ i t))<=i:=mY (s7 f (hB _) ⋯ ⋯) g;let⟨@a,XF,XH⟩:=BM (k:=max k (dW t<|I-max 0 (I-d_ i t))) (λh l=>e h<|.tail _ l) ⋯ (show 0<=max 0 (I-d_ i t) by lia) b;refine⟨a,⟨I-max 0 (I-d_ i t),⋯,⋯,?_⟩,XH⟩;rw[show I-(I-max 0 (I-d_ i t))=max 0 (I-d_ i t) by lia];exact XF
theorem F0{i:Int}:∀{j:List Int}{t g k s a:Int},fY j g k s a->a<=i->0<=t->t<=g->s<=i->0<=b3 (cX i t j)/\b3 (cX i t j)<=s/\g<=i
 |[],t,g,k,s,a,⟨n,_⟩,_,c,z,d=>by rw[OY];lia
 |I::j,t,g,k,s,a,⟨e,f,aQ,q⟩,h,c,z,d=>by
  have Xi:dW g e<=i:=by have:=q.le;lia
  have b:g<=i:=by
   have:g<=dW g e:=by unfold dW;split<;>lia
   lia
  have o:=yP (i:=i) (t:=g) (s:=e) ⋯ b f Xi;have p:=E9 (i:=i) c z b;rw[nk ⋯,tf<|nu _ _ _];let@⟨l,m,_⟩:=F0 (t:=max 0 (I-d_ i t)) q h ⋯ ⋯ d;exact⟨l,m,b⟩
def Gq(i last:Int)(j:List Int):Prop:=∃F s k,0<=F/\F<=last/\fY j F 0 s k/\k<=i/\dW s (last-F)<=i
theorem fY.pos:∀{j:List Int}{g k s a:Int},(∀I∈j,0<=I)->0<=g->fY j g k s a->0<=s
 |[],g,k,s,a,_,c,⟨d,_⟩=>⋯
 |I::j,g,k,s,a,b,c,⟨e,i,aQ,q⟩=>fY.pos (λh f=>b h<|.tail _ f) ⋯ q
theorem GV(f:∀I∈XB,0<=I)(p:0<=b3 XB)(bQ:0<=i):(gH i XB).any (hi i<|b3 XB)=aa↔Gq i (b3 XB) XB.dropLast:=by
 have d:∀I∈XB.dropLast,0<=I:=λI a=>f I (t7 _ a);constructor
 ·intro c;let⟨@B,b,a⟩:=ny.mp c;let⟨@q,g,rfl⟩:=cN.mp b;have r:=eJ.mp g;rw[hi,pk,zL]at a;by_cases z:b3 (cX i (q:Int) XB.dropLast)>i
  ·rw[aA z]at a;cases a
  ·rw[aI z]at a;have a:=fD a;let⟨@k,XF,XH⟩:=BM (i:=i) (j:=XB.dropLast) (t:=(q:Int)) (k:=0) d bQ ⋯ ⋯;have e:=FJ (i:=i) (j:=XB.dropLast) (t:=(q:Int)) ⋯;let@⟨h,u,v⟩:=qp (i:=i) e ⋯;exact⟨q,_,k,⋯,⋯,XF,XH,mY (s7 e (hB _) ⋯ ⋯) h⟩
 ·rintro⟨F,s,k,Yl,w,q,l,Xi⟩;have m:=fY.pos d Yl q;have b:s<=i:=by
   have:s<=dW s (b3 XB-F):=by unfold dW;split<;>lia
   lia
  let@⟨n,o,x⟩:=F0 (i:=i) (t:=F) q l Yl (hB _) b;refine ny.mpr ⟨cX i F XB.dropLast,cN.mpr ⟨F.toNat,eJ.mpr ⋯,by rw[Int.toNat_of_nonneg Yl]⟩,?_⟩;rw[hi,pk,aI ⋯,zL];have z:=yP (i:=i) (t:=s) (s:=b3 XB-F) m b ⋯ Xi;have E:=E9 (i:=i) n o b;exact dU ⋯
theorem Se{last:Int}(a:∀I∈j,0<=I/\I<b)(f:0<=last)(m:last<b):Gq (b-1) last j:=by
 have Q:∀(j:List Int) (k:Int),(∀I∈j,0<=I/\I<b)->k<=b-1->∃e,fY j 0 k 0 e/\e<=b-1:=by
  intro j;induction j with
  |nil=>intro k W c;exact⟨k,⟨rfl,rfl⟩,c⟩
  |cons I j g=>
   intro k a n;let@⟨i,o⟩:=a I (.head _);have d:dW 0 I=I:=by unfold dW;split<;>lia
   let⟨@e,XF,XH⟩:=g (max k<|dW 0 I) (λh l=>a h<|.tail _ l) ⋯;exact⟨e,⟨I,i,hB _,by rw[Int.sub_self];exact XF⟩,XH⟩
 let⟨@k,XF,XH⟩:=Q j 0 a ⋯;exact⟨0,0,k,hB _,f,XF,XH,by have d:dW 0 (last-0)=last:=by {unfold dW;split<;>lia};lia⟩
def W8(I:Int):List Int:=(range (I+1).toNat).map λ(q:Nat)=>(q:Int)
theorem AX{Xx:Type}(o:Xx->Bool):∀t:List Xx,(!(t.filter o).isEmpty)=t.any o
 |[]=>rfl
 |h::s=>by
  rw[zk,ni];cases c:o h with
  |true=>rw[aA rfl];rfl
  |false=>rw[aI dy,AX o s];rfl
abbrev ll(b:Int)(f:List Int)(i:Int):Bool:=(gH i<|b1 b f).any (hi i<|b3<|b1 b f)
theorem Ur(Xf:oU b f):∃t:Int,om [ax b,bX f]=Z (ax t,[ax b,bX f])/\0<=t/\t<b/\ll b f t=aa/\(t=0\/ll b f (t-1)=au):=by
 have H:=Xf.m0;have J:=Xf.cf;have L:=Xf.iQ;have l:=zZ (b:=b) Xf.ne;have s:(b1 b f).length<900:=by rw[oD];omega
 let@⟨k,aQ⟩:=rU (by omega) (x3 l);have m:∀I∈b1 b f,0<=I/\I<b:=λI a=>rU (by omega) a;have u:ll b f (b-1)=aa:=(GV (λI a=>(m I a).1) k (by omega)).mpr (Se (λI a=>m I<|t7 _ a) k aQ);let⟨@XC,c,⟨t,X5,@P,rfl,v,z,E,x⟩⟩:=Ar (n:=Ho) (e:=Hy) (λw y=>∃(t d:Int) (P:Option aj),y=[Z (ax b),Z<|bX f,Z<|bT<|b1 b f,Z<|ax t,Z<|ax d,P]/\0<=t/\t<=d/\d<b/\ll b f d=aa/\(t=0\/ll b f (t-1)=au)/\w=(d-t).toNat) (λy=>∃(t:Int) (X5 P:Option aj),y=[Z (ax b),Z<|bX f,Z<|bT<|b1 b f,Z<|ax t,X5,P]/\0<=t/\t<b/\ll b f t=aa/\(t=0\/ll b f (t-1)=au))
  (λw y ⟨t,d,P,A,o,Yb,B,p,q,M⟩=>by
   subst A;refine⟨decide (t<d),[Z (ax b),Z<|bX f,Z<|bT<|b1 b f,Z<|ax t,Z<|ax d,P],rfl,λh=>?_,λh=>⟨t,Z<|ax d,P,rfl,o,by omega,by have:=of_decide_eq_false h;rw[show t=d by omega];exact p,q⟩⟩;have h:=fD h;have C:0<=(t+d)/2:=by omega
   have cf:(t+d)/2<d:=by omega
   have D:t<=(t+d)/2:=by omega
   have F:=Ej (i:=(t+d)/2) l s k (by omega) C;have r:b_ 5 (ay kh (ae<|ay c0 (ai 3)<|ai 4)<|ae<|aC<|.int 2) [Z (ax b),Z<|bX f,Z<|bT<|b1 b f,Z<|ax t,Z<|ax d,P]=Z (.aS,[Z (ax b),Z<|bX f,Z<|bT<|b1 b f,Z<|ax t,Z<|ax d,Z<|ax<|(t+d)/2]):=iJ (ix (dE<|ix rfl rfl rfl rfl rfl) rfl rfl rfl (sb (by decide) (by decide))) (ft rfl) rfl;have g:kM (ae<|b2 2 G.tA<|ao (ai 2)<|ao (ai 5) aF) [Z (ax b),Z<|bX f,Z<|bT<|b1 b f,Z<|ax t,Z<|ax d,Z<|ax<|(t+d)/2]=Z (!((gH ((t+d)/2)<|b1 b f).filter<|hi ((t+d)/2)<|b3<|b1 b f).isEmpty,[Z (ax b),Z<|bX f,Z<|bT<|b1 b f,Z<|ax t,Z<|ax d,Z<|ax<|(t+d)/2]):=Ef (dE<|dq (c6 rfl<|c6 rfl rfl) rfl rfl F rfl) rfl (by show Z (!(List.map _ _).isEmpty)=_;rw[List.isEmpty_map]);rw[AX]at g;cases j:ll b f ((t+d)/2) with
   |true=>
    rw[show (gH ((t+d)/2)<|b1 b f).any (hi ((t+d)/2)<|b3<|b1 b f)=aa from j]at g;exact⟨.aS,[Z (ax b),Z<|bX f,Z<|bT<|b1 b f,Z<|ax t,Z<|ax<|(t+d)/2,Z<|ax<|(t+d)/2],(nx r).trans<|(zR g).trans rfl,.inl rfl,((t+d)/2-t).toNat,by omega,t,(t+d)/2,_,rfl,o,D,by omega,j,q,rfl⟩
   |false=>
    rw[show (gH ((t+d)/2)<|b1 b f).any (hi ((t+d)/2)<|b3<|b1 b f)=au from j]at g;exact⟨.aS,[Z (ax b),Z<|bX f,Z<|bT<|b1 b f,Z<|ax<|(t+d)/2+1,Z<|ax d,Z<|ax<|(t+d)/2],(nx r).trans<|(AD g).trans rfl,.inl rfl,(d-((t+d)/2+1)).toNat,by omega,(t+d)/2+1,d,_,rfl,by omega,by omega,B,p,.inr (by rw[show (t+d)/2+1-1=(t+d)/2 by omega];exact j),rfl⟩)
  1000000 (b-1-0).toNat [Z (ax b),Z<|bX f,Z<|bT<|b1 b f,Z<|ax 0,Z<|ax<|b-1,Y] ⟨0,b-1,Y,rfl,by omega,by omega,by omega,u,.inl rfl,rfl⟩ (by omega)
 refine⟨t,?_,v,z,E,x⟩;unfold om Cx;refine p8 [Z (ax b),Z<|bX f,Z<|bT<|b1 b f,Z<|ax t,X5,P] rfl ?_ rfl;exact cj (Xl:=[Z (ax b),Z<|bX f,Z<|bT<|b1 b f,Y,Y,Y]) (iJ (dq (c6 rfl<|c6 rfl rfl) rfl rfl (BC (b:=b) (f:=f) (by omega) (by omega)) rfl) (ft rfl) rfl) (cj (Xl:=[Z (ax b),Z<|bX f,Z<|bT<|b1 b f,Z<|ax 0,Y,Y]) rfl<|cj (Xl:=[Z (ax b),Z<|bX f,Z<|bT<|b1 b f,Z<|ax 0,Z<|ax<|b-1,Y]) rfl<|cj c rfl)
def JU:az aj:=(ay hk (ai 0)<|ai 1)
def K1:bA:=(bz (b_ 2<|b2 2 G.uy<|ao (ai 0)<|ao (ai 1) aF)<|bz (b_ 3<|ay bE (ae<|b2 2 G.tA<|ao (ai 2)<|ao (ae<|b2 2 G.om<|ao (ai 0)<|ao (ai 1) aF) aF)<|ae<|aC<|.int 0)<|bz (b_ 4<|eZ 2 [] (rW<|ao (ai 2)<|ao (ae<|ay c0 (ae<|iY (ai 3) (kL<|aC<|.int 1) jK)<|ae<|iY (ai 3) jK<|kL<|aC<|.int 1) aF) (ew 2<|de (bS 0)<|de (bS 1) fM) e1 G.JU)<|cV<|Dz<|ao (ai 3)<|ao (ai 4) aF)
def tu:c9:=dA 2 5 [0,1] K1
def pa(B:List Int):List Int:=B.drop 1++B.take 1
def m4(XB B:List Int):List Int:=(XB.zip<|pa B).map λo=>o.1-o.2
def lO(XB B:List Int):List (Int×Int):=B.zip (m4 XB B)
abbrev vI(Xo:List (Int×Int)):aj:=.im (.tup<|Xo.map λo=>.tup [.int o.1,.int o.2])
theorem Uu(Xf:oU b f):∃(t:Int) (B:List Int),om [ax b,bX f]=Z (ax t,[ax b,bX f])/\0<=t/\t<b/\(t=0\/ll b f (t-1)=au)/\B∈gH t (b1 b f)/\hi t (b3<|b1 b f) B=aa/\
  tu [ax b,bX f]=Z (vI<|lO (b1 b f) B,[ax b,bX f]):=by
 let⟨@t,a,c,k,l,n⟩:=Ur Xf;have F:=Xf.m0;have H:=Xf.cf;have I:=Xf.iQ;have e:=zZ (b:=b) Xf.ne;have p:(b1 b f).length<900:=by rw[oD];omega
 let@⟨r,aQ⟩:=rU (by omega) (x3 e);have g:=Ej (i:=t) e p r (by omega) c;have s:(gH t<|b1 b f).filter (hi t<|b3<|b1 b f)≠[]:=λd=>by
  have:=AX (hi t<|b3<|b1 b f) (gH t<|b1 b f);rw[d]at this;rw[show (gH t<|b1 b f).any (hi t<|b3<|b1 b f)=aa from l]at this;cases this
 let⟨B,@c4,h⟩:=List.exists_cons_of_ne_nil s;have u:B∈(gH t<|b1 b f).filter (hi t<|b3<|b1 b f):=by rw[h];exact .head _
 let@⟨j,v⟩:=wb.mp u;refine⟨t,B,a,c,k,n,j,v,?_⟩;rw[h]at g;have w:dV ((B::c4).map λf=>V.tup<|f.map .int) 0=Z (.tup<|B.map .int):=qV (by omega) rfl;have L:B.length<=900:=by
  let⟨@q,W,rfl⟩:=cN.mp j;have:=Eg t (b1 b f).dropLast (q:Int);rw[q1]at this;omega
 have z:kC (bX B) (Z 1) Y=Z (bX<|B.drop 1):=by
  show Z (aj.im<|.tup<|e6 (B.map V.int) (Z 1) Y)=_;rw[sN,show e6 B (Z 1) Y=B.drop 1 from H5 B 1]
 have A:kC (bX B) Y (Z 1)=Z (bX<|B.take 1):=by
  show Z (aj.im<|.tup<|e6 (B.map V.int) Y<|Z 1)=_;rw[sN,show e6 B Y (Z 1)=B.take 1 from Km B 1]
 have C:c0 (bX<|B.drop 1) (bX<|B.take 1)=Z (bX<|pa B):=by
  show (if _ then Z (aj.im<|.tup<|_++_) else Y)=Z (aj.im<|.tup<|(B.drop 1++B.take 1).map .int);rw[aA (by rw[a9,a9,e4,gv];lia),fQ]
 have D:eZ 2 [] (rW<|ao (ai 2)<|ao (ae<|ay c0 (ae<|iY (ai 3) (kL<|aC<|.int 1) jK)<|ae<|iY (ai 3) jK<|kL<|aC<|.int 1) aF) (ew 2<|de (bS 0)<|de (bS 1) fM) e1 G.JU [Z (ax b),Z<|bX f,Z<|bT<|b1 b f,Z<|bX B,Y]=Z (bT<|m4 (b1 b f) B,[Z (ax b),Z<|bX f,Z<|bT<|b1 b f,Z<|bX B,Y]):=by
  refine jZ (m:=Z (2,bT<|b1 b f)) (Xl:=[Z (ax b),Z<|bX f,Z .ed,Z<|bX B,Y]) (a:=[]) (x:=((b1 b f).zip<|pa B).map λo=>.tup [.int o.1,.int o.2]) (J:=(m4 (b1 b f) B).map .int) ((Vo (XY:=bT (b1 b f)) (X1:=bX (pa B)) (XO:=[Z (ax b),Z<|bX f,Z .ed,Z<|bX B,Y]) (c6 rfl<|c6 (dE<|ix (dE<|y_ rfl rfl rfl rfl z) (dE<|y_ rfl rfl rfl rfl A) rfl rfl C) rfl) rfl rfl rfl rfl rfl).trans (by rw[vJ];rfl)) ?_ rfl;unfold m4;rw[eD];exact kz _ _ _ (λo W=>⟨[Z (ax o.1),Z<|ax o.2],_,[Z (ax o.1),Z<|ax o.2],rfl,rfl,rfl,rfl⟩) (by rw[lR,oD];lia)
 have E:vI (lO (b1 b f) B)=.im (.tup<|ec (B.map V.int)<|(m4 (b1 b f) B).map V.int):=by rw[vJ];rfl
 rw[E];exact eO (y:=[Z (ax b),Z<|bX f,Z<|bT<|b1 b f,Z<|bX B,Z<|bT<|m4 (b1 b f) B]) rfl (cj (Xl:=[Z (ax b),Z<|bX f,Z<|bT<|b1 b f,Y,Y]) (iJ (dq (c6 rfl<|c6 rfl rfl) rfl rfl (BC ⋯ ⋯) rfl) (ft rfl) rfl)<|cj (Xl:=[Z (ax b),Z<|bX f,Z<|bT<|b1 b f,Z<|bX B,Y]) (iJ (ix (dE<|dq (c6 rfl<|c6 (dE<|dq (c6 rfl<|c6 rfl rfl) rfl rfl a rfl) rfl) rfl rfl g rfl) rfl rfl rfl<|Bg w) (ft rfl) rfl)<|cj (iJ D (ft rfl) rfl) rfl) rfl
def mS(i F last:Int):Int->List Int->List (Int×Int)
 |t,[]=>[(t,last-F)]
 |t,I::j=>(t,I-max 0 (I-d_ i t))::mS i F last (max 0<|I-d_ i t) j
theorem H_(i F last:Int):∀(j:List Int) (t:Int),(mS i F last t j).length=j.length+1
 |[],t=>rfl
 |I::j,t=>by rw[mS,c3,H_ i F last j,c3]
theorem Ab(c:b3 (cX i t (I::j))<=i):¬ t>i:=λz=>by
 rw[vN z]at c;have:b3 [t]=t:=rfl;lia
theorem DL(i t:Int)(j:List Int):∃s,cX i t j=t::s:=by
 cases j with
 |nil=>exact⟨[],rfl⟩
 |cons I j=>
  by_cases c:t>i
  ·exact⟨[],vN c⟩
  ·exact⟨_,nk c⟩
theorem Dh{i F last:Int}:∀(j:List Int) (t:Int),b3 (cX i t j)<=i->
  (cX i t j).zip (((j++[last]).zip<|(cX i t j).drop 1++[F]).map λo=>o.1-o.2)=mS i F last t j
 |[],t,_=>rfl
 |I::j,t,c=>by
  have a:=Ab c;rw[nk a,tf<|nu _ _ _]at c;have b:=Dh (F:=F) (last:=last) j (max 0<|I-d_ i t) c;let⟨@s,d⟩:=DL i (max 0<|I-d_ i t) j;rw[nk a,mS,<-b,d];rfl
theorem QU(Xi:XB≠[])(c:b3 (cX i t XB.dropLast)<=i):lO XB (cX i t XB.dropLast)=mS i t (b3 XB) t XB.dropLast:=by
 rw[<-Dh XB.dropLast t c];unfold lO m4 pa;have d:XB=XB.dropLast++[b3 XB]:=by
  have z:=List.dropLast_concat_getLast Xi;have E:b3 XB=XB.getLast Xi:=by
   rw[b3,List.getLast?_eq_some_getLast Xi];rfl
  rw[E,z]
 let⟨@s,a⟩:=DL i t XB.dropLast;rw[a];show (t::s).zip ((XB.zip<|s++[t]).map _)=(t::s).zip (((XB.dropLast++[b3 XB]).zip<|s++[t]).map _);rw[<-d]
theorem J0{i F last:Int}(c:0<=last-F):∀(j:List Int) (t:Int),(∀I∈j,0<=I)->0<=t->b3 (cX i t j)<=i->last-F<=d_ i (b3<|cX i t j)->∀o∈mS i F last t j,0<=o.1/\0<=o.2/\dW o.1 o.2<=i
 |[],t,_,a,z,E,o,b=>by
  cases cK.mp b;have z:t<=i:=z;have E:last-F<=d_ i t:=E;exact⟨a,c,mY (s7 a (hB _) c E) (qp a z).1⟩
 |I::j,t,d,a,z,E,o,b=>by
  have e:=Ab z;rw[nk e,tf<|nu _ _ _]at z E;have k:=d I (.head _);let@⟨f,l,m⟩:=qp (i:=i) a ⋯;rcases bO.mp b with rfl|b
  ·exact⟨a,by show 0<=I-max 0 (I-d_ i t);lia,mY (s7 a (hB _) (by show 0<=I-max 0 (I-d_ i t);lia) (by show I-max 0 (I-d_ i t)<=d_ i t;lia)) f⟩
  ·exact J0 c j _ (λh g=>d h<|.tail _ g) ⋯ z E o b
theorem Hm{i F last T:Int}:∀(j:List Int) (t k:Int),(∀I∈j,0<=I)->0<=t->b3 (cX i t j)<=i->k<=T->(∀o∈mS i F last t j,dW o.1 o.2<=T)->∃a,a<=T/\fY j t k (b3<|cX i t j) a/\dW (b3<|cX i t j) (last-F)<=T
 |[],t,k,_,_,_,c,b=>⟨k,c,⟨rfl,rfl⟩,b _<|.head _⟩
 |I::j,t,k,d,e,z,c,b=>by
  have f:=Ab z;rw[nk f,tf<|nu _ _ _]at z ⊢;have n:=d I (.head _);let@⟨p,q,r⟩:=qp (i:=i) e ⋯;have Xi:=b _ (.head _);let⟨@a,XF,XH,g⟩:=Hm (F:=F) (last:=last) j (max 0<|I-d_ i t) (max k<|dW t<|I-max 0 (I-d_ i t)) (λh l=>d h<|.tail _ l) ⋯ z (by have Xi:dW t (I-max 0 (I-d_ i t))<=T:=Xi;lia) λo m=>b o (.tail _ m);refine⟨a,XF,⟨I-max 0 (I-d_ i t),⋯,⋯,?_⟩,g⟩;rw[show I-(I-max 0 (I-d_ i t))=max 0 (I-d_ i t) by lia];exact XH
theorem Rr(U:a<f.length)(b:f[(a+1)%f.length]?=Z H):(pa f)[a]?=Z H:=by
 unfold pa;by_cases c:a+1<f.length
 ·rw[xb c]at b;rw[kb (by rw[e4];omega),k9,tb];exact b
 ·have d:a+1=f.length:=by omega
  rw[d,AN]at b;rw[jS (by rw[e4];omega),e4,show a-(f.length-1)=0 by omega,l4,aA (by omega)];exact b
theorem Pr(h:B.length=XB.length){r:Nat}{o p:Int×Int}(b:(lO XB B)[r]?=Z o)(c:(lO XB B)[(r+1)%B.length]?=Z p):XB[r]?=Z (o.2+p.1):=by
 unfold lO at b c;let@⟨d,XZ⟩:=mi.mp b;let@⟨e,i⟩:=mi.mp c;have f:r<B.length:=(ek.mp d).1;have g:=Rr f e;unfold m4 at XZ;rw[dZ]at XZ;let⟨@l,dw,da⟩:=cD.mp XZ;let@⟨d9,a⟩:=mi.mp dw;rw[g]at a;have a:=Option.some.inj a;rw[d9];congr 1;lia
structure Told(b:Int)(f:List Int)(t:Int)(Xo:List (Int×Int)):Prop where
 len:Xo.length=f.length
 pos:∀o∈Xo,0<=o.1/\0<=o.2
 gap:∀(r:Nat) (o p:Int×Int),Xo[r]?=Z o->Xo[(r+1)%f.length]?=Z p->(b1 b f)[r]?=Z (o.2+p.1)
 most:∀o∈Xo,dW o.1 o.2<=t
 m_:∃o∈Xo,dW o.1 o.2=t
theorem Oo(Xf:oU b f):∃(t:Int) (Xo:List (Int×Int)),om [ax b,bX f]=Z (ax t,[ax b,bX f])/\tu [ax b,bX f]=Z (vI Xo,[ax b,bX f])/\Told b f t Xo:=by
 let⟨t,@B,u,M,N,f2,v,e,w⟩:=Uu Xf;have O:=Xf.m0;have k:=zZ (b:=b) Xf.ne;let@⟨x,aQ⟩:=rU ⋯ (x3 k);have l:∀I∈b1 b f,0<=I:=λI e=>(rU ⋯ e).1;have m:∀I∈(b1 b f).dropLast,0<=I:=λI e=>l I (t7 _ e);let⟨@q,y,A⟩:=cN.mp v;have P:=eJ.mp y;subst A;rw[hi,pk,zL]at e;have z:b3 (cX t (q:Int) (b1 b f).dropLast)<=t:=vF.mp λc=>by rw[aA c]at e;cases e
 rw[aI ⋯]at e;have e:=fD e;have h:=QU k z;have C:=Fz z;have Q:=jk.mpr Xf.ne;have n:(cX t (q:Int) (b1 b f).dropLast).length=(b1 b f).length:=by rw[C,q1,oD];lia
 have g:=J0 (i:=t) (F:=(q:Int)) (last:=b3 (b1 b f)) ⋯ (b1 b f).dropLast (q:Int) m ⋯ z ⋯;rw[<-h]at g;have D:(lO (b1 b f)<|cX t (q:Int) (b1 b f).dropLast).length=f.length:=by rw[h,H_,q1,oD];lia
 refine⟨t,_,u,w,D,λo a=>⟨(g o a).1,(g o a).2.1⟩,λr o p a G=>Pr n a (by rw[n,oD];exact G),λo a=>(g o a).2.2,?_⟩;refine sx λH=>?_;have j:∀o∈lO (b1 b f) (cX t (q:Int) (b1 b f).dropLast),dW o.1 o.2<=t-1:=λo a=>by
  have z:=(g o a).2.2;have E:dW o.1 o.2≠t:=λd=>H ⟨o,a,d⟩;lia
 obtain⟨o,a⟩:∃o,o∈lO (b1 b f) (cX t (q:Int) (b1 b f).dropLast):=List.exists_mem_of_length_pos ⋯;have R:1<=t:=by
  have z:=j o a;have E:=g o a;have:0<=dW o.1 o.2:=by unfold dW;split<;>lia
  lia
 rw[h]at j;let⟨@J,XF,XH,L⟩:=Hm (i:=t) (F:=(q:Int)) (last:=b3 (b1 b f)) (T:=t-1) (b1 b f).dropLast (q:Int) 0 m ⋯ z ⋯ j;have s:ll b f (t-1)=aa:=(GV l x ⋯).mpr ⟨(q:Int),_,J,⋯,⋯,XH,XF,L⟩;rcases f2 with f2|f2
 ·lia
 ·rw[f2]at s;cases s
def n6(k o p:Int):Int:=if o<p then p-o-1 else p-o-1+k
theorem Qp{o p:Int}(a:0<=o/\o<k)(b:0<=p/\p<k):(p-o-1)%k=n6 k o p:=by
 unfold n6;split
 ·exact vh ⋯ ⋯
 ·rw[<-Int.add_emod_right];exact vh ⋯ ⋯
noncomputable def dt(k:Int)(h:Int)(o:Int×Int):List Int:=(range (o.1+o.2+1).toNat).map λ(q:Nat)=>(h+(-o.1+(q:Int)))%k
def iC(k n:Int)(w:Nat):List Int:=(range w).map λ(q:Nat)=>(n+(q:Int))%k
theorem JF(k h:Int)(o:Int×Int):dt k h o=iC k (h-o.1) (o.1+o.2+1).toNat:=by
 unfold dt iC;refine mL λq W=>?_;congr 1;lia
theorem Ri(k n:Int)(g e:Nat):iC k n g++iC k (n+g) e=iC k n (g+e):=by
 unfold iC;rw[List.range_add,fQ,eD];congr 1;refine mL λq W=>?_;show (n+g+(q:Int))%k=(n+((g+q:Nat):Int))%k;congr 1;lia
theorem Oj(a:0<k){w:Nat}:∀h∈iC k n w,0<=h/\h<k:=λh b=>by
 let⟨@q,W,rfl⟩:=cN.mp b;exact⟨mv _ ⋯,nh _ a⟩
theorem PH(f:0<k):(iC k n k.toNat).Nodup:=by
 unfold iC List.Nodup;rw[pC];refine Dl (R:=(· < ·)) (λ{g e} h a c d=>?_) BO;have i:=eJ.mp a;have b:(n+(e:Int)-(n+(g:Int)))%k=0:=Int.emod_eq_emod_iff_emod_sub_eq_zero.mp d.symm;have z:n+(e:Int)-(n+(g:Int))=(e:Int)-g:=⋯
 rw[z,vh ⋯ ⋯]at b;lia
theorem EY(k n:Int)(w:Nat):(iC k n w).length=w:=by rw[iC,a9,gU]
abbrev er:=Int×(Int×Int)
def x1(k:Int)(X3:List er):List Int:=X3.flatMap λp=>dt k p.1 p.2
noncomputable def oe:er->List er->er
 |g,[]=>g
 |_,e::s=>oe e s
theorem GY:∀(s:List er) (g:er),(g::s)[s.length]?=Z (oe g s)
 |[],g=>rfl
 |e::s,g=>by
  rw[c3,Ba];exact GY s e
theorem BH{k:Int}:∀(s:List er) (g:er),(∀p∈g::s,0<=p.2.1/\0<=p.2.2)->(∀(a:Nat) (h H:er),(g::s)[a]?=Z h->(g::s)[a+1]?=Z H->H.1-h.1-1=h.2.2+H.2.1)->
  ∃XW:Nat,x1 k (g::s)=iC k (g.1-g.2.1) XW/\(XW:Int)=(oe g s).1+(oe g s).2.2+1-(g.1-g.2.1)
 |[],g,Xu,_=>by
  have c:=Xu g (.head _);refine⟨(g.2.1+g.2.2+1).toNat,?_,?_⟩
  ·show dt k g.1 g.2++[]=_;rw[cC];exact JF k g.1 g.2
  ·show _=g.1+g.2.2+1-(g.1-g.2.1);lia
 |e::s,g,Xu,I=>by
  have c:=Xu g (.head _);let⟨@XW,b,j⟩:=BH (k:=k) s e (λp d=>Xu p<|.tail _ d) λa h H f i=>I (a+1) h H (by rw[Ba];exact f) (by rw[Ba];exact i);have l:=I 0 g e rfl rfl;refine⟨(g.2.1+g.2.2+1).toNat+XW,?_,?_⟩
  ·show dt k g.1 g.2++x1 k (e::s)=_;rw[b,JF,<-Ri];congr 2;lia
  ·show _=(oe e s).1+(oe e s).2.2+1-(g.1-g.2.1);lia
theorem qK{p:er}(c:(f.zip Xo)[a]?=Z p):f[a]?=Z p.1/\Xo[a]?=Z p.2:=by
 rw[mi]at c;exact c
theorem HS(Xf:oU k f)(T:Told k f t Xo):∃n,x1 k (f.zip Xo)=iC k n k.toNat:=by
 have A:=Xf.m0;have j:(f.zip Xo).length=f.length:=by rw[lR,T.len];omega
 cases d:f.zip Xo with
 |nil=>
  rw[d]at j;exact absurd (GN.mp j.symm) Xf.ne
 |cons g s=>
  rw[d,c3]at j;have Xu:∀p∈g::s,0<=p.2.1/\0<=p.2.2:=λp m=>by
   rw[<-d]at m;exact T.pos _ (pN m).2
  have o:∀(a:Nat) (h H:er),(g::s)[a]?=Z h->(g::s)[(a+1)%f.length]?=Z H->n6 k h.1 H.1=h.2.2+H.2.1:=λa h H i e=>by
   rw[<-d]at i e;let@⟨q,v⟩:=qK i;let@⟨r,w⟩:=qK e;have aQ:=T.gap a _ _ v w;have aR:=Qx (b:=k) q r;rw[aQ]at aR;rw[<-Qp (Xf.mG _<|fH q) (Xf.mG _<|fH r)];exact (Option.some.inj aR).symm
  have u:=nF.mp Xf.up;let⟨@XW,x,B⟩:=BH (k:=k) s g Xu λa h H i e=>by
   have U:a+1<f.length:=by
    have:=(ek.mp e).1;rw[c3]at this;omega
   have I:=o a h H i (by rw[xb U];exact e);rw[<-d]at i e;let⟨@z,XF⟩:=ek.mp (qK i).1;let⟨@E,XH⟩:=ek.mp (qK e).1;have:=u a (a+1) z E (kE a);rw[XF,XH]at this;unfold n6 at I;rw[aA this]at I;exact I
  refine⟨g.1-g.2.1,?_⟩;rw[x];have l:=GY s g;have I:=o s.length _ g l (by rw[j,AN];rfl);have C:g.1<=(oe g s).1:=by
   have y:(f.zip Xo)[0]?=Z g:=by rw[d];rfl
   rw[<-d]at l;let⟨@z,XF⟩:=ek.mp (qK y).1;let⟨@E,XH⟩:=ek.mp (qK l).1;rw[<-XF,<-XH];rcases z5 s.length with c|c
   ·simp only[c];exact hB _
   ·exact DX (u 0 s.length z E c)
  unfold n6 at I;rw[aI (by omega)]at I;congr 1;omega
theorem oL{I c:bA}{Xf:a4->Prop}(d:I y=Z (.aS,Xl))(q:∃XO,c Xl=Z (.aS,XO)/\Xf XO):∃XO,bz I c y=Z (.aS,XO)/\Xf XO:=
 have ⟨XO,a,s⟩:=q
 ⟨XO,cj d a,s⟩
theorem f9{k:Nat}(c:Nat.ble (w+1) k=aa):w<k:=ft c
theorem oh(a:XK (.im h) y=Z Xl)(b:e Xl=Z (.aS,XO))(q:d2 XK e x XO=s):d2 XK e (h::x) y=s:=by
 rw[d2];show (XK (.im h) y).bind _=_;rw[a];show (e Xl).bind _=_;rw[b];exact q
def sf(I:bA)(y:a4)(Xf:aj->a4->Prop):Prop:=∃s XC,I y=Z (.dT s,XC)/\Xf s XC
theorem pb{I c:bA}(d:I y=Z (.aS,Xl))(q:sf c Xl Xf):sf (bz I c) y Xf:=
 have ⟨s,XC,a,p⟩:=q
 ⟨s,XC,cj d a,p⟩
theorem N1{I:az aj}(d:I y=Z (v,Xl))(p:Xf v Xl):sf (cV I) y Xf:=⟨v,Xl,eB d,p⟩
theorem Pt{b:az aj}{pt:aj->aj->aj->Option aj}{q d n c:aj}(e:y[a]?=Z (Z d))(f:b y=Z (q,Xl))(g:q.d7=aa)(h:Xl[a]?=Z (Z n))(i:pt n q v=Z c)(j:Xl.set a (Z c)=XO):j6 a b pt v y=Z XO:=by
 unfold j6;rw[e];show (b y).bind _=_;rw[f];show (if q.d7=aa then _ else _)=_;rw[aA g,h];show (pt n q v).map _=_;rw[i,<-j];rfl
end G
namespace L2
open PySem PySem.Spec PyProof.Rows
variable{I D Yq Yp XN w a k:Nat}{Xy bo:Array ab}{t Yb Xr A g:af}{Xs:List V->af->Prop}{l:bc}{XR m:a0}{Yl h:ab}{M c:aV}{Xb:List (List V)}{B:Option ab->ah->Prop}{f:ah}{S:Array (Int×ab)}{Xo:List Nat}{XQ:Array (Option Nat)}{Ya Xx:Type}{Xi:List Int}{q:List V}{b:Bool}{i:aT}{x:Array Nat}
abbrev fJ(x:Array Nat):Prop:=x.toList.Pairwise (· < ·)
theorem sC(s:fJ x){a q:Nat}{v:Nat}(c:a<q)(e:q<x.size):x.getD a v<x.getD q v:=by
 have U:a<x.size:=qz c e;have d:∀k (b:k<x.size),x.getD k v=x.toList[k]'(by simpa using b):=λk b=>by simp[Array.getD,b]
 rw[d a U,d q e];exact nF.mp s a q _ _ c
theorem y4(x:Array Nat)(s:fJ x)(r:Nat):∀(fuel R U:Nat),U-R<=fuel->R<=U->U<=x.size->(∀a,a<R->x.getD a r<r)->(∀a,U<=a->a<x.size->r<=x.getD a r)->
  (aT.below.go x r fuel R U<=x.size/\(∀a,a<aT.below.go x r fuel R U->x.getD a r<r)/\∀a,aT.below.go x r fuel R U<=a->a<x.size->r<=x.getD a r)
 |0,R,U,z,E,f,g,e=>by
  have d:R=U:=⋯
  subst d;exact⟨f,g,e⟩
 |fuel+1,R,U,z,E,f,g,e=>by
  unfold aT.below.go;by_cases c:R<U
  ·rw[aA c];dsimp only;by_cases b:x.getD ((R+U)/2) r<r
   ·rw[aA b];refine y4 x s r fuel _ _ ⋯ ⋯ f (λa h=>?_) e;rcases gz a ((R+U)/2) with M|M
    ·exact qz (sC s M ⋯) b
    ·have:a=(R+U)/2:=⋯
     rw[this];exact b
   ·rw[aI b];refine y4 x s r fuel _ _ ⋯ ⋯ ⋯ g (λa h i=>?_);rcases gz ((R+U)/2) a with M|M
    ·exact lV (va (qY.mp b)<|sC s M i)
    ·have:a=(R+U)/2:=⋯
     rw[this];exact qY.mp b
  ·rw[aI c];have d:R=U:=⋯
   subst d;exact⟨f,g,e⟩
theorem uH(s:fJ x)(r:Nat):aT.below x r<=x.size/\(∀a,a<aT.below x r->x.getD a r<r)/\∀a,aT.below x r<=a->a<x.size->r<=x.getD a r:=
 y4 x s r x.size 0 x.size ⋯ ⋯ ⋯ (λa c=>absurd c<|qR _) λa c M=>absurd M ⋯
theorem zb(s:fJ x){a r:Nat}(c:x[a]?=Z r):aT.below x r=a:=by
 let@⟨g,e,n⟩:=uH s r;let⟨@U,d⟩:=oi.mp c;have b:x.getD a r=r:=by simp[Array.getD,U,d]
 rcases rO (aT.below x r) a with z|z|z
 ·have E:=n _ (ba _) (qz z U);have f:=sC s (v:=r) z U;omega
 ·exact z
 ·have:=e a z;omega
theorem SW(s:fJ x){a r:Nat}(c:x[a]?=Z r):aT.below x (r+1)=a+1:=by
 let@⟨g,e,n⟩:=uH s (r+1);let⟨@U,d⟩:=oi.mp c;have b:x.getD a (r+1)=r:=by simp[Array.getD,U,d]
 rcases rO (aT.below x<|r+1) (a+1) with z|z|z
 ·have:=n a ⋯ U;lia
 ·exact z
 ·have E:=e (a+1) z;have f:=sC s (v:=r+1) (kE a) ⋯;lia
theorem Q2(s:fJ x):aT.below x 0=0:=by
 let@⟨g,e,n⟩:=uH s 0;rcases z5 (aT.below x 0) with c|c
 ·exact c
 ·exact absurd (e 0 c) (qR _)
theorem VM(s:fJ x){r:Nat}(c:¬ (x[aT.below x r]?=Z r)):fJ (aT.insertAt x (aT.below x r) r):=by
 let@⟨g,e,n⟩:=uH s r;unfold fJ;rw[I_];refine E5.mpr ⟨FG (th _ _) s,gB.mpr ⟨λH a=>?_,FG (uD _ _) s⟩,λh j H a=>?_⟩
 ·let⟨q,b,rfl⟩:=ks.mp a;rw[pw];have Xi:aT.below x r+q<x.size:=by simp at b;lia
  have z:=n (aT.below x r+q) (jU _ _) Xi;have d:x.getD (aT.below x r+q) r=x.toList[aT.below x r+q]:=by simp[Array.getD,Xi]
  rw[d]at z;refine Nat.lt_of_le_of_ne z λf=>?_;rcases z5 q with h0|h0
  ·subst h0;apply c;rw[oi];exact⟨⋯,by simpa using f.symm⟩
  ·have E:=sC s (v:=r) (Fq (n:=aT.below x r) h0) Xi;have l:=n (aT.below x r) (ba _) ⋯;rw[d]at E;exact absurd f (cZ<|va l E)
 ·let⟨q,b,rfl⟩:=ks.mp j;rw[tY];have m:q<aT.below x r:=by simp at b;lia
  have Xi:q<x.size:=⋯
  have z:=e q m;have d:x.getD q r=x.toList[q]:=by simp[Array.getD,Xi]
  rw[d]at z;rcases bO.mp a with rfl|a
  ·exact z
  ·let⟨k,o,rfl⟩:=ks.mp a;rw[pw];have i:aT.below x r+k<x.size:=by simp at o;lia
   have E:=n (aT.below x r+k) (jU _ _) i;have p:x.getD (aT.below x r+k) r=x.toList[aT.below x r+k]:=by simp[Array.getD,i]
   rw[p]at E;exact fI z E
structure k1(i:aT)(led:Bool):Prop where
 rise:fJ i.place
 qc:i.dummies=#[]
 led:i.led=led
theorem k1.Wr(c:k1 i b)(e:Bool):k1 {i with plain:=e} b:=⟨c.rise,c.qc,c.led⟩
theorem Kh(r:Nat):aT.has #[] r=au:=rfl
theorem KG(hd:i.dummies=#[])(r:Nat):(∃a,i.slot r=.live a)\/(i.slot r=.empty/\¬ (i.place[aT.below i.place r]?=Z r)):=by
 unfold aT.slot;dsimp only;by_cases c:(i.place[aT.below i.place r]? == Z r)=aa
 ·rw[aA c];exact .inl ⟨_,rfl⟩
 ·rw[aI c,hd,Kh];exact .inr ⟨rfl,λd=>c (by rw[d];exact kH _)⟩
theorem k1.put(c:k1 i b){r:Nat}(a:¬ (i.place[aT.below i.place r]?=Z r)):k1 (i.put r).1 b:=by
 refine⟨VM c.rise a,?_,c.led⟩;show (if aT.has i.dummies r=aa then _ else i.dummies)=#[];rw[c.qc,Kh];rfl
theorem Ph{j n o:Nat}{p:Bool}{Xi:Array Int}{m:Array Nat}(d:aT.laid j n o b p Xi=Z (i,m)):k1 i b:=by
 unfold aT.laid at d;cases c:aT.layClean j Xi with
 |none=>rw[c]at d;cases d
 |some XQ=>
  rw[c]at d;cases d;refine⟨?_,rfl,rfl⟩;show (List.map (λh:Nat×Nat=>h.1)<|List.filterMap (λr=>Option.map (λh=>(r,h))<|XQ.getD r Y)<|range<|j+1).Pairwise (· < ·);rw[F2];refine PB _ (R:=(· < ·)) (λg e q h a H f=>?_) BO;cases k:XQ.getD g Y with
  |none=>rw[k]at a;cases a
  |some L=>
   cases l:XQ.getD e Y with
   |none=>rw[l]at f;cases f
   |some u=>
    rw[k]at a;rw[l]at f;cases a;cases f;exact q
noncomputable def qi(k:Nat)(o:aT.Probe):aT.Probe:=
 if o.more>0 then {o with j:=o.j+1,more:=o.more-1} else
 {o with j:=(aT.leap k o.i o.perturb).1,more:=aT.runEnd k (aT.leap k o.i o.perturb).1-(aT.leap k o.i o.perturb).1,i:=(aT.leap k o.i o.perturb).1,perturb:=(aT.leap k o.i o.perturb).2}
def qu(k a pt:Nat):aT.Probe:={j:=a,more:=aT.runEnd k a-a,i:=a,perturb:=pt,dummy:=Y}
def cE(k:Nat)(c:Int):Nat->aT.Probe
 |0=>qu k (aT.bits c%(k+1)) (aT.bits c)
 |q+1=>qi k (cE k c q)
noncomputable def dd(k:Nat)(c:Int):Nat->Nat×Nat
 |0=>(aT.bits c%(k+1),aT.bits c)
 |p+1=>aT.leap k (dd k c p).1 (dd k c p).2
theorem A_(k:Nat)(c:Int):∀q,(cE k c q).dummy=Y
 |0=>rfl
 |q+1=>by
  rw[cE,qi];split
  ·exact A_ k c q
  ·exact A_ k c q
theorem Q1(k a:Nat):aT.runEnd k a-a<=9:=by
 unfold aT.runEnd;split<;>lia
theorem qb{k:Nat}{c:Int}{q a pt:Nat}(d:cE k c q=qu k a pt):∀s,s<=aT.runEnd k a-a->cE k c (q+s)={qu k a pt with j:=a+s,more:=aT.runEnd k a-a-s}
 |0,_=>d
 |s+1,b=>by
  show qi k (cE k c<|q+s)=_;rw[qb d s ⋯,qi,aA (show aT.runEnd k a-a-s>0 by lia)];rfl
theorem Uh{c:Int}{q pt:Nat}(d:cE k c q=qu k a pt):cE k c (q+(aT.runEnd k a-a)+1)=qu k (aT.leap k a pt).1 (aT.leap k a pt).2:=by
 show qi k (cE k c<|q+(aT.runEnd k a-a))=_;rw[qb d _ (ba _),qi,aI (show ¬ (aT.runEnd k a-a-(aT.runEnd k a-a)>0) by lia)];rfl
def gu(k:Nat)(c:Int):Nat->Nat
 |0=>0
 |p+1=>gu k c p+(aT.runEnd k (dd k c p).1-(dd k c p).1)+1
theorem q3(k:Nat)(c:Int):∀p,cE k c (gu k c p)=qu k (dd k c p).1 (dd k c p).2
 |0=>rfl
 |p+1=>Uh (q3 k c p)
theorem Cg(k:Nat)(c:Int):∀p,gu k c p<=10*p
 |0=>ba _
 |p+1=>by
  have:=Cg k c p;have:=Q1 k (dd k c p).1;show gu k c p+_+1<=_;lia
theorem DQ(k:Nat)(c:Int):∀q,∃p s,q=gu k c p+s/\s<=aT.runEnd k (dd k c p).1-(dd k c p).1
 |0=>⟨0,0,rfl,gC _⟩
 |q+1=>by
  let⟨p,@s,d,a⟩:=DQ k c q;by_cases C:s+1<=aT.runEnd k (dd k c p).1-(dd k c p).1
  ·exact⟨p,s+1,⋯,C⟩
  ·exact⟨p+1,0,by show _=gu k c p+_+1+0;lia,gC _⟩
noncomputable def i3(k:Nat):Nat->Nat->Nat
 |0,h=>h
 |q+1,h=>(i3 k q h*5+1)%(k+1)
theorem tk(k:Nat)(g h:Nat):∀e,i3 k (g+e) h=i3 k e (i3 k g h)
 |0=>rfl
 |e+1=>by
  show (i3 k (g+e) h*5+1)%(k+1)=_;rw[tk k g h e];rfl
noncomputable def uU(k:Nat):Nat->Nat->Nat->Nat
 |0,_,a=>a
 |q+1,h,a=>uU k q ((h*5+1)%(k+1)) (a ||| 2^h)
theorem Lu(k q h:Nat):i3 k q ((h*5+1)%(k+1))=i3 k (q+1) h:=by
 rw[tb q 1,tk];rfl
theorem Gu{k:Nat}:∀{w h H a:Nat},(uU k w h a).testBit H=aa->a.testBit H=aa\/∃q,q<w/\i3 k q h=H
 |0,_,_,_,c=>.inl c
 |w+1,h,H,a,c=>by
  rcases Gu (w:=w) c with c|⟨q,z,E⟩
  ·rw[Nat.testBit_or,t8]at c;rcases c with c|c
   ·exact .inl c
   ·rw[Nat.testBit_two_pow,gE]at c;exact .inr ⟨0,sW _,c⟩
  ·exact .inr ⟨q+1,Nat.succ_lt_succ z,by rw[<-Lu];exact E⟩
def Ac(k:Nat):Bool:=beq (uU k (k+1) 0 0) (2^(k+1)-1)&&beq (i3 k (k+1) 0) 0
theorem PU(n:Ac k=aa){g h:Nat}(d:g<=k)(e:h<=k):∃q,q<=k/\i3 k q g=h:=by
 rw[Ac,cU]at n;have C:=B7 n.2;have all:∀H,H<=k->∃q,q<k+1/\i3 k q 0=H:=λH f=>by
  have p:(uU k (k+1) 0 0).testBit H=aa:=by
   rw[B7 n.1,Nat.testBit_two_pow_sub_one];exact dU (Fx f)
  rcases Gu p with c|c
  ·rw[Nat.zero_testBit]at c;cases c
  ·exact c
 let⟨@a,z,rfl⟩:=all g d;let⟨@b,E,rfl⟩:=all h e;rcases gz b a with c|c
 ·refine⟨b+(k+1-a),by omega,?_⟩;rw[<-tk,show a+(b+(k+1-a))=(k+1)+b by omega,tk,C]
 ·refine⟨b-a,by omega,?_⟩;rw[<-tk,show a+(b-a)=b by omega]
def iT(k:Nat):Prop:=k=7\/k=31\/k=127\/k=511
theorem iT.RP(I:iT k):Ac k=aa:=by
 rcases I with rfl|rfl|rfl|rfl<;>decide +kernel
theorem R6(c:Int):aT.bits c<2^64:=by
 unfold aT.bits;have z:=mv c (show (2^64:Int)≠0 by decide);have E:=nh c (show (0:Int)<2^64 by decide);lia
theorem CC(k:Nat)(c:Int):∀p,(dd k c p).2=aT.bits c/32^p
 |0=>by rw[Nat.pow_zero,Nat.div_one];rfl
 |p+1=>by
  show (dd k c p).2/32=_;rw[CC k c p,Nat.div_div_eq_div_mul];rfl
theorem zF(k:Nat)(c:Int):∀p,(dd k c p).1<=k
 |0=>rY (qO _<|sW _)
 |p+1=>rY (qO _<|sW _)
theorem F1(k:Nat)(c:Int):∀q,dd k c (13+q)=(i3 k q (dd k c 13).1,0)
 |0=>by
  have d:(dd k c 13).2=0:=by
   rw[CC];exact Nat.div_eq_of_lt (qz (R6 c) (by decide))
  show dd k c 13=((dd k c 13).1,0);rw[<-d]
 |q+1=>by
  show aT.leap k (dd k c<|13+q).1 (dd k c<|13+q).2=_;rw[F1 k c q];show ((i3 k q (dd k c 13).1*5+1+0/32)%(k+1),0/32)=_;rw[Nat.zero_div,GI];rfl
theorem Gi(I:iT k)(c:Int){h:Nat}(a:h<=k):∃p,p+1<aT.turns k/\(dd k c p).1=h:=by
 let⟨@q,z,E⟩:=PU I.RP (zF k c 13) a;exact⟨13+q,by unfold aT.turns;lia,by rw[F1];exact E⟩
theorem SO(I:iT k)(c:Int){h:Nat}(a:h<=k):∃q,q<10*aT.turns k/\(cE k c q).j=h:=by
 let⟨@p,z,E⟩:=Gi I c a;refine⟨gu k c p,by have:=Cg k c p;lia,?_⟩;rw[q3];exact E
theorem F6(c:a<=k):aT.runEnd k a<=k:=by unfold aT.runEnd;split<;>omega
theorem C2(k:Nat)(c:Int)(q:Nat):(cE k c q).j<=k:=by
 let⟨p,@s,rfl,a⟩:=DQ k c q;rw[qb (q3 k c p) s a];have:=F6 (zF k c p);have d:aT.runEnd k (dd k c p).1 >= (dd k c p).1:=by unfold aT.runEnd;split<;>lia
 show (dd k c p).1+s<=k;lia
theorem wQ{Xx:Type}[DecidableEq Xx]:∀{t k:List Xx},t.Nodup->(∀h∈t,h∈k)->t.length<=k.length
 |[],k,_,_=>gC _
 |g::t,k,ag,c=>by
  have a:=g5.mp ag;have p:=wQ (t:=t) (k:=k.erase g) a.2 λh b=>(v_ (λd:h=g=>a.1<|d ▸ b)).mpr (c h<|.tail _ b);have e:=c g (.head _);rw[Gs e]at p;have:=Ko e;rw[c3];lia
def fY(k:Nat)(iI:Nat->Prop)(c:Int)(r:Nat):Prop:=∃q,(cE k c q).j=r/\∀a,a<q->iI (cE k c a).j
theorem fY.mono{iI b:Nat->Prop}{c:Int}{r:Nat}(s:fY k iI c r)(a:∀h,iI h->b h):fY k b c r:=let ⟨q,d,g⟩:=s;⟨q,d,λe C=>a _<|g e C⟩
structure ql(i:aT)(Xi:List Int):Prop where
 m2:iT i.mask
 len:i.place.size=Xi.length
 loose:i.place.size*5<i.mask*3
 le:∀r∈i.place.toList,r<=i.mask
 o_:∀o∈i.place.toList.zip Xi,fY i.mask (·∈i.place.toList) o.2 o.1
theorem iT.pos(I:iT k):7<=k/\k<=511/\k%2=1:=by rcases I with rfl|rfl|rfl|rfl<;>decide
theorem QO(s:fJ i.place){r:Nat}(c:r∈i.place.toList):∃a,i.slot r=.live a/\i.place[a]?=Z r:=by
 let⟨a,U,d⟩:=ks.mp c;have b:i.place[a]?=Z r:=by
  rw[<-eS,dv U,d]
 refine⟨a,?_,b⟩;unfold aT.slot;dsimp only;rw[zb s b,b,aA<|kH _]
theorem Wx(hd:i.dummies=#[]){r:Nat}(c:r∉i.place.toList):i.slot r=.empty:=by
 rcases KG hd r with ⟨a,d⟩|⟨d,_⟩
 ·unfold aT.slot at d;dsimp only at d;split at d
  ·next p=>
   have b:=eq_of_beq p;refine absurd ?_ c;rw[<-eS]at b;exact fH b
  ·split at d<;>cases d
 ·exact d
theorem ql.some(j:ql i Xi)(c:Int):∃q,q<10*aT.turns i.mask/\(cE i.mask c q).j∉i.place.toList:=by
 have:∃h,h<=i.mask/\h∉i.place.toList:=by
  refine sx λn=>?_;have p:=wQ (t:=range (i.mask+1)) (k:=i.place.toList) rC λh a=>sx λC=>n ⟨h,rY<|eJ.mp a,C⟩;rw[gU,dr]at p;have:=j.loose;lia
 let⟨@h,z,E⟩:=this;let⟨@q,XF,XH⟩:=SO j.m2 c z;exact⟨q,XF,by rw[XH];exact E⟩
theorem Ib{i:aT}(s:fJ i.place)(hd:i.dummies = #[])(f:Nat -> Int)(c:Int): ∀(fuel b:Nat),(∃q,b <= q /\ q<b+fuel /\ (cE i.mask c q).j ∉ i.place.toList) ->
    ∃XF,b <= XF /\ (∀q,b <= q -> q<XF -> ∃a,i.place[a]? = Z (cE i.mask c q).j /\ f a ≠ c) /\
      ((aT.probe.go i f c fuel (cE i.mask c b)=Z (.empty (cE i.mask c XF).j Y) /\ (cE i.mask c XF).j ∉ i.place.toList) \/
        ∃a,aT.probe.go i f c fuel (cE i.mask c b)=Z (.candidate (cE i.mask c XF).j a<|cE i.mask c<|XF+1) /\ i.slot (cE i.mask c XF).j=.live a /\ i.place[a]? = Z (cE i.mask c XF).j /\ f a=c)
  |0,b,⟨q,g,e,_⟩ => absurd g ⋯
  |fuel+1,b,⟨q,g,e,n⟩ => by
    by_cases C:(cE i.mask c b).j ∈ i.place.toList
    · let⟨@a,h,k⟩:=QO s C
      by_cases p:f a=c
      · refine ⟨b,ba _,λq z E => absurd z ⋯,.inr ⟨a, ?_,h,k,p⟩⟩
        unfold aT.probe.go;rw [h];dsimp only;rw [aA (by rw [p]; exact kH _)];rfl
      · have ne:q ≠ b:=λd => n (d ▸ C)
        let⟨@XF,z,E,l⟩:=Ib s hd f c fuel (b+1) ⟨q,⋯,⋯,n⟩;have d:aT.probe.go i f c (fuel+1) (cE i.mask c b)=aT.probe.go i f c fuel (cE i.mask c<|b+1):=by
          rw [aT.probe.go,h];dsimp only;rw [aI (by rw [oQ]; exact p)];rfl
        refine ⟨XF,⋯,λq o m => ?_,by rw [d]; exact l⟩;rcases gz b q with I|I
        · exact E q I m
        · rw [show q=b by lia]; exact ⟨a,k,p⟩
    · refine ⟨b,ba _,λq z E => absurd z ⋯,.inl ⟨?_,C⟩⟩
      unfold aT.probe.go;rw [Wx hd C];dsimp only;rw [A_]
theorem x7(x:Array Xx)(o:Nat)(h:Xx):(aT.insertAt x o h).toList=x.toList.take o++h::x.toList.drop o:=I_ x o h
theorem sV{t:List Xx}{o:Nat}{h H:Xx}:H∈t.take o++h::t.drop o↔H=h\/H∈t:=by
 constructor
 ·intro c;rcases ee.mp c with c|c
  ·exact .inr (n5 c)
  ·rcases bO.mp c with c|c
   ·exact .inl c
   ·exact .inr (m3 c)
 ·rintro (rfl|c)
  ·exact fj _ (.head _)
  ·rw[<-fT o t]at c;rcases ee.mp c with c|c
   ·exact gc _ c
   ·exact fj _ (.tail _ c)
theorem PE{g:List Xx}{e:List Ya}(b:g.length=e.length)(o:Nat)(h:Xx)(H:Ya):(g.take o++h::g.drop o).zip (e.take o++H::e.drop o)=(g.zip e).take o++(h,H)::(g.zip e).drop o:=by
 rw[Fv (by rw[gv,gv,b]),zl];have c:∀(o:Nat) (g:List Xx) (e:List Ya),(g.take o).zip (e.take o)=(g.zip e).take o:=λo=>by
  induction o with
  |zero=>intro g e;rfl
  |succ o a=>intro g e;cases g with
   |nil=>rfl
   |cons h g=>cases e with
    |nil=>rfl
    |cons H e=>exact congrArg ((h,H)::·) (a g e)
 have d:∀(o:Nat) (g:List Xx) (e:List Ya),(g.drop o).zip (e.drop o)=(g.zip e).drop o:=λo=>by
  induction o with
  |zero=>intro g e;rfl
  |succ o a=>intro g e;cases g with
   |nil=>rfl
   |cons h g=>cases e with
    |nil=>show (g.drop o).zip []=_;rw[List.zip_nil_right];rfl
    |cons H e=>exact a g e
 rw[c,d]
theorem ql.put(j:ql i Xi){c:Int}{q:Nat}(k:(cE i.mask c q).j∉i.place.toList)(f:∀a,a<q->(cE i.mask c a).j∈i.place.toList):
  (∀r∈(i.put (cE i.mask c q).j).1.place.toList,r<=i.mask)/\∀o∈(i.put (cE i.mask c q).j).1.place.toList.zip (Xi.take (i.put (cE i.mask c q).j).2++c::Xi.drop (i.put (cE i.mask c q).j).2),fY i.mask (·∈(i.put (cE i.mask c q).j).1.place.toList) o.2 o.1:=by
 have d:(i.put (cE i.mask c q).j).1.place.toList=i.place.toList.take (i.put (cE i.mask c q).j).2++(cE i.mask c q).j::i.place.toList.drop (i.put (cE i.mask c q).j).2:=x7 _ _ _;rw[d];refine⟨λr e=>?_,λo b=>?_⟩
 ·rcases sV.mp e with rfl|e
  ·exact C2 _ _ _
  ·exact j.le r e
 ·rw[PE (by rw[dr];exact j.len)]at b;rcases sV.mp b with rfl|b
  ·exact⟨q,rfl,λa C=>sV.mpr<|.inr<|f a C⟩
  ·exact (j.o_ o b).mono λh g=>sV.mpr (.inr g)
def mq(XQ:Array (Option Nat))(r:Nat):Prop:=(XQ.getD r<|Z 0).isSome=aa
theorem JP{k:Nat}(XQ:Array (Option Nat))(c:Int):∀(fuel p:Nat),(∀a,a<gu k c p->mq XQ (cE k c a).j)->(∃b,p<=b/\b<p+fuel/\¬ mq XQ (dd k c b).1)->
  ∃r,aT.layClean.free k XQ fuel (dd k c p).1 (dd k c p).2=Z r/\r<=k/\¬ mq XQ r/\fY k (mq XQ) c r
 |0,p,_,⟨b,g,e,_⟩=>absurd g ⋯
 |fuel+1,p,f,⟨b,g,e,n⟩=>by
  unfold aT.layClean.free;have le:aT.runEnd k (dd k c p).1<=k:=F6 (zF k c p);have Yx:(dd k c p).1<=aT.runEnd k (dd k c p).1:=by unfold aT.runEnd;split<;>lia
  cases h:(range<|aT.runEnd k (dd k c p).1+1-(dd k c p).1).find? (λq=>(XQ.getD ((dd k c p).1+q)<|Z 0).isNone) with
  |some q=>
   dsimp only;rw[List.find?_range_eq_some]at h;let@⟨z,E,m⟩:=h;have o:q<aT.runEnd k (dd k c p).1+1-(dd k c p).1:=eJ.mp E;refine⟨_,rfl,⋯,?_,gu k c p+q,?_,λa i=>?_⟩
   ·unfold mq;intro C;rw[Option.isNone_iff_eq_none]at z;rw[z]at C;cases C
   ·rw[qb (q3 k c p) q ⋯]
   ·rcases gz a (gu k c p) with C|C
    ·exact f a C
    ·have d:a=gu k c p+(a-gu k c p):=⋯
     rw[d,qb (q3 k c p) (a-gu k c p) ⋯];have:=m (a-gu k c p) ⋯;show (XQ.getD ((dd k c p).1+(a-gu k c p))<|Z 0).isSome=aa;cases l:XQ.getD ((dd k c p).1+(a-gu k c p)) (Z 0) with
     |none=>rw[l]at this;cases this
     |some _=>rfl
  |none=>
   dsimp only;rw[List.find?_range_eq_none]at h;have iI:∀q,q<aT.runEnd k (dd k c p).1+1-(dd k c p).1->mq XQ ((dd k c p).1+q):=λq f=>by
    have:=h q f;unfold mq;cases l:XQ.getD ((dd k c p).1+q) (Z 0) with
    |none=>rw[l]at this;cases this
    |some _=>rfl
   have ne:b≠p:=λd=>n (by rw[d];exact iI 0 ⋯);refine JP XQ c fuel (p+1) (λa i=>?_) ⟨b,⋯,⋯,n⟩;rcases gz a (gu k c p) with C|C
   ·exact f a C
   ·have s:a<gu k c p+(aT.runEnd k (dd k c p).1-(dd k c p).1)+1:=i;have d:a=gu k c p+(a-gu k c p):=⋯
    rw[d,qb (q3 k c p) (a-gu k c p) ⋯];exact iI _ ⋯
structure l2(k:Nat)(XQ:Array (Option Nat))(Xo:List Nat)(Xi:List Int):Prop where
 size:XQ.size=k+1
 len:Xo.length=Xi.length
 ag:Xo.Nodup
 le:∀r∈Xo,r<=k
 own:∀(r q:Nat),XQ[r]?=Z (Z q)↔Xo[q]?=Z r
 o_:∀o∈Xo.zip Xi,fY k (·∈Xo) o.2 o.1
theorem l2.iI(A:l2 k XQ Xo Xi){r:Nat}(c:r<=k):mq XQ r↔r∈Xo:=by
 have b:r<XQ.size:=by rw[A.size];lia
 unfold mq;rw[show XQ.getD r (Z 0)=XQ[r] by simp[Array.getD,b]];have d:XQ[r]?=Z XQ[r]:=ju b;constructor
 ·intro C;let⟨@q,a⟩:=Di.mp C;rw[a]at d;exact fH ((A.own r q).mp d)
 ·intro C;let⟨@q,a⟩:=uV C;have:=(A.own r q).mpr a;rw[d]at this;rw[Option.some.inj this];rfl
theorem l2.step{k:Nat}(I:iT k){XQ:Array (Option Nat)}{Xo:List Nat}{Xi:List Int}(A:l2 k XQ Xo Xi)(F:Xi.length<=k)(c:Int):
  ∃r,aT.layClean.free k XQ (aT.turns k) (aT.bits c%(k+1)) (aT.bits c)=Z r/\l2 k (XQ.setIfInBounds r<|Z Xi.length) (Xo++[r]) (Xi++[c]):=by
 have room:∃h,h<=k/\h∉Xo:=by
  refine sx λn=>?_;have p:=wQ (t:=range (k+1)) (k:=Xo) rC λh f=>sx λC=>n ⟨h,rY<|eJ.mp f,C⟩;rw[gU,A.len]at p;lia
 let⟨@h,j,w⟩:=room;let⟨@p,G,x⟩:=Gi I c j;let⟨@r,y,m,z,B⟩:=JP (k:=k) XQ c (aT.turns k) 0 (λs i=>absurd i<|qR _) ⟨p,gC _,⋯,by rw[x];exact λC=>w<|(A.iI j).mp C⟩;have u:r∉Xo:=λC=>z ((A.iI m).mpr C);have D:r<XQ.size:=by rw[A.size];lia
 refine⟨r,y,by rw[Array.size_setIfInBounds,A.size],by rw[c7,c7,A.len];rfl,?_,?_,λv q=>?_,?_⟩
 ·exact dN.mpr ⟨A.ag,fP _ _,λg a e E d=>u (by rw[<-cK.mp E,<-d];exact a)⟩
 ·intro g a;rcases ee.mp a with a|a
  ·exact A.le g a
  ·rw[cK.mp a];exact m
 ·rw[Array.getElem?_setIfInBounds];by_cases d:r=v
  ·subst d;rw[aA rfl,aA D];constructor
   ·intro C;cases C;rw[<-A.len,jS<|ba _,Br];rfl
   ·intro C;rcases gz q Xo.length with l|l
    ·rw[kb l]at C;exact absurd (fH C) u
    ·rw[jS l]at C;have:q-Xo.length=0:=by
      have:=(ek.mp C).1;rw[nX]at this;lia
     rw[show q=Xi.length by rw[<-A.len];lia]
  ·rw[aI d,A.own v q];rcases gz q Xo.length with l|l
   ·rw[kb l]
   ·rw[jS l,rJ l];constructor
    ·intro C;cases C
    ·intro C;have:=fH C;exact absurd (cK.mp this) (λC=>d C.symm)
 ·intro o b;rw[Fv A.len]at b;rcases ee.mp b with b|b
  ·exact (A.o_ o b).mono λh f=>gc _ f
  ·rw[zl,List.zip_nil_left]at b;rw[cK.mp b];let⟨@q,d,g⟩:=B;exact⟨q,d,λs i=>gc _<|(A.iI<|C2 _ _ _).mp<|g s i⟩
theorem Fm{k:Nat}(I:iT k):∀(c4 Xi:List Int) (XQ:Array (Option Nat)) (Xo:List Nat),l2 k XQ Xo Xi->(Xi++c4).length<=k->
  ∃a b,c4.foldl (λ(i:Option (Array (Option Nat)×Nat)) c=>do
   let (f,q) <-i
   let r <-aT.layClean.free k f (aT.turns k) (aT.bits c%(k+1)) (aT.bits c)
   pure (f.setIfInBounds r<|Z q,q+1)) (Z (XQ,Xi.length))=Z (a,(Xi++c4).length)/\l2 k a b (Xi++c4)
 |[],Xi,XQ,Xo,A,_=>⟨XQ,Xo,by rw[cC];rfl,by rw[cC];exact A⟩
 |c::c4,Xi,XQ,Xo,A,g=>by
  let⟨@r,d,j⟩:=A.step I (by rw[c7]at g;lia) c;let⟨a,@b,e,h⟩:=Fm I c4 (Xi++[c]) _ _ j (by rw[bt];exact g);rw[bt]at e h;refine⟨a,b,?_,h⟩;rw[lT];rw[show (Xi++[c]).length=Xi.length+1 from c7]at e;refine Eq.trans (congrArg (λC=>List.foldl _ C c4) ?_) e;show (aT.layClean.free k XQ (aT.turns k) (aT.bits c%(k+1))<|aT.bits c).bind _=_;rw[d];rfl
theorem OH(I:iT k)(Xi:Array Int)(a:Xi.size<=k):∃XQ Xo,aT.layClean k Xi=Z XQ/\l2 k XQ Xo Xi.toList:=by
 have b:l2 k (Array.replicate (k+1) Y) [] []:=by
  refine⟨Array.size_replicate,rfl,iH,λ_ c=>(fO c).elim,λr q=>⟨λC=>?_,λC=>?_⟩,λ_ c=>(fO c).elim⟩
  ·have:=(oi.mp C).2;rw[Array.getElem_replicate]at this;cases this
  ·simp at C
 let⟨XQ,@Xo,d,A⟩:=Fm I Xi.toList [] _ _ b (by rw[jb,dr];exact a);refine⟨XQ,Xo,?_,A⟩;unfold aT.layClean;rw[<-Array.foldl_toList];exact congrArg (Option.map (·.1)) d
theorem S7{o:Nat×Nat}:o∈(range<|k+1).filterMap (λr=>(XQ.getD r Y).map (r,·))↔o.1<=k/\XQ[o.1]?=Z (Z o.2):=by
 rw[uF];constructor
 ·rintro⟨r,z,E⟩;let⟨@q,a,rfl⟩:=cD.mp E;refine⟨rY<|eJ.mp z,?_⟩;show XQ[r]?=Z (Z q);by_cases C:r<XQ.size
  ·rw[show XQ.getD r Y=XQ[r] by simp[Array.getD,C]]at a;rw[ju C,a]
  ·rw[show XQ.getD r Y=Y by simp[Array.getD,C]]at a;cases a
 ·rintro⟨z,E⟩;refine⟨o.1,eJ.mpr<|Fx z,?_⟩;let⟨@C,d⟩:=oi.mp E;rw[show XQ.getD o.1 Y=XQ[o.1] by simp[Array.getD,C],d];rfl
theorem Kj{Xx Ya:Type}:∀{t:List (Xx×Ya)},(t.map (·.1)).Nodup->(∀g∈t,∀e∈t,g.2=e.2->g.1=e.1)->(t.map (·.2)).Nodup
 |[],_,_=>iH
 |h::t,c,a=>by
  rw[cw]at c ⊢;have M:=g5.mp c;refine g5.mpr ⟨λC=>?_,Kj M.2 λg f e i=>a g (.tail _ f) e<|.tail _ i⟩;let⟨@H,b,d⟩:=cN.mp C;have:=a H (.tail _ b) h (.head _) d;exact M.1 (by rw[<-this];exact so b)
theorem G7{Xx Ya YB:Type}(F:Xx->Ya)(I:Xx->YB):∀t:List Xx,(t.map F).zip (t.map I)=t.map λh=>(F h,I h)
 |[]=>rfl
 |h::t=>congrArg (_::·) (G7 F I t)
theorem Vn{l:Nat}(I:iT (aT.sizeAbove l-1))(C:S.size*5<(aT.sizeAbove l-1)*3){b:Bool}(q:i.led=b):
  ∃XM v,i.relaid (S.map (·.1)) l=Z (XM,v)/\v.toList.Perm (range S.size)/\k1 XM b/\ql XM ((v.filterMap (S[·]?)).toList.map (·.1)):=by
 let⟨XQ,@Xo,d,A⟩:=OH I (S.map (·.1)) (by rw[x_];lia);generalize D:aT.sizeAbove l-1=k at *;have s:i.relaid (S.map (·.1)) l=Z ({mask:=k,place:=(((range<|k+1).filterMap λr=>(XQ.getD r Y).map (r,·)).map (·.1)).toArray,dummies:=#[],finger:=i.finger,led:=i.led,moves:=i.movedTo k,plain:=i.plain},(((range<|k+1).filterMap λr=>(XQ.getD r Y).map (r,·)).map (·.2)).toArray):=by
  unfold aT.relaid aT.laid;rw[D,d];rfl
 have j:=λ(o:Nat×Nat)=>S7 (k:=k) (XQ:=XQ) (o:=o);have t:(((range<|k+1).filterMap λr=>(XQ.getD r Y).map (r,·)).map (·.1)).Pairwise (· < ·):=by
  have:=(Ph (i:=_) (m:=_) s);exact this.rise
 generalize F:(range<|k+1).filterMap (λr=>(XQ.getD r Y).map (r,·))=X3 at s j t;have Xu:∀o∈X3,Xo[o.2]?=Z o.1:=λo f=>(A.own _ _).mp ((j o).mp f).2;have lt:∀o∈X3,o.2<S.size:=λo f=>by
  have:=(ek.mp<|Xu o f).1;rw[A.len,dr,x_]at this;exact this
 have w:(X3.map (·.1)).Nodup:=t.imp λc=>cZ c;have x:(X3.map (·.2)).Nodup:=Kj w λg G e H d=>by
  have z:=Xu g G;have E:=Xu e H;rw[d]at z;exact Option.some.inj (z.symm.trans E)
 have perm:(X3.map (·.2)).Perm (range S.size):=by
  refine (wM x rC).mpr λh=>?_;rw[eJ];constructor
  ·intro c;let⟨@o,f,rfl⟩:=cN.mp c;exact lt o f
  ·intro c;have n:h<Xo.length:=by rw[A.len,dr,x_];exact c
   have z:Xo[h]?=Z Xo[h]:=dv n;exact cN.mpr ⟨(Xo[h],h),(j _).mpr ⟨A.le _<|r6 n,(A.own _ _).mpr z⟩,rfl⟩
 have y:X3.length=S.size:=by
  have:=perm.length_eq
  rwa [a9,gU]at this
 have B:((X3.map (·.2)).filterMap (S[·]?)).map (·.1)=X3.map λo=>(S.getD o.2 (0,.none)).1:=by
  clear j t Xu w x perm y s F;induction X3 with
  |nil=>rfl
  |cons o X3 J=>
   have f:=lt o (.head _);rw[cw,AJ<|ju f,cw,cw,J λp u=>lt p<|.tail _ u];congr 1;simp[Array.getD,f]
 refine⟨_,_,s,?_,⟨?_,rfl,q⟩,⟨I,?_,?_,?_,?_⟩⟩
 ·exact perm
 ·exact t
 ·rw[ze];show (X3.map (·.1)).toArray.size=(((X3.map (·.2)).filterMap (S[·]?)).map (·.1)).length;rw[B,cO,a9,a9]
 ·show (X3.map (·.1)).toArray.size*5<k*3;rw[cO,a9,y];exact C
 ·intro r L;let⟨@o,f,rfl⟩:=cN.mp L;exact ((j o).mp f).1
 ·rw[ze];show ∀o∈(X3.map (·.1)).zip (((X3.map (·.2)).filterMap (S[·]?)).map (·.1)),fY k (·∈X3.map (·.1)) o.2 o.1;rw[B,G7];intro o f;let⟨@p,u,rfl⟩:=cN.mp f;have z:=Xu p u;have E:((S.map (·.1)).toList)[p.2]?=Z (S.getD p.2 (0,.none)).1:=by
   have:=lt p u;rw[eS,Array.getElem?_map,ju this];simp[Array.getD,this]
  have M:(p.1,(S.getD p.2 (0,.none)).1)∈Xo.zip (S.map (·.1)).toList:=by
   refine fH (i:=p.2) ?_;rw[mi];exact⟨z,E⟩
  refine (A.o_ _ M).mono λh n=>?_;let⟨@q,N⟩:=uV n;exact cN.mpr ⟨(h,q),(j _).mpr ⟨A.le h n,(A.own _ _).mpr N⟩,rfl⟩
theorem L7(I:iT k)(z:w*5<k*3)(E:(w+1)*5 >= k*3)(a:w+1<=300):iT (aT.sizeAbove (aT.grown<|w+1)-1)/\(w+1)*5<(aT.sizeAbove (aT.grown<|w+1)-1)*3/\aT.sizeAbove (aT.grown<|w+1)<=512:=by
 rcases I with rfl|rfl|rfl|rfl
 ·rw[show w=4 by lia];exact⟨.inr (.inl (by decide)),by decide,by decide⟩
 ·rw[show w=18 by lia];exact⟨.inr (.inr (.inl (by decide))),by decide,by decide⟩
 ·rw[show w=76 by lia];exact⟨.inr (.inr (.inr (by decide))),by decide,by decide⟩
 ·lia
section
variable{Xm:bJ}{l:bc}{O:bw}{Xg:ab->ah->Prop}{f:ah}
end
section
variable{Xm:bJ}{l:bc}
theorem Kl:∀(w:Nat) {O:bw}{Xg:ab->ah->Prop}{f:ah}{v:V}{u:ab}{B:Bool->ah->Prop},V.key w v=aa->dM f.heap v u->(∀e,B e f)->wpAny (aM Xm l) O (vE w u) B Xg f
 |w,O,Xg,f,.int a,u,B,_,b,c=>by
  let⟨@i,rfl⟩:=b;rw[show vE w (.int a i)=pure aa from by cases w<;>rfl];exact aK (c _)
 |w,O,Xg,f,.str a,u,B,_,b,c=>by
  let⟨@i,rfl⟩:=b;rw[show vE w (.str a i)=pure au from by cases w<;>rfl];exact aK (c _)
 |w+1,O,Xg,f,.tup J,u,B,q,b,c=>by
  let⟨g,m,Xy,@k,rfl,j,o,hd,U⟩:=b;have p:f.TypeIs (.ref g) "tuple" := ⟨m,j,o⟩;unfold vE;refine ak (my p sy.lookup ?_);show wpAny _ _ (nq (.ref g) >>= _) _ _ f;refine ak (gJ j hd ?_);refine ak ?_;show wpAny _ _ (forIn Xy _ _) _ _ f;rw[<-px];rw[V.key]at q;refine nc _ (λc4 s Xe=>Xe=f/\∃left,V.keys w left=aa/\dI f.heap left c4) _ ?_ ?_ _ _ ⟨rfl,J,q,U⟩
  ·rintro u c4 s Xe ⟨rfl,left,h,n⟩;cases left with
   |nil=>cases (show u::c4=[] from n)
   |cons v left=>
    let⟨x,@X9,d,z,r⟩:=n;cases d;rw[V.keys,cU]at h;refine ak (Kl w h.1 z λe=>?_);cases e
    ·show wpAny _ _ (pure<|ForInStep.done _) _ _ _;exact aK (aK<|c _)
    ·show wpAny _ _ (pure<|ForInStep.yield _) _ _ _;exact aK ⟨rfl,left,h.2,r⟩
  ·rintro⟨t,y⟩ Xe ⟨rfl,W⟩;cases t with
   |none=>exact aK (c _)
   |some e=>exact aK (c _)
 |_,_,_,_,.aW,_,_,q,_,_=>by cases ‹Nat›<;>cases q
 |_,_,_,_,.aG _,_,_,q,_,_=>by cases ‹Nat›<;>cases q
 |_,_,_,_,.fn _,_,_,q,_,_=>by cases ‹Nat›<;>cases q
 |_,_,_,_,.aU _,_,_,q,_,_=>by cases ‹Nat›<;>cases q
 |_,_,_,_,.fd,_,_,q,_,_=>by cases ‹Nat›<;>cases q
 |0,_,_,_,.tup _,_,_,q,_,_=>by cases q
theorem yf:∀(w:Nat) {O:bw}{Xg:ab->ah->Prop}{f:ah}{v:V}{u:ab}{B:Bool->ah->Prop},V.key w v=aa->dM f.heap v u->B au f->wpAny (aM Xm l) O (wW w u) B Xg f
 |w,O,Xg,f,.int a,u,B,_,b,c=>by
  let⟨@i,rfl⟩:=b;rw[show wW w (.int a i)=pure au from by cases w<;>rfl];exact aK c
 |w,O,Xg,f,.str a,u,B,_,b,c=>by
  let⟨@i,rfl⟩:=b;rw[show wW w (.str a i)=pure au from by cases w<;>rfl];exact aK c
 |w+1,O,Xg,f,.tup J,u,B,q,b,c=>by
  let⟨g,m,Xy,@k,rfl,j,o,hd,U⟩:=b;have p:f.TypeIs (.ref g) "tuple" := ⟨m,j,o⟩;unfold wW;refine ak (wpAny_typeOf p ?_);dsimp only;rw[aA (show ("tuple" == "tuple")=aa by decide)];refine ak (aK ?_);simp only[q2,gQ,fx];refine ak (gJ j hd ?_);dsimp only;refine ak ?_;show wpAny _ _ (forIn Xy _ _) _ _ f;rw[<-px];rw[V.key]at q;refine nc _ (λc4 s Xe=>s.1=Y/\Xe=f/\∃left,V.keys w left=aa/\dI f.heap left c4) _ ?_ ?_ _ _ ⟨rfl,rfl,J,q,U⟩
  ·rintro u c4 s Xe ⟨e,rfl,left,h,n⟩;cases left with
   |nil=>cases (show u::c4=[] from n)
   |cons v left=>
    let⟨t,@X9,d,z,r⟩:=n;cases d;rw[V.keys,cU]at h;refine ak (yf w h.1 z ?_);simp only[gQ,fx];exact aK ⟨rfl,rfl,left,h.2,r⟩
  ·rintro⟨x,y⟩ Xe ⟨e,rfl,W⟩;simp only at e;subst e;exact aK c
 |_,_,_,_,.aW,_,_,q,_,_=>by cases ‹Nat›<;>cases q
 |_,_,_,_,.aG _,_,_,q,_,_=>by cases ‹Nat›<;>cases q
 |_,_,_,_,.fn _,_,_,q,_,_=>by cases ‹Nat›<;>cases q
 |_,_,_,_,.aU _,_,_,q,_,_=>by cases ‹Nat›<;>cases q
 |_,_,_,_,.fd,_,_,q,_,_=>by cases ‹Nat›<;>cases q
 |0,_,_,_,.tup _,_,_,q,_,_=>by cases q
theorem WC{O:bw}{Xg:ab->ah->Prop}{h:af}{B:Bool->ah->Prop}(b:(eC Xm l).is f.heap q h){Xc:List ab}(g:∀u∈Xc,∃e a,u=.ref e/\(eC Xm l).is f.heap a e)(c:B au f):
  wpAny (aM Xm l) O (ID (.ref h) Xc) B Xg f:=by
 unfold ID;refine ak ?_;refine nc _ (λc4 s Xe=>s.1=Y/\Xe=f/\∀u∈c4,∃e a,u=.ref e/\(eC Xm l).is f.heap a e) _ ?_ ?_ _ _ ⟨rfl,rfl,g⟩
 ·rintro u c4 s Xe ⟨i,rfl,j⟩;let⟨e,@a,rfl,d⟩:=j u (.head _);have k:∀u∈c4,∃e a,u=.ref e/\(eC Xm l).is Xe.heap a e:=λu g=>j u (.tail _ g);dsimp only;cases m:(h==e) with
  |true=>
   simp only[B9,ie];exact aK ⟨rfl,rfl,k⟩
  |false=>
   simp only[Iy];rw[aI (show ¬ ((Cm (ab.ref h)&&Cm (ab.ref e))=aa) from λC=>dy C)];refine ak (vd 8 (v:=.tup _) b.1 b.2 ?_);simp only[q2,gQ,fx];refine ak (vd 8 (v:=.tup _) d.1 d.2 ?_);simp only[q2,gQ,fx];refine ak (yf 8 (v:=.tup _) b.1 b.2 ?_);simp only[gQ,fx];refine ak (yf 8 (v:=.tup _) d.1 d.2 ?_);simp only[gQ,fx];exact aK ⟨rfl,rfl,k⟩
 ·rintro⟨n,o⟩ Xe ⟨i,rfl,W⟩;simp only at i;subst i;exact aK c
end
section
variable(l:bc)(Xs:List V->af->Prop)
def vU(C:List V×Int×ab):Prop:=∃e,C.2.2=.ref e/\C.2.1=c_ l (.tup C.1)/\Xs C.1 e
structure l5(S:Array (Int×ab))(i:aT)(b:Bool)(Xb:List (List V)):Prop where
 pY:∃Q:List (List V×Int×ab),Q.map (·.2)=S.toList/\(Q.map (·.1)).Perm Xb/\∀C∈Q,vU l Xs C
 tab:k1 i b
 bQ:ql i (S.toList.map (·.1))
 ag:Xb.Nodup
def fZ(c:aV)(g:af)(b:Bool)(Xb:List (List V)):Prop:=∃m S XN i,c.get? g=Z m/\m.ExactSet/\m.data=.set S XN i/\l5 l Xs S i b Xb
end
section
variable{Xm:bJ}{l:bc}{Xs:List V->af->Prop}{O:bw}{Xg:ab->ah->Prop}
theorem l5.size(y:l5 l Xs S i b Xb):i.place.size=S.size:=by
 rw[y.bQ.len,a9,dr]
theorem l5.fit(y:l5 l Xs S i b Xb):i.fits S.size=aa:=by
 have:=y.bQ.loose;unfold aT.fits aT.fill;rw[y.tab.qc,y.size,cU,oQ,gE];rw[y.size]at this;exact⟨rfl,by show S.size+0<=_;lia⟩
theorem l5.num(y:l5 l Xs S i b Xb):S.size=Xb.length:=by
 let⟨@Q,z,E,W⟩:=y.pY;rw[<-E.length_eq,a9,<-dr,<-z,a9]
theorem Fj(s:fJ x){a b r:Nat}(g:x[a]?=Z r)(e:x[b]?=Z r):a=b:=by
 rw[<-zb s g,<-zb s e]
theorem Wh{az:gA}{n:Bool}{k:dz Bool}{L s:dz Xx}{B:Xx->ah->Prop}(z:∀a:Bool->ah->Prop,a au f->wpAny az O k a Xg f)(E:wpAny az O s B Xg f):
  wpAny az O (if n=aa then (do let e <-k;if e=aa then L else s) else s) B Xg f:=by
 cases n
 ·rw[aI dy];exact E
 ·rw[aA rfl];refine ak (z _ ?_);rw[aI dy];exact E
theorem Hw{g h:af}{q:List V}{b:Bool}{Xb:List (List V)}{m:a0}{S:Array (Int×ab)}{XN:Nat}{i:aT}{f:ah}{B:SetFound->ah->Prop}{Q:List (List V×Int×ab)}(bs:O.units+20<bU)(H:f.heap.get? g=Z m)(hd:m.data=.set S XN i)(y:l5 l Xs S i b Xb)(J:(eC Xm l).is f.heap q h)(L:∀p e,Xs p e->(eC Xm l).is f.heap p e)(A:Q.map (·.2)=S.toList)(M:(Q.map (·.1)).Perm Xb)(N:∀C∈Q,vU l Xs C)(an:q∈Xb->B (.there Y) f)(ap:q∉Xb->∀cA,(cE i.mask (c_ l<|.tup q) cA).j∉i.place.toList->(∀c,c<cA->(cE i.mask (c_ l<|.tup q) c).j∈i.place.toList)->B (.free (cE i.mask (c_ l<|.tup q) cA).j au) f){iU:Nat}(D:(cE i.mask (c_ l<|.tup q) iU).j∉i.place.toList)(bv:iU<10*aT.turns i.mask):
  ∀(fuel k:Nat) (X:Option aT.Probe),X.getD (i.probeStart<|c_ l<|.tup q)=cE i.mask (c_ l<|.tup q) k->iU<k+fuel->(∀c,c<k->(cE i.mask (c_ l<|.tup q) c).j∈i.place.toList)->
   (∀(a c:Nat),c<k->i.place[a]?=Z (cE i.mask (c_ l<|.tup q) c).j->(Q.map (·.1))[a]?≠Z q)->
   wpAny (aM Xm l) O (D2 g (.ref h) (c_ l<|.tup q) aa fuel X) B Xg f
 |0,k,X,_,ca,F,_=>by
  refine absurd (F iU ⋯) D
 |fuel+1,k,X,cd,ca,F,Xi=>by
  have ce:k<=iU:=by
   rcases gz iU k with C|C
   ·exact absurd (F iU C) D
   ·exact C
  have ch:Q.length=S.size:=by rw[<-dr,<-A,a9]
  have P:∀(a:Nat) (p:List V),(Q.map (·.1))[a]?=Z p->∃d e,S[a]?=Z d/\d.2=.ref e/\d.1=c_ l (.tup p)/\(eC Xm l).is f.heap p e:=λa p n=>by
   let⟨@C,as,R⟩:=cD.mp (by rw[dZ]at n;exact n);let⟨@e,o,t,w⟩:=N C (fH as);subst R;refine⟨C.2,e,?_,o,t,L _ _ w⟩;rw[<-eS,<-A,dZ,as];rfl
  unfold D2;refine ak (la H hd y.fit ?_);dsimp only;rw[aI (by unfold aT.gaveWay;rw[oQ];have:=y.bQ.m2.pos;lia)];rw[cd];unfold aT.probe;let⟨@XF,fn,a1,ci⟩:=Ib y.tab.rise y.tab.qc (λa=>(S[a]?.map (·.1)).getD 0) (c_ l<|.tup q) (10*aT.turns i.mask) k ⟨iU,ce,⋯,D⟩;have iI:∀c,c<XF->(cE i.mask (c_ l<|.tup q) c).j∈i.place.toList:=λc x=>by
   rcases gz c k with C|C
   ·exact F c C
   ·let⟨@a,z,W⟩:=a1 c C x;rw[<-eS]at z;exact fH z
  have a2:∀(a c:Nat),c<XF->i.place[a]?=Z (cE i.mask (c_ l<|.tup q) c).j->(Q.map (·.1))[a]?≠Z q:=λa c x s n=>by
   rcases gz c k with C|C
   ·exact Xi a c C s n
   ·let⟨@bd,z,E⟩:=a1 c C x;have:=Fj y.tab.rise s z;subst this;let⟨d,@e,o,w,t,T⟩:=P a q n;rw[o]at E;exact E t
  generalize be:aT.probe.go i _ (c_ l<|.tup q) _ (cE i.mask (c_ l<|.tup q) k)=I;rcases ci with ⟨d,al⟩|⟨a,d,R,G,fr⟩
  ·cases be.symm.trans d;refine aK (ap (λcl=>?_) XF al iI);have co:=M.mem_iff.mpr cl;let⟨@a,U⟩:=uV co;let⟨d,@e,o,w,t,T⟩:=P a q U;have v:a<S.size:=(oi.mp o).1;have s:i.place[a]?=Z (i.place[a]'(by rw[y.size];exact v)):=ju (by rw[y.size];exact v);have cr:(i.place[a]'(by rw[y.size];exact v),c_ l<|.tup q)∈i.place.toList.zip (S.toList.map (·.1)):=by
    refine fH (i:=a) ?_;rw[mi];refine⟨by rw[eS];exact s,?_⟩;rw[dZ,eS,o,<-t];rfl
   let⟨@am,bi,cs⟩:=y.bQ.o_ _ cr;have db:am<XF:=by
    rcases rO am XF with C|C|C
    ·exact C
    ·refine absurd ?_ al;rw[<-C,bi];exact Array.getElem_mem_toList ..
    ·exact absurd (cs XF C) al
   exact a2 a am db (by rw[s,bi]) U
  ·cases be.symm.trans d;have v:a<Q.length:=by rw[ch,<-y.size];exact (oi.mp G).1
   have bm:(Q.map (·.1))[a]?=Z Q[a].1:=by rw[dZ,dv v];rfl
   let⟨ds,@e,o,w,t,T⟩:=P a _ bm;dsimp only;refine Wh (λf0 p=>WC J (λu dL=>?_) p) ?_
   ·let⟨@eq,ev,rfl⟩:=cN.mp dL;have bn:eq∈S.toList:=Hc.mpr (Array.mem_filter.mp<|Hc.mp ev).1;rw[<-A]at bn;let⟨@C,ex,rfl⟩:=cN.mp bn;let⟨@fd,XY,W,X1⟩:=N C ex;exact⟨fd,C.1,XY,L _ _ X1⟩
   ·let⟨f1,jB⟩:=ds;cases w;rw[o];dsimp only;refine ak (fl ((eC Xm l).eqBool (show O.units+10<bU by lia) T J ?_));refine ak (la H hd y.fit ?_);by_cases n:Q[a].1=q
    ·rw[dU n,aA<|show (aa&&aa)=aa from rfl];exact aK (an (M.mem_iff.mp (by rw[<-n];exact so (r6 v))))
    ·rw[d3 n,aI (by decide)];dsimp only;rw[show i.sameMemory i.moves i.mask=Z aa by unfold aT.sameMemory;rw[aA (kH _)]];dsimp only;rw[aA rfl,R];dsimp only;rw[o];dsimp only;refine ak (wpAny_isSame_ref_self<|ak<|aK ?_);rw[aA rfl];dsimp only;rw[aI dy];refine Hw bs H hd y J L A M N an ap D bv fuel (XF+1) _ rfl ⋯ (λc x=>?_) λbd c x s=>?_
     ·rcases gz c XF with C|C
      ·exact iI c C
      ·rw[show c=XF by lia];rw[<-eS]at G;exact fH G
     ·rcases gz c XF with C|C
      ·exact a2 bd c C s
      ·rw[show c=XF by lia]at s;have:=Fj y.tab.rise s G;subst this;rw[bm];exact λd=>n (Option.some.inj d)
end
def hJ(Xb:List (List V))(q:List V):List (List V):=if q∈Xb then Xb else Xb++[q]
section
variable{Xm:bJ}{l:bc}{Xs:List V->af->Prop}{O:bw}{Xg:ab->ah->Prop}{f:ah}
structure pA(l:bc)(Xs:List V->af->Prop)(S:Array (Int×ab))(i:aT)(b:Bool)(Xb:List (List V))(w:Nat):Prop where
 pY:∃Q:List (List V×Int×ab),Q.map (·.2)=S.toList/\(Q.map (·.1)).Perm Xb/\∀C∈Q,vU l Xs C
 tab:k1 i b
 m2:iT i.mask
 len:i.place.size=S.size
 le:∀r∈i.place.toList,r<=i.mask
 o_:∀o∈i.place.toList.zip (S.toList.map (·.1)),fY i.mask (·∈i.place.toList) o.2 o.1
 ag:Xb.Nodup
 jx:S.size=w+1
 Dp:w*5<i.mask*3
theorem pA.iQ(y:pA l Xs S i b Xb w):i.fits S.size=aa:=by
 have:=y.Dp;have:=y.m2.pos;unfold aT.fits aT.fill;rw[y.tab.qc,y.len,y.jx,cU,oQ,gE];exact⟨rfl,by show w+1+0<=_;lia⟩
theorem pA.done(y:pA l Xs S i b Xb w)(a:¬ ((w+1)*5 >= i.mask*3)):l5 l Xs S i b Xb:=
 ⟨y.pY,y.tab,⟨y.m2,by rw[y.len,a9,dr],by rw[y.len,y.jx];lia,y.le,y.o_⟩,y.ag⟩
theorem BW{a:Array (Int×ab)}{XM:aT}(b:c.get? g=Z m)(hd:m.data=.set S XN i):
  (c.update g<|a0.putSet a XM).get? g=Z {m with data:=.set a (XN+1) XM}:=by
 have:=jq (a0.putSet a XM) b (by rw[putSet_of a XM hd];rfl);rw[putSet_of a XM hd]at this;exact this
theorem A0{Xx Ya:Type}(F:Xx->Ya)(t:List Xx)(k:List Ya)(b:t.map F=k):∀is:List Nat,(is.filterMap (t[·]?)).map F=is.filterMap (k[·]?)
 |[]=>rfl
 |a::is=>by
  subst b;rw[rD,rD,dZ];cases t[a]? with
  |none=>exact A0 F t _ rfl is
  |some h=>exact congrArg (F h::·) (A0 F t _ rfl is)
theorem Ia(t:List Xx):(range t.length).filterMap (t[·]?)=t:=by
 have:=DV t.toArray;simpa using this
theorem Bs{S e:Array (Int × ab)}{h:aT}{Xf:Bool -> ah -> Prop}(q:f.heap.get? g=Z m)(r:m.ExactSet)(hd:m.data=.set S XN i)(A:S.size=w)(p:w+1 <= 300)(y:pA l Xs e h b Xb w)(c : ∀M,aV.SameBut g f.heap M -> fZ l Xs M g b Xb -> Xf aa {f with heap:=M}):
    wpAny (aM Xm l) O (do
        storeSet g e h
        if (!au&&h.tooFull)=aa then do
            setRelay g (aT.grown<|S.size+1)
            pure aa
          else pure aa) Xf Xg f:=by
  refine ak (Hi q hd ?_ (by rw [y.jx]; exact e0 p (by decide)));have n:=BW (a:=e) (XM:=h) q hd;have s:=l0 f.heap g (a0.putSet e h);have t:h.tooFull=decide ((w+1)*5 >= h.mask*3):=by
    unfold aT.tooFull aT.fill;rw [y.tab.qc,y.len,y.jx];rfl
  by_cases o:(w+1)*5 >= h.mask*3
  · rw [t,dU o,aA<|show (!au&&aa)=aa from rfl]
    let@⟨B,D,E⟩:=L7 y.m2 y.Dp o p;unfold setRelay;refine ak (ak<|la n rfl y.iQ ?_);dsimp only;rw [A,aI (λC => absurd (fI C E) (by decide))];let⟨XM, @j,F,u,G,H⟩:=Vn (i:=h) (S:=e) (l:=aT.grown (w+1)) B (by rw [y.jx]; exact D) y.tab.led;rw [F];have v:(j.filterMap (e[·]?)).toList=j.toList.filterMap (e.toList[·]?):=by
      rw [ze];simp
    have I:(j.filterMap (e[·]?)).toList.Perm e.toList:=by
      rw [v];refine (u.filterMap _).trans ?_;rw [<-dr,Ia]
    have x:(j.filterMap (e[·]?)).size=e.size:=by rw [<-dr,I.length_eq,dr]
    refine ak (m:=if ((j.filterMap (e[·]?)).size != e.size)=aa then _ else _) ?_;rw [x,aI (by simp)];refine aK ?_;dsimp only;refine Hi n rfl ?_ (by rw [x,y.jx]; exact e0 p (by decide));refine aK (c _ (s.trans<|l0 _ g _) ⟨_,_,_,_,BW n rfl,r,rfl, ?_,G,H,y.ag⟩);let⟨@Q,z,J,L⟩:=y.pY;refine ⟨j.toList.filterMap (Q[·]?), ?_, ?_,λC N => ?_⟩
    · rw [v]
      exact A0 (·.2) Q _ z _
    · refine (vt _ ?_).trans J
      refine (u.filterMap _).trans ?_;rw [show e.size=Q.length by rw [<-dr, <-z,a9],Ia]
    · let⟨@a,W,d⟩:=uF.mp N
      exact L C (fH d)
  · rw [t,d3 o,aI (show ¬ ((!au&&au)=aa) from by decide)]
    refine aK (c _ s ⟨_,_,_,_,n,r,rfl,y.done o⟩)
theorem Oc{h:af}{B:Bool->ah->Prop}(J:O.units+20<bU)(Xr:fZ l Xs f.heap g b Xb)(t:(eC Xm l).is f.heap q h)(L:Xs q h)(N:∀p e,Xs p e->(eC Xm l).is f.heap p e)(P:Xb.length+1<=300)(c:∀e M,aV.SameBut g f.heap M->fZ l Xs M g b (hJ Xb q)->B e {f with heap:=M}):
  wpAny (aM Xm l) O (setAddHashed g (.ref h)<|c_ l<|.tup q) B Xg f:=by
 let⟨m,S,XN,@i,k,o,hd,y⟩:=Xr;have bd:=y;let⟨@Q,A,D,E⟩:=y.pY;let⟨@iU,F,R⟩:=y.bQ.some (c_ l<|.tup q);have be:=y.bQ.m2.pos;unfold setAddHashed setAddHashedIn;refine fl (ak<|la k hd y.fit ?_);dsimp only;rw[aI (show ¬ (byScan (ab.ref h) S=aa) from λC=>dy C)];unfold setSearch;refine ak (Hw J k hd y t N A D E (λs=>?_) (λs cA G T=>?_) R F 100000 0 Y rfl (by unfold aT.turns at F;lia) (λU C=>absurd C<|qR _) λa U C=>absurd C<|qR _)
 ·refine aK ?_;have d:f={f with heap:=f.heap}:=by cases f;rfl
  rw[d];refine c _ _ (aV.SameBut.refl g f.heap) ?_;rw[hJ,aA s];exact⟨m,S,XN,i,k,o,hd,y⟩
 ·dsimp only;refine ak (la k hd y.fit ?_);dsimp only;let@⟨al,XZ⟩:=y.bQ.put (c:=c_ l (.tup q)) G T;have am:¬ (i.place[aT.below i.place (cE i.mask (c_ l<|.tup q) cA).j]?=Z (cE i.mask (c_ l<|.tup q) cA).j):=λC=>G (by rw[<-eS]at C;exact fH C);have an:=y.tab.put am;have u:∀e:Bool,pA l Xs (aT.insertAt S (i.put (cE i.mask (c_ l<|.tup q) cA).j).2 (c_ l<|.tup q,.ref h)) { (i.put (cE i.mask (c_ l<|.tup q) cA).j).1 with plain:=e} b (Xb++[q]) S.size:=λe=>by
   have w:(aT.insertAt S (i.put (cE i.mask (c_ l<|.tup q) cA).j).2 (c_ l<|.tup q,ab.ref h)).toList=_:=x7 _ _ _;have ap:(i.put (cE i.mask (c_ l<|.tup q) cA).j).1.place.toList=_:=x7 _ _ _;have I:(aT.insertAt S (i.put (cE i.mask (c_ l<|.tup q) cA).j).2 (c_ l<|.tup q,ab.ref h)).size=S.size+1:=by
    rw[<-dr,w,c7,c3,gv,e4,dr];lia
   refine⟨⟨Q.take (i.put (cE i.mask (c_ l<|.tup q) cA).j).2++(q,c_ l<|.tup q,.ref h)::Q.drop (i.put (cE i.mask (c_ l<|.tup q) cA).j).2,?_,?_,λC n=>?_⟩,an.Wr e,y.bQ.m2,?_,al,?_,?_,I,?_⟩
   ·rw[w,<-A,fQ,cw,jy,jG]
   ·rw[fQ,cw,jy,jG];refine List.perm_middle.trans ?_;rw[fT];exact (D.cons q).trans (dx (l₁:=[q]))
   ·rcases sV.mp n with rfl|n
    ·exact⟨h,rfl,rfl,L⟩
    ·exact E C n
   ·show (i.put (cE i.mask (c_ l<|.tup q) cA).j).1.place.size=_;rw[I,<-dr,ap,c7,c3,gv,e4,dr,y.size];lia
   ·rw[w,fQ,cw,jy,jG];exact XZ
   ·exact dN.mpr ⟨y.ag,fP _ q,λH as C n=>by cases cK.mp n;exact λd=>s<|d ▸ as⟩
   ·have:=y.bQ.loose;rw[y.size]at this;exact this
  have x:∀M,aV.SameBut g f.heap M->fZ l Xs M g b (Xb++[q])->B aa {f with heap:=M}:=λM a1 a2=>c aa M a1 (by rw[hJ,aI s];exact a2);have z:S.size+1<=300:=by rw[y.num];exact P
  split
  ·refine ak (Kl 8 (v:=.tup q) t.1 t.2 λe=>?_);cases e
   ·exact Bs k o hd rfl z (u au) x
   ·exact Bs k o hd rfl z (u _) x
  ·refine ak (aK ?_);exact Bs k o hd rfl z (u _) x
end
def h9(l:bc):Bool:=!l.params.followText "set-order"
def lZ(b:Bool):a0:={cls:=.type "set",dict:=Y,data:=.set #[] 0 (.fresh 0 0 b)}
theorem O5:isSubtype (.type "tuple") (.type "set")=pure au:=by rw[q5];kernel_rfl
theorem LW:isSubtype (.type "tuple") (.type "frozenset")=pure au:=by rw[q5];kernel_rfl
section
variable{Xm:bJ}{l:bc}{O:bw}{Xg:ab->ah->Prop}{f:ah}
theorem Sm(g:ab){a:ab->ah->Prop}(c:a (.ref f.heap.objs.size) {f with heap:=f.heap.push (lZ<|h9 l)}):
  codeAny (aM Xm l) O (.call (.builtin "set.__new__") ⟨[.type "set",g],[]⟩) (wants a Xg) f:=by
 refine zD ?_;show wpAny _ O.in1 (do Df "set.__new__" ⟨[.type "set",g],[]⟩;again (.builtin "set.__new__" ⟨[.type "set",g],[]⟩)) _ _ f;refine ak (oW (PySem.F.newCall_set_1 g)<|aK ⟨hP Cq _,hD PySem.F.entry_set_new ?_⟩);rw[iD Cq _];unfold aX.«set.__new__» aX.Frozenset.newClass;have b:=sub_set_self;let⟨d,I,v,XT,Xw⟩:=f;dsimp only
 wp_walk
 refine xw (aK ?_);dsimp only;simp only[newObj];refine ak (wpAny_alloc<|aK ?_);exact aK c
end
section
variable{Xm:bJ}{l:bc}{O:bw}{Xg:ab->ah->Prop}{f:ah}
end
theorem tG:Slot "set_iterator" "__next__" "set_iterator.__next__" :=
 .of (owner := "set_iterator") (n := "__next__") (by rw[o8,o5];kernel_rfl) (by decide +kernel) (by decide +kernel) (by decide +kernel)
  (by first|exact .inl (by decide +kernel)|exact .inr (by decide +kernel)) (by rw[q5];kernel_rfl)
theorem TZ:qP rk "set_iterator.__next__" = Z aX.«set_iterator.__next__»:=D0 (by kernel_rfl)
theorem BB:Manifest.owners.lookup (String.ofList ['r','o','t','a','r','e','t','i','_','t','e','s'].reverse)=Z Manifest.sig_set_iterator:=by kernel_rfl
theorem NW(g:ab):tD "set_iterator.__next__" ⟨[g],[]⟩:=by
 unfold tD;rw[ED (id := "set_iterator.__next__") (n:=['_','_','t','x','e','n','_','_']) (o:=['r','o','t','a','r','e','t','i','_','t','e','s']) (by kernel_rfl) BB];kernel_rfl
theorem V_:qP rk "set.__iter__" = Z aX.«frozenset.__iter__»:=
 BN (id' := "frozenset.__iter__") (by kernel_rfl) rfl (by decide +kernel) (by kernel_rfl)
theorem DP:Slot "set_iterator" "__iter__" "set_iterator.__iter__" :=
 .of (owner := "set_iterator") (n := "__iter__") (by rw[o8,o5];kernel_rfl) (by decide +kernel) (by decide +kernel) (by decide +kernel)
  (by first|exact .inl (by decide +kernel)|exact .inr (by decide +kernel)) (by rw[q5];kernel_rfl)
theorem Vw(g:ab):tD "set_iterator.__iter__" ⟨[g],[]⟩:=by
 unfold tD;rw[ED (id := "set_iterator.__iter__") (n:=['_','_','r','e','t','i','_','_']) (o:=['r','o','t','a','r','e','t','i','_','t','e','s']) (by kernel_rfl) BB];kernel_rfl
theorem OR:qP rk "set_iterator.__iter__" = Z aX.«dict_keyiterator.__iter__»:=
 BN (id' := "dict_keyiterator.__iter__") (by kernel_rfl) (by first|rfl|decide +kernel|(unfold String.splitOn;simp +decide [String.splitOnAux])) (by decide +kernel) (by kernel_rfl)
def gY(c:aV)(A:af)(Yl:ab)(a:Nat)(Xr:af)(w XN:Nat):Prop:=∃m,c.get? A=Z m/\m.cls=.type "set_iterator" /\ m.data=.fields #[Yl,.int a 0,.ref Xr,.int w 0,.int XN 0]
def i_(c:aV)(Xr:af)(S:Array (Int×ab))(XN:Nat)(i:aT):Prop:=∃m,c.get? Xr=Z m/\m.ExactSet/\m.data=.set S XN i
theorem gY.go(h:gY c A Yl a Xr w XN)(q:∀m,c.get? A=Z m->M.get? A=Z m):gY M A Yl a Xr w XN:=let ⟨m,d,s⟩:=h;⟨m,q m d,s⟩
theorem i_.go(h:i_ c Xr S XN i)(q:∀m,c.get? Xr=Z m->M.get? Xr=Z m):i_ M Xr S XN i:=let ⟨m,d,s⟩:=h;⟨m,q m d,s⟩
section
variable{Xm:bJ}{l:bc}{O:bw}{Xg:ab->ah->Prop}{f:ah}
theorem gY.ty(h:gY f.heap A Yl a Xr w XN):f.TypeIs (.ref A) "set_iterator" := let ⟨m,d,n,_⟩:=h;⟨m,d,n⟩
theorem Ue{az:gA}{b:Source}{B:Nat->ah->Prop}(d:0<w)(c:∀a,a<w->B a {f with drawn:=f.drawn.bump b}):wpAny az O (choose b w) B Xg f:=
 λ_ W W=>⟨iM d,c _<|qO _ d⟩
theorem oJ{Xx:Type}:∀(t:List Xx) (a:Nat) (c:a<t.length),(t[a]::t.eraseIdx a).Perm t
 |h::x,0,_=>.refl _
 |h::x,a+1,c=>(List.Perm.swap h _ _).trans (List.Perm.cons h<|oJ x a<|yM c)
theorem Em{Xx:Type}{az:gA}:∀(w:Nat) (x:List Xx) (f:ah) (B:List Xx->ah->Prop),x.length=w->(∀v Xp,List.Perm Xp x->B Xp {f with drawn:=v})->wpAny az O (ya w x) B Xg f
 |0,x,f,B,b,c=>by
  have d:x=[]:=o3 b;subst d;unfold ya;exact aK (c f.drawn [] .nil)
 |w+1,[],f,B,b,c=>by cases b
 |w+1,h::x,f,B,b,c=>by
  unfold ya;refine ak (Ue (by rw[b];exact sW _) λa U=>?_);have d:(h::x)[a]?=Z (h::x)[a]:=dv U;rw[d];dsimp only;refine ak (Em w _ _ _ (by rw[J6 U,b];rfl) λv Xp e=>?_);refine aK (c v _ ?_);refine (List.Perm.cons _ e).trans ?_;exact oJ _ a U
theorem um(b:gY f.heap A Yl a Xr w XN)(c:wpAny (aM Xm l) O.in1 (aX.«set_iterator.__next__» ⟨[.ref A],[]⟩) (λg Xe=>∃u,g=.done (.ret u)/\B (Z u) Xe) (λd Xe=>wpAny (aM Xm l) O (do let e <-xB d (.type "StopIteration");if e=aa then pure Y else throw d) B Xg Xe) f):
  wpAny (aM Xm l) O (ff<|.ref A) B Xg f:=by
 unfold ff;refine ak (oA<|lK (name:=aB.ofString "__next__") b.ty tG<|hA tG b.ty TZ ?C<|NW _)
 case C=>
  refine gT c (λg Xe ⟨u,d,p⟩=>⟨u,d,aK p⟩) λd Xe p=>p
theorem w2{c:ab}{d:Nat}{B:Unit->ah->Prop}{q:Nat}(g:gY f.heap A Yl a Xr w XN)(i:q<5)(j:(#[Yl,.int a 0,.ref Xr,.int w 0,.int XN 0]:Array ab).setIfInBounds q h=#[c,.int d 0,.ref Xr,.int w 0,.int XN 0])(p:∀M,gY M A c d Xr w XN->aV.SameBut A f.heap M->B () {f with heap:=M}):wpAny (aM Xm l) O (vv (.ref A) q h) B Xg f:=by
 let⟨@m,e,k,b⟩:=g;refine oP e b i (p _ ⟨_,jq _ e<|xe<|p9 b _,(As ..).trans k,?_⟩<|l0 ..);rw[p9 b,j]
theorem JC(a:O.handled=Y)(p:∀M,aV.ExtBut A f.heap M->B Y {f with heap:=M}):
  wpAny (aM Xm l) O.in1 (qQ (.type "StopIteration") [] >>= λh=>(raiseNew h:dz PySem.Fin)) (λb Xe=>∃u,b=.done (.ret u)/\B (Z u) Xe) (λd Xe=>wpAny (aM Xm l) O (do let e <-xB d (.type "StopIteration");if e=aa then pure Y else throw d) B Xg Xe) f:=by
 apply ak;simp only[qQ,r_];refine ak (gh (ak (m:=rd _ _) (oW (a:=ab.none) (by first|rfl|(simp only[rd];rfl)) (gh ?_ (by size_fits)))) (by size_fits));simp only[raiseNew];apply ak;apply Aw;rw[show O.in1.handled=Y from a];refine ak (m:=pure _) (aK<|yW ?_);apply ak;refine ow (T := "StopIteration") (b:=aa) ⟨_,cI _ rfl,rfl⟩ vu ?_;exact aK (p _<|λe m W d=>bH _<|bH _ d)
theorem BR{next:Nat}(b:gY f.heap A (.int Yp 0) a Xr w XN)(d:i_ f.heap Xr S XN i)(e:i.fits S.size=aa)(g:S.size=w)(j:∀(c:Option (ab×Nat)->ah->Prop) (n:ab->ah->Prop),c (Z (h,next)) f->wpAny (aM Xm l) O.in1 (mV Xr Yp a XN) c n f)(p:∀M,gY M A (.int next 0) (a+1) Xr w XN->aV.SameBut A f.heap M->B (Z h) {f with heap:=M}):wpAny (aM Xm l) O (ff<|.ref A) B Xg f:=by
 refine um b ?_;let⟨@m,o,C,q⟩:=id b;let⟨@D,r,F,s⟩:=d;unfold aX.«set_iterator.__next__»;refine ak (aK<|ak<|p1 o q ?_);show wpAny _ _ (vb Xr >>= _) _ _ _;refine ak (r8 r s e ?_);dsimp only;rw[aI (by rw[g];simp)];refine ak (m:=mV Xr _ _ _) (j _ _ ?_);dsimp only;refine ak (w2 (c:=.int next 0) (d:=a) b (by decide) rfl λz m_ v=>?_);refine ak (w2 (f:={f with heap:=z}) (c:=.int next 0) (d:=a+1) m_ (by decide) rfl λE x y=>?_);exact aK ⟨_,rfl,p E x<|v.trans y⟩
theorem E1(n:O.handled=Y)(b:gY f.heap A (.int Yp 0) a Xr w XN)(o:i_ f.heap Xr S XN i)(q:i.fits S.size=aa)(r:S.size=w)(s:∀(c:Option (ab×Nat)->ah->Prop) (t:ab->ah->Prop),c Y f->wpAny (aM Xm l) O.in1 (mV Xr Yp a XN) c t f)(p:∀M,aV.ExtBut A f.heap M->B Y {f with heap:=M}):wpAny (aM Xm l) O (ff<|.ref A) B Xg f:=by
 refine um b ?_;let⟨@m,g,y,h⟩:=id b;let⟨@z,u,C,v⟩:=o;unfold aX.«set_iterator.__next__»;refine ak (aK<|ak<|p1 g h ?_);show wpAny _ _ (vb Xr >>= _) _ _ _;refine ak (r8 u v q ?_);dsimp only;rw[aI (by rw[r];simp)];refine ak (m:=mV Xr _ _ _) (s _ _ ?_);dsimp only;refine ak (oP g h (show 2<5 by decide) ?_);exact JC (A:=A) n λM x=>p M λe m j d=>x e m j ((l0 ..).extBut e m j d)
theorem NP{c:Nat}{XT:hO}{h:Int×ab}(b:gY f.heap A (.ref Yb) a Xr w XN)(j:i_ f.heap Xr S XN i)(d:i.fits S.size=aa)(k:S.size=w)(E:f.heap.get? Yb=Z XR)(X1:XR.data=.seq bo Yq)(n:bo[a]?=Z (.int c XT))(o:S[c]?=Z h)(p:∀M,gY M A (.ref Yb) (a+1) Xr w XN->aV.SameBut A f.heap M->B (Z h.2) {f with heap:=M}):wpAny (aM Xm l) O (ff<|.ref A) B Xg f:=by
 refine um b ?_;let⟨@m,q,t,r⟩:=id b;let⟨@u,e,v,g⟩:=j;unfold aX.«set_iterator.__next__»;refine ak (aK<|ak<|p1 q r ?_);show wpAny _ _ (vb Xr >>= _) _ _ _;refine ak (r8 e g d ?_);dsimp only;rw[aI (by rw[k];simp)];show wpAny _ _ (nq (.ref Yb) >>= _) _ _ _;refine ak (gJ E X1 ?_);dsimp only;rw[kV,n];dsimp only;show wpAny _ _ (setNextDrawn Xr _ _ >>= _) _ _ _;unfold setNextDrawn;refine ak (ak<|la e g d ?_);dsimp only;rw[aI (by simp),kV,o];dsimp only;refine aK ?_;refine ak (w2 (c:=.ref Yb) (d:=a+1) b (by decide) rfl λz m_ s=>?_);exact aK ⟨_,rfl,p z m_ s⟩
theorem RV(g:O.handled=Y)(b:gY f.heap A (.ref Yb) a Xr w XN)(h:i_ f.heap Xr S XN i)(j:i.fits S.size=aa)(k:S.size=w)(E:f.heap.get? Yb=Z XR)(X1:XR.data=.seq bo Yq)(n:bo[a]?=Y)(p:∀M,aV.ExtBut A f.heap M->B Y {f with heap:=M}):wpAny (aM Xm l) O (ff<|.ref A) B Xg f:=by
 refine um b ?_;let⟨@m,o,y,q⟩:=id b;let⟨@C,r,D,s⟩:=h;unfold aX.«set_iterator.__next__»;refine ak (aK<|ak<|p1 o q ?_);show wpAny _ _ (vb Xr >>= _) _ _ _;refine ak (r8 r s j ?_);dsimp only;rw[aI (by rw[k];simp)];show wpAny _ _ (nq (.ref Yb) >>= _) _ _ _;refine ak (gJ E X1 ?_);dsimp only;rw[kV,n];dsimp only;refine ak (w2 (c:=.int 0 0) (d:=a) b (by decide) rfl λz m_ t=>?_);let⟨@R,u,H,v⟩:=m_;refine ak (oP (s:={f with heap:=z}) u v (show 2<5 by decide) ?_);exact JC (A:=A) g λM x=>p M λe m c d=>x e m c ((l0 ..).extBut e m c<|t.extBut e m c d)
end
def i4(val:Nat->List V):Nat->List (List V)
 |0=>[]
 |a+1=>hJ (i4 val a) (val a)
theorem fZ.fresh(b:Bool):fZ l Xs (c.push<|lZ b) c.objs.size b []:=
 ⟨_,#[],0,_,cI _ rfl,⟨rfl,rfl,rfl⟩,rfl,⟨[],rfl,.nil,λC a=>(fO a).elim⟩,⟨List.Pairwise.nil,rfl,rfl⟩,⟨.inl rfl,rfl,show 0*5<7*3 by decide,λr d=>(fO d).elim,λo e=>(fO e).elim⟩,iH⟩
theorem fZ.at(Xr:fZ l Xs c g b Xb)(q:∀m,c.get? g=Z m->M.get? g=Z m):fZ l Xs M g b Xb:=by
 let⟨m,S,XN,@i,a,s⟩:=Xr;exact⟨m,S,XN,i,q m a,s⟩
section
variable{Xm:bJ}{l:bc}{Xs:List V->af->Prop}{O:bw}{Xg:ab->ah->Prop}{f:ah}
theorem Vg{Xf:oV->ah->Prop}{cb G:List af}{H:Nat->ab->Prop}{a3:Nat->aV->Prop}{j:aV}(bm:O.units+25<bU)(W:h1 Xm l O.in1 A cb G w H a3)(I:Xr∉cb)(val:Nat->List V)(Q:∀a u,H a u->∃e,u=.ref e/\Xs (val a) e)(J:∀p e,Xs p e->(eC Xm l).is j p e)(g:∀e m,j.get? e=Z m->e∉G)(R:∀L Xy k,j.get? Xr=Z L->L.data=.seq Xy k->False)(S:∀a,a<w->(i4 val a).length+1<=300):
  ∀(q a:Nat) (f:ah),w-a=q->a<=w->vm j f.heap->a3 a f.heap->fZ l Xs f.heap Xr b (i4 val a)->
   (∀M XT,(∀e m,e≠Xr->e∉G->f.heap.get? e=Z m->M.get? e=Z m)->fZ l Xs M Xr b (i4 val w)->Xf (.ok<|.ret .none) {f with heap:=M,toks:=XT})->
   codeAny (aM Xm l) O (.builtin "set.update.loop" ⟨[.ref Xr,.ref A],[]⟩) Xf f:=by
 have N:Xr∉G:=λc=>I (W.sub _ c);intro q;induction q with
 |zero=>
  intro a f al U T s t v;have am:a=w:=⋯
  subst am;refine hD Fw ?_;rw[iD yw _];show wpAny _ O.in1 (ff (.ref A) >>= _) _ _ f;refine ak (W.done f _ _ s λM XT i=>?_);show wpAny _ O.in1 (ret ab.none) _ _ _;exact aK (v M XT (λe m K g d=>i e m g d)<|t.at λm d=>i Xr m N d)
 |succ q an=>
  intro a f al U T s t v;have x:a<w:=⋯
  refine hD Fw ?_;rw[iD yw _];show wpAny _ O.in1 (ff (.ref A) >>= _) _ _ f;refine ak (W.item a f _ _ x s λu z bn ap as i=>?_);let⟨@h,rfl,y⟩:=Q a u ap;have P:vm j z:=λe m Xy k n B o=>i e m (g e m n) (T e m Xy k n B o);have D:∀p e,Xs p e->(eC Xm l).is z p e:=λp e C=>⟨(J p e C).1,(J p e C).2.keep P⟩;show wpAny _ O.in1 (holding [ab.ref h] (setAdd Xr<|.ref h) >>= _) _ _ _;refine ak (fl ?_);unfold setAdd;refine fl ?_;refine ak ((eC Xm l).pyHash (k:=val a) (show O.units+1+10<bU by lia) (D _ _ y) ?_);refine Oc (f:={f with heap:=z,toks:=_}) (show O.units+1+20<bU by lia) (t.at λm d=>i Xr m N d) (D _ _ y) y D (S a x) λe E F a1=>?_;refine aK ⟨hP yw _,an (a+1) _ ⋯ x (λe m Xy k n B o=>?_) (W.frame _ z E as λe r m d=>?_) a1 λa2 bd be bi=>?_⟩
  ·show E.get? e=Z m;rw[F.2 e (λc:e=Xr=>R m Xy k (c ▸ n) o)];exact P e m Xy k n B o
  ·rw[F.2 e (λc:e=Xr=>I (by rw[<-c];exact r))];exact d
  ·refine v a2 bd (λe m r g d=>be e m r g ?_) bi;show E.get? e=Z m;rw[F.2 e r];exact i e m g d
end
section
variable{Xm:bJ}{l:bc}{Xs:List V->af->Prop}{O:bw}{Xg:ab->ah->Prop}{f:ah}
variable{B:ab->ah->Prop}
theorem RZ(v:O.handled=Y)(j:f.heap.get? t=Z m)(n:m.cls=.type "tuple")(o:m.data=.seq Xy D)(J:O.units+28<bU)(U:∀a u,Xy[a]?=Z u->∃e,u=.ref e/\Xs (Xb.getD a []) e)(w:∀p e,Xs p e->(eC Xm l).is f.heap p e)(h:∀a,a<Xy.size->(i4 (λa=>Xb.getD a []) a).length+1<=300)(x:t≠Xr)(i:f.heap.get? Xr=Z (lZ b))(y:fZ l Xs f.heap Xr b [])(c:∀M XT,fZ l Xs M Xr b (i4 (λa=>Xb.getD a []) Xy.size)->(∀e m,e≠Xr->f.heap.get? e=Z m->M.get? e=Z m)->B .none {f with heap:=M,toks:=XT}):
  wpAny (aM Xm l) O (aX.«set.__init__» ⟨[.ref Xr,.ref t],[]⟩) (λz Xe=>∃s,z=.done (.ret s)/\B s Xe) Xg f:=by
 let⟨N,P,Q,R⟩:=m;simp only at n o;subst n;subst o;have S:=O5;have T:=LW;have al:(ab.type "tuple" == ab.type "dict")=au:=by decide
 unfold lZ at i;have q:f.heap.IsTuple t Xy:=⟨_,j,rfl,D,rfl⟩;unfold aX.«set.__init__» noKeywords aX.Frozenset.updateFrom;generalize A:oz=jN
 wp_walk
 subst A;refine wpAny_pyIter_tuple q ?_;refine ak (AU ?_);have C:t<f.heap.objs.size:=bI j;have E:Xr<f.heap.objs.size:=bI i;have F:O.in1.handled=Y:=by simp[v]
 refine Vg (b:=b) (Xs:=Xs) (j:=f.heap) (show O.units+25<bU by lia) (h1.tuple F _ t (cZ C) Xy) ?_ (λa=>Xb.getD a []) U w ?_ ?_ h (Xy.size-0) 0 _ ⋯ (gC _) ?_ ⟨⟨_,cI _ rfl,rfl,rfl⟩,?_⟩ ?_ λM XT G H=>?_
 ·simp only[bO,fO,eY,oT];exact⟨cZ E,λd=>x d.symm⟩
 ·intro e m d;rw[cK];exact cZ (bI d)
 ·intro L Xy k g r;rw[i]at g;cases g;cases r
 ·intro e m Xy k g r an;exact bH _ g
 ·let⟨@m,I,s⟩:=q;exact⟨m,bH _ I,s⟩
 ·exact y.at λm d=>bH _ d
 ·show wpAny _ _ _ _ _ _;refine aK ?_;show wpAny _ _ (ret ab.none) _ _ _;refine aK ⟨_,rfl,c M XT H λe m h d=>G e m h ?_<|bH _ d⟩;rw[cK];exact cZ (bI d)
theorem Nz(v:O.handled=Y)(k:f.heap.get? t=Z m)(w:m.cls=.type "tuple")(x:m.data=.seq Xy D)(L:O.units+30<bU)(U:∀a u,Xy[a]?=Z u->∃e,u=.ref e/\Xs (Xb.getD a []) e)(o:∀p e,Xs p e->(eC Xm l).is f.heap p e)(y:∀a,a<Xy.size->(i4 (λa=>Xb.getD a []) a).length+1<=300)(c:∀M XT,fZ l Xs M f.heap.objs.size (h9 l) (i4 (λa=>Xb.getD a []) Xy.size)->(∀e m,f.heap.get? e=Z m->M.get? e=Z m)->B (.ref f.heap.objs.size) {f with heap:=M,toks:=XT}):
  wpAny (aM Xm l) O (call (.type "set") [.ref t]) B Xg f:=by
 let⟨n,@Yz,N⟩:=mP.mro;have Q:=mP.made;have R:=mP.sub;refine wpAny_call (zD ?_);show wpAny _ _ (callAny (.type "set") _) _ _ _;refine aK ⟨Code.quiet_builtin _ (by decide +kernel),hD F.entry_type_call ?_⟩;rw[bw.under_plain (weight_type_call_type "set" [.ref t] []) rfl];have z:=mP.notType;have E:=mP.canCreate;have S:=PySem.F.typeCall_set_1 (.ref t);repeat (any_goals (first|assumption|wp_step))
 refine s8 (Sm (.ref t) (Xg:=Xg) (a:=λobj q=>obj=.ref f.heap.objs.size/\q={f with heap:=f.heap.push (lZ<|h9 l)}) ⟨rfl,rfl⟩) λs q g=>?_;cases s with
 |error d=>exact g
 |ok aU=>
  cases aU with
  |ret obj=>
   let@⟨rfl,rfl⟩:=g;have r:(f.heap.push<|lZ<|h9 l).get? f.heap.objs.size=Z (lZ<|h9 l):=cI _ rfl;have A:ah.TypeIs {f with heap:=f.heap.push (lZ<|h9 l)} (.ref f.heap.objs.size) "set" := ⟨_,r,rfl⟩;have al:=mP.init.lookup;have am:=mP.init.bind (.ref f.heap.objs.size);repeat (any_goals (first|assumption|wp_step))
   refine s8 (codeAny_call_builtin (R:=wants (λs b=>s=.none/\∃M XT,b={f with heap:=M,toks:=XT}/\
     fZ l Xs M f.heap.objs.size (h9 l) (i4 (λa=>Xb.getD a []) Xy.size)/\(∀e m,f.heap.get? e=Z m->M.get? e=Z m)) Xg) mP.init.plain PySem.F.entry_set_init<|check_set_init_1 A ?_) λG b h=>?_
   ·refine gT (RZ (f:={f with heap:=f.heap.push (lZ<|h9 l)}) (by simp[v]) (bH _ k) w x (by show O.in1.in1.units+28<bU;show O.units+1+1+28<bU;omega) U (λp e C=>⟨(o p e C).1,(o p e C).2.keep λe m W W d W W=>bH _ d⟩) y (cZ<|bI k) r (fZ.fresh _) (B:=λs b=>s=.none/\∃M XT,b={f with heap:=M,toks:=XT}/\
     fZ l Xs M f.heap.objs.size (h9 l) (i4 (λa=>Xb.getD a []) Xy.size)/\(∀e m,f.heap.get? e=Z m->M.get? e=Z m)) λM XT i H=>⟨rfl,M,XT,rfl,i,λe m d=>H e m (cZ<|bI d)<|bH _ d⟩) (λan Xe j=>?_) λ_ W d=>d;let⟨@s,rfl,j⟩:=j;exact j
   ·cases G with
    |error d=>exact h
    |ok I=>
     cases I with
     |ret s=>
      let@⟨rfl,⟨M,@XT,rfl,i,J⟩⟩:=h;repeat (any_goals (first|assumption|wp_step))
      exact c _ _ i J
     |_=>exact h.elim
  |_=>exact g.elim
end
section
variable{Xm:bJ}{l:bc}{O:bw}{Xg:ab->ah->Prop}{f:ah}
theorem Dc{Xx:Type}(next:Nat->Nat):∀(fuel q:Nat) (left:List Xx) (out:Array Xx),left.length=fuel->(jI.go next fuel q left out).toList.Perm (out.toList++left)
 |0,q,left,out,c=>by
  have d:left=[]:=o3 c;subst d;unfold jI.go;rw[cC]
 |fuel+1,q,left,out,c=>by
  unfold jI.go;have U:next q%left.length<left.length:=qO _ (by rw[c];exact sW _)
  rw[dv U];dsimp only;refine (Dc next fuel (q+1) _ _ (by rw[J6 U,c];rfl)).trans ?_;rw[wk,bt];exact d5 _ (oJ _ _ U)
theorem ON(next:Nat->Nat)(x:Array Xx):(jI next x).toList.Perm x.toList:=Dc next x.size 0 x.toList #[] (by rw[dr])
theorem t2{B:Bool->ah->Prop}(c:B (l.params.followText "set-order") f):wpAny (aM Xm l) O setsByText B Xg f:=by
 unfold setsByText;exact ak (xw<|aK c)
variable{B:Option (ab×Nat)->ah->Prop}
theorem F9(c:i_ f.heap Xr S XN i)(d:i.fits S.size=aa)(e:l.params.followText "set-order" = au)(g:(!i.plain&&decide (S.size>1))=au)(j:i.led=aa)(n:aT.below i.place Yp=a)(p:B (match S[a]?,i.place[a]? with|some (_,h),Z r=>Z (h,r+1)|_,_=>Y) f):wpAny (aM Xm l) O (mV Xr Yp I XN) B Xg f:=by
 let⟨@m,o,s,q⟩:=c;unfold mV;refine ak (la o q d ?_);dsimp only;refine ak (t2 ?_);rw[e,aI dy];show wpAny _ _ (if (!i.plain&&decide (S.size>1))=aa then _ else _) _ _ _;rw[g,aI dy];show wpAny _ _ ((if (!i.led && !S.isEmpty)=aa then (unsupported "set:maker-not-led" : dz Unit) else pure ()) >>= _) _ _ _;rw[j];refine ak (m:=pure ()) (aK ?_);rw[n];exact aK p
theorem DK(g:i_ f.heap Xr S XN i)(a:i.fits S.size=aa)(b:l.params.followText "set-order" = aa)(p:B (((jI (l.params.setOrder Xr XN) S)[I]?).map λd=>(d.2,Yp)) f):wpAny (aM Xm l) O (mV Xr Yp I XN) B Xg f:=by
 let⟨@m,c,h,e⟩:=g;unfold mV;refine ak (la c e a ?_);dsimp only;refine ak (t2 ?_);rw[b,aA rfl,aI (by simp)];unfold setWalk;refine ak (ak<|la c e a ?_);dsimp only;refine ak (t2 ?_);rw[b,aA rfl];exact ak (xw<|aK<|aK p)
theorem xh{B:ab->ah->Prop}(b:gY f.heap A Yl a Xr w XN)(p:B (.ref A) f):wpAny (aM Xm l) O (oz<|.ref A) B Xg f:=by
 refine y9 b.ty DP (hA DP b.ty OR ?_<|Vw _);show wpAny _ _ (ret<|.ref A) _ _ f;exact aK ⟨_,rfl,"set_iterator",_,b.ty,tG.lookup,p⟩
noncomputable def A4(b:Array Nat):Nat->Nat
 |0=>0
 |a+1=>b.getD a 0+1
theorem FQ{b:Array Nat}(s:fJ b):∀{a:Nat},a<=b.size->aT.below b (A4 b a)=a
 |0,_=>Q2 s
 |a+1,c=>by
  have d:b[a]?=Z (b.getD a 0):=by simp[Array.getD,show a<b.size from c]
  exact SW s d
def lA(S:Array (Int×ab)):List ab:=S.toList.map (·.2)
theorem vH(S:Array (Int×ab)):(lA S).length=S.size:=by rw[lA,a9,dr]
theorem MR(x:O.handled=Y)(ne:Xr≠A)(j:i.fits S.size=aa)(r:l.params.followText "set-order" = au)(t:(!i.plain&&decide (S.size>1))=au)(v:i.led=aa)(s:fJ i.place):
  h1 Xm l O A [A,Xr] [A] (lA S).length (λa u=>(lA S)[a]?=Z u) (λa c=>gY c A (.int (A4 i.place a) 0) a Xr S.size XN/\i_ c Xr S XN i) where
 sub:=λe y=>by
  have:e=A:=by simpa using y
  simp[this]
 frame:=λa c M X q=>⟨X.1.go (q A (by simp)),X.2.go (q Xr (by simp))⟩
 item:=λa f B Xg U X k=>by
  rw[vH]at U;have z:i.place.size=S.size:=by
   simp only[aT.fits,cU,oQ]at j;exact j.1
  have w:S[a]?=Z S[a]:=ju U;have C:i.place[a]?=Z (i.place.getD a 0):=by simp[Array.getD,show a<i.place.size by lia]
  have D:(lA S)[a]?=Z S[a].2:=by rw[lA,dZ,eS,w];rfl
  refine BR (next:=A4 i.place (a+1)) (h:=S[a].2) X.1 X.2 j rfl (λE F p=>F9 X.2 j r t v (FQ s ⋯) ?_) λM g e=>k _ M f.toks D ⟨g,X.2.go λm d=>e.extBut Xr m ne d⟩ λn m o d=>e.extBut n m (by simpa using o) d;rw[w,C];exact p
 done:=λf B Xg X k=>by
  rw[vH]at X;have z:i.place.size=S.size:=by
   simp only[aT.fits,cU,oQ]at j;exact j.1
  refine E1 x X.1 X.2 j rfl (λE F p=>F9 X.2 j r t v (FQ s ⋯) ?_) λM e=>k M f.toks λn m o d=>e n m (by simpa using o) d;rw[xf (ba _)];exact p
 self:=λa f B Xg X k=>xh X.1 k
theorem Og(s:O.handled=Y)(ne:Xr≠A)(j:i.fits S.size=aa)(o:l.params.followText "set-order" = aa):
  h1 Xm l O A [A,Xr] [A] (lA<|jI (l.params.setOrder Xr XN) S).length (λa u=>(lA<|jI (l.params.setOrder Xr XN) S)[a]?=Z u) (λa c=>gY c A (.int (0:Nat) 0) a Xr S.size XN/\i_ c Xr S XN i) where
 sub:=λe t=>by
  have:e=A:=by simpa using t
  simp[this]
 frame:=λa c M X q=>⟨X.1.go (q A (by simp)),X.2.go (q Xr (by simp))⟩
 item:=λa f B Xg U X b=>by
  rw[vH]at U;have r:(jI (l.params.setOrder Xr XN) S)[a]?=Z (jI (l.params.setOrder Xr XN) S)[a]:=ju U;have v:(lA<|jI (l.params.setOrder Xr XN) S)[a]?=Z (jI (l.params.setOrder Xr XN) S)[a].2:=by rw[lA,dZ,eS,r];rfl
  refine BR (next:=0) (h:=(jI (l.params.setOrder Xr XN) S)[a].2) X.1 X.2 j rfl (λw x p=>DK X.2 j o ?_) λM g e=>b _ M f.toks v ⟨g,X.2.go λm d=>e.extBut Xr m ne d⟩ λn m k d=>e.extBut n m (by simpa using k) d;rw[r];exact p
 done:=λf B Xg X b=>by
  rw[vH]at X;refine E1 s X.1 X.2 j rfl (λw x p=>DK X.2 j o ?_) λM e=>b M f.toks λn m k d=>e n m (by simpa using k) d;rw[xf (ba _)];exact p
 self:=λa f B Xg X b=>xh X.1 b
def o9(Xo:List Nat):List ab:=Xo.map λ(a:Nat)=>ey a
def lb(S:Array (Int×ab))(Xo:List Nat):List ab:=Xo.filterMap λa=>S[a]?.map (·.2)
theorem Eb{S:Array (Int×ab)}:∀{Xo:List Nat},(∀o∈Xo,o<S.size)->∀(a:Nat) (c:a<Xo.length),∃h,S[Xo[a]]?=Z h/\(lb S Xo)[a]?=Z h.2
 |[],_,a,c=>by cases c
 |o::Xo,b,a,c=>by
  have f:o<S.size:=b o (.head _);have d:S[o]?=Z S[o]:=ju f;have g:lb S (o::Xo)=S[o].2::lb S Xo:=by rw[lb,AJ (b:=S[o].2) (by rw[d];rfl)];rfl
  rw[g];cases a with
  |zero=>exact⟨S[o],d,rfl⟩
  |succ a=>
   let⟨@h,z,E⟩:=Eb (λo c=>b o<|.tail _ c) a (yM c);exact⟨h,z,E⟩
theorem yQ{S:Array (Int×ab)}:∀{Xo:List Nat},(∀o∈Xo,o<S.size)->(lb S Xo).length=Xo.length
 |[],_=>rfl
 |o::Xo,a=>by
  have b:o<S.size:=a o (.head _);have d:S[o]?=Z S[o]:=ju b;rw[lb,AJ (b:=S[o].2) (by rw[d];rfl),c3,c3];exact congrArg (·+1) (yQ λo c=>a o<|.tail _ c)
theorem T9(v:O.handled=Y)(ne:Xr≠A)(w:Yb≠A)(t:i.fits S.size=aa)(k:∀o∈Xo,o<S.size):
  h1 Xm l O A [A,Xr,Yb] [A] (lb S Xo).length (λa u=>(lb S Xo)[a]?=Z u) (λa c=>gY c A (.ref Yb) a Xr S.size XN/\i_ c Xr S XN i/\∃m,c.get? Yb=Z m/\m.data=.seq (o9 Xo).toArray Yq) where
 sub:=λe x=>by
  have:e=A:=by simpa using x
  simp[this]
 frame:=λa c M X q=>⟨X.1.go (q A (by simp)),X.2.1.go (q Xr (by simp)),let ⟨m,d,s⟩:=X.2.2;⟨m,q Yb (by simp) m d,s⟩⟩
 item:=λa f B Xg U X b=>by
  let@⟨p,j,⟨@m,d,s⟩⟩:=X;rw[yQ k]at U;let⟨@h,z,E⟩:=Eb k a U;refine NP (h:=h) (c:=Xo[a]) (XT:=0) p j t rfl d s ?_ z λM g e=>b _ M f.toks E ⟨g,j.go λm d=>e.extBut Xr m ne d,m,e.extBut Yb m w d,s⟩ λn m r d=>e.extBut n m (by simpa using r) d;rw[r3,o9,dZ,dv U];rfl
 done:=λf B Xg X b=>by
  let@⟨p,j,⟨@m,d,s⟩⟩:=X;refine RV v p j t rfl d s ?_ λM e=>b M f.toks λn m r d=>e n m (by simpa using r) d;rw[r3,o9,dZ,rJ (by rw[yQ k];exact ba _)];rfl
 self:=λa f B Xg X b=>xh X.1 b
end
section
variable{Xm:bJ}{l:bc}{O:bw}{Xg:ab->ah->Prop}{f:ah}
theorem Oi{s:af}{B:Bool->ah->Prop}(a:f.TypeIs (.ref s) "set")(c:B au f):wpAny (aM Xm l) O (aX.List.listLengthHint<|.ref s) B Xg f:=by
 unfold aX.List.listLengthHint;refine ak (my a PySem.F.slot_set_len.lookup ?_);generalize d:("set.__len__" : String)=g
 wp_delta
 rw[show splitId g=Z ("set","__len__") from by subst d;decide +kernel];subst d;refine ak (ow (T := "set") (b:=aa) a (by rw[q5];kernel_rfl) ?_);refine zO (λb=>absurd b (by decide)) (λ_=>?_);refine zO (λ_=>?_) (λb=>absurd (by decide +kernel) b);refine ak (wpAny_typeOf a ?_);exact aK c
theorem M_(b:Xo.Perm (range S.size)):lb S Xo=(Xo.filterMap λa=>S[a]?).map (·.2)/\(Xo.filterMap λa=>S[a]?).Perm S.toList:=by
 refine⟨?_,(b.filterMap _).trans (by rw[DV])⟩;rw[F2];rfl
end
section
variable{Xm:bJ}{l:bc}{O:bw}{Xg:ab->ah->Prop}{f:ah}
end
theorem Nm{F:Xx->Ya}:∀{b t:List Ya},b.Perm t->∀Q:List Xx,Q.map F=t->∃a:List Xx,a.Perm Q/\a.map F=b:=by
 intro b t o;induction o with
 |nil=>intro Q d;cases Gm.mp d;exact⟨[],.nil,rfl⟩
 |cons h o j=>
  intro Q d;let⟨g,@s,rfl,rfl,c⟩:=z7.mp d;let⟨@a,f,XZ⟩:=j s c;exact⟨g::a,f.cons g,by rw[cw,XZ]⟩
 |swap h H t=>
  intro Q d;let⟨g,@s,rfl,rfl,c⟩:=z7.mp d;let⟨e,@i,rfl,rfl,k⟩:=z7.mp c;exact⟨e::g::i,.swap g e i,by rw[cw,cw,k]⟩
 |trans f XZ l m=>
  intro Q d;let⟨@n,p,q⟩:=m Q d;let⟨@r,u,v⟩:=l n q;exact⟨r,u.trans p,v⟩
theorem Fd{l:bc}{Xs:List V->af->Prop}:∀Q:List (List V×Int×ab),(∀C∈Q,vU l Xs C)->∃a:List (List V×af),Q.map (λC=>C.2.2)=a.map (λC=>ab.ref C.2)/\a.map (·.1)=Q.map (·.1)/\∀C∈a,Xs C.1 C.2
 |[],_=>⟨[],rfl,rfl,λ_ c=>(fO c).elim⟩
 |C::Q,c=>by
  let⟨@e,d,h,f⟩:=c C (.head _);let⟨@a,dw,da,d9⟩:=Fd Q λC g=>c C (.tail _ g);refine⟨(C.1,e)::a,by rw[cw,cw,dw,d],by rw[cw,cw,da],λH b=>?_⟩;rcases bO.mp b with rfl|b
  ·exact f
  ·exact d9 H b
section
variable{Xm:bJ}{l:bc}{Xs:List V->af->Prop}{O:bw}{Xg:ab->ah->Prop}{f:ah}
theorem Wd{B:ab->ah->Prop}(w:O.handled=Y)(M:fZ l Xs f.heap Xr (h9 l) Xb)(x:Xb.length<=300)(c:∀(z:aV) (v:_) (A:af) (cb:List af) (Xc:List ab) (g:List (List V×af)) (a3:Nat->aV->Prop),(∀e m,f.heap.get? e=Z m->z.get? e=Z m)->f.heap.objs.size<=A->(∀e∈cb,e=Xr\/f.heap.objs.size<=e)->
   h1 Xm l O A cb [A] Xc.length (λa u=>Xc[a]?=Z u) a3->a3 0 z->Xc=g.map (λC=>ab.ref C.2)->(g.map (·.1)).Perm Xb->(∀C∈g,Xs C.1 C.2)->B (.ref A) {f with heap:=z,drawn:=v}):
  wpAny (aM Xm l) O (oz<|.ref Xr) B Xg f:=by
 let⟨m,S,XN,@i,j,D,n,y⟩:=M;have ty:f.TypeIs (.ref Xr) "set" := ⟨m,j,D.1⟩;have E:Xr<f.heap.objs.size:=bI j;have N:S.size<=sizeLine:=by rw[y.num];exact e0 x (by decide)
 have G:∀t:List (Int×ab),t.Perm S.toList->∃g:List (List V×af),t.map (·.2)=g.map (λC=>ab.ref C.2)/\(g.map (·.1)).Perm Xb/\∀C∈g,Xs C.1 C.2:=λt bo=>by
  let⟨@Q,R,T,U⟩:=y.pY;let⟨@al,H,XZ⟩:=Nm bo Q R;let⟨@g,dw,da,d9⟩:=Fd (l:=l) (Xs:=Xs) al λC x=>U C (H.mem_iff.mp x);refine⟨g,?_,?_,d9⟩
  ·rw[<-XZ,eD];exact dw
  ·rw[da];exact (H.map _).trans T
 refine y9 ty HT (hA HT ty V_ ?C<|PySem.F.args_set_iter_1 _)
 case C=>
  unfold aX.«frozenset.__iter__» aX.Frozenset.slot0 aX.Frozenset.addrOf aX.Frozenset.sizeOf;refine ak (ak<|aK<|aK ?_);refine ak (ak<|r8 j n y.fit<|aK ?_);refine ak ?_;unfold setDrawn;refine ak (la j n y.fit ?_);dsimp only;refine ak (t2<|aK ?_);have am:l.params.followText "set-order" = aa\/(!i.plain&&decide (S.size>1))=au->
    wpAny (aM Xm l) O.in1 (do let XN <-setEpoch Xr;let s <-newFields "set_iterator" [ey 0,ey 0,.ref Xr,ey S.size,ey XN];ret s) (λan Xe=>∃s,an=PySem.Fin.done (.ret s)/\∃I p,Xe.TypeIs s I/\n4 (.type I) "__next__" = pure (Z p)/\B s Xe) Xg f:=by
   intro ap;refine ak (BG j n y.fit<|ak<|gh<|aK ⟨_,rfl,"set_iterator",_,⟨_,cI _ rfl,rfl⟩,tG.lookup,?_⟩);have c5:∀e m,f.heap.get? e=Z m->(f.heap.push {cls:=.type "set_iterator",dict:=Y,data:=.fields [ey 0,ey 0,.ref Xr,ey S.size,ey XN].toArray}).get? e=Z m:=λe m d=>bH _ d;have J:gY (f.heap.push {cls:=.type "set_iterator",dict:=Y,data:=.fields [ey 0,ey 0,.ref Xr,ey S.size,ey XN].toArray}) f.heap.objs.size (.int (0:Nat) 0) 0 Xr S.size XN:=⟨_,cI _ rfl,rfl,rfl⟩;have L:i_ (f.heap.push {cls:=.type "set_iterator",dict:=Y,data:=.fields [ey 0,ey 0,.ref Xr,ey S.size,ey XN].toArray}) Xr S XN i:=⟨m,c5 _ _ j,D,n⟩;have cb:∀e∈[f.heap.objs.size,Xr],e=Xr\/f.heap.objs.size<=e:=λe h=>by
    rcases bO.mp h with rfl|h
    ·exact .inr (ba _)
    ·exact .inl (cK.mp h)
   cases q:l.params.followText "set-order" with
   |true=>
    have r:=ON (l.params.setOrder Xr XN) S;let⟨@g,dw,da,d9⟩:=G _ r;exact c _ f.drawn _ _ _ _ _ c5 (ba _) cb (Og w (cZ E) y.fit q) ⟨J,L⟩ dw da d9
   |false=>
    have as:=ap.resolve_left (by rw[q];exact dy);let⟨@g,dw,da,d9⟩:=G _ (.refl _);exact c _ f.drawn _ _ _ _ _ c5 (ba _) cb (MR w (cZ E) y.fit q as (by rw[y.tab.led,h9,q];rfl) y.tab.rise) ⟨J,L⟩ dw da d9
  show wpAny _ _ (if (!l.params.followText "set-order" && (!i.plain&&decide (S.size>1)))=aa then _ else _) _ _ _;cases hd:(!l.params.followText "set-order" && (!i.plain&&decide (S.size>1))) with
  |false=>
   rw[aI dy];refine ak (m:=pure (ey 0)) (aK<|am ?_);cases q:l.params.followText "set-order" with
   |true=>exact .inl rfl
   |false=>rw[q]at hd;exact .inr hd
  |true=>
   rw[aA rfl];refine ak (Em S.size (range S.size) f _ gU λv Xo r=>?_);have a1:∀o∈Xo,o<S.size:=λo c=>eJ.mp (r.mem_iff.mp c);have a2:Xo.length=S.size:=by rw[r.length_eq,gU]
   refine ak (m:=newObj (.type "tuple") (.seq (o9 Xo).toArray)) (gh ?_ (show (o9 Xo).toArray.size<=sizeLine by rw[cO,o9,a9,a2];exact N));refine ak (BG (bH _ j) n y.fit<|ak<|gh<|aK ⟨_,rfl,"set_iterator",_,⟨_,cI _ rfl,rfl⟩,tG.lookup,?_⟩);let@⟨bd,be⟩:=M_ r;let⟨@g,dw,da,d9⟩:=G _ be;have bi:({f with heap:=f.heap.push {cls:=.type "tuple",dict:=Y,data:=.seq (o9 Xo).toArray},drawn:=v}:ah).heap.objs.size=f.heap.objs.size+1:=gN ..;refine c _ v _ [_,Xr,f.heap.objs.size] (lb S Xo) g _ (λe m d=>bH _<|bH _ d) ?_ ?_ (T9 (XN:=XN) (i:=i) (Yq:=0) w ?_ ?_ y.fit a1) ⟨⟨_,cI _ rfl,rfl,rfl⟩,⟨m,bH _<|bH _ j,D,n⟩,⟨_,bH _<|cI _ rfl,rfl⟩⟩ (bd.trans dw) da d9
   ·exact lV (by rw[gN];exact kE _)
   ·intro e h;rcases bO.mp h with rfl|h
    ·exact .inr (by rw[gN];exact zi _)
    ·rcases bO.mp h with rfl|h
     ·exact .inl rfl
     ·exact .inr (by rw[cK.mp h];exact ba _)
   ·rw[gN];exact cZ (uN E)
   ·rw[gN];exact cZ (kE _)
theorem Kz{B:List ab->ah->Prop}(am:O.handled=Y)(u:fZ l Xs f.heap Xr (h9 l) Xb)(w:Xb.length<=300)(c:∀(M:aV) (XT:Nat) (v:_) (b:List (List V×af)),(∀e m,f.heap.get? e=Z m->M.get? e=Z m)->(b.map (·.1)).Perm Xb->(∀C∈b,Xs C.1 C.2)->B (b.map λC=>ab.ref C.2) {f with heap:=M,toks:=XT,drawn:=v}):
  wpAny (aM Xm l) O (vK<|.ref Xr) B Xg f:=by
 have x:Xr<f.heap.objs.size:=let ⟨_,_,_,_,d,_⟩:=u;bI d
 unfold vK;refine ak (AU<|hD entry_proto_collect' ?_);rw[iD PySem.F.plain_proto_collect _];show wpAny _ O.in1 (n3 [] >>= λt=>again<|.builtin "list.__iadd__" ⟨[t,.ref Xr],[]⟩) _ _ f;refine ak (gh ?_);refine aK ⟨hP Ir _,hD entry_list_iadd' ?_⟩;rw[iD Ir _];generalize y:f.heap.push {cls:=.type "list",dict:=Y,data:=.seq ([]:List ab).toArray}=Xn;have D:∀e m,f.heap.get? e=Z m->Xn.get? e=Z m:=λe m d=>by rw[<-y];exact bH _ d
 have G:Xn.get? f.heap.objs.size=Z {cls:=.type "list",dict:=Y,data:=.seq #[]}:=by rw[<-y];exact cI _ rfl
 have H:f.heap.objs.size<Xn.objs.size:=bI G;have I:fZ l Xs Xn Xr (h9 l) Xb:=u.at λm d=>D Xr m d;have ty:ah.TypeIs {f with heap:=Xn} (.ref Xr) "set" := let ⟨m,_,_,_,d,h,_⟩:=I;⟨m,d,h.1⟩
 show wpAny _ O.in1 (aX.List.listExtendWith (.ref f.heap.objs.size) (.ref Xr)<|.ref f.heap.objs.size) _ _ _;unfold aX.List.listExtendWith;refine ak (wpAny_typeOf (T := "set") ty ?_);have z:aX.List.listSameRef (.ref f.heap.objs.size) (.ref Xr)=au:=by simp[aX.List.listSameRef,iM x]
 have E:(ab.type "set" == ab.type "list")=au:=by decide
 have an:(ab.type "set" == ab.type "tuple")=au:=by decide
 simp only[z,E,an,Gr,gQ,fx];refine ak (Wd (f:={f with heap:=Xn}) am I w λE v A cb Xc b a3 XH ap as W X jB XP J=>?_);have a1:Xc.length<=sizeLine:=by rw[jB,a9,<-a9 (f:=(·.1)),XP.length_eq];exact e0 w (by decide)
 have L:f.heap.objs.size∉cb:=λj=>by
  rcases as _ j with d|d
  ·exact absurd d (iM x)
  ·exact absurd H (qY.mpr d)
 have o:E.get? f.heap.objs.size=Z {cls:=.type "list",dict:=Y,data:=.seq #[]}:=XH _ _ G;have a2:ah.TypeIs {f with heap:=E,drawn:=v} (.ref Xr) "set" := let ⟨m,d,n⟩:=ty;⟨m,XH _ _ d,n⟩
 have Q:∀(g:aV) (n:Nat) (Xf:oV->ah->Prop),a3 0 g->(∀e m,e≠f.heap.objs.size->E.get? e=Z m->g.get? e=Z m)->g.get? f.heap.objs.size=Z {cls:=.type "list",dict:=Y,data:=.seq #[] n}->
   (∀(M:aV) (XT:Nat) (i:Nat),(∀e m,f.heap.get? e=Z m->M.get? e=Z m)->M.get? f.heap.objs.size=Z {cls:=.type "list",dict:=Y,data:=.seq Xc.toArray i}->Xf (.ok<|.ret<|.ref f.heap.objs.size) {f with heap:=M,toks:=XT,drawn:=v})->
   codeAny (aM Xm l) O (.builtin "list.extend.loop" ⟨[.ref f.heap.objs.size,.ref A,.ref f.heap.objs.size],[]⟩) Xf {f with heap:=g,drawn:=v}:=λg n Xf X c5 bd be=>
  Ce W.toS a1 f.heap.objs.size L (.ref f.heap.objs.size) Xc.length 0 _ #[] n rfl (gC _) X bd (uP.nil _) λXe p i j N R=>by
   rw[show Xe={f with heap:=Xe.heap,toks:=Xe.toks,drawn:=v} from by let⟨P,bi,bm,bn,P⟩:=j;cases Xe;cases bi;cases bm;cases bn;rfl];have bs:p=Xc.toArray:=by
    apply Array.toList_inj.mp;apply xX
    ·rw[dr];exact R.1
    ·intro a bv ca;have:=R.2 a p.toList[a] (by rw[<-eS];exact dv bv);have this:Xc[a]?=Z p.toList[a]:=this;rw[dv ca]at this;exact (Option.some.inj this).symm
   rw[bs]at N;refine be Xe.heap Xe.toks i (λe m d=>j.heap e m (λq=>?_)<|c5 e m (cZ<|bI d)<|XH e m<|D e m d) N;rcases bO.mp q with cd|q
   ·exact absurd (bI d) (by rw[cd];exact jJ _)
   ·have S:=bI d;rw[cK.mp q]at S;have:f.heap.objs.size<=A:=e0 (lV H) ap;exact absurd S (qY.mpr this)
 refine ak (fl<|Oi (f:={f with heap:=E,drawn:=v}) a2 ?_);refine zO (λ_=>?_) (λ_=>aK ⟨hP Jj _,Q _ 0 _ X (λe m P d=>d) o λM XT i r s=>ak (vn s (aK (by rw[jB];exact c M XT v b r XP J)))⟩);refine ak (h7 ?_);refine ak ?_;show wpAny _ _ (nf f.heap.objs.size (·.push .none) >>= λ_=>nf f.heap.objs.size (·.pop)) _ _ _;refine ak (l1 (s:={f with heap:=E,drawn:=v}) o rfl ?_);have U:=jq (a0.mapSeq (·.push ab.none)) o rfl;refine l1 (hz:=by seq_fits) U rfl ?_;have ce:=jq (a0.mapSeq (·.pop)) U rfl;refine aK ⟨hP Jj _,Q _ _ _ ?_ (λe m k d=>?_) ce λM XT i r s=>ak (vn s (aK (by rw[jB];exact c M XT v b r XP J)))⟩
 ·refine W.frame 0 _ _ X λe k m d=>?_;have al:e≠f.heap.objs.size:=λc=>L (c ▸ k);exact (gw _ _<|eN al).trans ((gw _ _<|eN al).trans d)
 ·exact (gw _ _<|eN k).trans ((gw _ _<|eN k).trans d)
end
end L2
namespace L2
open PySem PySem.Spec PyProof.Rows PySem.W
section
variable{b:aO}{G:List (af×a0)}{D:a3}{j:aw}{f:ah}
theorem aE.RE(A:aE b G D j f)(v:Drawn):aE b G D j {f with drawn:=v}:=⟨A.ok,A.os,A.bare,A.base,A.loc,A.cell,A.free,A.jj,A.pin,A.aZ,A.len⟩
end
section
variable{b:aO}
end
variable{r Xu XZ o:Pos}{g:bx}{Xb:List (List V)}
theorem j1.perm{J S:List V}(m:j1 J)(o:S.Perm J):j1 S:=
 ⟨⟨by rw[o.length_eq];exact m.ord.iQ,λg a e b=>m.ord.jX g (o.mem_iff.mp a) e<|o.mem_iff.mp b,o.nodup_iff.mpr m.ord.ag⟩,m.fst.imp (λc v hd=>c v<|o.mem_iff.mp hd) λc v hd=>c v<|o.mem_iff.mp hd⟩
theorem Ik{j:aw}:∀{a:List (List V×af)},(∀C∈a,cL j (.tup C.1)<|.ref C.2)->br j ((a.map (·.1)).map .tup) (a.map λC=>ar.ref C.2)
 |[],_=>rfl
 |C::a,c=>⟨_,_,rfl,c C<|.head _,Ik λH b=>c H<|.tail _ b⟩
theorem z1:∀a:List (List V×af),bY (a.map λC=>ar.ref C.2) (a.map λC=>ab.ref C.2)
 |[]=>.nil
 |C::a=>.cons rfl (z1 a)
section
variable{b:aO}{G:List (af×a0)}{D:a3}{j:aw}{f:ah}{Xs:List V->af->Prop}
theorem If(as:b.calm=aa)(cr:b.A.units+20<bU){Xr:af}{Xb:List (List V)}{B:cP}(A:aE b G D j f)(a1:fZ b.w Xs f.heap Xr (h9 b.w) Xb)(a2:∀q e,Xs q e->cL j (.tup q) (.ref e))(m:j1 (Xb.map .tup))(y:Xb.length<=300)(p:∀t Q,j t=Y->br j (gs bl<|Xb.map .tup) Q->B (.ref t) (upd j t<|.lst Q)):
  wpAny (aM b.prog b.w) b.A (call (.builtin "sorted") [.ref Xr]) (eM b G D B) b.cW f:=by
 refine za A2 yD yI (BA _) ?C
 case C=>
  unfold aX.«sorted»;refine ak (m:=Bc "sorted" 1 1 _) (aK<|ak<|Kz (O:=b.A.in1) (A.ok.hd as) a1 y λM XT v g bd XP be=>?_);have I:aE b G D j {f with heap:=M,toks:=XT,drawn:=v}:=(A.RE v).kept (XM:=XT) bd;have U:br j ((g.map (·.1)).map .tup) (g.map λC=>ar.ref C.2):=Ik λC y=>a2 _ _ (be C y);have s:dI M ((g.map (·.1)).map .tup) (g.map λC=>ab.ref C.2):=U.fc I.aZ (z1 g);have N:((g.map (·.1)).map V.tup).Perm (Xb.map .tup):=XP.map _;have XR:=m.perm N;have bi:g.length<=300:=by rw[<-a9 (f:=(·.1)),XP.length_eq];exact y
  generalize cs:(g.map (·.1)).map V.tup=J at U s N XR;generalize bm:g.map (λC=>ar.ref C.2)=Xp at U;have P:bY Xp (g.map λC=>ab.ref C.2):=bm ▸ z1 g;generalize bn:g.map (λC=>ab.ref C.2)=Xq at s P ⊢;have al:Xq.length=J.length:=s.length.symm;have bs:Xq.length<=300:=by rw[<-bn,a9];exact bi
  show wpAny _ _ (n3 Xq >>= _) _ _ _;refine ak (vl ?_ (e0 bs (by decide)));have Yn:(M.push<|fN "list" Xq.toArray 0).get? M.objs.size=Z (fN "list" Xq.toArray 0):=cI _ rfl;refine ak (fl<|hA x4 ⟨_,Yn,rfl⟩ y1 ?H<|z_ _)
  case H=>
   have R:∀i:aV,(∀e n,e≠M.objs.size->(M.push<|fN "list" Xq.toArray 0).get? e=Z n->i.get? e=Z n)->∀e n,M.get? e=Z n->i.get? e=Z n:=λi x e n d=>x e n (cZ<|bI d) (bH _ d);refine yX (f:={f with heap:=M.push (fN "list" Xq.toArray 0),toks:=XT,drawn:=v}) (oX J) (pQ<|decide (∀v∈J,ir v=aa)) Yn (λE i x B bv=>zv (c:=i) (f:={f with heap:=i,toks:=XT,drawn:=v}) XR.w E (s.rh<|R i x) _ _ B bv) (λi x=>?_) (.inl ⋯) ⋯ λo E r am XH ⟨ca,cd⟩=>⟨_,rfl,aK ⟨_,rfl,?_⟩⟩
   ·refine Bo (f:={f with heap:=i,toks:=XT,drawn:=v}) XR.w.ord (s.rh<|R i x) XR.w.tup (λce=>fD ce) (by show b.A.units+1+1+9<bU;lia)
   ·have ch:j M.objs.size=Y:=I.aZ.fresh (ba _);rw[al]at r am;have ci:(o.toList.map λa=>J.getD a .aW)=gs bl (Xb.map .tup):=xy m.w.ord ((vo r).trans N) (Bl XR.w.ord r am);have an:=U.pick (o:=o.toList) λq S=>eJ.mp (r.mem_iff.mp S);rw[ci]at an;refine⟨.ref M.objs.size,upd j M.objs.size<|.lst<|o.toList.map λa=>Xp.getD a .aW,?_,rfl,p _ _ ch an⟩;refine I.laid (XM:=XT) (λe L d=>R E XH e L d) (ba _) ⟨?_,_,ca,?_,cd⟩
    ·rw[a9,dr,r.size];exact e0 (by lia:J.length<=300) (by decide)
    ·refine si (by simp) λa u L z E=>?_;rw[dZ]at z E;cases T:o.toList[a]? with
     |none=>rw[T]at z;cases z
     |some q=>
      rw[T]at z E;cases z;cases E;have S:q<J.length:=eJ.mp (r.mem_iff.mp<|fH T);have ap:q<Xp.length:=by rw[P.length,al];exact S
      let⟨@L,cl,co⟩:=P.get (a:=q) (h:=Xp[q]) (dv ap);show cq (Xp.getD q .aW) (Xq.getD q .none);rw[cM,dv ap,cM,cl];exact co
def gp(Xb:List (List V)):List (List V):=Xb.foldl hJ []
theorem zu(Xb:List (List V)):∀a,a<=Xb.length->i4 (λa=>Xb.getD a []) a=(Xb.take a).foldl hJ []
 |0,_=>by rw[wR];rfl
 |a+1,c=>by
  rw[IJ (show a<Xb.length from c),yd,<-zu Xb a (Nat.le_of_succ_le c)];show hJ _ (Xb.getD a [])=hJ _ Xb[a];rw[cM,dv<|show a<Xb.length from c];rfl
theorem Ux(t:List (List V)):∀(a:List (List V)) (h:List V),h∈t.foldl hJ a↔h∈a\/h∈t:=by
 induction t with
 |nil=>intro a h;simp
 |cons q s d=>
  intro a h;rw[lT,d];unfold hJ;by_cases b:q∈a
  ·rw[aA b,bO];constructor
   ·rintro (c|c)
    ·exact .inl c
    ·exact .inr (.inr c)
   ·rintro (c|c|c)
    ·exact .inl c
    ·exact .inl (c ▸ b)
    ·exact .inr c
  ·rw[aI b,ee,cK,bO,or_assoc]
theorem MT{h:List V}:h∈gp Xb↔h∈Xb:=by
 rw[gp,Ux];simp
theorem K7(t:List (List V)):∀a:List (List V),a.Nodup->(t.foldl hJ a).Nodup:=by
 induction t with
 |nil=>intro a c;exact c
 |cons q s b=>
  intro a c;refine b _ ?_;unfold hJ;split
  ·exact c
  ·next e=>exact dN.mpr ⟨c,fP _ q,λh f H g=>by cases cK.mp g;exact λd=>e<|d ▸ f⟩
theorem SS(Xb:List (List V)):(gp Xb).Nodup:=K7 Xb [] iH
theorem NM(t:List (List V)):∀a:List (List V),a.length<=(t.foldl hJ a).length:=by
 induction t with
 |nil=>intro a;exact ba _
 |cons q s b=>
  intro a;refine e0 ?_ (b _);unfold hJ;split
  ·exact ba _
  ·rw[c7];exact jU _ _
theorem VU{a:Nat}(c:a<=Xb.length):(i4 (λa=>Xb.getD a []) a).length<=(gp Xb).length:=by
 rw[zu Xb a c];have d:gp Xb=(Xb.drop a).foldl hJ ((Xb.take a).foldl hJ []):=by
  rw[gp,<-yd,fT]
 rw[d];exact NM _ _
theorem OO(Xb:List (List V)):i4 (λa=>Xb.getD a []) Xb.length=gp Xb:=by
 rw[zu Xb _ (ba _),rl];rfl
def PM(X4:en):cn:=λD j B=>X4 D j λXc Xn=>∃(g:af) (Xb:List (List V)) (Xp:List ar),Xc=[.ref g]/\Xn g=Z (.tup Xp)/\br Xn (Xb.map .tup) Xp/\(∀q∈Xb,V.keys 7 q=aa)/\j1 ((gp Xb).map .tup)/\(gp Xb).length<300/\
 ∀t Q,Xn t=Y->br Xn (gs bl<|(gp Xb).map .tup) Q->B (.ref t) (upd Xn t<|.lst Q)
theorem br.at{j:aw}:∀{J:List V}{Xc:List ar}{a:Nat}{u:ar},br j J Xc->Xc[a]?=Z u->∃v,J[a]?=Z v/\cL j v u
 |[],Xc,a,u,c,d=>by rw[show Xc=[] from c]at d;simp at d
 |v::J,Xc,0,u,c,d=>by
  let⟨L,@s,rfl,z,E⟩:=c;cases d;exact⟨v,rfl,z⟩
 |v::J,Xc,a+1,u,c,d=>by
  let⟨L,@s,rfl,z,E⟩:=c;let⟨@b,e,f⟩:=br.at (a:=a) E (by simpa using d);exact⟨b,by simpa using e,f⟩
theorem UT(E:b.calm=aa)(F:b.A.units+30<bU){t:af}{Xb:List (List V)}{Xp:List ar}{B:ab->ah->Prop}(A:aE b G D j f)(H:j t=Z (.tup Xp))(U:br j (Xb.map .tup) Xp)(I:∀q∈Xb,V.keys 7 q=aa)(S:(gp Xb).length<300)(c:∀M XT Xr,aE b G D j {f with heap:=M,toks:=XT}->fZ b.w (λq e=>V.keys 7 q=aa/\cL j (.tup q) (.ref e)) M Xr (h9 b.w) (gp Xb)->B (.ref Xr) {f with heap:=M,toks:=XT}):
  wpAny (aM b.prog b.w) b.A (call (.type "set") [.ref t]) B b.cW f:=by
 let@⟨C,⟨@Xq,d,⟨@m,J,N,⟨@w,P⟩⟩⟩⟩:=A.aZ t _ H;have Q:Xq.length=Xb.length:=by rw[<-d.length,<-U.length,a9]
 have k:Xq.toArray.size=Xb.length:=by rw[cO,Q]
 refine Nz (Xs:=λq e=>V.keys 7 q=aa/\cL j (.tup q) (.ref e)) (Xy:=Xq.toArray) (Xb:=Xb) (A.ok.hd E) J (Prod.mk.inj N).1 P F (λa u g=>?_) (λp e C=>⟨C.1,C.2.fc A.aZ rfl⟩) (λa U=>?_) λM XT n c5=>?_
 ·rw[r3]at g;have o:a<Xp.length:=by rw[d.length];exact (ek.mp g).1
  let⟨@L,r,s⟩:=d.get (a:=a) (h:=Xp[a]) (dv o);rw[g]at r;cases r;let⟨@v,y,i⟩:=U.at (a:=a) (u:=Xp[a]) (dv o);rw[dZ]at y;let⟨@q,z,rfl⟩:=cD.mp y;let⟨e,@x,R,T,al⟩:=id i;rw[R]at s i;refine⟨e,s,?_⟩;rw[cM,z];exact⟨I q<|fH z,i⟩
 ·rw[k]at U;have:=VU (Xb:=Xb) (lV U);lia
 ·rw[k,OO]at n;exact c M XT _ (A.kept (XM:=XT) c5) n
theorem Up{X4:en}(a:b.calm=aa)(d:b.A.units+30<bU)(h:dS b "sorted")(i:b.aH "sorted" = Y)(k:dS b "set")(l:b.aH "set" = Y)(m:gM b [g] X4)(Xi:bL [g] b.env=[(au,bZ g b.env)]:=by rfl):
  b6 b (.Call (.Name "sorted" XZ) [.Call (.Name "set" o) [g] [] Xu] [] r) (PM X4):=by
 intro G f D j B A c;refine pE (jt A h i (show eT "sorted" = Z (.builtin "sorted") by decide +kernel) (EW ?_ rfl rfl) (by decide) (by decide));refine uz ?_;refine rb (jt A k l (show eT "set" = Z (.type "set") by decide +kernel)<|mc (cc (m Xu G f D j _ A c) λXE H ⟨Xc,Xn,n,s,u⟩=>?_) Xi rfl);let⟨t,Xb,@Xp,rfl,v,U,w,x,y,p⟩:=u;let⟨@L,rfl,z⟩:=hK s;cases z;exact UT a d n v U w y λM XT Xr E F=>wt (If a ⋯ E F (λq e C=>C.2) x ⋯ p)
end
noncomputable def pM:List V->Option (List<|List V)
 |[]=>Z []
 |.tup g::s=>(pM s).map (g::·)
 |_=>Y
theorem CZ:∀{h:List V}{Xb:List (List V)},pM h=Z Xb->h=Xb.map .tup
 |[],Xb,c=>by cases c;rfl
 |.tup g::s,Xb,c=>by
  let⟨@q,z,rfl⟩:=cD.mp c;rw[CZ z];rfl
 |.aW::_,_,c=>by cases c
 |.aG _::_,_,c=>by cases c
 |.int _::_,_,c=>by cases c
 |.str _::_,_,c=>by cases c
 |.fn _::_,_,c=>by cases c
 |.aU _::_,_,c=>by cases c
 |.fd::_,_,c=>by cases c
theorem Cz:∀Xb:List (List V),pM (Xb.map .tup)=Z Xb
 |[]=>rfl
 |q::Xb=>by
  show (pM<|Xb.map .tup).map (q::·)=_;rw[Cz Xb];rfl
def w3(Xb:List (List V)):Bool:=Xb.all (V.keys 7)&&decide ((gp Xb).length<300)
def m9(I:az (List bq)):az aj:=λy=>(I y).bind λo=>(eW o.2 o.1).bind λJ=>match J with
 |[.im (.tup h)]=>(pM h).bind λXb=>if w3 Xb=aa/\rH ((gp Xb).map .tup)=aa then Z (.lst<|gs bl<|(gp Xb).map .tup,o.2) else Y
 |_=>Y
theorem FX:w3 Xb=aa↔(∀q∈Xb,V.keys 7 q=aa)/\(gp Xb).length<300:=by
 unfold w3;rw[cU,jT,gE]
section
variable{b:aO}
theorem Is{I:az (List bq)}(n:b.A.units+30<bU)(q:dS b "sorted")(v:b.aH "sorted" = Y)(w:dS b "set")(C:b.aH "set" = Y)(c:fL b [g] I)(Xi:bL [g] b.env=[(au,bZ g b.env)]:=by rfl)(F:b.calm=aa:=by rfl):
  cS b (.Call (.Name "sorted" XZ) [.Call (.Name "set" o) [g] [] Xu] [] r) (m9 I):=by
 refine eP (Up F n q v w C c Xi) λD j B G=>?_;let⟨y,P,s,@XC,X,ag,H,p⟩:=G;let⟨@⟨Xw,Xl⟩,z,E⟩:=bG.mp H;let⟨@J,L,f⟩:=bG.mp E;refine⟨y,P,Xw,Xl,X,ag,z,λXc Xn Xz al i XJ M=>?_⟩;have N:=XJ.read i L;split at f
 ·rename_i h;let⟨@Xb,R,k⟩:=bG.mp f;split at k
  ·rename_i l;cases k;let⟨@u,rfl,d⟩:=s_ N;let⟨e,@x,rfl,S,U⟩:=(show ∃g x,u=ar.ref g/\Xn g=Z (.tup x)/\br Xn h x from d);cases CZ R;let@⟨XF,XH⟩:=FX.mp l.1;refine⟨e,Xb,x,rfl,S,U,XF,o2.mp l.2,XH,λt Q aU T=>?_⟩;have a:bV Xn (upd Xn t<|.lst Q):=(bV.refl Xn).upd aU;exact p _ _ Xz [t] (i.mono a.tupS λg W m d=>a g m d) ⟨t,_,rfl,e_,T.mono a.tupS.tup,rfl⟩ (M.new a (fP _ _) (λg c=>by rw[cK.mp c];exact aU) i.chg)
  ·cases k
 ·cases f
end
end L2
namespace L2
open PySem PySem.Spec PyProof.Rows
section
variable{b:aO}
end
section
variable{b:aO}
theorem UX(n:b.calm=aa):eK b (.builtin "max") (λx j B=>∃g a r,x=[.ref g]/\j g=Z (.tup [ar.int a,ar.int r])/\B (.int<|if r>a then r else a) j):=by
 intro G f D j x XE B A s c;let⟨t,a,@r,rfl,v,p⟩:=c;let⟨@L,rfl,w⟩:=hK s;cases w;let⟨@Xq,h,o,H⟩:=A.tuple (cH.of v);have k:f.heap.IsTuple t Xq.toArray:=o;have y:Xq.length=2:=h.length.symm;have m:t<f.heap.objs.size:=bI k.choose_spec.1;refine call_max_walk (wpAny_pyIter_tuple k ⟨f.heap.objs.size,[f.heap.objs.size,t],[f.heap.objs.size],Xq.toArray.size,_,_,_,rfl,h1.tuple (A:=b.A.in1) (A.ok.hd n) _ t (cZ m) Xq.toArray,
  ⟨⟨_,cI _ rfl,rfl,rfl⟩,k.push _⟩,?_,by rw[cO];lia,CmpOf.ints_gt (λq=>(([a,r]:List Int)[q]?).getD 0) (λq u z=>ub (XA:=[a,r]) h q u (by simpa using z)),λu M XT E F=>?_⟩)
 ·intro e l;show e<(f.heap.push _).objs.size;rw[gN];rcases bO.mp l with rfl|l
  ·exact kE _
  ·rw[cK.mp l];exact uN m
 ·let⟨@i,rfl⟩:=ub (XA:=[a,r]) h _ u (by simpa using E);refine⟨.int _,j,A.kept<|xt F,⟨i,rfl⟩,?_⟩;rw[y];by_cases c:r>a
  ·have d:t6 (λg e=>decide ((([a,r]:List Int)[e]?).getD 0<(([a,r]:List Int)[g]?).getD 0)) (2-1)=1:=aA (dU c);rw[d];rw[aA c]at p;exact p
  ·have d:t6 (λg e=>decide ((([a,r]:List Int)[e]?).getD 0<(([a,r]:List Int)[g]?).getD 0)) (2-1)=0:=aI (λC=>c<|fD C);rw[d];rw[aI c]at p;exact p
theorem V5(n:b.calm=aa):eK b (.builtin "min") (λx j B=>∃g a r,x=[.ref g]/\j g=Z (.tup [ar.int a,ar.int r])/\B (.int<|if r<a then r else a) j):=by
 intro G f D j x XE B A s c;let⟨t,a,@r,rfl,v,p⟩:=c;let⟨@L,rfl,w⟩:=hK s;cases w;let⟨@Xq,h,o,H⟩:=A.tuple (cH.of v);have k:f.heap.IsTuple t Xq.toArray:=o;have y:Xq.length=2:=h.length.symm;have m:t<f.heap.objs.size:=bI k.choose_spec.1;refine call_min_walk (wpAny_pyIter_tuple k ⟨f.heap.objs.size,[f.heap.objs.size,t],[f.heap.objs.size],Xq.toArray.size,_,_,_,rfl,h1.tuple (A:=b.A.in1) (A.ok.hd n) _ t (cZ m) Xq.toArray,
  ⟨⟨_,cI _ rfl,rfl,rfl⟩,k.push _⟩,?_,by rw[cO];lia,CmpOf.ints_lt (λq=>(([a,r]:List Int)[q]?).getD 0) (λq u z=>ub (XA:=[a,r]) h q u (by simpa using z)),λu M XT E F=>?_⟩)
 ·intro e l;show e<(f.heap.push _).objs.size;rw[gN];rcases bO.mp l with rfl|l
  ·exact kE _
  ·rw[cK.mp l];exact uN m
 ·let⟨@i,rfl⟩:=ub (XA:=[a,r]) h _ u (by simpa using E);refine⟨.int _,j,A.kept<|xt F,⟨i,rfl⟩,?_⟩;rw[y];by_cases c:r<a
  ·have d:t6 (λg e=>decide ((([a,r]:List Int)[g]?).getD 0<(([a,r]:List Int)[e]?).getD 0)) (2-1)=1:=aA (dU c);rw[d];rw[aA c]at p;exact p
  ·have d:t6 (λg e=>decide ((([a,r]:List Int)[g]?).getD 0<(([a,r]:List Int)[e]?).getD 0)) (2-1)=0:=aI (λC=>c<|fD C);rw[d];rw[aI c]at p;exact p
@[simp] noncomputable def sH:hN:=λJ=>match J with
 |[.im (.tup [.int a,.int r])]=>Z (.im<|.int<|if r>a then r else a)
 |_=>Y
@[simp] noncomputable def sO:hN:=λJ=>match J with
 |[.im (.tup [.int a,.int r])]=>Z (.im<|.int<|if r<a then r else a)
 |_=>Y
theorem ND(c:b.calm=aa):hl b (.builtin "max") sH:=by
 refine (UX c).imp λx j B e=>?_;let⟨J,@v,f,d,p⟩:=e;unfold sH at d;split at d
 ·rename_i a r;cases d;let⟨@u,rfl,⟨g,@Xp,rfl,XF,XH⟩⟩:=s_ f;cases tW (XA:=[a,r]) XH;exact⟨g,a,r,rfl,XF,ck.i p rfl⟩
 ·cases d
theorem L8(c:b.calm=aa):hl b (.builtin "min") sO:=by
 refine (V5 c).imp λx j B e=>?_;let⟨J,@v,f,d,p⟩:=e;unfold sO at d;split at d
 ·rename_i a r;cases d;let⟨@u,rfl,⟨g,@Xp,rfl,XF,XH⟩⟩:=s_ f;cases tW (XA:=[a,r]) XH;exact⟨g,a,r,rfl,XF,ck.i p rfl⟩
 ·cases d
end
variable{r Xu XZ o:Pos}{g:bx}
theorem Ms:n4 (.type "list_reverseiterator") "__len__" = pure Y:=by rw[o8,o5];kernel_rfl
theorem M1:n4 (.type "list_reverseiterator") "__length_hint__" = pure (Z<|.builtin "list_reverseiterator.__length_hint__"):=by rw[o8,o5];kernel_rfl
section
variable{Xm:bJ}{l:bc}{O:bw}{f:ah}{Xf:oV->ah->Prop}{A:af}{cb G:List af}{Q:Array u5->Array u5->Prop}{w:Nat}{Xs:Nat->ab->Prop}{a3:Nat->ah->Prop}
theorem Vi(W:WalksS Xm l O.in1 A cb G Q w Xs a3)(g:∀a f,a3 a f->f.TypeIs (.ref A) "list_reverseiterator")(Xr:af)(j:ab)(n:Nat)(b:a3 0 f)(k:Xr∉cb)(o:A∈cb)(p:f.heap.get? Xr=Z {cls:=.type "list",data:=.seq #[] n})(q:∀Xe h c,Moved (Xr::G) Q f Xe->Xe.heap.get? Xr=Z {cls:=.type "list",dict:=Y,data:=.seq h c,slots:=#[]}->uP Xs h w->Xf (.ok<|.ret j) Xe)(r:w<=sizeLine):
  wpAny (aM Xm l) O.in1 (aX.List.listExtendWith (.ref Xr) (.ref A) j)
   (λs Xe=>match s with | .done F=>Xf (.ok F) Xe | .again c=>c.quiet=aa/\codeAny (aM Xm l) O c Xf Xe) (λd Xe=>Xf (.error d) Xe) f:=by
 have t:Xr≠A:=λd=>k (d ▸ o);have z:aX.List.listSameRef (.ref Xr) (.ref A)=au:=by simp[aX.List.listSameRef,t]
 unfold aX.List.listExtendWith;refine ak (wpAny_typeOf (g 0 _ b) ?_);rw[aI (by rw[z];decide)];refine ak (W.self 0 _ _ _ b<|ak<|fl ?_);unfold aX.List.listLengthHint;refine ak (my (g 0 _ b) Ms ?_);show wpAny _ O.in1 (specialOf (ab.ref A) (aB.ofString "__length_hint__") >>= _) _ _ _;refine ak (my (g 0 _ b) M1 ?_)
 (generalize i:("list_reverseiterator.__length_hint__" : String)=m;(fail_if_success (clear i m));wp_delta;rw[show splitId m=Z ("list_reverseiterator","__length_hint__") from by subst i;decide +kernel];subst i)
 refine ak (ow (b:=aa) (g 0 _ b) (by rw[q5];kernel_rfl) ?_);refine aK ?_;rw[aI (by decide)];exact aK ⟨hP rB _,Ce W r _ k _ w 0 _ _ _ rfl (gC _) b p (uP.nil Xs) λXe h c u v x=>q Xe h c u v x⟩
end
section
variable{b:aO}
theorem Wy{Xm:bJ}{l:bc}{O:bw}{f:ah}{Xg:ab->ah->Prop}{B:ab->ah->Prop}{t A:af}{Xy:Array ab}(r:O.handled=Y)(s:t≠A)(o:f.heap.IsList t Xy)(p:f.heap.IsRevIter A t ((Xy.size:Int)-1))(v:Xy.size<=sizeLine)(w:∀M XT g j,(∀e m,e≠A->f.heap.get? e=Z m->M.get? e=Z m)->M.get? f.heap.objs.size=Z {cls:=.type "list",dict:=Y,data:=.seq g j,slots:=#[]}->uP (λa u=>Xy[Xy.size-1-a]?=Z u) g Xy.size->B (.ref f.heap.objs.size) {f with heap:=M,toks:=XT}):
  wpAny (aM Xm l) O (call (.type "list") [.ref A]) B Xg f:=by
 have bT:A<f.heap.objs.size:=let ⟨m,d,_⟩:=p;bI d
 have I:t<f.heap.objs.size:=let ⟨m,d,_⟩:=o;bI d
 have x:f.heap.objs.size∉[A,t]:=λb=>by
  simp only[bO,i8,eY]at b;rcases b with c|c<;>lia
 refine ym (Q₁:=λobj q=>obj=.ref f.heap.objs.size/\q={f with heap:=f.heap.push {cls:=.type "list",data:=.seq #[]} }) F.called_list (F.typeCall_list_1 _) F.entry_list_init
  (code_list_new _ ⟨rfl,rfl⟩) λobj q y=>?_;let@⟨rfl,rfl⟩:=y;have i:(f.heap.push {cls:=.type "list",data:=.seq #[]}).get? f.heap.objs.size=Z {cls:=.type "list",data:=.seq #[]}:=cI _ rfl;refine⟨⟨_,i,rfl⟩,F.args_list_init_2 _ _,?_⟩;show wpAny _ _ (do let z <-aX.List.listItems (.ref f.heap.objs.size);aX.List.listUpdate (.ref f.heap.objs.size) (λ_=>#[]);letGo z.toList.reverse;aX.List.listExtendWith (.ref f.heap.objs.size) (.ref A) .none) _ _ _;refine ak ?_;unfold aX.List.listItems;refine ak (gJ i rfl<|aK ?_);show wpAny _ _ (nf f.heap.objs.size (λ_=>#[]) >>= λ_=>letGo (#[]:Array ab).toList.reverse >>= λ_=>aX.List.listExtendWith (.ref f.heap.objs.size) (.ref A) .none) _ _ _;refine ak (l1 i rfl ?_);have C:=jq (a0.mapSeq<|λ_=>(#[]:Array ab)) i rfl;have k:∀e m,f.heap.get? e=Z m->((f.heap.push {cls:=.type "list",data:=.seq #[]}).update f.heap.objs.size<|a0.mapSeq<|λ_=>(#[]:Array ab)).get? e=Z m:=
  λe m d=>(gw _ _<|iM<|bI d).trans (bH _ d);refine ak (mT ?_);refine Vi (O:=O.in1) (h1.listRev (prog:=Xm) (w:=l) (A:=O.in1.in1) r A t s Xy).toS (λa f h=>h.2.1.typeIs) f.heap.objs.size .none _ ⟨gC _,?_,o.at λm d=>k _ m d⟩ x (.head _) C (λXe g j b D E=>?_) v
 ·have:(Xy.size:Int)-1-((0:Nat):Int)=(Xy.size:Int)-1:=⋯
  rw[this];exact p.at λm d=>k _ m d
 ·rw[Moved.eq_with b];refine⟨rfl,w Xe.heap Xe.toks g j (λe m G d=>b.heap e m (λn=>?_)<|k e m d) D E⟩;rcases bO.mp n with H|n
  ·exact cZ (bI d) H
  ·exact G (cK.mp n)
def Rz(Xd:PySem.W.Frag)(X4:en):cn:=λD j B=>X4 D j λXc Xn=>∃o Xp,Xc=[.ref o]/\df Xd Xn o Xp/\∀t,Xn t=Y->B (.ref t) (upd Xn t<|.lst Xp.reverse)
theorem Ud{X4:en}(v:b.calm=aa)(w:dS b "list")(x:b.aH "list" = Y)(y:dS b "reversed")(C:b.aH "reversed" = Y)(F:gM b [g] X4)(Xi:bL [g] b.env=[(au,bZ g b.env)]:=by rfl):
  b6 b (.Call (.Name "list" XZ) [.Call (.Name "reversed" o) [g] [] Xu] [] r) (Rz b.K X4):=by
 intro G f D j B A c;refine pE (jt A w x (show eT "list" = Z (.type "list") by decide +kernel) (mc ?_ rfl rfl) (by decide) (by decide));refine uz ?_;refine rb (jt A y C (show eT "reversed" = Z (.type "reversed") by decide +kernel)<|mc (cc (F Xu G f D j _ A c) λXE e ⟨Xc,Xn,h,H,I⟩=>?_) Xi rfl);let⟨t,@Xp,d,J,p⟩:=I;subst d;let⟨@L,rfl,N⟩:=hK H;cases N;let⟨@Xq,X9,bo,O⟩:=h.list J;have q:=X9.length;have i:=bo.isList;refine call_reversed_list i (wt ?_);have ne:t≠e.heap.objs.size:=let ⟨m,d,_⟩:=i;cZ (bI d)
 have s:∀n m,e.heap.get? n=Z m->(e.heap.push<|revObj t<|(Xq.toArray.size:Int)-1).get? n=Z m:=λn m d=>bH _ d;refine Wy (Xy:=Xq.toArray) (h.ok.hd v) ne (i.at λm d=>s _ m d) ⟨_,cI _ rfl,rfl,rfl⟩ (by simp only[cO];lia) λM XT l P c5 d Xj=>?_;have Q:bY Xp.reverse l.toList:=by
  refine si (show Xp.reverse.length=l.toList.length from (by rw[ri];exact q.trans (by simpa using Xj.1.symm))) λa u L z E=>?_;have U:a<Xp.length:=by
   have:=(ek.mp z).1
   rwa [ri]at this
  rw[List.getElem?_reverse U]at z;let⟨@T,R,S⟩:=X9.get z;have:=Xj.2 a L (by simpa using E);simp only[cO,r3]at this;rw[<-q,R]at this;cases this;exact S
 have le:e.heap.objs.size<=(e.heap.push<|revObj t<|(Xq.toArray.size:Int)-1).objs.size:=by show _<=(e.heap.objs.push _).size;rw[Ei];lia
 exact⟨.ref _,_,h.laid (XM:=XT) (m:=.lst Xp.reverse) (λn m d=>c5 n m (cZ<|bI d)<|s n m d) le (show _/\∃Xq k,bY Xp.reverse Xq/\_ from ⟨by rw[ri];exact O,l.toList,P,Q,by simpa using d⟩),rfl,p _<|h.aZ.fresh le⟩
@[simp] def tp(I:az (List bq)):az aj:=λy=>(I y).bind λo=>(eW o.2 o.1).bind λJ=>match J with
 |[.lst h]=>Z (.lst h.reverse,o.2)
 |_=>Y
theorem UC{I:az (List bq)}(h:dS b "list")(i:b.aH "list" = Y)(k:dS b "reversed")(l:b.aH "reversed" = Y)(c:fL b [g] I)(Xi:bL [g] b.env=[(au,bZ g b.env)]:=by rfl)(n:b.calm=aa:=by rfl):
  cS b (.Call (.Name "list" XZ) [.Call (.Name "reversed" o) [g] [] Xu] [] r) (tp I):=by
 refine eP (Ud n h i k l c Xi) λD j B q=>?_;let⟨y,P,s,@XC,X,ag,v,p⟩:=q;let⟨@⟨Xw,Xl⟩,z,E⟩:=bG.mp v;let⟨@J,w,e⟩:=bG.mp E;refine⟨y,P,Xw,Xl,X,ag,z,λXc Xn Xz F f XJ A=>?_⟩;have C:=XJ.read f w;split at e
 ·cases e;let⟨@u,rfl,⟨W,o,@x,rfl,XF,XH,W⟩⟩:=g6 C;refine⟨o,x,rfl,df.of XF,λt aU=>?_⟩;have a:bV Xn (upd Xn t<|.lst x.reverse):=(bV.refl Xn).upd aU;exact p _ _ Xz [t] (f.mono a.tupS λg W m d=>a g m d) ⟨t,_,rfl,e_,(XH.mono a.tupS.tup).rev,rfl⟩ (A.new a (fP _ _) (λg c=>by rw[cK.mp c];exact aU) f.chg)
 ·cases e
end
end L2
namespace L2
open PySem
@[simp] def oH:gx:=λg e=>match g,e with
 |.im (.tup J),.im v=>if (V.bo 8 v&&V.c2 8 J)=aa/\J.length<=100000 then (kS J v).map λ(r:Nat)=>aj.im (.int (r:Int)) else Y
 |_,_=>Y
@[simp] noncomputable def rP(I:az bq):jm:=λy=>(I y).bind λo=>match o.1 with
 |.b5 (.a_ Xt)=>Z ((Xt.map λa=>.tup a.1,Y),o.2)
 |_=>Y
end L2
namespace G
open PySem L2
variable{r:List (Int×Int)}{X5 D Yc B P X2 XR XJ:Option aj}{u:Int}{O Xo:List bR}{e v n:aD}{d:bR}{o p:aD->aD}{h:V}{Xh:List aD}{c:aj}{w:Nat}
def sQ:bA:=(h_ (aC<|.aG aa)<|j6 1 (fp 2) kU)
def HV:bA:=(bz (b_ 1 xJ)<|bz (gW (fv<|ai 0) (bS 2) G.sQ)<|cV<|fp 1)
def p7:c9:=dA 1 3 [0] HV
def zS:az aj:=(ay oH (ai 1)<|ai 0)
def CU:bA:=(cV<|b9 hW<|ao (ae<|b9 r1<|ao (ae<|eZ 1 [0] (fv<|ai 1) (bS 0) e1 G.zS) aF) aF)
def rV:c9:=dA 2 2 [0,1] CU
def HN:bA:=(h_ (fp 5)<|j6 3 (ay bE (ai 0)<|ai 4) kU)
def IX:bA:=(bz (b_ 2<|b2 2 G.rV<|ao (ai 0)<|ao (ai 1) aF)<|bz (b_ 3 xJ)<|bz (gW (me<|ao (ai 2)<|ao (ae<|b2 2 G.tu<|ao (ae<|b9 fV<|ao (ai 0) aF)<|ao (ai 2) aF) aF) (ew 2<|de (bS 4)<|de (bS 5) fM) G.HN)<|cV<|fp 3)
def rZ:c9:=dA 2 6 [0,1] IX
def yV:az aj:=(ay bE (ai 1)<|ae<|ay gf (ae<|ay c0 (ai 2)<|ae<|ay fE (ai 3)<|ai 0)<|ae<|b9 fV<|ao (ai 1) aF)
def Kp:bA:=(bz (b_ 4<|ay oH (ai 0)<|ai 1)<|cV<|eZ 1 [0,4,2] (tg<|ao (ae<|aC<|.int 1)<|ao (ae<|ay c0 (ai 3)<|ae<|aC<|.int 1) aF) (bS 0) e1 G.yV)
def rA:c9:=dA 4 5 [0,1,2,3] Kp
def zT:bA:=(bz (b_ 3<|b2 4 G.rA<|ao (ai 0)<|ao (ai 1)<|ao (ae<|aC<|.int<|-1)<|ao (ae<|ay bE (ai 2)<|ae<|aC<|.int 0) aF)<|bz (b_ 4<|b2 4 G.rA<|ao (ai 0)<|ao (ai 1)<|ao (ae<|aC<|.int 1)<|ao (ae<|ay bE (ai 2)<|ae<|aC<|.int 1) aF)<|bz (b_ 5<|oo (cg<|ay lG (ae<|ay bE (ai 2)<|ae<|aC<|.int 0)<|ae<|ay bE (ai 2)<|ae<|aC<|.int 1) (fp 3)<|fp 4)<|bz (b_ 6<|oo (cg<|ay lG (ae<|ay bE (ai 2)<|ae<|aC<|.int 0)<|ae<|ay bE (ai 2)<|ae<|aC<|.int 1) (fp 4)<|fp 3)<|bz (b_ 7<|ay c0 (ae<|eH<|ao (ai 1) aF)<|ai 5)<|cV<|b9 hW<|ao (ae<|ay c0 (ae<|ay c0 (ai 7)<|ae<|tp<|ao (ae<|iY (ai 7) jK<|kL<|hM<|aC<|.int 1) aF)<|ai 6) aF)
def Bw:c9:=dA 3 8 [0,1,2] zT
def yp(Xb:di):az aj:=(b2 3 G.Bw<|ao (ai 1)<|ao (ai 0)<|ao (ae<|ay bE (ai 2)<|ai 0) aF)
def Cu(Xb:di):bA:=(bz (b_ 3<|b2 2 (G.pZ Xb)<|ao (ai 0)<|ao (ai 1) aF)<|bz (b_ 4<|b2 2 G.rZ<|ao (ai 3)<|ao (ai 2) aF)<|cV<|b9 hW<|ao (ae<|eZ 1 [3,4] (fv<|ai 2) (bS 0) e1<|G.yp Xb) aF)
def o6(Xb:di):c9:=dA 3 5 [0,1,2] (Cu Xb)
def zd(Xb:di):az aj:=(d6<|ao (ai 0)<|ao (ai 1) aF)
def Gy(Xb:di):bA:=(hY<|gm hr 3 m8<|ao (ae<|eZ 1 [4] (rP<|ae<|b2 1 G.p7<|ao (ai 5) aF) (bS 0) e1<|G.zd Xb) aF)
def Gz(Xb:di):bA:=(bz (b_ 3<|eH aF)<|bz (gW (me<|ao (ai 2)<|ao (ae<|b2 3 (G.o6 Xb)<|ao (ai 0)<|ao (ai 1)<|ao (ai 2) aF) aF) (ew 2<|de (bS 4)<|de (bS 5) fM)<|G.Gy Xb)<|cV<|b9 hW<|ao (ae<|b9 ha<|ao (ai 3) aF) aF)
def wC(Xb:di):c9:=dA 3 6 [0,1,2] (Gz Xb)
def vY:bA:=(bz (h_ (b2 2 G.m6<|ao (ai 0)<|ao (ai 4) aF)<|ew 2<|de (bS 6)<|de (bS 7) fM)<|bz (h_ (b2 2 G.m6<|ao (ai 0)<|ao (ae<|eH<|ao (ae<|d6<|ao (ae<|aC<|.int 2)<|ao (ae<|aC<|.int 0) aF)<|ao (ae<|d6<|ao (ae<|aC<|.int 0)<|ao (ae<|aC<|.int 2) aF)<|ao (ae<|d6<|ao (ae<|hM<|aC<|.int 2)<|ao (ae<|aC<|.int 0) aF)<|ao (ae<|d6<|ao (ae<|aC<|.int 0)<|ao (ae<|hM<|aC<|.int 2) aF) aF) aF)<|ew 2<|de (bS 8)<|de (bS 9) fM)<|bz (b_ 10<|d6<|ao (ae<|ay c0 (ai 6)<|ai 8)<|ao (ae<|ay c0 (ai 7)<|ai 9) aF)<|ei (hn (cg<|ay pF (ae<|b9 sO<|ao (ai 10) aF)<|ae<|aC<|.int 0)<|hn (cg<|ay mz (ae<|b9 sH<|ao (ai 10) aF)<|ae<|aC<|.int 30)<|cg<|ay oS (ai 10)<|ai 4) (hY<|gm hr 4 hH<|ao (ai 10) aF) fA)
def J9:bA:=(bz (pd 2 3<|ao (ae<|b2 2 G.m6<|ao (ai 0)<|ao (ae<|eH<|ao (ae<|aC<|.int 0)<|ao (ae<|aC<|.int 1)<|ao (ae<|aC<|.int 4) aF) aF)<|ao (ae<|b2 2 G.m6<|ao (ai 0)<|ao (ae<|eH<|ao (ae<|aC<|.int 0)<|ao (ae<|aC<|.int 1)<|ao (ae<|aC<|.int 3) aF) aF) aF)<|bz (b_ 4<|eH<|ao (ae<|d6<|ao (ae<|ay c0 (ai 2)<|ae<|ay fE (ae<|aC<|.int 2)<|ae<|b2 2 G.jw<|ao (ai 0)<|ao (ae<|aC<|.int 4) aF)<|ao (ae<|ay c0 (ai 3)<|ae<|ay fE (ae<|aC<|.int 2)<|ae<|b2 2 G.jw<|ao (ai 0)<|ao (ae<|aC<|.int 4) aF) aF) aF)<|bz (gW (jQ<|ao (ae<|b2 2 G.jw<|ao (ai 0)<|ao (ai 1) aF) aF) (bS 5) G.vY)<|cV<|b9 ha<|ao (ai 4) aF)
def wg:c9:=dA 2 11 [0,1] J9
def ti:bA:=(bz (hY<|gm hr 1 m8<|ao (ae<|eH<|ao (ae<|d6<|ao (ai 2)<|ao (ai 3) aF)<|ao (ae<|d6<|ao (ai 2)<|ao (ae<|ay c0 (ai 3)<|ae<|aC<|.int 1) aF) aF) aF)<|hY<|gm hr 1 m8<|ao (ae<|eH<|ao (ae<|d6<|ao (ae<|ay c0 (ai 2)<|ae<|aC<|.int 1)<|ao (ai 3) aF)<|ao (ae<|d6<|ao (ae<|ay c0 (ai 2)<|ae<|aC<|.int 1)<|ao (ae<|ay c0 (ai 3)<|ae<|aC<|.int 1) aF) aF) aF)
def HD:bA:=(bz (b_ 1<|eH aF)<|bz (gW (fv<|ai 0) (ew 2<|de (bS 2)<|de (bS 3) fM) G.ti)<|cV<|b9 hW<|ao (ae<|b9 ha<|ao (ai 1) aF) aF)
def u0:c9:=dA 1 4 [0] HD
def yv:bA:=(ei (cg<|ay nU (ai 5)<|ai 1) (hY<|gm hr 2 hH<|ao (ae<|d6<|ao (ae<|d6<|ao (ai 3)<|ao (ai 4) aF)<|ao (ai 5) aF) aF) fA)
def sa:bA:=(gW (fv<|ae<|d6<|ao (ae<|d6<|ao (ai 3)<|ao (ae<|ay c0 (ai 4)<|ae<|aC<|.int 2) aF)<|ao (ae<|d6<|ao (ae<|ay c0 (ai 3)<|ae<|aC<|.int 2)<|ao (ai 4) aF) aF) (bS 5) G.yv)
def IY:az aj:=(d6<|ao (ai 0)<|ao (ai 0) aF)
def sz:bA:=(ei (cg<|ay ke (ae<|ay bE (ai 6)<|ai 11)<|ai 9) (h_ (fp 10)<|j6 6 (fp 11) kU) fA)
def Cw:az Bool:=(cg<|ay ih (ai 2)<|ae<|eH aF)
def tO:bA:=(bz (h_ (gm hr 2 nt<|ao (ae<|b2 2 G.jw<|ao (ai 0)<|ao (ae<|b9 fV<|ao (ai 2) aF) aF) aF)<|ew 2<|de (bS 8)<|de (bS 5) fM)<|bz (pd 9 10<|ao (ae<|ay bE (ai 6)<|ai 8)<|ao (ae<|ay bE (ai 6)<|ai 5) aF)<|ei (cg<|ay ih (ai 9)<|ai 10) (bz (hY<|gm hr 7 hH<|ao (ae<|d6<|ao (ai 8)<|ao (ai 5) aF) aF)<|gW (fv<|ai 1) (bS 11) G.sz) fA)
def CJ:bA:=(bz (b_ 2<|eH aF)<|bz (xv 1 (ew 2<|de (bS 3)<|de (bS 4) fM) G.sa)<|bz (b_ 6<|b9 rQ<|ao (ae<|eZ 1 [] (fv<|ai 1) (bS 0) e1 G.IY) aF)<|bz (b_ 7<|eH aF)<|bz (kn G.Cw G.tO 1000000)<|cV<|b9 hW<|ao (ae<|b9 ha<|ao (ai 7) aF) aF)
def wx:c9:=dA 2 12 [0,1] CJ
def w1:bA:=(ei (cg<|ay ih (ai 2)<|ae<|eH aF) (hY<|gm hr 3 hH<|ao (ae<|gm hr 2 nt<|ao (ae<|b2 2 G.jw<|ao (ai 0)<|ao (ae<|b9 fV<|ao (ai 2) aF) aF) aF) aF) fA)
def G8:bA:=(bz (b_ 2<|b9 uW<|ao (ai 1) aF)<|bz (b_ 3<|eH aF)<|bz (gW (jQ<|ao (ae<|ay c0 (ae<|aC<|.int 1)<|ae<|b2 2 G.jw<|ao (ai 0)<|ao (ae<|b2 2 G.m6<|ao (ai 0)<|ao (ae<|eH<|ao (ae<|aC<|.int 1)<|ao (ae<|aC<|.int 2)<|ao (ae<|aC<|.int 3)<|ao (ae<|aC<|.int 4)<|ao (ae<|aC<|.int 8) aF) aF) aF) aF) (bS 4) G.w1)<|cV<|b9 hW<|ao (ae<|b9 ha<|ao (ai 3) aF) aF)
def wq:c9:=dA 2 5 [0,1] G8
def zE(Xb:di):az aj:=(d6<|ao (ai 0)<|ao (ai 1) aF)
def Ep(Xb:di):bA:=(hY<|gm hr 7 m8<|ao (ae<|eZ 1 [8] (fv<|ae<|m9<|ao (ai 9) aF) (bS 0) e1<|G.zE Xb) aF)
def Jz(Xb:di):bA:=(ei (mN<|kM<|ae<|b2 2 (G.qD 6)<|ao (ae<|b2 3 (G.wC Xb)<|ao (ai 4)<|ao (ai 5)<|ao (ai 6) aF)<|ao (ae<|b9 hW<|ao (ae<|b9 ha<|ao (ai 7) aF) aF) aF) (cV<|aC<|.aG au) fA)
def xc(Xb:di):az aj:=(fp 0)
def u7(Xb:di):bA:=(bz (b_ 2<|b2 2 G.uI<|ao (ai 0)<|ao (ai 1) aF)<|bz (b_ 3<|b2 2 G.wg<|ao (ai 2)<|ao (ae<|aC<|.int 24) aF)<|bz (pd 4 5<|ao (ae<|b2 1 G.u0<|ao (ai 3) aF)<|ao (ae<|b2 2 G.wx<|ao (ai 2)<|ao (ai 3) aF) aF)<|bz (b_ 6<|b2 2 G.wq<|ao (ai 2)<|ao (ai 4) aF)<|bz (b_ 7<|eH aF)<|bz (gW (me<|ao (ai 6)<|ao (ae<|b2 3 (G.o6 Xb)<|ao (ai 4)<|ao (ai 5)<|ao (ai 6) aF) aF) (ew 2<|de (bS 8)<|de (bS 9) fM)<|G.Ep Xb)<|bz (gW (jQ<|ao (ae<|aC<|.int 2) aF) (bS 10)<|G.Jz Xb)<|ei (cg<|ay ih (ae<|b9 ha<|ao (ae<|eZ 2 [] (fv<|ai 7) (ew 2<|de (bS 0)<|de (bS 1) fM) e1<|G.xc Xb) aF)<|ae<|b9 uW<|ao (ai 4) aF) (cV<|aC<|.aG au) fA)
def Hd(Xb:di):bA:=(bz (gW (jQ<|ao (ae<|b9 qt<|ao (ae<|aC<|.int 1)<|ao (ae<|b9 q7<|ao (ae<|aC<|.int 6)<|ao (ae<|b9 fV<|ao (ai 0) aF) aF) aF) aF) (bS 1)<|G.u7 Xb)<|cV<|aC<|.aG aa)
def pL(Xb:di):c9:=dA 1 11 [0] (Hd Xb)
abbrev ly(c:aj)(XJ XR X2:Option aj)(Xh:List aD)(P A Yf B Yc D:Option aj):a4:=[Z c,XJ,XR,X2,Z<|bk Xh,P,A,Yf,B,Yc,D]
theorem PT(Xh:List aD)(m:aD):oS (.im<|aq m) (bk Xh)=Z (.im<|.aG<|!decide (m∈Xh)):=by
 show (iP (aq m)<|bk Xh).map (λs=>aj.im<|.aG<|!s)=_;rw[F4 Xh m];rfl
theorem M9{A Yf:Option aj}(j:e8 (w+2) c)(I:nz 40 Xh)(Q:Xh.length<40):
  ∃M a l o p q r,vY (ly c XJ XR X2 Xh P A Yf B Yc D)=Z (.aS,ly M XJ XR X2 a P l o p q r)/\e8 w M/\nz 40 a/\a.length<=Xh.length+1:=by
 let⟨R,@z,s,t,Xn⟩:=rz (w:=w+1) (x:=Xh.map aq) j (λC=>I.ne<|Gm.mp C) (by rw[a9];lia);let⟨@n,u,rfl⟩:=cN.mp t;let⟨S,@E,F,G,XD⟩:=rz (w:=w) (x:=[((2:Int),(0:Int)),(0,2),(-2,0),(0,-2)].map aq) Xn (by simp) (by simp);let⟨@v,hd,rfl⟩:=cN.mp G;have H:v∈sr:=by
  simp only[bO,fO,eY]at hd;rcases hd with rfl|rfl|rfl|rfl<;>simp[sr]
 let⟨@fg,rfl⟩:=e9 j;let⟨@J,rfl⟩:=e9 Xn;let⟨@g,rfl⟩:=e9 XD;obtain⟨m,k⟩:∃m:aD,m=(n.1+v.1,n.2+v.2):=⟨_,rfl⟩;obtain⟨y,b⟩:∃y:a4,y=ly (.lst g) XJ XR X2 Xh P (Z<|ax n.1) (Z<|ax n.2) (Z<|ax v.1) (Z<|ax v.2) (Z<|.im<|aq m):=⟨_,rfl⟩;have XF:cg (ay pF (ae<|b9 sO<|ao (ai 10) aF)<|ae<|aC<|.int 0) y=Z (decide (0<=(if m.2<m.1 then m.2 else m.1)),y):=by
  rw[b];exact iy (a5 (a7<|gS (bK rfl rfl) rfl rfl) rfl rfl rfl rfl)
 have XH:cg (ay mz (ae<|b9 sH<|ao (ai 10) aF)<|ae<|aC<|.int 30) y=Z (decide ((if m.2>m.1 then m.2 else m.1)<30),y):=by
  rw[b];exact iy (a5 (a7<|gS (bK rfl rfl) rfl rfl) rfl rfl rfl rfl)
 have h:cg (ay oS (ai 10)<|ai 4) y=Z (!decide (m∈Xh),y):=by
  rw[b];exact iy (a5 rfl rfl rfl rfl<|PT Xh m)
 have L:∃XO,ei (hn (cg<|ay pF (ae<|b9 sO<|ao (ai 10) aF)<|ae<|aC<|.int 0)<|hn (cg<|ay mz (ae<|b9 sH<|ao (ai 10) aF)<|ae<|aC<|.int 30)<|cg<|ay oS (ai 10)<|ai 4) (hY<|gm hr 4 hH<|ao (ai 10) aF) fA y=Z (.aS,XO)/\∃a,XO=ly (.lst g) XJ XR X2 a P (Z<|ax n.1) (Z<|ax n.2) (Z<|ax v.1) (Z<|ax v.2) (Z<|.im<|aq m)/\nz 40 a/\a.length<=Xh.length+1:=by
  by_cases e:0<=(if m.2<m.1 then m.2 else m.1)
  ·rw[dU e]at XF;by_cases f:(if m.2>m.1 then m.2 else m.1)<30
   ·rw[dU f]at XH;by_cases i:m∈Xh
    ·rw[dU i]at h;exact⟨y,hZ (pv XF<|pv XH h) rfl,Xh,b,I,⋯⟩
    ·rw[d3 i]at h;refine⟨_,kp (pv XF<|pv XH h) (by rw[b];exact lq (jW rfl rfl rfl rfl rfl (Bp ⋯) rfl)),Xh++[m],rfl,?_,by rw[c7];exact ba _⟩;rw[k]at i e f ⊢;exact I.add u H i ⋯ (by dsimp only at e f;split at e<;>split at f<;>lia)
   ·rw[d3 f]at XH;exact⟨y,hZ (pv XF<|z0 XH) rfl,Xh,b,I,⋯⟩
  ·rw[d3 e]at XF;exact⟨y,hZ (z0 XF) rfl,Xh,b,I,⋯⟩
 let⟨@W,d,⟨@a,rfl,N,O⟩⟩:=L;refine⟨.lst g,a,Z<|ax n.1,Z<|ax n.2,Z<|ax v.1,Z<|ax v.2,Z<|.im<|aq m,?_,XD,N,O⟩;unfold vY;refine cj (Xl:=ly (.lst J) XJ XR X2 Xh P (Z<|ax n.1) (Z<|ax n.2) B Yc D) (nM (dq (Xw:=[.aY 0,.aY 4]) rfl rfl rfl s rfl) rfl) ?_;refine cj (Xl:=ly (.lst g) XJ XR X2 Xh P (Z<|ax n.1) (Z<|ax n.2) (Z<|ax v.1) (Z<|ax v.2) D) (nM (dq (Xw:=[.aY 0,.b5<|.lst<|[((2:Int),(0:Int)),(0,2),(-2,0),(0,-2)].map aq]) rfl rfl rfl F rfl) rfl) ?_;exact cj (Xl:=y) (by rw[b,k];rfl) d
theorem EJ{g e n:Int}(c:h∈[V.int g,.int e,.int n]):∃a,h=.int a/\(a=g\/a=e\/a=n):=by
 simp only[bO,fO,eY]at c;rcases c with rfl|rfl|rfl
 ·exact⟨_,rfl,.inl rfl⟩
 ·exact⟨_,rfl,.inr<|.inl rfl⟩
 ·exact⟨_,rfl,.inr<|.inr rfl⟩
theorem Mn(j:e8 (w+1000) c):∃M Xh,wg [c,ax 24]=Z (bk Xh,[M,ax 24])/\e8 w M/\jo Xh/\fJ Xh/\Xh.length<=24:=by
 let⟨ca,@z,J,Q,Xn⟩:=rz (w:=w+999) (x:=[.int 0,.int 1,.int 4]) j (by simp) (by simp);let⟨@i,rfl,bQ⟩:=EJ Q;let⟨cd,@E,R,T,XD⟩:=rz (w:=w+998) (x:=[.int 0,.int 1,.int 3]) Xn (by simp) (by simp);let⟨@L,rfl,ce⟩:=EJ T;let⟨m,@ch,al,ci,cl,n⟩:=n_ (w:=w+997) (k:=4) XD ⋯ ⋯;let⟨q,@co,am,XY,X1,r⟩:=n_ (w:=w+996) (k:=4) n ⋯ ⋯;let⟨s,@t,an,cr,cs,v⟩:=n_ (w:=w+995) (k:=24) r ⋯ ⋯;obtain⟨g,f⟩:∃g:aD,g=(i+2*m,L+2*q):=⟨_,rfl⟩;have ap:nz 40 [g]:=⟨by simp,by simp,by simp,λe b=>by rw[cK.mp b,f];dsimp only;lia,λg f e b=>by rw[cK.mp b,cK.mp f];exact⟨by simp,by simp⟩,λo W g f e b=>by rw[cK.mp b,cK.mp f]⟩;let⟨@XC,as,⟨a1,Xh,P,A,Yf,B,Yc,@D,rfl,l,I,F⟩⟩:=zP (XK:=bS 5) (e:=vY) (x:=gD 0 s.toNat) (λa y=>∃c Xh P A Yf B Yc D,y=ly c (Z<|ax 24) (Z<|ax i) (Z<|ax L) Xh P A Yf B Yc D/\e8 (w+995-2*a) c/\nz 40 Xh/\Xh.length<=a+1) (y:=ly t (Z<|ax 24) (Z<|ax i) (Z<|ax L) [g] Y Y Y Y Y Y) ⟨t,[g],Y,Y,Y,Y,Y,Y,rfl,v,ap,ba _⟩
  (λa h y a2 bd=>by
   let⟨c,Xh,P,A,Yf,B,Yc,@D,rfl,be,I,F⟩:=bd;have U:a<s.toNat:=(yi a2).1;let⟨M,bi,db,ds,dL,eq,@ev,d,N,bm,ex⟩:=M9 (w:=w+995-2*(a+1)) (XJ:=Z (ax 24)) (XR:=Z (ax i)) (X2:=Z (ax L)) (P:=Z (.im h)) (A:=A) (Yf:=Yf) (B:=B) (Yc:=Yc) (D:=D) (be.mono ⋯) I ⋯;exact⟨_,.aS,_,rfl,d,.inl rfl,M,bi,_,_,_,_,_,_,rfl,N,bm,⋯⟩)
 rw[Kk]at l F;let⟨@G,XP,S,O⟩:=AQ I.ag ⋯;refine⟨a1,G,?_,l.mono ⋯,⟨λC=>?_,XP.nodup_iff.mpr I.ag,by rw[XP.length_eq];lia,λe b=>I.nZ e<|XP.mem_iff.mp b,λg f e b=>I.par g (XP.mem_iff.mp f) e<|XP.mem_iff.mp b,λo bn g f e b=>I.con o (λg f e b=>bn g (XP.mem_iff.mpr f) e<|XP.mem_iff.mpr b) g (XP.mem_iff.mp f) e<|XP.mem_iff.mp b⟩,O,by rw[XP.length_eq];lia⟩
 ·let⟨@p,rfl⟩:=e9 j;let⟨@fd,rfl⟩:=e9 Xn;let⟨@H,rfl⟩:=e9 XD;let⟨@fn,rfl⟩:=e9 n;let⟨@bs,rfl⟩:=e9 r;let⟨@fr,rfl⟩:=e9 v;let⟨@bv,rfl⟩:=e9 l;have mk:∀u:Int,h4 2 u=aa:=λu=>mU (by decide) (by decide);unfold wg J9;refine eO (y:=ly (.lst bv) (Z<|ax 24) (Z<|ax i) (Z<|ax L) Xh P A Yf B Yc D) rfl ?_ rfl;refine cj (Xl:=[Z (.lst H),Z<|ax 24,Z<|ax i,Z<|ax L,Y,Y,Y,Y,Y,Y,Y]) (y0 (XO:=[Z (.lst H),Z<|ax 24,Y,Y,Y,Y,Y,Y,Y,Y,Y]) (c6 (dE<|dq (Xw:=[.aY 0,.b5<|.lst [.int 0,.int 1,.int 4]]) rfl rfl rfl J rfl)<|c6 (dE<|dq (Xw:=[.aY 0,.b5<|.lst [.int 0,.int 1,.int 3]]) rfl rfl rfl R rfl) rfl) rfl (f9 rfl) (f9 rfl) rfl) ?_;refine cj (Xl:=ly (.lst bs) (Z<|ax 24) (Z<|ax i) (Z<|ax L) [g] Y Y Y Y Y Y) (iJ (J_ (c6 (dE<|B_ (c6 (dE<|ix rfl (dE<|ix rfl (dE<|dq (Xw:=[.aY 0,.b5<|ax 4]) rfl rfl rfl al rfl) rfl rfl<|hu<|mk m) rfl rfl rfl)<|c6 (dE<|ix rfl (dE<|ix rfl (dE<|dq (Xw:=[.aY 0,.b5<|ax 4]) rfl rfl rfl am rfl) rfl rfl<|hu<|mk q) rfl rfl rfl) rfl) rfl (ft rfl) rfl) rfl) rfl (ft rfl) rfl) (f9 rfl) (by rw[f];rfl)) ?_;exact cj (jl (sS (c6 (dE<|dq (Xw:=[.aY 0,.aY 1]) rfl rfl rfl an rfl) rfl) rfl ⟨⋯,⋯⟩) as rfl) (eB<|zV rfl S)
 ·subst C;have:=XP.length_eq;have z:=jk.mpr I.ne;rw[hF]at this;lia
theorem SV(c:n∈Xh):hE (dc Xh p) (cB n) (aq v)=dc Xh (λe=>if e=n then v else p e):=by
 have a:((dc Xh p).any λb=>decide (b.1=cB n))=aa:=ny.mpr ⟨(cB n,aq<|p n),cN.mpr ⟨n,c,rfl⟩,dU rfl⟩;unfold hE;rw[aA a];unfold dc;rw[eD];refine mL λe W=>?_;show (if cB e=cB n then (cB e,aq v) else (cB e,aq<|p e))=(cB e,aq<|if e=n then v else p e);by_cases C:e=n
 ·rw[aA (congrArg cB C),aA C]
 ·rw[aI λl=>C<|nE l,aI C]
theorem Mj(c:∀e∈Xh,o e=p e):dc Xh o=dc Xh p:=mL λe a=>by rw[c e a]
theorem yA{Xx:Type}{n v:Prop}[Decidable n][Decidable v]{g e:Xx}(c:n↔v):(if n then g else e)=if v then g else e:=by
 by_cases C:n
 ·rw[aA C,aA<|c.mp C]
 ·rw[aI C,aI λl=>C<|c.mpr l]
def jP(u L:aD)(p:aD->aD)(n:aD):aD->aD:=λe=>if e=n/\p n=u then L else p e
theorem FR{u L:aD}(ne:L≠u):∀(a:List aD) (p:aD->aD) (e:aD),a.foldl (jP u L) p e=if e∈a/\p e=u then L else p e
 |[],p,e=>by rw[aI λC=>nomatch C.1];rfl
 |n::a,p,e=>by
  rw[lT,FR ne a];by_cases C:e=n
  ·subst C;by_cases l:p e=u
   ·have d:jP u L p e e=L:=aA ⟨rfl,l⟩;rw[d,aI λH=>ne H.2,aA ⟨.head _,l⟩]
   ·have d:jP u L p e e=p e:=aI λH=>l H.2;rw[d,aI λH=>l H.2,aI λH=>l H.2]
  ·have d:jP u L p n e=p e:=aI λH=>C H.1;rw[d];refine yA ?_;rw[bO];exact⟨λH=>⟨.inr H.1,H.2⟩,λH=>⟨H.1.resolve_left C,H.2⟩⟩
theorem M4(c:n∈Xh)(a:Xh.length<=1000):kU (.a_<|dc Xh p) (.im<|aq n) (.im<|aq v)=Z (.a_<|dc Xh<|λe=>if e=n then v else p e):=by
 rw[<-SV c];exact aA ⟨rfl,by unfold dc;rw[a9];lia⟩
def ov(e:aD):List aD:=[e,(e.1,e.2+1),(e.1+1,e.2),(e.1+1,e.2+1)]
theorem DD{h H:List aD}(c:h.length+H.length<=100000):m8 (bk h) [bk H]=Z (.im .aW,bk<|h++H):=by
 show _=Z (aj.im .aW,aj.lst<|(h++H).map aq);rw[fQ];exact aA (by rw[a9,a9];exact c)
theorem HM:∀(Xh a:List aD) (b XR X2:Option aj),a.length+4*Xh.length<=1000->∃XZ c,d2 (ew 2<|de (bS 2)<|de (bS 3) fM) ti (Xh.map aq) [b,Z<|bk a,XR,X2]=Z (.aS,[b,Z<|bk<|a++Xh.flatMap ov,XZ,c])
 |[],a,b,XR,X2,_=>⟨XR,X2,by rw[vq,cC];rfl⟩
 |e::Xh,a,b,XR,X2,d=>by
  rw[c3]at d;let⟨XZ,@c,f⟩:=HM Xh (a++ov e) b (Z<|ax e.1) (Z<|ax e.2) (by rw[c7];show _+4+_<=_;lia);refine⟨XZ,c,?_⟩;rw[cw,d2];show (ti [b,Z<|bk a,Z<|ax e.1,Z<|ax e.2]).bind _=_;have g:ti [b,Z<|bk a,Z<|ax e.1,Z<|ax e.2]=Z (.aS,[b,Z<|bk<|a++ov e,Z<|ax e.1,Z<|ax e.2]):=by
   unfold ti;refine cj (Xl:=[b,Z<|bk<|a++[e,(e.1,e.2+1)],Z<|ax e.1,Z<|ax e.2]) (lq (jW rfl rfl (bK (a7 (v:=bk [e,(e.1,e.2+1)]) rfl) rfl) rfl rfl (DD (by show _+2<=_;lia)) rfl)) ?_;rw[show a++ov e=a++[e,(e.1,e.2+1)]++[(e.1+1,e.2),(e.1+1,e.2+1)] by rw[bt];rfl];exact lq (jW rfl rfl (bK (a7 (v:=bk [(e.1+1,e.2),(e.1+1,e.2+1)]) rfl) rfl) rfl rfl (DD (by rw[c7];show _+2+2<=_;lia)) rfl)
  rw[g,ip,<-bt];exact f
theorem Na(e:aD):(ov e).Perm (hT e):=(List.Perm.refl _).cons e |>.trans (.cons _<|.cons _<|List.Perm.swap _ _ [])
theorem GX:∀Xh:List aD,(Xh.flatMap ov).Perm (cells Xh)
 |[]=>.refl _
 |e::Xh=>by
  rw[ip];exact (Na e).append (GX Xh)
theorem MQ(X6:jo Xh):∃aN,u0 [bk Xh]=Z (aL aN,[bk Xh])/\aN.Perm (cells Xh)/\fJ aN:=by
 have c:=X6.len;have ct:=sD Xh;have hs:=GX Xh;let⟨XZ,@b,a⟩:=HM Xh [] (Z .ed) Y Y (by rw[hF];lia);rw[jb]at a;let⟨@aN,XP,S,O⟩:=AQ (hs.nodup_iff.mpr X6.zj) (by rw[hs.length_eq];lia);refine⟨aN,?_,XP.trans hs,O⟩;unfold u0 HD;exact eO (y:=[Z (bk Xh),Z<|bk<|Xh.flatMap ov,XZ,b]) rfl (cj (Xl:=[Z (bk Xh),Z<|bk [],Y,Y]) rfl<|cj (jl (m:=Z (0,bk Xh)) (Xl:=[Z .ed,Z<|bk [],Y,Y]) rfl a rfl)<|eB<|ng<|zV rfl S) rfl
abbrev fe(c:aj)(Xh:List aD)(Xo:List bR)(X2 X5 P A Yf B Yc D Yn:Option aj):a4:=[Z c,Z<|bk Xh,Z<|cz Xo,X2,X5,P,A,Yf,B,Yc,D,Yn]
section
variable{c:aj}{Xh:List aD}{X2 X5 P A Yf B Yc D Yn:Option aj}
theorem Du(a:Xo.length<100000):hH (cz Xo) [.im (bP d)]=Z (.im .aW,cz<|Xo++[d]):=by
 have:hH (cz Xo) [.im (bP d)]=Z (.im .aW,.lst<|Xo.map bP++[bP d]):=zo (by rw[a9];exact a);rw[this,cz,fQ];rfl
theorem Tg(Xh:List aD)(m:aD):nU (.im<|aq m) (bk Xh)=Z (.im<|.aG<|decide (m∈Xh)):=by
 show (iP (aq m)<|bk Xh).map (λs=>aj.im<|.aG s)=_;rw[F4 Xh m];rfl
theorem Kg{m:aD}(a:Xo.length<1000):yv (fe c Xh Xo (Z<|ax e.1) (Z<|ax e.2) (Z<|.im<|aq m) A Yf B Yc D Yn)=Z (.aS,fe c Xh (Xo++if m∈Xh then [(e,m)] else []) (Z<|ax e.1) (Z<|ax e.2) (Z<|.im<|aq m) A Yf B Yc D Yn):=by
 have q:cg (ay nU (ai 5)<|ai 1) (fe c Xh Xo (Z<|ax e.1) (Z<|ax e.2) (Z<|.im<|aq m) A Yf B Yc D Yn)=Z (decide (m∈Xh),fe c Xh Xo (Z<|ax e.1) (Z<|ax e.2) (Z<|.im<|aq m) A Yf B Yc D Yn):=iy (a5 rfl rfl rfl rfl<|Tg Xh m);unfold yv;by_cases C:m∈Xh
 ·rw[dU C]at q;rw[aA C];exact kp q (lq (jW rfl rfl (bK (a7 (v:=.im (bP (e,m))) rfl) rfl) rfl rfl (Du ⋯) rfl))
 ·rw[d3 C]at q;rw[aI C,cC];exact hZ q rfl
theorem N2(Xh:List aD)(e:aD):j2 Xh e=(if (e.1,e.2+2)∈Xh then [(e,(e.1,e.2+2))] else [])++if (e.1+2,e.2)∈Xh then [(e,(e.1+2,e.2))] else []:=by
 unfold j2;by_cases C:(e.1,e.2+2)∈Xh<;>by_cases l:(e.1+2,e.2)∈Xh<;>simp[C,l]
theorem LD(a:Xo.length<900):sa (fe c Xh Xo (Z<|ax e.1) (Z<|ax e.2) P A Yf B Yc D Yn)=Z (.aS,fe c Xh (Xo++j2 Xh e) (Z<|ax e.1) (Z<|ax e.2) (Z<|.im<|aq (e.1+2,e.2)) A Yf B Yc D Yn):=by
 unfold sa;refine jl (x:=[aq (e.1,e.2+2),aq (e.1+2,e.2)]) (m:=Y) (Xl:=fe c Xh Xo (Z<|ax e.1) (Z<|ax e.2) P A Yf B Yc D Yn) rfl ?_ rfl;rw[N2,<-bt];exact oh rfl (Kg ⋯) (oh rfl (Kg (by rw[c7];split<;>simp<;>lia)) rfl)
theorem Et(m:Option aj)(s:a4):o1 (m::Z (bk Xh)::s) 1 (Xh.map aq)=aa:=by
 unfold o1;simp
theorem Dm:∀(a:List aD) (Xo:List bR) (X2 X5 P:Option aj),Xo.length+2*a.length<=800->∃b d f,lu 1 (Xh.map aq) (ew 2<|de (bS 3)<|de (bS 4) fM) sa (a.map aq) (fe c Xh Xo X2 X5 P A Yf B Yc D Yn)=Z (.aS,fe c Xh (Xo++a.flatMap (j2 Xh)) b d f A Yf B Yc D Yn)
 |[],Xo,X2,X5,P,_=>⟨X2,X5,P,by
  rw[r5,lu];dsimp only;rw[aA (Et _ _),vq,cC]⟩
 |e::a,Xo,X2,X5,P,g=>by
  rw[c3]at g;have bo:=EG Xh e;let⟨b,d,@f,h⟩:=Dm a (Xo++j2 Xh e) (Z<|ax e.1) (Z<|ax e.2) (Z<|.im<|aq (e.1+2,e.2)) (by rw[c7];lia);refine⟨b,d,f,?_⟩;rw[cw,lu];dsimp only;rw[aA (Et _ _)];show (sa<|fe c Xh Xo (Z<|ax e.1) (Z<|ax e.2) P A Yf B Yc D Yn).bind _=_;rw[LD ⋯,ip,<-bt];exact h
theorem Rf{L u:aD}{a:Option aj}(c:n∈Xh)(b:Xh.length<=1000):sz [a,XJ,XR,X2,X5,P,Z<|.a_<|dc Xh p,Yf,B,Z<|.im<|aq u,Z<|.im<|aq L,Z<|.im<|aq n]=Z (.aS,[a,XJ,XR,X2,X5,P,Z<|.a_<|dc Xh<|jP u L p n,Yf,B,Z<|.im<|aq u,Z<|.im<|aq L,Z<|.im<|aq n]):=by
 have i:cg (ay ke (ae<|ay bE (ai 6)<|ai 11)<|ai 9) [a,XJ,XR,X2,X5,P,Z<|.a_<|dc Xh p,Yf,B,Z<|.im<|aq u,Z<|.im<|aq L,Z<|.im<|aq n]=Z (decide (p n=u),[a,XJ,XR,X2,X5,P,Z<|.a_<|dc Xh p,Yf,B,Z<|.im<|aq u,Z<|.im<|aq L,Z<|.im<|aq n]):=iy (a5 (a7<|a5 rfl rfl rfl rfl<|yF p c) rfl rfl rfl<|Qh _ _);unfold sz;by_cases C:p n=u
 ·rw[dU C]at i;have d:jP u L p n=λe=>if e=n then L else p e:=funext λe=>by
   unfold jP;exact yA ⟨λH=>H.1,λH=>⟨H,C⟩⟩
  rw[d];refine kp i (nM rfl ?_);show (kU (.a_<|dc Xh p) (.im<|aq n)<|.im<|aq L).map _=_;rw[M4 c b];rfl
 ·rw[d3 C]at i;have d:jP u L p n=p:=funext λe=>by
   unfold jP;exact aI λH=>C H.2
  rw[d];exact hZ i rfl
theorem JK{L u:aD}{a XJ XR:Option aj}(d:Xh.length<=1000):∀(b:List aD) (p:aD->aD) (Yn:Option aj),(∀n∈b,n∈Xh)->∃c,d2 (bS 11) sz (b.map aq) [a,XJ,XR,X2,X5,P,Z<|.a_<|dc Xh p,Yf,B,Z<|.im<|aq u,Z<|.im<|aq L,Yn]=Z (.aS,[a,XJ,XR,X2,X5,P,Z<|.a_<|dc Xh<|b.foldl (jP u L) p,Yf,B,Z<|.im<|aq u,Z<|.im<|aq L,c])
 |[],p,Yn,_=>⟨Yn,rfl⟩
 |n::b,p,Yn,e=>by
  let⟨@c,f⟩:=JK (L:=L) (u:=u) (a:=a) (XJ:=XJ) (XR:=XR) d b (jP u L p n) (Z<|.im<|aq n) λh g=>e h (.tail _ g);refine⟨c,?_⟩;rw[cw,d2];show (sz [a,XJ,XR,X2,X5,P,Z<|.a_<|dc Xh p,Yf,B,Z<|.im<|aq u,Z<|.im<|aq L,Z<|.im<|aq n]).bind _=_;rw[Rf (e n<|.head _) d];exact f
end
theorem Ug(a:0<=u)(Yb:u<(O.length:Int))(b:O[u.toNat]?=Z d):nt (cz O) [ax u]=Z (.im<|bP d,cz<|O.eraseIdx u.toNat):=by
 have c:(O.map bP)[u.toNat]?=Z (bP d):=by rw[dZ,b];rfl
 show (if 0<=u/\u<((O.map bP).length:Int) then _ else Y)=_;rw[aA ⟨a,by rw[a9];exact Yb⟩,c,zI bP O u.toNat];rfl
theorem Nr{J:List bR}{Yn:Option aj}(X6:jo Xh)(j:e8 (w+1) c)(Xd:kF Xh O J o)(x:O≠[]):
  ∃M h i n A E F I N,tO (fe c Xh O X2 X5 P (Z<|.a_<|dc Xh o) (Z<|cz J) B Yc D Yn)=Z (.aS,fe M Xh h X2 X5 A (Z<|.a_<|dc Xh n) (Z<|cz i) E F I N)/\e8 w M/\kF Xh h i n/\h.length<O.length:=by
 have al:=jk.mpr x;have am:=Xd.len;have aG:=X6.len;let⟨u,@z,R,S,Yb,Xn⟩:=n_ (w:=w) (k:=(O.length:Int)) j (by omega) (by omega);obtain⟨d,b⟩:∃d,O[u.toNat]?=Z d:=⟨O[u.toNat]'(by omega),by simp⟩;let⟨@fg,rfl⟩:=e9 j;let⟨@a,rfl⟩:=e9 Xn;have p:=Xd.nP d (fH b);have q:(O.eraseIdx u.toNat).length<O.length:=by rw[uZ,aA (by omega)];omega
 have r:h_ (gm hr 2 nt<|ao (ae<|b2 2 G.jw<|ao (ai 0)<|ao (ae<|b9 fV<|ao (ai 2) aF) aF) aF) (ew 2<|de (bS 8)<|de (bS 5) fM) (fe (.lst fg) Xh O X2 X5 P (Z<|.a_<|dc Xh o) (Z<|cz J) B Yc D Yn)=Z (.aS,fe (.lst a) Xh (O.eraseIdx u.toNat) X2 X5 (Z<|.im<|aq d.2) (Z<|.a_<|dc Xh o) (Z<|cz J) (Z<|.im<|aq d.1) Yc D Yn):=
  nM (jW rfl rfl (c6 (dE<|dq (Xw:=[.aY 0,.b5<|ax (O.length:Int)]) (c6 rfl<|c6 (dE<|r7 (c6 rfl rfl) rfl<|Pg O) rfl) rfl rfl R rfl) rfl) rfl rfl (Ug S Yb b) rfl) rfl;obtain⟨y,f⟩:∃y:a4,y=fe (.lst a) Xh (O.eraseIdx u.toNat) X2 X5 (Z<|.im<|aq d.2) (Z<|.a_<|dc Xh o) (Z<|cz J) (Z<|.im<|aq d.1) (Z<|.im<|aq<|o d.1) (Z<|.im<|aq<|o d.2) Yn:=⟨_,rfl⟩;have s:pd 9 10 (ao (ae<|ay bE (ai 6)<|ai 8)<|ao (ae<|ay bE (ai 6)<|ai 5) aF) (fe (.lst a) Xh (O.eraseIdx u.toNat) X2 X5 (Z<|.im<|aq d.2) (Z<|.a_<|dc Xh o) (Z<|cz J) (Z<|.im<|aq d.1) Yc D Yn)=Z (.aS,y):=by
  rw[f];exact y0 (bK (a7<|a5 rfl rfl rfl rfl<|yF o p.1)<|bK (a7<|a5 rfl rfl rfl rfl<|yF o p.2.1) rfl) rfl (f9 rfl) (f9 rfl) rfl
 have g:cg (ay ih (ai 9)<|ai 10) y=Z (!decide (o d.1=o d.2),y):=by
  rw[f];exact iy (a5 rfl rfl rfl rfl<|NI _ _)
 unfold tO;by_cases C:o d.1=o d.2
 ·rw[dU C]at g;exact⟨.lst a,_,J,o,Z<|.im<|aq d.2,Z<|.im<|aq d.1,Z<|.im<|aq<|o d.1,Z<|.im<|aq<|o d.2,Yn,cj r (cj s (hZ g (by rw[f];rfl))),Xn,Xd.drop b C,q⟩
 ·rw[d3 C]at g;let⟨@T,t⟩:=JK (Xh:=Xh) (L:=o d.2) (u:=o d.1) (a:=Z (.lst a)) (XJ:=Z .ed) (XR:=Z (cz<|O.eraseIdx u.toNat)) (X2:=X2) (X5:=X5) (P:=Z (.im<|aq d.2)) (Yf:=Z (cz<|J++[d])) (B:=Z (.im<|aq d.1)) (by omega) Xh o Yn λ_ c=>c;have XN:dc Xh (Xh.foldl (jP (o d.1)<|o d.2) o)=dc Xh λe=>if o e=o d.1 then o d.2 else o e:=Mj λe U=>by
   rw[FR λl=>C l.symm];exact yA ⟨λH=>H.2,λH=>⟨U,H⟩⟩
  rw[XN]at t;refine⟨.lst a,_,J++[d],_,Z<|.im<|aq d.2,Z<|.im<|aq d.1,Z<|.im<|aq<|o d.1,Z<|.im<|aq<|o d.2,T,cj r<|cj s<|kp g ?_,Xn,Xd.take b C,q⟩;rw[f];exact cj (lq (jW rfl rfl (bK (a7 (v:=.im (bP d)) rfl) rfl) rfl rfl (Du (by omega)) rfl)) (jl (m:=Z (1,bk Xh)) rfl t rfl)
theorem Uy(O:List bR):ih (cz O) (.lst [])=Z (.im<|.aG<|!decide (O=[])):=by
 show (if (V.c2 8 (O.map bP)&&V.c2 8 [])=aa then Z (aj.im<|.aG<|!fC (O.map bP) []) else Y)=_;rw[A1,aA<|show (aa&&V.c2 8 [])=aa from rfl];cases O<;>rfl
theorem Q5(X6:jo Xh)(j:e8 (w+100) c):∃(M:aj) (T J:List bR) (o:aD->aD),wx [c,bk Xh]=Z (.im<|.tup<|T.map bP,[M,bk Xh])/\e8 w M/\T.Perm J/\k_ Xh J o/\∀d,iq Xh d->o d.1=o d.2:=by
 have aG:=X6.len;have bo:(j8 Xh).length<=2*Xh.length:=JG Xh Xh;have I:kF Xh (j8 Xh) [] (λe=>e):=⟨.nil,by rw[jb];exact LG X6.ag,by rw[hF];lia,λd u=>HK.mp u,λd u=>.inl<|HK.mpr u⟩;let⟨@fg,rfl⟩:=e9 j;let⟨b,f,@r,v⟩:=Dm (c:=.lst fg) (Xh:=Xh) (A:=Y) (Yf:=Y) (B:=Y) (Yc:=Y) (D:=Y) (Yn:=Y) Xh [] Y Y Y (by rw[hF];lia);rw[jb]at v;have L:eZ 1 [] (fv<|ai 1) (bS 0) e1 G.IY (fe (.lst fg) Xh (j8 Xh) b f r Y Y Y Y Y Y)=Z (.lst<|Xh.map λe=>.tup [aq e,aq e],fe (.lst fg) Xh (j8 Xh) b f r Y Y Y Y Y Y):=
  jZ (x:=Xh.map aq) (m:=Z (1,bk Xh)) rfl (kz _ (λn=>.tup [aq n,aq n]) _ (λn bi=>⟨[Z (.im<|aq n)],_,[Z (.im<|aq n)],rfl,rfl,rfl,rfl⟩) ⋯) rfl;let⟨@XC,lw,⟨M,J,o,g,h,l,p,@q,rfl,N,s⟩⟩:=Ar (n:=Cw) (e:=tO) (λk y=>∃c O J o g h l p q,y=fe c Xh O b f g (Z<|.a_<|dc Xh o) (Z<|cz J) h l p q/\e8 (w+O.length) c/\kF Xh O J o/\O.length<=k) (λy=>∃c J o g h l p q,y=fe c Xh [] b f g (Z<|.a_<|dc Xh o) (Z<|cz J) h l p q/\e8 w c/\kF Xh [] J o)
  (λk y R=>by
   let⟨c,O,J,o,g,h,l,p,@q,rfl,z,C,bm⟩:=R;refine⟨!decide (O=[]),_,iy<|a5 rfl rfl rfl rfl<|Uy O,λi=>?_,λi=>?_⟩
   ·have E:O≠[]:=by simpa using i
    let⟨M,F,S,U,al,am,an,ap,@as,d,N,s,t⟩:=Nr (w:=w+(O.length-1)) (X2:=b) (X5:=f) (P:=g) (B:=h) (Yc:=l) (D:=p) (Yn:=q) X6 (z.mono (by have:=jk.mpr E;lia)) C E;exact⟨.aS,_,d,.inl rfl,F.length,⋯,M,F,S,U,al,am,an,ap,as,rfl,N.mono ⋯,s,ba _⟩
   ·have:O=[]:=by simpa using i
    subst this;exact⟨c,J,o,g,h,l,p,q,rfl,z,C⟩) 1000000 (j8 Xh).length (fe (.lst fg) Xh (j8 Xh) b f r (Z<|.a_<|dc Xh λe=>e) (Z<|cz []) Y Y Y Y) ⟨.lst fg,j8 Xh,[],_,r,Y,Y,Y,Y,rfl,j.mono ⋯,I,ba _⟩ ⋯
 have H:=s.ag;have a1:=s.len;rw[cC]at H;rw[hF]at a1;let⟨@T,a2,bd⟩:=Q8 (y:=fe M Xh [] b f g (Z<|.a_<|dc Xh o) (Z<|cz J) h l p q) (a:=7) H ⋯ rfl;refine⟨M,T,J,o,?_,N,a2,s.iV,λd u=>(s.xM d u).resolve_left (by simp)⟩;let⟨@be,rfl⟩:=e9 N;unfold wx CJ;refine eO (y:=fe (.lst be) Xh [] b f g (Z<|.a_<|dc Xh o) (Z<|cz J) h l p q) rfl ?_ rfl;refine cj (Xl:=fe (.lst fg) Xh [] Y Y Y Y Y Y Y Y Y) rfl (cj (Xl:=fe (.lst fg) Xh (j8 Xh) b f r Y Y Y Y Y Y) v ?_);exact cj (f5 (Wj (o:=λe=>e) X6.ag ⋯ L) (f9 rfl) rfl) (cj (Xl:=fe (.lst fg) Xh (j8 Xh) b f r (Z<|.a_<|dc Xh λe=>e) (Z<|cz []) Y Y Y Y) rfl<|cj lw<|eB<|ng bd)
theorem Pj{O:List aD}{d:aD}(a:0<=u)(Yb:u<(O.length:Int))(b:O[u.toNat]?=Z d):nt (bk O) [ax u]=Z (.im<|aq d,bk<|O.eraseIdx u.toNat):=by
 have c:(O.map aq)[u.toNat]?=Z (aq d):=by rw[dZ,b];rfl
 show (if 0<=u/\u<((O.map aq).length:Int) then _ else Y)=_;rw[aA ⟨a,by rw[a9];exact Yb⟩,c,zI aq O u.toNat];rfl
theorem OM(O:List aD):ih (bk O) (.lst [])=Z (.im<|.aG<|!decide (O=[])):=by
 show (if (V.c2 8 (O.map aq)&&V.c2 8 [])=aa then Z (aj.im<|.aG<|!fC (O.map aq) []) else Y)=_;rw[oa,aA<|show (aa&&V.c2 8 [])=aa from rfl];cases O<;>rfl
abbrev mJ(c:aj)(aN el X:List aD)(X5:Option aj):a4:=[Z c,Z<|aL aN,Z<|bk el,Z<|bk X,X5]
theorem Ro{aN el X:List aD}(j:e8 (w+1) c)(ag:(X++el).Nodup)(p:el.length<=1000)(aY:X.length<=1000)(sub:∀n∈X++el,n∈aN):
  ∃M b a,w1 (mJ c aN el X X5)=Z (.aS,mJ M aN b a X5)/\e8 w M/\(a++b).Nodup/\(∀n∈a++b,n∈aN)/\b.length<=el.length/\X.length<=a.length/\a.length<=X.length+1/\(el≠[]->a.length=X.length+1):=by
 have q:cg (ay ih (ai 2)<|ae<|eH aF) (mJ c aN el X X5)=Z (!decide (el=[]),mJ c aN el X X5):=iy (a5 rfl rfl rfl rfl<|OM el);unfold w1;by_cases C:el=[]
 ·rw[dU C]at q;exact⟨c,el,X,hZ q rfl,j.mono ⋯,ag,sub,ba _,ba _,⋯,λl=>absurd C l⟩
 ·rw[d3 C]at q;have r:=jk.mpr C;let⟨u,@z,e,f,Yb,Xn⟩:=n_ (w:=w) (k:=(el.length:Int)) j ⋯ ⋯;obtain⟨n,d⟩:∃n,el[u.toNat]?=Z n:=⟨el[u.toNat]'⋯,by simp⟩;let⟨@g,i⟩:=ek.mp d;let⟨@fg,rfl⟩:=e9 j;let⟨@m,rfl⟩:=e9 Xn;have XP:(X++[n]++el.eraseIdx u.toNat).Perm (X++el):=by
   rw[bt];refine d5 X ?_;rw[<-i];exact oJ g
  refine⟨.lst m,el.eraseIdx u.toNat,X++[n],kp q ?_,Xn,XP.nodup_iff.mpr ag,λh o=>sub h<|XP.mem_iff.mp o,?_,?_,?_,λ_=>?_⟩
  ·exact lq (jW rfl rfl (c6 (dE<|jW rfl rfl (c6 (dE<|dq (Xw:=[.aY 0,.b5<|ax (el.length:Int)]) (c6 rfl<|c6 (dE<|r7 (c6 rfl rfl) rfl<|EH el) rfl) rfl rfl e rfl) rfl) rfl rfl (Pj f Yb d) rfl) rfl) rfl rfl (Bp ⋯) rfl)
  ·rw[uZ];split<;>lia
  ·rw[c7];lia
  ·rw[c7];exact ba _
  ·rw[c7];rfl
theorem NX(c:h∈[V.int 1,.int 2,.int 3,.int 4,.int 8]):∃a,h=.int a/\0<a/\a<=8:=by
 simp only[bO,fO,eY]at c;rcases c with rfl|rfl|rfl|rfl|rfl<;>exact⟨_,rfl,by decide,by decide⟩
theorem Qy{aN:List aD}(j:e8 (w+20) c)(ne:aN≠[])(ag:aN.Nodup)(l:aN.length<=1000):∃M b,wq [c,aL aN]=Z (aL b,[M,aL aN])/\e8 w M/\b≠[]/\b.Nodup/\b.length<=8/\∀n∈b,n∈aN:=by
 let⟨al,@z,m,o,Xn⟩:=rz (w:=w+19) (x:=[.int 1,.int 2,.int 3,.int 4,.int 8]) j (by simp) (by simp);let⟨@k,rfl,q,cf⟩:=NX o;let⟨u,@E,r,am,Yb,XD⟩:=n_ (w:=w+18) (k:=k) Xn q ⋯;let⟨@XC,s,⟨t,el,b,@X5,rfl,g,v,A,an,B,f⟩⟩:=zP (XK:=bS 4) (e:=w1) (x:=gD 0 (1+u).toNat) (λa y=>∃c el X X5,y=mJ c aN el X X5/\e8 (w+18-a) c/\(X++el).Nodup/\(∀n∈X++el,n∈aN)/\el.length<=1000/\X.length<=a/\((a=0/\el≠[])\/0<X.length)) (y:=mJ E aN aN [] Y) ⟨E,aN,[],Y,rfl,XD,ag,λ_ c=>c,l,ba _,.inl ⟨rfl,ne⟩⟩
  (λa h y D F=>by
   let⟨c,el,X,@X5,rfl,H,ag,sub,I,aY,f⟩:=F;have U:a<(1+u).toNat:=(yi D).1;let⟨M,J,@L,d,N,P,Q,ap,aJ,cQ,i⟩:=Ro (w:=w+18-(a+1)) (X5:=Z (.im h)) (H.mono ⋯) ag I ⋯ sub;refine⟨_,.aS,_,rfl,d,.inl rfl,M,J,L,_,rfl,N,P,Q,⋯,⋯,.inr ?_⟩;rcases f with ⟨_,C⟩|C
   ·rw[i C];lia
   ·lia)
 rw[Kk]at g B f;have XA:=(dN.mp v).1;let⟨@G,XP,S,O⟩:=AQ XA ⋯;have XB:0<b.length:=f.resolve_left λC=>⋯
 refine⟨t,G,?_,g.mono ⋯,λC=>?_,XP.nodup_iff.mpr XA,by rw[XP.length_eq];lia,λn R=>A n<|gc _<|XP.mem_iff.mp R⟩
 ·let⟨@p,rfl⟩:=e9 j;let⟨@as,rfl⟩:=e9 Xn;let⟨@a1,rfl⟩:=e9 XD;let⟨@T,rfl⟩:=e9 g;unfold wq G8;refine eO (y:=mJ (.lst T) aN el b X5) rfl ?_ rfl;refine cj (Xl:=[Z (.lst p),Z<|aL aN,Z<|bk aN,Y,Y]) rfl (cj (Xl:=mJ (.lst p) aN aN [] Y) rfl (cj (jl (sS (c6 (dE<|ix rfl (dE<|dq (Xw:=[.aY 0,.b5<|ax k]) (c6 rfl<|c6 (dE<|dq (Xw:=[.aY 0,.b5<|.lst [.int 1,.int 2,.int 3,.int 4,.int 8]]) rfl rfl rfl m rfl) rfl) rfl rfl r rfl) rfl rfl rfl) rfl) rfl ⟨⋯,⋯⟩) s rfl)<|eB<|ng<|zV rfl S))
 ·subst C;have:=XP.length_eq;rw[hF]at this;lia
abbrev Cj(e:Bool):aj:=.im (.aG e)
def eL(Xb:List (Int×Int))(n:Int×Int):List (Int×Int):=if n∈Xb then Xb else Xb++[n]
theorem OD(Xb:List (Int×Int))(n:Int×Int):hE (d0 Xb) (cB n) (.aG aa)=d0 (eL Xb n):=by
 unfold eL;by_cases c:n∈Xb
 ·rw[aA c];unfold hE;rw[aA (by rw[Fu];simpa using c)];unfold d0;rw[eD];refine mL λh W=>?_;show (if cB h=cB n then (cB h,V.aG aa) else (cB h,V.aG aa))=_;split<;>rfl
 ·rw[aI c];exact Qr c
abbrev yE(c:aj)(XJ:Option aj)(a b d fS e:Int)(Xb:List (Int×Int))(B Yc f g h i:Option aj):a4:=[Z c,XJ,Z<|ax a,Z<|ax b,Z<|ax d,Z<|ax fS,Z<|ax e,Z<|.a_<|d0 Xb,B,Yc,f,g,h,i]
def iS(r:List (Int×Int)):Prop:=r.Pairwise λg e=>bl (aq g) (aq e)=aa
theorem Gk{Xb:List (Int×Int)}(ag:Xb.Nodup)(a:Xb.length<=1000):∃r:List (Int×Int),gs bl (Xb.map aq)=r.map aq/\r.Perm Xb/\iS r:=by
 have m:=rX ag a;let⟨@r,z,E⟩:=Hu (i7<|Xb.map aq);refine⟨r,E,z,?_⟩;have:=pq m.ord.ag m.ord.jX;rw[E]at this;exact pC.mp this
abbrev Oh:=Int×Int
theorem FV(a:Option aj):∀(r Xb:List Oh) (XR:Option aj),Xb.length+r.length<100000->∃b,d2 (bS 2) sQ (r.map aq) [a,Z<|.a_<|d0 Xb,XR]=Z (.aS,[a,Z<|.a_<|d0<|r.foldl eL Xb,b])
 |[],Xb,XR,_=>⟨XR,rfl⟩
 |n::r,Xb,XR,c=>by
  have e:kU (.a_<|d0 Xb) (.im<|.tup<|cB n) (Cj aa)=Z (.a_<|d0<|eL Xb n):=by
   rw[<-OD];exact aA ⟨rfl,by unfold d0;rw[a9];rw[c3]at c;lia⟩
  have A:(eL Xb n).length<=Xb.length+1:=by
   unfold eL;split
   ·lia
   ·rw[c7];exact ba _
  let⟨@b,f⟩:=FV a r (eL Xb n) (Z<|.im<|aq n) (by rw[c3]at c;lia);refine⟨b,?_⟩;have d:sQ [a,Z<|.a_<|d0 Xb,Z<|.im<|aq n]=Z (.aS,[a,Z<|.a_<|d0<|eL Xb n,Z<|.im<|aq n]):=by
   unfold sQ;refine nM rfl ?_;show (kU (.a_<|d0 Xb) (.im<|.tup<|cB n)<|Cj aa).map _=_;rw[e];rfl
  rw[cw,d2];show (sQ [a,Z<|.a_<|d0 Xb,Z<|.im<|aq n]).bind _=_;rw[d];exact f
def p5(J:List V):Bool:=(J.zip<|J.drop 1).all λo=>bl o.1 o.2
theorem Iu(g e:Int×Int):eI 6 (aq g) (aq e)=aa:=rfl
noncomputable def o1:V->Bool
 |.int a=>decide (0<=a)&&decide (a<31)
 |_=>au
theorem U9{g e n:Int×Int}(z:bl (aq g) (aq e)=aa)(E:bl (aq e) (aq n)=aa):bl (aq g) (aq n)=aa:=tL (Iu g e) (Iu e n) z E
theorem HP:∀{r:List (Int×Int)},p5 (r.map aq)=aa->iS r
 |[],_=>List.Pairwise.nil
 |[g],_=>fP _ _
 |g::e::s,c=>by
  have M:(bl (aq g) (aq e)&&p5 ((e::s).map aq))=aa:=c;rw[cU]at M;have b:=HP M.2;refine gB.mpr ⟨λn a=>?_,b⟩;rcases bO.mp a with rfl|a
  ·exact M.1
  ·exact U9 M.1 ((gB.mp b).1 n a)
theorem CI:∀{r:List (Int×Int)},iS r->p5 (r.map aq)=aa
 |[],_=>rfl
 |[g],_=>rfl
 |g::e::s,c=>by
  have M:=gB.mp c;show (bl (aq g) (aq e)&&p5 ((e::s).map aq))=aa;rw[M.1 e (.head _),CI M.2];rfl
theorem Q3(c:iS r):r.Nodup:=c.imp λ{g e} d C=>by rw[C,wJ]at d;cases d
theorem CV(r:List (Int×Int)):∃a:List (Int×Int),gp (r.map cB)=a.map cB/\a.Nodup/\∀n,n∈a↔n∈r:=by
 have b:=λh=>MT (Xb:=r.map cB) (h:=h);have ag:=SS (r.map cB);have Q:∀t:List (List V),(∀h∈t,h∈r.map cB)->t=(t.map λh=>nj<|.tup h).map cB:=λt=>by
  induction t with
  |nil=>intro W;rfl
  |cons h t f=>
   intro c;let⟨@n,W,rfl⟩:=cN.mp (c h<|.head _);rw[cw,cw,<-f λH i=>c H<|.tail _ i];rfl
 have d:=Q _ λh j=>(b h).mp j;refine⟨_,d,?_,λn=>?_⟩
 ·rw[d]at ag;exact (pC.mp ag).imp λ{g e} c C=>c (by rw[C])
 ·have z:cB n∈gp (r.map cB)↔cB n∈r.map cB:=b (cB n);rw[d]at z;have E:∀t:List (Int×Int),cB n∈t.map cB↔n∈t:=λt=>by
   constructor
   ·intro c;let⟨@v,hd,k⟩:=cN.mp c;rw[<-nE k];exact hd
   ·exact λc=>so c
  rw[E,E]at z;exact z
theorem Al:∀r:List (Int×Int),V.keys 8 (r.map aq)=aa
 |[]=>rfl
 |n::s=>by rw[cw,V.keys,Al s];rfl
theorem QY(l:r.length<=290):w3 (r.map cB)=aa/\rH ((gp<|r.map cB).map .tup)=aa/\fC (r.map aq) (gs bl<|(gp<|r.map cB).map .tup)=p5 (r.map aq)/\V.c2 8 (gs bl<|(gp<|r.map cB).map .tup)=aa:=by
 let⟨@a,d,ag,b⟩:=CV r;have o:a.length<=r.length:=wQ ag λh g=>(b h).mp g;have i:(a.map cB).map V.tup=a.map aq:=by rw[eD];rfl
 let⟨@S,c,p,j⟩:=Gk ag ⋯;rw[d,i,c];refine⟨FX.mpr ⟨λq k=>?_,by rw[d,a9];lia⟩,o2.mpr (rX ag ⋯),?_,oa S⟩
 ·let⟨@n,W,rfl⟩:=cN.mp k;exact By n
 ·rw[yt (Al r) (Al S)];cases e:p5 (r.map aq) with
  |true=>
   have f:=HP e;have XP:r.Perm a:=(wM (Q3 f) ag).mpr λn=>(b n).symm;have m:=rX ag ⋯;have:=zg m.ord (XP.map aq) (pC.mpr f);rw[c]at this;exact dU this
  |false=>
   refine d3 λC=>?_;have:=CI j;rw[<-C,e]at this;cases this
theorem Ve{y Xl:a4}{I:az aj}{v:aj}{x:List V}(d:I y=Z (v,Xl))(q:fU v=Z x):fv (ae I) y=Z ((x,Y),Xl):=by
 unfold fv;rw[dE d];show (fU v).map _=_;rw[q];rfl
end G
namespace dj
noncomputable def jB{Xx:Type}:List Xx->List Xx
 |[]=>[]
 |[g]=>[g]
 |g::_::s=>g::jB s
open PySem PySem.Spec PyProof.Rows
section
variable{Xm:bJ}{l:bc}{O:bw}{Xg:ab->ah->Prop}{f:ah}
end
end dj
namespace L2
open PySem PySem.Spec PyProof.Rows
section
variable{b:aO}
end
end L2
namespace G
open PySem L2
variable{G:List bR}{p:aD->Int×Int}{L:V}{aN b l:List aD}{Xb:di}{h a:Int}{f n:aD}{Xw:List bq}{I:az (List bq)}{Xl y:a4}{Xo:List (Int×Int)}{XB:List Int}{o:Int×Int}{X3:List (aD×Int×Int)}
theorem Jx{Xx:Type}[DecidableEq Xx]:∀{t k:List Xx},t.Nodup->(∀h∈t,h∈k)->t.length<=k.length
 |[],_,_,_=>gC _
 |h::t,k,ag,c=>by
  have aS:=g5.mp ag;have:=Jx (k:=k.erase h) aS.2 λH a=>(v_ (λd=>aS.1 (by rw[<-d];exact a))).mpr (c H<|.tail _ a);have d:=Gs (c h<|.head _);have o:=Ko (c h<|.head _);rw[c3];lia
theorem Jk:∀{l:List aD}{r:Nat}{n:aD},l.Nodup->l[r]?=Z n->kS (l.map aq) (aq n)=Z r
 |[],r,n,_,c=>by simp at c
 |g::l,0,n,_,c=>by
  cases c;rw[cw,kS,mn,aA<|dU rfl]
 |g::l,r+1,n,ag,c=>by
  have a:n∈l:=fH c;have ne:¬ g=n:=λd=>(g5.mp ag).1 (d ▸ a);rw[cw,kS,mn,d3 ne,aI (by decide),Jk (g5.mp ag).2 c];rfl
structure b7(l:List aD):Prop where
 ag:l.Nodup
 len:l.length<=200
 pos:0<l.length
theorem b7.idx(Xf:b7 l){r:Nat}{n:aD}(c:l[r]?=Z n):oH (aL l) (.im<|aq n)=Z (ax (r:Int)):=by
 have a:=Xf.len;show (if (V.bo 8 (aq n)&&V.c2 8 (l.map aq))=aa/\(l.map aq).length<=100000 then (kS (l.map aq)<|aq n).map λ(r:Nat)=>aj.im (.int (r:Int)) else Y)=_;rw[aA ⟨by rw[r0,oa];rfl,by rw[a9];lia⟩,Jk Xf.ag c];rfl
def dO(l:List aD)(a:Int):aD:=l.getD (a%(l.length:Int)).toNat (0,0)
theorem b7.mod(Xf:b7 l)(a:Int):0<=a%(l.length:Int)/\a%(l.length:Int)<(l.length:Int):=by
 have:=Xf.pos;exact⟨mv _ ⋯,nh _ ⋯⟩
theorem b7.get(Xf:b7 l)(a:Int):l[(a%(l.length:Int)).toNat]?=Z (dO l a):=by
 have:=Xf.mod a;unfold dO;rw[cM,dv (by omega)];rfl
theorem b7.bN(Xf:b7 l)(a:Int):bE (aL l) (ax<|a%(l.length:Int))=Z (.im<|aq<|dO l a):=by
 show (dV (l.map aq)<|a%(l.length:Int)).map aj.im=_;rw[qV (Xf.mod a).1 (by rw[dZ,Xf.get a];rfl)];rfl
theorem b7.small(b:0<=a)(z:a<(l.length:Int)):a%(l.length:Int)=a:=vh b z
theorem KQ{bN:aD->Int}(Xf:b7 l)(ag:b.Nodup)(aY:b.length<=8)(a:∀n∈b,0<=bN n/\bN n<(l.length:Int)/\l[(bN n).toNat]?=Z n):rV [aL l,aL b]=Z (bX<|f6<|b.map bN,[aL l,aL b]):=by
 have c:(b.map bN).Nodup:=ob ag λg f e h d=>by
  have z:=(a g f).2.2;rw[d,(a e h).2.2]at z;exact (Option.some.inj z).symm
 have i:eZ 1 [0] (fv<|ai 1) (bS 0) e1 zS [Z (aL l),Z<|aL b]=Z (bT<|b.map bN,[Z (aL l),Z<|aL b]):=by
  have:=kz (own:=1) (XK:=bS 0) (n:=e1) (d:=zS) (aP:=[Z (aL l)]) aq (λn=>.int<|bN n) b (λn j=>by
   let@⟨g,e,d⟩:=a n j;have p:=Xf.idx d;rw[show (((bN n).toNat:Nat):Int)=bN n by lia]at p;exact⟨[Z (.im<|aq n),Z<|aL l],_,[Z (.im<|aq n),Z<|aL l],rfl,rfl,a5 rfl rfl rfl rfl p,rfl⟩) ⋯
  refine (jZ (x:=b.map aq) (m:=Y) (Xl:=[Z (aL l),Z<|aL b]) rfl this rfl).trans ?_;rw[bT,eD];rfl
 have k:r1 [bT (b.map bN)]=Z (bT<|f6<|b.map bN):=by
  show (l_<|(b.map bN).map .int).bind _=_;rw[R7];show (if (b.map bN).Nodup/\(b.map bN).length<=1000 then _ else _)=_;rw[aA ⟨c,by rw[a9];lia⟩,Ag]
 unfold rV CU;exact eO rfl (eB<|ng<|gS (bK (a7 i) rfl) rfl k) rfl
abbrev eb(o:Int×Int):V:=.tup [.int o.1,.int o.2]
def fF(X3:List (aD×Int×Int)):List (List V×V):=X3.map λp=>(cB p.1,eb p.2)
theorem QA(c:∀p∈X3,p.1≠n)(e:X3.length<=100):kU (.a_<|fF X3) (.im<|aq n) (.im<|eb o)=Z (.a_<|fF<|X3++[(n,o)]):=by
 have d:hE (fF X3) (cB n) (eb o)=fF (X3++[(n,o)]):=by
  unfold hE;rw[aI]
  ·unfold fF;rw[fQ];rfl
  ·intro C;let⟨@f,a,d⟩:=ny.mp C;let⟨@p,b,rfl⟩:=cN.mp a;exact c p b (nE<|fD d)
 rw[<-d];exact aA ⟨rfl,by unfold fF;rw[a9];lia⟩
theorem IF{l:List aD}(Xf:b7 l){XJ XR:Option aj}:∀(a:List er) (X3:List (aD×Int×Int)) (X5 P:Option aj),(∀p∈a,0<=p.1/\p.1<(l.length:Int))->(X3.map (·.1)++a.map λp=>dO l p.1).Nodup->X3.length+a.length<=100->
  ∃c e,d2 (ew 2<|de (bS 4)<|de (bS 5) fM) HN (a.map λp=>.tup [.int p.1,eb p.2]) [Z (aL l),XJ,XR,Z<|.a_<|fF X3,X5,P]=Z (.aS,[Z (aL l),XJ,XR,Z<|.a_<|fF<|X3++a.map λp=>(dO l p.1,p.2),c,e])
 |[],X3,X5,P,_,_,_=>⟨X5,P,by rw[r5,r5,cC];rfl⟩
 |p::a,X3,X5,P,f,ag,j=>by
  rw[c3]at j;have g:=f p (.head _);let⟨c,e,i⟩:=IF Xf a (X3++[(dO l p.1,p.2)]) (Z<|ax p.1) (Z<|.im<|eb p.2) (λh b=>f h<|.tail _ b) (by rw[fQ,bt];exact ag) (by rw[c7];show _+1+_<=_;lia);refine⟨c,e,?_⟩;rw[cw];rw[bt]at i;refine oh (Xl:=[Z (aL l),XJ,XR,Z<|.a_<|fF X3,Z<|ax p.1,Z<|.im<|eb p.2]) rfl (nM rfl ?_) i;have b:=Xf.bN p.1;rw[b7.small g.1 g.2]at b;have k:=QA (X3:=X3) (n:=dO l p.1) (o:=p.2) (λh b d=>(dN.mp ag).2.2 h.1 (cN.mpr ⟨h,b,rfl⟩) _ (.head _) d) ⋯;have q:ay bE (ai 0) (ai 4) [Z (aL l),XJ,XR,Z<|.a_<|fF X3,Z<|ax p.1,Z<|.im<|eb p.2]=Z (.im<|aq<|dO l p.1,[Z (aL l),XJ,XR,Z<|.a_<|fF X3,Z<|ax p.1,Z<|.im<|eb p.2]):=a5 rfl rfl rfl rfl b;exact Pt rfl q rfl rfl k rfl
theorem zy(Xf:b7 l){x:List Int}(ag:x.Nodup)(c:∀h∈x,0<=h/\h<(l.length:Int)):(x.map<|dO l).Nodup:=ob ag λg a e b d=>by
 have Yj:=Xf.get g;have Yd:=Xf.get e;rw[b7.small (c g a).1 (c g a).2]at Yj;rw[b7.small (c e b).1 (c e b).2,<-d]at Yd;have A:=c g a;have u:=c e b;have:=(B0 ⋯ Xf.ag).mp (Yj.trans Yd.symm);lia
theorem Cs:∀(f:List Int) (Xo:List (Int×Int)),ec (f.map .int) (Xo.map eb)=(f.zip Xo).map λp=>.tup [.int p.1,eb p.2]
 |[],Xo=>rfl
 |h::f,[]=>rfl
 |h::f,o::Xo=>by
  rw[cw,cw,ec,Cs f Xo];rfl
theorem SG(Xf:b7 l)(B:oU (l.length:Int) XB)(i:Xo.length=XB.length)(a:rV [aL l,aL b]=Z (bX XB,[aL l,aL b]))(d:tu [ax (l.length:Int),bX XB]=Z (vI Xo,[ax (l.length:Int),bX XB])):
  rZ [aL l,aL b]=Z (.a_<|fF<|(XB.zip Xo).map λp=>(dO l p.1,p.2),[aL l,aL b]):=by
 have iQ:=B.iQ;have e:(XB.zip Xo).map (λp=>dO l p.1)=XB.map (dO l):=by
  rw[show (λp:er=>dO l p.1)=dO l ∘ (λp:er=>p.1) from rfl,<-eD,show (XB.zip Xo).map (λp:er=>p.1)=XB from HG ⋯]
 let⟨f,@g,R⟩:=IF Xf (XJ:=Z (aL b)) (XR:=Z (bX XB)) (XB.zip Xo) [] Y Y (λp h=>B.mG p.1 (pN h).1) (by
  rw[r5,jb,e];exact zy Xf (B.up.imp λc=>Int.ne_of_lt c) B.mG) (by rw[hF,lR];lia)
 rw[jb]at R;unfold rZ IX;refine eO (y:=[Z (aL l),Z<|aL b,Z<|bX XB,Z .ed,f,g]) rfl ?_ rfl;refine cj (Xl:=[Z (aL l),Z<|aL b,Z<|bX XB,Y,Y,Y]) (f5 (dq (Xw:=[.aY 0,.aY 1]) rfl rfl rfl a rfl) (f9 rfl) rfl) ?_;refine cj (Xl:=[Z (aL l),Z<|aL b,Z<|bX XB,Z<|.a_ [],Y,Y]) rfl ?_;refine cj (jl (x:=(XB.zip Xo).map λp=>.tup [.int p.1,eb p.2]) (m:=Y) (Xl:=[Z (aL l),Z<|aL b,Z<|bX XB,Z<|.a_ [],Y,Y]) ?_ R rfl) (eB rfl);rw[<-Cs];exact uJ (bK rfl<|bK (a7<|dq (Xw:=[.b5 (ax (l.length:Int)),.aY 2]) (bK (a7<|gS (bK rfl rfl) rfl<|ru l)<|bK rfl rfl) rfl rfl d rfl) rfl) rfl
theorem UO(ag:(X3.map (·.1)).Nodup)(c:(n,o)∈X3):bE (.a_<|fF X3) (.im<|aq n)=Z (.im<|eb o):=by
 have I:fB (fF X3) (cB n)=Z (eb o):=by
  induction X3 with
  |nil=>cases c
  |cons p X3 a=>
   rw[cw,g5]at ag;unfold fF fB;rw[cw,jn];by_cases C:p.1=n
   ·have:decide (cB p.1=cB n)=aa:=dU (by rw[C]);rcases bO.mp c with d|d
    ·rw[<-d]at this ⊢;rw[this];rfl
    ·exact absurd (cN.mpr ⟨_,d,rfl⟩) (C ▸ ag.1)
   ·have:decide (cB p.1=cB n)=au:=d3 λl=>C (nE l);rw[this];exact a ag.2 ((bO.mp c).resolve_left λd=>C (by rw[<-d]))
 show (if V.keys 7 (cB n)=aa then (fB (fF X3)<|cB n).map aj.im else Y)=_;rw[aA (By n),I];rfl
theorem Lv{r:Int}{x:List V}(b:I y=Z (Xw,Xl))(c:eW Xl Xw=Z [.im (.int a),.im<|.int r])(z:small a)(E:small r)(q:gD a (r-a).toNat=x):tg I y=Z ((x,Y),Xl):=by
 unfold tg;rw[b];show (eW Xl Xw).bind _=_;rw[c];show (if small a/\small r then _ else _)=_;rw[aA ⟨z,E⟩,q]
theorem AY{g e:List aD}(c:g.length+e.length<=100000):c0 (bk g) (bk e)=Z (bk<|g++e):=by
 rw[show bk (g++e)=.lst (g.map aq++e.map aq) by rw[bk,fQ]];exact aA (by rw[a9,a9];exact c)
theorem Qq(t:List aD):kC (bk t) Y (Z<|-1)=Z (bk t.dropLast):=by
 show Z (aj.lst<|e6 (t.map aq) Y<|Z<|-1)=_;rw[Jm,<-List.map_dropLast]
def fS(l:List aD)(h v:Int)(k:Nat):List aD:=(range k).map λ(q:Nat)=>dO l (h+v*(1+(q:Int)))
theorem C4{v k:Int}(Xf:b7 l)(a:l[h.toNat]?=Z f)(Yh:0<=h)(j:v=1\/v = -1)(g:0<=k)(cf:k<=300):
  rA [aL l,.im<|aq f,ax v,ax k]=Z (bk<|fS l h v k.toNat,[aL l,.im<|aq f,ax v,ax k]):=by
 have p:=Xf.idx a;rw[show ((h.toNat:Nat):Int)=h by lia]at p;have i:=Xf.pos;have b:=kz (own:=1) (XK:=bS 0) (n:=e1) (d:=yV) (aP:=[Z (aL l),Z<|ax h,Z<|ax v]) (λ(q:Nat)=>.int<|1+(q:Int)) (λq=>aq<|dO l<|h+v*(1+(q:Int))) (range k.toNat) (λq c=>by
  have o:=eJ.mp c;have mk:h4 v (1+(q:Int))=aa:=by
   rcases j with rfl|rfl
   ·exact mU (by decide) (by decide)
   ·exact mU (by decide) (by decide)
  refine⟨[Z (ax<|1+(q:Int)),Z<|aL l,Z<|ax h,Z<|ax v],_,[Z (ax<|1+(q:Int)),Z<|aL l,Z<|ax h,Z<|ax v],rfl,rfl,?_,rfl⟩;exact a5 rfl (a7 (a5 (a7<|a5 rfl (a7<|a5 rfl rfl rfl rfl<|hu mk) rfl rfl rfl) (a7<|gS (bK rfl rfl) rfl<|ru l) rfl rfl (kK ⋯))) rfl rfl (Xf.bN _)) (by rw[gU];lia)
 have e:eZ 1 [0,4,2] (tg<|ao (ae<|aC<|.int 1)<|ao (ae<|ay c0 (ai 3)<|ae<|aC<|.int 1) aF) (bS 0) e1 yV [Z (aL l),Z<|.im<|aq f,Z<|ax v,Z<|ax k,Z<|ax h]=Z (bk<|fS l h v k.toNat,[Z (aL l),Z<|.im<|aq f,Z<|ax v,Z<|ax k,Z<|ax h]):=by
  refine (jZ (x:=(range k.toNat).map λ(q:Nat)=>.int<|1+(q:Int)) (m:=Y) (Xl:=[Z (aL l),Z<|.im<|aq f,Z<|ax v,Z<|ax k,Z<|ax h]) ?_ b rfl).trans ?_
  ·exact Lv (bK rfl<|bK (a7<|a5 rfl rfl rfl rfl rfl) rfl) rfl ⟨by decide,by decide⟩ ⟨⋯,⋯⟩ (by unfold gD;rw[show (k+1-1).toNat=k.toNat by lia])
  ·rw[bk,fS,eD];rfl
 unfold rA Kp;exact eO rfl (cj (Xl:=[Z (aL l),Z<|.im<|aq f,Z<|ax v,Z<|ax k,Z<|ax h]) (f5 (a5 rfl rfl rfl rfl p) (f9 rfl) rfl)<|eB e) rfl
def gk(l:List aD)(f:aD)(h:Int)(o:Int×Int):List aD:=f::if o.1<=o.2 then fS l h (-1) o.1.toNat else fS l h 1 o.2.toNat
def i5(l:List aD)(h:Int)(o:Int×Int):List aD:=if o.1<=o.2 then fS l h 1 o.2.toNat else fS l h (-1) o.1.toNat
def il(l:List aD)(f:aD)(h:Int)(o:Int×Int):List aD:=gk l f h o++(gk l f h o).dropLast.reverse++i5 l h o
theorem uf(l:List aD)(h v:Int)(k:Nat):(fS l h v k).length=k:=by rw[fS,a9,gU]
theorem SP{h:List V}(a:I y=Z (Xw,Xl))(b:eW Xl Xw=Z [.lst h]):tp I y=Z (.lst h.reverse,Xl):=by
 unfold tp;rw[a];show (eW Xl Xw).bind _=_;rw[b];rfl
theorem VE(hx:0<=o.1)(fg:0<=o.2)(a:o.1+o.2<(l.length:Int))(b:l.length<=200):(gk l f h o).length<=201/\(i5 l h o).length<=200/\(gk l f h o).length+(gk l f h o).length+(i5 l h o).length<=290+200:=by
 unfold gk i5;rw[c3];split<;>(rw[uf,uf];lia)
theorem LO(Xf:b7 l)(b:l[h.toNat]?=Z f)(Yh:0<=h)(hx:0<=o.1)(fg:0<=o.2)(m:o.1+o.2<(l.length:Int)):
  Bw [aL l,.im<|aq f,.im<|eb o]=Z (aL<|il l f h o,[aL l,.im<|aq f,.im<|eb o]):=by
 have n:=Xf.len;have p:=C4 (v := -1) (k:=o.1) Xf b Yh (.inr rfl) hx ⋯;have q:=C4 (v:=1) (k:=o.2) Xf b Yh (.inl rfl) fg ⋯;let@⟨u,Yq,w⟩:=VE (f:=f) (h:=h) hx fg m n;have e:bE (.im<|eb o) (ax 0)=Z (ax o.1):=rfl;have i:bE (.im<|eb o) (ax 1)=Z (ax o.2):=rfl;suffices Q:sf zT [Z (aL l),Z<|.im<|aq f,Z<|.im<|eb o,Y,Y,Y,Y,Y] λs y=>s=aL (il l f h o)/\iZ [0,1,2] [aL l,.im<|aq f,.im<|eb o] y 0=[aL l,.im<|aq f,.im<|eb o] by
  let⟨W,@y,d,rfl,r⟩:=Q;exact eO rfl d r
 unfold zT;refine pb (Xl:=[Z (aL l),Z<|.im<|aq f,Z<|.im<|eb o,Z<|bk<|fS l h (-1) o.1.toNat,Y,Y,Y,Y]) (f5 (dq (Xw:=[.aY 0,.aY 1,.b5<|ax<|-1,.b5<|ax o.1]) (bK rfl<|bK rfl<|bK rfl<|bK (a7<|a5 rfl rfl rfl rfl e) rfl) rfl rfl p rfl) (f9 rfl) rfl) ?_;refine pb (Xl:=[Z (aL l),Z<|.im<|aq f,Z<|.im<|eb o,Z<|bk<|fS l h (-1) o.1.toNat,Z<|bk<|fS l h 1 o.2.toNat,Y,Y,Y]) (f5 (dq (Xw:=[.aY 0,.aY 1,.b5<|ax 1,.b5<|ax o.2]) (bK rfl<|bK rfl<|bK rfl<|bK (a7<|a5 rfl rfl rfl rfl i) rfl) rfl rfl q rfl) (f9 rfl) rfl) ?_;suffices fin:∀X2 X5 P:Option aj,∀a:List aD,f::a=gk l f h o->sf (bz (b_ 7<|ay c0 (ae<|eH<|ao (ai 1) aF)<|ai 5)<|cV<|b9 hW<|ao (ae<|ay c0 (ae<|ay c0 (ai 7)<|ae<|tp<|ao (ae<|iY (ai 7) jK<|kL<|hM<|aC<|.int 1) aF)<|ai 6) aF) [Z (aL l),Z<|.im<|aq f,Z<|.im<|eb o,X2,X5,Z<|bk a,Z<|bk<|i5 l h o,Y] λs y=>s=aL (il l f h o)/\iZ [0,1,2] [aL l,.im<|aq f,.im<|eb o] y 0=[aL l,.im<|aq f,.im<|eb o] by
  have cA:∀X2 X5 P:Option aj,cg (ay lG (ae<|ay bE (ai 2)<|ae<|aC<|.int 0)<|ae<|ay bE (ai 2)<|ae<|aC<|.int 1) [Z (aL l),Z<|.im<|aq f,Z<|.im<|eb o,X2,X5,P,Y,Y]=Z (decide (o.1<=o.2),[Z (aL l),Z<|.im<|aq f,Z<|.im<|eb o,X2,X5,P,Y,Y]):=λX2 X5 P=>iy (a5 (a7<|a5 rfl rfl rfl rfl e) (a7<|a5 rfl rfl rfl rfl i) rfl rfl rfl);by_cases c:o.1<=o.2
  ·simp only[dU c]at cA;refine pb (Xl:=[Z (aL l),Z<|.im<|aq f,Z<|.im<|eb o,Z .ed,Z<|bk<|fS l h 1 o.2.toNat,Z<|bk<|fS l h (-1) o.1.toNat,Y,Y]) (iJ (Ci (cA _ _ _) rfl) (f9 rfl) rfl) ?_;refine pb (Xl:=[Z (aL l),Z<|.im<|aq f,Z<|.im<|eb o,Z .ed,Z .ed,Z<|bk<|fS l h (-1) o.1.toNat,Z<|bk<|i5 l h o,Y]) (iJ (Ci (cA _ _ _) rfl) (f9 rfl) (by rw[i5,aA c];rfl)) ?_;exact fin _ _ Y _ (by rw[gk,aA c])
  ·simp only[d3 c]at cA;refine pb (Xl:=[Z (aL l),Z<|.im<|aq f,Z<|.im<|eb o,Z<|bk<|fS l h (-1) o.1.toNat,Z .ed,Z<|bk<|fS l h 1 o.2.toNat,Y,Y]) (iJ (HB (cA _ _ _) rfl) (f9 rfl) rfl) ?_;refine pb (Xl:=[Z (aL l),Z<|.im<|aq f,Z<|.im<|eb o,Z .ed,Z .ed,Z<|bk<|fS l h 1 o.2.toNat,Z<|bk<|i5 l h o,Y]) (iJ (HB (cA _ _ _) rfl) (f9 rfl) (by rw[i5,aI c];rfl)) ?_;exact fin _ _ Y _ (by rw[gk,aI c])
 intro X2 X5 P a j;have x:a.length+1=(gk l f h o).length:=by rw[<-j];rfl
 refine pb (Xl:=[Z (aL l),Z<|.im<|aq f,Z<|.im<|eb o,X2,X5,Z<|bk a,Z<|bk<|i5 l h o,Z<|bk<|gk l f h o]) (f5 (a5 (a7 (v:=bk [f]) rfl) rfl rfl rfl (by rw[<-j];exact AY (g:=[f]) (by show 1+_<=_;lia))) (f9 rfl) rfl) ?_;have dl:(gk l f h o).dropLast.length<=201:=by rw[q1];lia
 have t:c0 (bk<|gk l f h o) (.lst ((gk l f h o).dropLast.map aq).reverse)=Z (bk<|gk l f h o++(gk l f h o).dropLast.reverse):=by
  rw[<-List.map_reverse];exact AY (by rw[ri];lia)
 exact N1 (ng (a5 (a7<|a5 rfl (a7<|SP (bK (a7<|yT rfl rfl rfl rfl<|Qq _) rfl) rfl) rfl rfl t) rfl rfl rfl (AY (by rw[c7,ri];lia)))) ⟨rfl,rfl⟩
theorem Pq:n∈il l f h o↔n=f\/n∈fS l h (-1) o.1.toNat\/n∈fS l h 1 o.2.toNat:=by
 have a:n∈(gk l f h o).dropLast->n∈gk l f h o:=λc=>t7 _ c;have:n∈il l f h o↔n∈gk l f h o\/n∈i5 l h o:=by
  unfold il;rw[ee,ee,List.mem_reverse];exact⟨λc=>c.imp (λc=>c.elim id a) id,λc=>c.imp .inl id⟩
 rw[this];unfold gk i5;rw[bO];split
 ·exact⟨λc=>c.elim (λc=>c.elim .inl λc=>.inr<|.inl c) λc=>.inr<|.inr c,λc=>c.elim (λc=>.inl<|.inl c) λc=>c.elim (λc=>.inl<|.inr c) .inr⟩
 ·exact⟨λc=>c.elim (λc=>c.elim .inl λc=>.inr<|.inr c) λc=>.inr<|.inl c,λc=>c.elim (λc=>.inl<|.inl c) λc=>c.elim .inr λc=>.inl<|.inr c⟩
theorem M0(hx:0<=o.1)(fg:0<=o.2)(a:o.1+o.2<(l.length:Int))(b:l.length<=160):(il l f h o).length<=290:=by
 unfold il;rw[c7,c7,ri,q1];unfold gk i5;rw[c3];split<;>(rw[uf,uf];lia)
theorem vT(l:List aD)(a:Int):dO l (a%(l.length:Int))=dO l a:=by
 unfold dO;rw[Int.emod_emod_of_dvd _ (Int.dvd_refl _)]
theorem KO(hx:0<=o.1)(fg:0<=o.2):n∈il l (dO l h) h o↔n∈(dt (l.length:Int) h o).map (dO l):=by
 rw[Pq];unfold fS dt;simp only[cN,eJ];constructor
 ·rintro (rfl|⟨q,a,rfl⟩|⟨q,a,rfl⟩)
  ·exact⟨_,⟨o.1.toNat,⋯,rfl⟩,by rw[vT];congr 1;lia⟩
  ·exact⟨_,⟨(o.1-1-q).toNat,⋯,rfl⟩,by rw[vT];congr 1;lia⟩
  ·exact⟨_,⟨(o.1+1+q).toNat,⋯,rfl⟩,by rw[vT];congr 1;lia⟩
 ·rintro⟨W,⟨q,a,rfl⟩,rfl⟩;rw[vT];by_cases c:(q:Int)=o.1
  ·exact .inl (by congr 1;lia)
  ·by_cases E:(q:Int)<o.1
   ·exact .inr (.inl ⟨(o.1-1-q).toNat,⋯,by congr 1;lia⟩)
   ·exact .inr (.inr ⟨(q-o.1-1).toNat,⋯,by congr 1;lia⟩)
abbrev ku(t:List aD):V:=.tup (t.map aq)
structure TR(l b:List aD)(bN:aD->Int)(p:aD->Int×Int)(X3:List (aD×Int×Int)):Prop where
 ag:(X3.map (·.1)).Nodup
 at_:∀f∈b,l[(bN f).toNat]?=Z f
 x0:∀f∈b,0<=bN f
 mem:∀f∈b,(f,p f)∈X3
 hx:∀f∈b,0<=(p f).1
 fg:∀f∈b,0<=(p f).2
 sum:∀f∈b,(p f).1+(p f).2<(l.length:Int)
theorem Q7{bN:aD->Int}(Xf:b7 l)(a:pZ Xb [aL aN,.im L]=Z (aL l,[aL aN,.im L]))(c:rZ [aL l,aL b]=Z (.a_<|fF X3,[aL l,aL b]))(Xr:TR l b bN p X3)(aY:b.length<=8):
  o6 Xb [aL aN,.im L,aL b]=Z (.im<|.tup<|b.map λf=>ku<|il l f (bN f)<|p f,[aL aN,.im L,aL b]):=by
 have e:=kz (own:=1) (XK:=bS 0) (n:=e1) (d:=yp Xb) (aP:=[Z (aL l),Z<|.a_<|fF X3]) aq (λf=>ku<|il l f (bN f)<|p f) b (λf Xi=>by
  refine⟨[Z (.im<|aq f),Z<|aL l,Z<|.a_<|fF X3],_,[Z (.im<|aq f),Z<|aL l,Z<|.a_<|fF X3],rfl,rfl,?_,rfl⟩;exact dq (Xw:=[.aY 1,.aY 0,.b5<|.im<|eb<|p f]) (bK rfl<|bK rfl<|bK (a7<|a5 rfl rfl rfl rfl<|UO Xr.ag<|Xr.mem f Xi) rfl) rfl rfl (LO Xf (Xr.at_ f Xi) (Xr.x0 f Xi) (Xr.hx f Xi) (Xr.fg f Xi)<|Xr.sum f Xi) rfl) ⋯
 have g:eZ 1 [3,4] (fv<|ai 2) (bS 0) e1 (yp Xb) [Z (aL aN),Z<|.im L,Z<|aL b,Z<|aL l,Z<|.a_<|fF X3]=Z (.lst<|b.map λf=>ku<|il l f (bN f)<|p f,[Z (aL aN),Z<|.im L,Z<|aL b,Z<|aL l,Z<|.a_<|fF X3]):=jZ (x:=b.map aq) (m:=Y) (Xl:=[Z (aL aN),Z<|.im L,Z<|aL b,Z<|aL l,Z<|.a_<|fF X3]) rfl e rfl;unfold o6 Cu;exact eO rfl (cj (Xl:=[Z (aL aN),Z<|.im L,Z<|aL b,Z<|aL l,Y]) (f5 (dq (Xw:=[.aY 0,.aY 1]) rfl rfl rfl a rfl) (f9 rfl) rfl)<|cj (Xl:=[Z (aL aN),Z<|.im L,Z<|aL b,Z<|aL l,Z<|.a_<|fF X3]) (f5 (dq (Xw:=[.aY 3,.aY 2]) rfl rfl rfl c rfl) (f9 rfl) rfl)<|eB<|ng g) rfl
theorem M6{t:Int}{bN:aD->Int}(Xf:b7 l)(B:oU (l.length:Int) XB)(T:Told (l.length:Int) XB t Xo)(ag:b.Nodup)(Xi:b.length=XB.length)(h:∀f∈b,l[(bN f).toNat]?=Z f/\0<=bN f/\(bN f,p f)∈XB.zip Xo):
  (b.flatMap λf=>(dt (l.length:Int) (bN f)<|p f).map<|dO l).Perm l:=by
 have s:=T.len;have u:=Xf.pos;have inj:∀g∈b,∀e∈b,bN g=bN e->g=e:=λg i e j d=>by
  have z:=(h g i).1;rw[d,(h e j).1]at z;exact (Option.some.inj z).symm
 have o:(b.map λf=>(bN f,p f)).Perm (XB.zip Xo):=by
  refine tN (ob ag λg i e j d=>inj g i e j<|congrArg Prod.fst d) (λH k=>?_) (by rw[a9,lR];lia);let⟨@f,c,rfl⟩:=cN.mp k;exact (h f c).2.2
 let⟨@n,q⟩:=HS B T;have r:(b.flatMap λf=>(dt (l.length:Int) (bN f)<|p f).map<|dO l)=((b.map λf=>(bN f,p f)).flatMap λH:er=>dt (l.length:Int) H.1 H.2).map (dO l):=by
  rw[Ht,List.flatMap_map]
 rw[r];have XZ:=TY (λH:er=>dt (l.length:Int) H.1 H.2) o;rw[show ((XB.zip Xo).flatMap λH:er=>dt (l.length:Int) H.1 H.2)=iC (l.length:Int) n (l.length:Int).toNat from q]at XZ;refine (XZ.map<|dO l).trans ?_;have m:0<(l.length:Int):=⋯
 refine tN (zy Xf (PH m)<|Oj m) (λH k=>?_) (by rw[a9,EY];lia);let⟨@a,W,rfl⟩:=cN.mp k;exact fH (Xf.get a)
theorem E3{Xx Ya:Type}{F:Xx->List Ya}:∀{t:List Xx},(t.flatMap F).Nodup->∀g∈t,(F g).Nodup
 |e::t,ag,g,a=>by
  rw[ip]at ag;rcases bO.mp a with rfl|c
  ·exact (dN.mp ag).1
  ·exact E3 (dN.mp ag).2.1 g c
theorem FD{bN:aD->Int}{I:aD->List aD}(Xf:b7 l)(a:(b.flatMap λf=>(dt (l.length:Int) (bN f)<|p f).map<|dO l).Perm l)(e:∀f∈b,(I f).Nodup/\∀n,n∈I f↔n∈(dt (l.length:Int) (bN f)<|p f).map (dO l)):
  (b.flatMap I).Perm l/\(b.flatMap λf=>(I f).map λn=>((n,f):bR)).Nodup/\((b.flatMap λf=>(I f).map λn=>((n,f):bR)).map Prod.fst).Perm l:=by
 have ag:=a.nodup_iff.mpr Xf.ag;have d:∀f∈b,(I f).Perm ((dt (l.length:Int) (bN f)<|p f).map<|dO l):=λf Xi=>(wM (e f Xi).1 (E3 ag f Xi)).mpr (e f Xi).2;have aU:∀t:List aD,(∀f∈t,f∈b)->(t.flatMap I).Perm (t.flatMap λf=>(dt (l.length:Int) (bN f)<|p f).map<|dO l):=λt=>by
  induction t with
  |nil=>exact λ_=>.refl _
  |cons f t g=>
   intro c;rw[ip,ip];exact (d f<|c f<|.head _).append (g λh i=>c h<|.tail _ i)
 have o:=(aU b λ_ c=>c).trans a;have em:(b.flatMap λf=>(I f).map λn=>((n,f):bR)).map Prod.fst=b.flatMap I:=by
  rw[Ht];congr 1;funext f;rw[eD];exact xP _
 refine⟨o,?_,by rw[em];exact o⟩;have w:((b.flatMap λf=>(I f).map λn=>((n,f):bR)).map Prod.fst).Nodup:=by rw[em];exact o.nodup_iff.mpr Xf.ag
 exact (pC.mp w).imp λc d=>c (congrArg Prod.fst d)
theorem Kn{Xx Ya:Type}(F:Xx->List Ya):∀{t:List Xx}{g:Xx},g∈t->(F g).length<=(t.flatMap F).length
 |e::t,g,c=>by
  rw[ip,c7];rcases bO.mp c with rfl|c
  ·lia
  ·have:=Kn F c;lia
theorem Vj{f:List Int}(c:Xo.length=f.length){h:Int}(b:h∈f):∃o,(h,o)∈f.zip Xo:=by
 let⟨a,U,d⟩:=ks.mp b;refine⟨Xo[a]'⋯,ks.mpr ⟨a,by rw[lR];lia,?_⟩⟩;rw[Kf,d]
structure MD(l b:List aD)(bN:aD->Int)(p:aD->Int×Int)(t:Int):Prop where
 R:b7 l
 at_:∀f∈b,dO l (bN f)=f
 x0:∀f∈b,0<=bN f/\bN f<(l.length:Int)
 hx:∀f∈b,0<=(p f).1/\0<=(p f).2/\(p f).1+(p f).2<(l.length:Int)
 most:∀f∈b,dW (p f).1 (p f).2<=t
 m_:∃f∈b,dW (p f).1 (p f).2=t
 parts:(b.flatMap λf=>(dt (l.length:Int) (bN f)<|p f).map<|dO l).Perm l
theorem OT(M:qm Xb){Xh aN b:List aD}{T J:List bR}{o:aD->aD}(X6:jo Xh)(XP:aN.Perm (cells Xh))(N:fJ aN)(x:T.Perm J)(iV:k_ Xh J o)(O:∀d,iq Xh d->o d.1=o d.2)(ne:b≠[])(ag:b.Nodup)(aY:b.length<=8)(sub:∀n∈b,n∈aN):
  ∃l bN p t,MD l b bN p t/\l.Perm aN/\l.length<=160/\pZ Xb [aL aN,.im<|.tup<|T.map bP]=Z (aL l,[aL aN,.im<|.tup<|T.map bP])/\o6 Xb [aL aN,.im<|.tup<|T.map bP,aL b]=Z (.im<|.tup<|b.map λf=>ku<|il l f (bN f)<|p f,[aL aN,.im<|.tup<|T.map bP,aL b])/\
   om [ax (l.length:Int),bX<|f6<|b.map bN]=Z (ax t,[ax (l.length:Int),bX<|f6<|b.map bN])/\∀f∈b,oH (aL l) (.im<|aq f)=Z (ax<|bN f):=by
 let⟨@m,P,y⟩:=QF X6 XP N;have aG:=X6.len;have ca:=jk.mpr X6.ne;have A:∀d∈T,iq Xh d:=λd Q=>iV.zq d (x.mem_iff.mp Q);have aU:aN.length=4*Xh.length:=by rw[XP.length_eq,sD]
 have D:=S6 M (T:=T) X6 P y (oI.of A) A aU;have s:(d4 T m<|4*Xh.length).Perm aN:=by
  have:=(Nv X6 x iV O y).1.map hs;rw[Qb,eD]at this;exact this.trans XP.symm
 generalize d4 T m (4*Xh.length)=l at *;have cd:l.length=4*Xh.length:=by rw[s.length_eq,aU]
 have Xf:b7 l:=⟨s.nodup_iff.mpr<|XP.nodup_iff.mpr X6.zj,⋯,⋯⟩;obtain⟨bN,R⟩:∃bN:aD->Int,bN=λf=>(l.idxOf f:Int):=⟨_,rfl⟩;have i:∀f∈b,0<=bN f/\bN f<(l.length:Int)/\l[(bN f).toNat]?=Z f:=λf Xi=>by
  have al:f∈l:=s.mem_iff.mpr (sub f Xi);have lt:=List.idxOf_lt_length_of_mem al;rw[R];refine⟨⋯,⋯,?_⟩;show l[((l.idxOf f:Nat):Int).toNat]?=_;rw[kV,dv lt,List.getElem_idxOf]
 have am:=KQ Xf ag aY i;have u:(b.map bN).Nodup:=ob ag λg an e ap d=>by
  have z:=(i g an).2.2;rw[d,(i e ap).2.2]at z;exact (Option.some.inj z).symm
 have XB:=u_ (b.map bN);have B:oU (l.length:Int) (f6<|b.map bN):=⟨⋯,⋯,λC=>by
  have:=XB.length_eq;rw[C,a9,hF]at this;have:=jk.mpr ne;lia,Ic u,λh c=>by
  let⟨@f,Xi,rfl⟩:=cN.mp (XB.mem_iff.mp c);exact⟨(i f Xi).1,(i f Xi).2.1⟩,by rw[XB.length_eq,a9];exact aY⟩
 let⟨t,@Xo,as,a1,j⟩:=Oo B;have E:=j.len;have a2:=SG Xf B E am a1;have F:∀f:aD,∃H:Int×Int,f∈b->(bN f,H)∈(f6<|b.map bN).zip Xo:=λf=>by
  by_cases c:f∈b
  ·let⟨@o,v⟩:=Vj E (XB.mem_iff.mpr<|cN.mpr ⟨f,c,rfl⟩);exact⟨o,λ_=>v⟩
  ·exact⟨(0,0),λC=>absurd C c⟩
 obtain⟨p,k⟩:∃p:aD->Int×Int,∀f,f∈b->(bN f,p f)∈(f6<|b.map bN).zip Xo:=⟨λf=>(F f).choose,λf=>(F f).choose_spec⟩;have fR:∀f∈b,dO l (bN f)=f:=λf Xi=>by
  have:=Xf.get (bN f);rw[b7.small (i f Xi).1 (i f Xi).2.1,(i f Xi).2.2]at this;exact (Option.some.inj this).symm
 let⟨@n,bd⟩:=HS B j;have q:∀f∈b,p f∈Xo:=λf Xi=>(pN<|k f Xi).2;have G:∀f∈b,(p f).1+(p f).2<(l.length:Int):=λf Xi=>by
  have:=Kn (λH:er=>dt (l.length:Int) H.1 H.2) (k f Xi);rw[show ((f6<|b.map bN).zip Xo).flatMap (λH:er=>dt (l.length:Int) H.1 H.2)=iC (l.length:Int) n (l.length:Int).toNat from bd,EY]at this;rw[show (dt (l.length:Int) (bN f)<|p f).length=((p f).1+(p f).2+1).toNat by rw[dt,a9,gU]]at this;lia
 have be:=M6 Xf B j ag (by rw[XB.length_eq,a9]) λf Xi=>⟨(i f Xi).2.2,(i f Xi).1,k f Xi⟩;refine⟨l,bN,p,t,⟨Xf,fR,λf Xi=>⟨(i f Xi).1,(i f Xi).2.1⟩,λf Xi=>⟨(j.pos _<|q f Xi).1,(j.pos _<|q f Xi).2,G f Xi⟩,λf Xi=>j.most _<|q f Xi,?_,be⟩,s,⋯,D,?_,as,λf Xi=>?_⟩
 ·let⟨@ce,v,d⟩:=j.m_;let⟨a,U,bi⟩:=ks.mp v;have I:a<(f6<|b.map bN).length:=⋯
  let⟨@f,Xi,S⟩:=cN.mp (XB.mem_iff.mp<|r6 I);refine⟨f,Xi,?_⟩;have z:=k f Xi;let⟨r,bm,w⟩:=ks.mp z;rw[Kf]at w;have L:r<(f6<|b.map bN).length:=by rw[lR]at bm;lia
  have ch:r<Xo.length:=⋯
  have bn:(f6<|b.map bN)[r]=(f6<|b.map bN)[a]:=(congrArg Prod.fst w).trans S;have bs:(f6<|b.map bN).Nodup:=XB.nodup_iff.mpr u;have:r=a:=(B0 L bs).mp (by rw[dv L,dv I,bn]);subst this;have bv:Xo[r]=p f:=congrArg Prod.snd w;rw[<-bv,bi];exact d
 ·refine Q7 Xf D a2 ⟨?_,λf Xi=>(i f Xi).2.2,λf Xi=>(i f Xi).1,λf Xi=>?_,λf Xi=>(j.pos _<|q f Xi).1,λf Xi=>(j.pos _<|q f Xi).2,G⟩ aY
  ·rw[eD];show (((f6<|b.map bN).zip Xo).map (λH:er=>dO l H.1)).Nodup;rw[show (λH:er=>dO l H.1)=dO l ∘ (λH:er=>H.1) from rfl,<-eD,show ((f6<|b.map bN).zip Xo).map (λH:er=>H.1)=f6 (b.map bN) from HG ⋯];exact zy Xf (XB.nodup_iff.mpr u) B.mG
  ·exact cN.mpr ⟨_,k f Xi,by show (dO l<|bN f,p f)=_;rw[fR f Xi]⟩
 ·have:=Xf.idx (i f Xi).2.2;rw[show (((bN f).toNat:Nat):Int)=bN f by have:=(i f Xi).1;lia]at this;exact this
theorem qg:∀(r Xb:List aD),Xb.Nodup->(r.foldl eL Xb).Nodup/\(∀n,n∈r.foldl eL Xb↔n∈Xb\/n∈r)/\(r.foldl eL Xb).length<=Xb.length+r.length
 |[],Xb,ag=>⟨ag,λn=>by simp,by simp⟩
 |g::r,Xb,ag=>by
  have a:(eL Xb g).Nodup/\(∀n,n∈eL Xb g↔n∈Xb\/n=g)/\(eL Xb g).length<=Xb.length+1:=by
   unfold eL;split
   ·next c=>exact⟨ag,λn=>⟨.inl,λC=>C.elim id λd=>d ▸ c⟩,⋯⟩
   ·next c=>exact⟨dN.mpr ⟨ag,fP _ _,λh b H e d=>c (by rw[cK.mp e]at d;exact d ▸ b)⟩,λn=>by rw[ee,cK],by rw[c7];exact ba _⟩
  let@⟨aQ,aR,jL⟩:=qg r (eL Xb g) a.1;rw[lT];refine⟨aQ,λn=>(aR n).trans ?_,by rw[c3];have:=a.2.2;lia⟩;rw[a.2.1 n,bO,or_assoc]
theorem HA{h H:List bR}(c:h.length+H.length<=100000):m8 (cz h) [cz H]=Z (.im .aW,cz<|h++H):=by
 show _=Z (aj.im .aW,aj.lst<|(h++H).map bP);rw[fQ];exact aA (by rw[a9,a9];exact c)
theorem Qw{I:az aj}{Xt:List (List V×V)}(d:I y=Z (.a_ Xt,Xl)):rP (ae I) y=Z ((Xt.map λa=>.tup a.1,Y),Xl):=by
 unfold rP;rw[dE d];rfl
theorem SA{r:List aD}(b:r.length<10000):p7 [aL r]=Z (.a_<|d0<|r.foldl eL [],[aL r]):=by
 let⟨@m,a⟩:=FV (Z<|aL r) r [] Y (by show 0+_<_;lia);unfold p7 HV;exact eO (y:=[Z (aL r),Z .ed,m]) rfl (cj (Xl:=[Z (aL r),Z<|.a_ [],Y]) rfl<|cj (jl (m:=Y) rfl a rfl) rfl) rfl
theorem Jh(t:List aD)(f:aD):cz (t.map λn=>((n,f):bR))=.lst (t.map λn=>bP (n,f)):=by
 show aj.lst _=_;rw[eD];rfl
def et(I:aD->List aD)(b:List aD):List bR:=b.flatMap λf=>(I f).map λn=>((n,f):bR)
theorem Ke{Xb:di}{b XJ XR:Option aj}{F:aD->List aD}:∀(c:List aD) (a:List bR) (X5 P:Option aj),(∀f∈c,(F f).length<=300)->a.length+300*c.length<=50000->
  ∃g i,d2 (ew 2<|de (bS 4)<|de (bS 5) fM) (Gy Xb) (c.map λf=>.tup [aq f,ku<|F f]) [b,XJ,XR,Z<|cz a,X5,P]=Z (.aS,[b,XJ,XR,Z<|cz<|a++et (λf=>(F f).foldl eL []) c,g,i])
 |[],a,X5,P,_,_=>⟨X5,P,by rw[et,vq,cC];rfl⟩
 |f::c,a,X5,P,j,l=>by
  rw[c3]at l;have aU:=j f (.head _);let@⟨_,_,jL⟩:=qg (F f) [] iH;rw[hF]at jL;let⟨g,@i,m⟩:=Ke (Xb:=Xb) (b:=b) (XJ:=XJ) (XR:=XR) (F:=F) c (a++((F f).foldl eL []).map λn=>((n,f):bR)) (Z<|.im<|aq f) (Z<|aL<|F f) (λh o=>j h<|.tail _ o) (by rw[c7,a9];lia);refine⟨g,i,?_⟩;rw[et,ip,<-bt,cw];obtain⟨y,e⟩:∃y:a4,y=[b,XJ,XR,Z<|cz a,Z<|.im<|aq f,Z<|aL<|F f]:=⟨_,rfl⟩;suffices p:eZ 1 [4] (rP<|ae<|b2 1 G.p7<|ao (ai 5) aF) (bS 0) e1 (zd Xb) y=Z (cz<|((F f).foldl eL []).map λn=>((n,f):bR),y) by
   refine oh (Xl:=y) (by rw[e];rfl) (lq (jW (Xl:=y) (XO:=y) (b:=cz a) (n:=cz a) (Xw:=[.b5 (cz<|((F f).foldl eL []).map λn=>((n,f):bR))]) (by rw[e];rfl) rfl (bK (a7 p) rfl) rfl (by rw[e];rfl) (HA (by rw[a9];lia)) (by rw[e];rfl))) m
  rw[e];have q:=kz (own:=1) (XK:=bS 0) (n:=e1) (d:=zd Xb) (aP:=[Z (.im<|aq f)]) aq (λn=>bP (n,f)) ((F f).foldl eL []) (λn u=>⟨[Z (.im<|aq n),Z<|.im<|aq f],_,[Z (.im<|aq n),Z<|.im<|aq f],rfl,rfl,rfl,rfl⟩) ⋯;have r:(d0<|(F f).foldl eL []).map (λs=>V.tup s.1)=((F f).foldl eL []).map aq:=by rw[d0,eD];rfl
  have k:=Qw (y:=[b,XJ,XR,Z<|cz a,Z<|.im<|aq f,Z<|aL<|F f]) (Xl:=[b,XJ,XR,Z<|cz a,Z<|.im<|aq f,Z<|aL<|F f]) (I:=b2 1 G.p7 (ao (ai 5) aF)) (dq (Xw:=[.aY 5]) rfl rfl rfl (SA ⋯) rfl);rw[r]at k;rw[Jh];exact jZ k q rfl
theorem Tu{Xb:List bR}(ag:Xb.Nodup)(c:Xb.length<=1000):∃G:List bR,G.Perm Xb/\∀a:List bR,a.Perm Xb->ha [cz a]=Z (cz G):=by
 have d:=yn ag c;let⟨@G,XP,h⟩:=FY (i7<|Xb.map bP);have i:(G.map bP).Pairwise (λg e=>bl g e=aa):=by rw[<-h];exact pq d.1.3 d.1.2
 refine⟨G,XP,λa b=>?_⟩;have f:=yn (b.nodup_iff.mpr ag) (by rw[b.length_eq];exact c);rw[vR λv hd=>by
  let⟨@n,W,rfl⟩:=cN.mp hd;exact⟨_,rfl⟩]
 unfold i2;rw[aA (o2.mpr f),<-zg f.1 ((XP.trans b.symm).map bP) i]
theorem Ob{F:aD->List aD}(aY:b.length<=8)(a:∀f∈b,(F f).length<=300)(S:o6 Xb [aL aN,.im L,aL b]=Z (.im<|.tup<|b.map λf=>ku<|F f,[aL aN,.im L,aL b]))(c:ha [cz (et (λf=>(F f).foldl eL []) b)]=Z (cz G)):
  wC Xb [aL aN,.im L,aL b]=Z (.im<|.tup<|G.map bP,[aL aN,.im L,aL b]):=by
 let⟨d,@e,R⟩:=Ke (Xb:=Xb) (b:=Z (aL aN)) (XJ:=Z (.im L)) (XR:=Z (aL b)) (F:=F) b [] Y Y a (by rw[hF];lia);rw[jb]at R;unfold wC Gz;refine eO (y:=[Z (aL aN),Z<|.im L,Z<|aL b,Z<|cz<|et (λf=>(F f).foldl eL []) b,d,e]) rfl ?_ rfl;refine cj (Xl:=[Z (aL aN),Z<|.im L,Z<|aL b,Z<|cz [],Y,Y]) rfl (cj (jl (x:=b.map λf=>.tup [aq f,ku<|F f]) (m:=Y) (Xl:=[Z (aL aN),Z<|.im L,Z<|aL b,Z<|cz [],Y,Y]) ?_ R rfl)<|eB<|ng<|gS (bK rfl rfl) rfl c);rw[<-zB];exact uJ (bK rfl<|bK (a7<|dq (Xw:=[.aY 0,.aY 1,.aY 2]) rfl rfl rfl S rfl) rfl) rfl
theorem Uw(r:List aD)(e:r.length<=290):∃S:List aD,S.Nodup/\S.length<=290/\(∀h,h∈S↔h∈r)/\∀{y Xl:a4}{I:az (List bq)}{Xw:List bq},I y=Z (Xw,Xl)->eW Xl Xw=Z [aL r]->m9 I y=Z (bk S,Xl):=by
 let⟨@a,d,ag,c⟩:=CV r;have n:a.length<=r.length:=Jx ag λh f=>(c h).mp f;have g:(a.map cB).map V.tup=a.map aq:=by rw[eD];rfl
 let⟨@S,i,b,o⟩:=Gk ag ⋯;let@⟨j,k,_,_⟩:=QY e;refine⟨S,b.nodup_iff.mpr ag,by rw[b.length_eq];lia,λh=>b.mem_iff.trans<|c h,λl m=>?_⟩;unfold m9;rw[l];show (eW _ _).bind _=_;rw[m];show (pM<|r.map aq).bind _=_;rw[show r.map aq=(r.map cB).map .tup by rw[eD];rfl,Cz];refine (aA ⟨j,k⟩).trans ?_;rw[d,g,i]
abbrev kl(a XJ XR X2 X5 P A:Option aj)(b:List bR)(B Yc D:Option aj):a4:=[a,XJ,XR,X2,X5,P,A,Z<|cz b,B,Yc,D]
theorem DY{Xb:di}{c XJ XR X2 X5 P A D:Option aj}{F I:aD->List aD}:∀(b:List aD) (a:List bR) (B Yc:Option aj),(∀f∈b,(I f).length<=290/\∀{y Xl:a4}{g:az (List bq)}{Xw:List bq},g y=Z (Xw,Xl)->eW Xl Xw=Z [aL (F f)]->m9 g y=Z (bk<|I f,Xl))->a.length+300*b.length<=50000->
  ∃i k,d2 (ew 2<|de (bS 8)<|de (bS 9) fM) (Ep Xb) (b.map λf=>.tup [aq f,ku<|F f]) (kl c XJ XR X2 X5 P A a B Yc D)=Z (.aS,kl c XJ XR X2 X5 P A (a++et I b) i k D)
 |[],a,B,Yc,_,_=>⟨B,Yc,by rw[et,vq,cC];rfl⟩
 |f::b,a,B,Yc,l,m=>by
  rw[c3]at m;let@⟨s,j⟩:=l f (.head _);let⟨i,@k,o⟩:=DY (Xb:=Xb) (c:=c) (XJ:=XJ) (XR:=XR) (X2:=X2) (X5:=X5) (P:=P) (A:=A) (D:=D) (F:=F) (I:=I) b (a++(I f).map λn=>((n,f):bR)) (Z<|.im<|aq f) (Z<|aL<|F f) (λh p=>l h<|.tail _ p) (by rw[c7,a9];lia);refine⟨i,k,?_⟩;rw[et,ip,<-bt,cw];obtain⟨y,e⟩:∃y:a4,y=kl c XJ XR X2 X5 P A a (Z<|.im<|aq f) (Z<|aL<|F f) D:=⟨_,rfl⟩;suffices q:eZ 1 [8] (fv<|ae<|m9<|ao (ai 9) aF) (bS 0) e1 (zE Xb) y=Z (cz<|(I f).map λn=>((n,f):bR),y) by
   refine oh (Xl:=y) (by rw[e];rfl) (lq (jW (Xl:=y) (XO:=y) (b:=cz a) (n:=cz a) (Xw:=[.b5 (cz<|(I f).map λn=>((n,f):bR))]) (by rw[e];rfl) rfl (bK (a7 q) rfl) rfl (by rw[e];rfl) (HA (by rw[a9];lia)) (by rw[e];rfl))) o
  rw[e];have r:=kz (own:=1) (XK:=bS 0) (n:=e1) (d:=zE Xb) (aP:=[Z (.im<|aq f)]) aq (λn=>bP (n,f)) (I f) (λn u=>⟨[Z (.im<|aq n),Z<|.im<|aq f],_,[Z (.im<|aq n),Z<|.im<|aq f],rfl,rfl,rfl,rfl⟩) ⋯;rw[Jh];exact jZ (Ve (j (bK rfl rfl) rfl) rfl) r rfl
theorem Gl{I:aD->List aD}{d:bR}:d∈et I b↔d.2∈b/\d.1∈I d.2:=by
 unfold et;rw[sT];constructor
 ·rintro⟨f,Xi,c⟩;let⟨@n,a,rfl⟩:=cN.mp c;exact⟨Xi,a⟩
 ·exact λc=>⟨d.2,c.1,cN.mpr ⟨d.1,c.2,rfl⟩⟩
theorem R1(c:G.length<100000):ts 5 (.tup<|G.map bP)=aa:=by
 show (decide ((G.map bP).length<100000)&&(G.map bP).all (ts 4))=aa;rw[cU,jT];refine⟨dU (by rw[a9];exact c),λv hd=>?_⟩;let⟨@d,W,rfl⟩:=cN.mp hd;rfl
theorem PD(as:qm Xb){XA:List Int}{q:Int}{XR X2 X5 P A Yf B Yc D:Option aj}(a1:0<=q)(ga:q<6):
  ∃XO,u7 Xb [Z (.dn<|XA.map .int),Z<|ax q,XR,X2,X5,P,A,Yf,B,Yc,D]=Z (.aS,XO)/\∃XZ a2 bd be bi bm a e bn,XO=[Z (.dn<|XA.map .int),Z<|ax q,XZ,a2,bd,be,bi,bm,a,e,bn]:=by
 let⟨@ge,bs,O⟩:=Nc (XA:=XA) a1 ⋯;let⟨z,@Xh,bv,Xn,X6,gl,W⟩:=Mn (w:=999000) O;let⟨@aN,ca,XP,Q⟩:=MQ X6;let⟨E,T,J,@o,cd,XD,ce,iV,ch⟩:=Q5 (w:=998900) X6 Xn;have fn:aN.Nodup:=XP.nodup_iff.mpr X6.zj;have aU:aN.length=4*Xh.length:=by rw[XP.length_eq,sD]
 have aG:=X6.len;have go:=jk.mpr X6.ne;let⟨gt,@b,ci,cl,ne,ag,aY,sub⟩:=Qy (w:=998880) XD (λC=>by rw[C,hF]at aU;lia) fn ⋯;let⟨l,bN,p,@t,Xr,co,cr,g1,S,W,W⟩:=OT as X6 XP Q ce iV ch ne ag aY sub;have Xf:=Xr.R;obtain⟨F,M⟩:∃F:aD->List aD,F=λf=>il l f (bN f) (p f):=⟨_,rfl⟩;rw[show (λf=>ku<|il l f (bN f)<|p f)=λf=>ku (F f) by rw[M]]at S;have U:∀f∈b,(F f).length<=290:=λf Xi=>by
  rw[M];exact M0 (Xr.hx f Xi).1 (Xr.hx f Xi).2.1 (Xr.hx f Xi).2.2 cr
 have al:∀f∈b,∀n,n∈F f↔n∈(dt (l.length:Int) (bN f)<|p f).map (dO l):=λf Xi n=>by
  rw[M];have:=KO (l:=l) (n:=n) (h:=bN f) (o:=p f) (Xr.hx f Xi).1 (Xr.hx f Xi).2.1;rw[Xr.at_ f Xi]at this;exact this
 have am:∀f:aD,∃S:List aD,f∈b->S.Nodup/\S.length<=290/\(∀h,h∈S↔h∈F f)/\∀{y Xl:a4}{I:az (List bq)}{Xw:List bq},I y=Z (Xw,Xl)->eW Xl Xw=Z [aL (F f)]->m9 I y=Z (bk S,Xl):=λf=>by
  by_cases c:f∈b
  ·let⟨@S,g⟩:=Uw (F f) (U f c);exact⟨S,λ_=>g⟩
  ·exact⟨[],λC=>absurd C c⟩
 obtain⟨I,i⟩:∃I:aD->List aD,∀f,f∈b->(I f).Nodup/\(I f).length<=290/\(∀h,h∈I f↔h∈F f)/\∀{y Xl:a4}{g:az (List bq)}{Xw:List bq},g y=Z (Xw,Xl)->eW Xl Xw=Z [aL (F f)]->m9 g y=Z (bk<|I f,Xl):=⟨λf=>(am f).choose,λf=>(am f).choose_spec⟩;let@⟨_,cs,db⟩:=FD (I:=I) Xf Xr.parts λf Xi=>⟨(i f Xi).1,λn=>((i f Xi).2.2.1 n).trans<|al f Xi n⟩;let@⟨_,ds,_⟩:=FD (I:=λf=>(F f).foldl eL []) Xf Xr.parts λf Xi=>⟨(qg (F f) [] iH).1,λn=>((qg (F f) [] iH).2.1 n).trans<|(or_iff_right fO).trans<|al f Xi n⟩;have an:(et I b).Nodup:=cs;have N:((et I b).map Prod.fst).Perm l:=db;have dL:(et (λf=>(F f).foldl eL []) b).Nodup:=ds;have L:(et I b).length=l.length:=by rw[<-N.length_eq,a9]
 have eq:(et (λf=>(F f).foldl eL []) b).Perm (et I b):=(wM dL an).mpr λd=>by
  rw[Gl,Gl];constructor
  ·exact λc=>⟨c.1,((i _ c.1).2.2.1 _).mpr<|(((qg (F d.2) [] iH).2.1 _).mp c.2).resolve_left fO⟩
  ·exact λc=>⟨c.1,((qg (F d.2) [] iH).2.1 _).mpr<|.inr<|((i _ c.1).2.2.1 _).mp c.2⟩
 let⟨@G,ev,Xi⟩:=Tu an (by rw[L];lia);have ex:=Ob aY (λf c=>e0 (U f c) (by decide)) S (Xi _ eq);have jB:=Xi _ (List.Perm.refl<|et I b);have fd:G.length<100000:=by rw[ev.length_eq,L];lia
 have fr:=BZ 5 (.tup<|G.map bP) (R1 fd);let⟨@fg,rfl⟩:=e9 O;let⟨@f0,rfl⟩:=e9 Xn;let⟨@ap,rfl⟩:=e9 XD;let⟨@H,rfl⟩:=e9 cl;let⟨a,@e,R⟩:=DY (Xb:=Xb) (c:=Z (.dn<|XA.map .int)) (XJ:=Z (ax q)) (XR:=Z (.lst H)) (X2:=Z (bk Xh)) (X5:=Z (aL aN)) (P:=Z (.im<|.tup<|T.map bP)) (A:=Z (aL b)) (D:=D) (F:=F) (I:=I) b [] B Yc (λf c=>⟨(i f c).2.1,(i f c).2.2.2⟩) (by rw[hF];lia);rw[jb]at R;unfold u7;refine oL (Xl:=[Z (.dn<|XA.map .int),Z<|ax q,Z<|.lst fg,X2,X5,P,A,Yf,B,Yc,D]) (f5 (dq (Xw:=[.aY 0,.aY 1]) rfl rfl rfl bs rfl) (f9 rfl) rfl) ?_;refine oL (Xl:=[Z (.dn<|XA.map .int),Z<|ax q,Z<|.lst f0,Z<|bk Xh,X5,P,A,Yf,B,Yc,D]) (iJ (dq (Xw:=[.aY 2,.b5<|ax 24]) rfl rfl rfl bv rfl) (f9 rfl) rfl) ?_;refine oL (Xl:=[Z (.dn<|XA.map .int),Z<|ax q,Z<|.lst ap,Z<|bk Xh,Z<|aL aN,Z<|.im<|.tup<|T.map bP,A,Yf,B,Yc,D]) (y0 (XO:=[Z (.dn<|XA.map .int),Z<|ax q,Z<|.lst ap,Z<|bk Xh,X5,P,A,Yf,B,Yc,D]) (c6 (dE<|dq (Xw:=[.aY 3]) rfl rfl rfl ca rfl)<|c6 (dE<|dq (Xw:=[.aY 2,.aY 3]) rfl rfl rfl cd rfl) rfl) rfl (f9 rfl) (f9 rfl) rfl) ?_;refine oL (Xl:=[Z (.dn<|XA.map .int),Z<|ax q,Z<|.lst H,Z<|bk Xh,Z<|aL aN,Z<|.im<|.tup<|T.map bP,Z<|aL b,Yf,B,Yc,D]) (iJ (dq (Xw:=[.aY 2,.aY 4]) rfl rfl rfl ci rfl) (f9 rfl) rfl) ?_;refine oL (Xl:=kl (Z<|.dn<|XA.map .int) (Z<|ax q) (Z<|.lst H) (Z<|bk Xh) (Z<|aL aN) (Z<|.im<|.tup<|T.map bP) (Z<|aL b) [] B Yc D) rfl ?_;refine oL (jl (x:=b.map λf=>.tup [aq f,ku<|F f]) (m:=Y) (Xl:=kl (Z<|.dn<|XA.map .int) (Z<|ax q) (Z<|.lst H) (Z<|bk Xh) (Z<|aL aN) (Z<|.im<|.tup<|T.map bP) (Z<|aL b) [] B Yc D) (by
  rw[<-zB];exact uJ (bK rfl<|bK (a7<|dq (Xw:=[.aY 4,.aY 5,.aY 6]) rfl rfl rfl S rfl) rfl) rfl) R rfl) ?_
 generalize Z (aj.dn<|XA.map .int)=j;generalize Z (ax q)=k;generalize Z (aj.lst H)=s;generalize Z (bk Xh)=u;have X:∀g:Option aj,Jz Xb (kl j k s u (Z<|aL aN) (Z<|.im<|.tup<|T.map bP) (Z<|aL b) (et I b) a e g)=Z (.aS,kl j k s u (Z<|aL aN) (Z<|.im<|.tup<|T.map bP) (Z<|aL b) (et I b) a e g):=λg=>hZ (Tt<|Ha (a7<|dq (Xw:=[.b5 (.im<|.tup<|G.map bP),.b5<|.im<|.tup<|G.map bP]) (bK (a7<|dq (Xw:=[.aY 4,.aY 5,.aY 6]) rfl rfl rfl ex rfl)<|bK (a7<|ng<|gS (bK rfl rfl) rfl jB) rfl) rfl rfl fr rfl) rfl rfl) rfl;refine oL (Xl:=kl j k s u (Z<|aL aN) (Z<|.im<|.tup<|T.map bP) (Z<|aL b) (et I b) a e (Z<|ax 1)) (jl (x:=[.int 0,.int 1]) (m:=Y) (Xl:=kl j k s u (Z<|aL aN) (Z<|.im<|.tup<|T.map bP) (Z<|aL b) (et I b) a e D) (sS (r:=2) rfl rfl ⟨by decide,by decide⟩) (oh rfl (X _)<|oh rfl (X _) rfl) rfl) ?_;have f1:=kz (own:=2) (XK:=ew 2 (de (bS 0)<|de (bS 1) fM)) (n:=e1) (d:=xc Xb) (aP:=[]) bP (λd=>aq d.1) (et I b) (λd g3=>⟨[Z (.im<|aq d.1),Z<|.im<|aq d.2],_,[Z (.im<|aq d.1),Z<|.im<|aq d.2],rfl,rfl,rfl,rfl⟩) (by rw[L];lia);have f2:eZ 2 [] (fv<|ai 7) (ew 2<|de (bS 0)<|de (bS 1) fM) e1 (xc Xb) (kl j k s u (Z<|aL aN) (Z<|.im<|.tup<|T.map bP) (Z<|aL b) (et I b) a e<|Z<|ax 1)=Z (bk<|(et I b).map Prod.fst,kl j k s u (Z<|aL aN) (Z<|.im<|.tup<|T.map bP) (Z<|aL b) (et I b) a e<|Z<|ax 1):=by
  rw[show bk ((et I b).map Prod.fst)=.lst ((et I b).map λd=>aq d.1) by show aj.lst _=_;rw[eD];rfl];exact jZ (x:=(et I b).map bP) (m:=Z (7,cz<|et I b)) rfl f1 rfl
 have f4:((et I b).map Prod.fst).Nodup:=N.nodup_iff.mpr Xf.ag;have f8:ha [bk ((et I b).map Prod.fst)]=Z (bk aN):=by
  rw[vR λv hd=>by
   let⟨@n,W,rfl⟩:=cN.mp hd;exact⟨_,rfl⟩]
  exact Te ((co.symm).trans N.symm) Q (by rw[a9,L];lia) f4
 exact⟨_,hZ (iy<|a5 (a7<|gS (bK (a7 f2) rfl) rfl f8) (a7 (v:=bk aN) rfl) rfl rfl Ky) rfl,_,_,_,_,_,_,_,_,_,rfl⟩
theorem Qn(b:qm Xb)(XA:List Int)(l:XA.length<100000):∃i,pL Xb [.dn (XA.map .int)]=Z (.im<|.aG aa,i):=by
 obtain⟨k,c,n,cf⟩:∃k:Int,k=(if (if (XA.length:Int)<6 then (XA.length:Int) else 6)>1 then (if (XA.length:Int)<6 then (XA.length:Int) else 6) else 1)/\1<=k/\k<=6:=⟨_,rfl,by split<;>lia,by split<;>(try split)<;>lia⟩;let⟨XC,f,⟨XJ,XR,X2,X5,P,A,Yf,B,Yc,D,rfl⟩⟩:=zP (XK:=bS 1) (e:=u7 Xb) (x:=gD 0 k.toNat) (λa y=>∃XJ XR X2 X5 P A Yf B Yc D,y=[Z (.dn<|XA.map .int),XJ,XR,X2,X5,P,A,Yf,B,Yc,D]) (y:=[Z (.dn<|XA.map .int),Y,Y,Y,Y,Y,Y,Y,Y,Y,Y]) ⟨Y,Y,Y,Y,Y,Y,Y,Y,Y,Y,rfl⟩
  (λa h y g j=>by
   let⟨XJ,XR,X2,X5,P,A,Yf,B,Yc,D,rfl⟩:=j;let⟨U,rfl⟩:=yi g;let⟨W,d,⟨XZ,o,p,s,t,u,v,w,z,rfl⟩⟩:=PD b (XA:=XA) (q:=0+(a:Int)) (XR:=XR) (X2:=X2) (X5:=X5) (P:=P) (A:=A) (Yf:=Yf) (B:=B) (Yc:=Yc) (D:=D) ⋯ ⋯;exact⟨_,.aS,_,rfl,d,.inl rfl,_,_,_,_,_,_,_,_,_,_,rfl⟩)
 refine⟨[.dn (XA.map .int)],?_⟩;unfold pL Hd;refine eO (y:=[Z (.dn<|XA.map .int),XJ,XR,X2,X5,P,A,Yf,B,Yc,D]) rfl (cj (jl (m:=Y) (sS (r:=k) (bK (a7 (gS (bK rfl<|bK (a7<|gS (bK rfl<|bK (a7<|gS (bK rfl rfl) rfl<|LH XA) rfl) rfl rfl) rfl) rfl (by rw[c];rfl))) rfl) rfl ⟨⋯,⋯⟩) f rfl)<|eB rfl) rfl
end G
namespace L2
open PySem
end L2
namespace L2
open PySem PySem.Spec PyProof.Rows
variable{m XK:bx}
noncomputable def Bz(g:af)(b:a0)(Xt:List (List V×ar)):fq:=
 ⟨λa j=>j g=Z (.dk b<|.a_ Xt)/\a<Xt.length,
  λa j u N=>N=j/\∃e o,u=.ref e/\Xt[a]?=Z o/\hX j o.1 e,
  λa j=>j g=Z (.dk b<|.a_ Xt)/\Xt.length<=a⟩
theorem Mt{Xs:bJ}{l:bc}{Xd:PySem.W.Frag}(g Xj:af)(z:a0)(Xt:List (List V×ar))(I:Array DictEntry)(XN:Nat)(E:z.data=.dict I XN):
  rf Xs l Xd XK (Bz g z Xt) [Xj] Xj (λa c=>c.IsKeyIter Xj g a Xt.length XN) where
 mem:=by simp
 obj:=λa c X n F=>by
  cases cK.mp F;let⟨@m,d,n,v⟩:=X;exact⟨m,d,λu C=>by rw[v]at C;cases C⟩
 keep:=λa c M X q=>let ⟨m,d,s⟩:=X;⟨m,q Xj (by simp) m d,s⟩
 item:=by
  intro b J L N F a G f D j Xg A H X P;subst J L N;let@⟨S,U⟩:=P;let@⟨i,C,hd,⟨@x,rel,⟨XR,bi,@bm,k,T,r,al,bn⟩⟩⟩:=(show f.heap.get? g=Z z/\ep b.prog b.w j f.heap g (.a_ Xt) from A.aZ g _ S);rw[i]at k;cases k;rw[E]at r;cases r;let@⟨am,an,bs,ap,as,a1⟩:=H Xj (by simp);have a2:=dY.length rel;have R:I.toList.map (·.key)=x.map λh=>ab.ref h.2.1:=by rw[al,eD];rfl
  have bd:hQ f.heap g (x.map λh=>ab.ref h.2.1) XN:=⟨_,_,i,T,E,R⟩;let⟨o,@p,bv,XZ,ch,ca,ci⟩:=AS rel a U;have t:(x.map λh=>ab.ref h.2.1).length=Xt.length:=by rw[a9,a2]
  refine EC (by rw[t];exact X) bd (u:=.ref p.2.1) (by rw[dZ,XZ];rfl) λM be cQ=>?_;have cd:aE b G D j {f with heap:=M}:=A.turned (XM:=f.toks) (λe m y d=>cQ.extBut e m y d) am an ap as a1;rw[t]at be;let⟨@m,d,n,v⟩:=id be;exact⟨_,rfl,uO (f:={f with heap:=M}) d n v (by decide) ⟨.ref p.2.1,j,cd,rfl,⟨rfl,_,o,rfl,bv,ca⟩,be,λe y=>(H e y).1⟩⟩
 done:=by
  intro b J L N F a G f D j Xg A H X P;subst J L N;let@⟨S,U⟩:=P;let@⟨i,C,hd,⟨@x,rel,⟨XR,bi,@bm,k,T,r,al,bn⟩⟩⟩:=(show f.heap.get? g=Z z/\ep b.prog b.w j f.heap g (.a_ Xt) from A.aZ g _ S);rw[i]at k;cases k;rw[E]at r;cases r;let@⟨am,an,bs,ap,as,a1⟩:=H Xj (by simp);have a2:=dY.length rel;have R:I.toList.map (·.key)=x.map λh=>ab.ref h.2.1:=by rw[al,eD];rfl
  have bd:hQ f.heap g (x.map λh=>ab.ref h.2.1) XN:=⟨_,_,i,T,E,R⟩;have t:(x.map λh=>ab.ref h.2.1).length=Xt.length:=by rw[a9,a2]
  exact Kq (A.ok.hd F) (by rw[t];exact X) bd (by rw[t];exact U) λM ce=>⟨rfl,A.turned (XM:=f.toks) (λe m y d=>ce e m y d) am an ap as a1⟩
 self:=λO a f B Xg X c=>Fc X c
section
variable{b:aO}
def To(k:cn):bF:=λD j Xf=>k D j λh Xn=>∃g Xt,h=.ref g/\Xn g=Z (.a_ Xt)/\∀a,Xf (Bz g a Xt) (upd Xn g<|.dk a<|.a_ Xt)
theorem T3{k:cn}(B:b6 b m k):jN b XK m (To k):=by
 intro G f D j Xf A c;refine cc (B G f D j _ A c) λL a E=>?_;let⟨h,@Xn,u,F,⟨g,@Xt,J,q,p⟩⟩:=E;subst J;obtain rfl:L=ab.ref g:=F;let@⟨C,hd,⟨@x,v,⟨i,r,@XN,o,y,s,z,H⟩⟩⟩:=(show ep b.prog b.w Xn a.heap g (.a_ Xt) from u.aZ g _ q);have new:ep b.prog b.w (upd Xn g<|.dk i<|.a_ Xt) a.heap g (.dk i<|.a_ Xt):=by
  refine⟨o,C,hd,x,dg.keeps v λe Xp d=>?_,i,r,XN,o,y,s,z,H⟩;have:e≠g:=λC=>by subst C;rw[q]at d;cases d
  rw[dp this];exact d
 have t:aE b G D (upd Xn g<|.dk i<|.a_ Xt) a:=u.write (M:=a.heap) (XM:=a.toks) (d:=g) (by rw[q];trivial) (.inl rfl) (λe L W d=>d) ⟨_,o⟩ new;have I:=dY.length v;have R:r.toList.map (·.key)=x.map λh=>ab.ref h.2.1:=by rw[z,eD];rfl
 have N:(x.map λh=>ab.ref h.2.1).length=Xt.length:=by rw[a9,I]
 have O:hQ a.heap g (x.map λh=>ab.ref h.2.1) XN:=⟨_,_,o,y,s,R⟩;refine GR hd O ?_;rw[N];refine⟨_,_,_,_,_,rfl,t.kept (XM:=a.toks)<|λe m d=>bH _ d,Mt g _ i Xt r XN s,⟨_,cI _ rfl,rfl,rfl⟩,λn P=>?_,p i⟩;cases cK.mp P;exact t.n7 (ba _) (t.aZ.fresh<|ba _)
theorem K4{j:aw}{g:af}{b:a0}{Xt:List (List V×V)}{M:List (List V×ar)}(c:j g=Z (.dk b<|.a_ M))(hd:eU j Xt M):kg (Bz g b M) j [] (Xt.map λl=>.tup l.1) where
 go:=λN i q a v d=>by
  rw[dZ]at d;let⟨@⟨w,x⟩,f,rfl⟩:=cD.mp d;have U:a<Xt.length:=(ek.mp f).1;have m:a<M.length:=by rw[<-hd.length];exact U
  refine⟨⟨i.dk _ _ _ c,m⟩,λC y ⟨n,e,o,r,s,t⟩=>?_⟩;subst r n;let⟨z,@p,h,k,u,A⟩:=AS hd a U;rw[f]at h;cases h;rw[s]at k;cases k;cases u;exact⟨bV.refl _,t.2⟩
 stop:=λN i q=>⟨i.dk _ _ _ c,by rw[a9,hd.length];exact ba _⟩
theorem Pu{I:az bq}(c:dR b m I):lB b XK m (rP I):=by
 refine qn (T3 c) λD j t k=>?_;let⟨y,P,s,@XC,X,ag,l,p⟩:=k;let⟨@⟨h,Xl⟩,z,E⟩:=bG.mp l;refine⟨y,P,h,Xl,X,ag,z,λu Xn Xz Xf n XJ f=>?_⟩;dsimp only at E;split at E
 ·rename_i Xt;cases E;let⟨g,@M,rfl,XF,XH,rfl⟩:=XJ;refine⟨g,M,rfl,XF,λo=>?_⟩;have i:=dN.mp f.ag;have q:g∉Xz:=λC=>i.2.2 g C g (.head _) rfl;have ht:fm Xn (L2.upd Xn g<|.dk o<|.a_ M):=fm.of (λe x d=>by
   have:e≠g:=λC=>by subst C;rw[XF]at d;cases d
   rw[dp this];exact d) λe m L d=>by
   have:e≠g:=λC=>by subst C;rw[XF]at d;cases d
   rw[dp this];exact d
  refine p _ _ Xz [] (n.mono ht λe a m d=>by
   have ne:e≠g:=λC=>by subst C;exact q a
   rw[dp ne];exact d) (K4 e_<|XH.mono ht.tup) trivial (λe a=>nomatch a) ?_
  rw[cC];refine⟨λe m d a=>?_,λe a=>?_,i.1,f.tup.trans ht,λe m d=>?_⟩
  ·have:e≠g:=λC=>by
    subst C;rcases f.sub e (fj _<|.head _) with c|c
    ·exact a c
    ·rw[d]at c;cases c
   rw[dp this];exact f.keep e m d a
  ·exact f.sub e (gc _ a)
  ·by_cases C:e=g
   ·exact⟨_,by rw[C];exact e_⟩
   ·let⟨@R,r⟩:=f.grow e m d;exact⟨R,by rw[dp C];exact r⟩
 ·cases E
end
end L2
namespace L2
open PySem PySem.Spec PyProof.Rows PySem.W PySem.SeqAt
variable{q Q:Pos}{d m:bx}
theorem Mz{az:gA}{O:bw}{Xg:ab->ah->Prop}{Ya:Type}{e:Nat}{F:Nat->Ya->dz (ForInStep Ya)}(A:Nat->Ya->ah->Prop){B:Ya->ah->Prop}(j:∀a n f,a<e->A a n f->wpAny az O (F a n) (λs Xe=>match s with | .done d=>B d Xe | .yield d=>A (a+1) d Xe) Xg f)(k:∀n f,A e n f->B n f){n:Ya}{f:ah}(c:A 0 n f):wpAny az O (forIn [0:e] n F) B Xg f:=by
 rw[VY];have l:([0:e]:Std.Legacy.Range).size=e:=by simp[Std.Legacy.Range.size]
 show wpAny az O (forIn (range' 0 ([0:e]:Std.Legacy.Range).size 1) n F) B Xg f;rw[l];refine nc F (λt n f=>∃a,a<=e/\t=range' a (e-a) 1/\A a n f) B ?_ ?_ _ n ⟨0,gC _,rfl,c⟩
 ·rintro h c4 n f ⟨a,U,b,g⟩;have m:a<e:=by
   rcases gz a e with M|M
   ·exact M
   ·rw[show e-a=0 by lia]at b;simp at b
  obtain⟨w,i⟩:∃w,e-a=w+1:=⟨e-a-1,⋯⟩;rw[i,I2]at b;let@⟨rfl,rfl⟩:=List.cons.inj b;refine gT (j h n f m g) (λs Xe M=>?_) λ_ W C=>C;cases s with
  |done d=>exact M
  |yield d=>exact⟨h+1,⋯,by congr 1;lia,M⟩
 ·rintro n f ⟨a,U,b,g⟩;have:a=e:=by
   rcases gz a e with M|M
   ·obtain⟨w,i⟩:∃w,e-a=w+1:=⟨e-a-1,⋯⟩;rw[i,I2]at b;simp at b
   ·lia
  subst this;exact k _ _ g
theorem Vv(t:af)(b:a0)(Xy:Array ab)(w:Nat)(h:ab)(d:ab->Bool)(r:Nat)(p:r<Xy.size)(hd:b.data=.seq Xy w)(i:d Xy[r]=aa)(j:∀k (q:k<Xy.size),k<r->d Xy[k]=au):
  Meets (aX.«tuple.index» ⟨[.ref t,h],[]⟩)
   (λO Xf f=>f.heap.get? t=Z b/\(∀H,H∈Xy->EqAt O.in1 f H h (d H))/\Xf (.ok<|.ret<|.int r f.toks) {f with toks:=f.toks+1}):=by
 intro Xm l O Xf f c;let@⟨m,o,c⟩:=c;unfold aX.«tuple.index»;refine ak (m:=selfAndSome _ _ _ _ _) (oW (a:=(ab.ref t,[h])) (by first|rfl|(simp[selfAndSome];rfl)) ?_);refine ak (C7 m hd ?_);refine ak (m:=pure _) (aK<|ak (m:=pure _)<|aK ?_);dsimp only;rw[Ao];refine ak (Mz (λa n Xe=>n=(Y,())/\Xe=f/\a<=r) ?_ ?_ ⟨rfl,rfl,gC _⟩)
 ·rintro a n Xe U ⟨rfl,rfl,e⟩;rw[ju U];refine ak (o _ (Array.getElem_mem U) Xm l _ _ ?_);by_cases C:a=r
  ·subst C;rw[i,aA rfl];refine ak ?_;unfold retInt
   wp_walk
   exact c
  ·rw[j a U ⋯,aI dy];exact aK ⟨rfl,rfl,⋯⟩
 ·rintro n Xe ⟨rfl,rfl,e⟩;exact absurd e ⋯
section
variable{b:aO}
theorem RS(an:b.A.units+20<bU):wN b "tuple.index" (λh Xc j B=>∃(v:V) (J:List V) (H:ar) (r:Nat),Xc=[H]/\cL j v H/\cL j (.tup J) h/\V.bo 8 v=aa/\V.c2 8 J=aa/\kS J v=Z r/\B (.int r) j):=by
 intro G f D j h Xc u XE B A t y c;let⟨v,J,H,@r,rfl,I,M,XF,XH,d,p⟩:=c;let⟨@L,rfl,N⟩:=y.one;let⟨g,@x,rfl,z,E⟩:=M;cases t;let@⟨C,⟨@Xq,Q,⟨@m,i,n,⟨@w,R⟩⟩⟩⟩:=(show ep b.prog b.w j f.heap g (.tup x) from A.aZ g _ z);have o:=E.fc A.aZ Q;let⟨@l,S,T,U⟩:=F5 XH o d;let⟨@al,a⟩:=ek.mp S;refine q4 CQ ⟨_,i,(Prod.mk.inj n).1⟩ F.entry_tuple_index (F.args_tuple_index_2 _ _) (Vv g m Xq.toArray w L (kT f.heap v) r (by simpa using al) R (by simpa [a] using T) (λk ap am=>U k _ am (by simp))) ⟨i,λl a=>?_,?_⟩
 ·let⟨@C,q,s⟩:=q_ XH o (by simpa using a);rw[nI q s];exact iO 8 q XF (by show b.A.units+1+8+1<bU;lia) s (I.fc A.aZ N)
 ·exact⟨.int r,j,A.kept (XM:=f.toks+1) λe m d=>d,⟨_,rfl⟩,p⟩
noncomputable def WB(s:ar->List ar->aw->cP->Prop)(k:cn)(i:en):cn:=λD j B=>k D j λh Xn=>(∃g x,h=.ref g/\Xn g=Z (.tup x))/\i D Xn λXc XD=>s h Xc XD B
theorem Ra{S:List bx}{k:cn}{i:en}{name:aB}{id:String}{s:ar->List ar->aw->cP->Prop}(Yp:Slot "tuple" name id)(v:ud (.builtin id)=pure (.type "method_descriptor"))(y:wN b id s)(z:b6 b m k)(E:gM b (d::S) i)(H:wI m name b.env (bZ m b.env)=bZ m b.env:=by rfl)(I:((f3 q<|bL (d::S) b.env).all (λh=>!h.1)&&(uQ q<|wX [] b.env).all (λh=>h.1.isSome)
   && decide ((d::S).length+([]:List l9).length+(if ([]:List l9).isEmpty then 0 else 1)<30))=aa:=by rfl)(L:(Q.endLine==q.line)=aa:=by rfl)(Xi:bL (d::S) b.env=(au,bZ d b.env)::bL S b.env:=by rfl)(M:(f3 q<|bL S b.env).any (·.1)=au:=by rfl):
  b6 b (.Call (.Attribute m name Q) (d::S) [] q) (WB s k i):=by
 intro G f D j B A c;refine Fe H I L rfl (cc (z G f D j _ A c) λu o a=>?_);let⟨h,@Xn,p,N,⟨g,@x,J,O⟩,R⟩:=a;subst J;cases (show u=ab.ref g from N);let@⟨C,⟨@Xq,ap,⟨@m,r,n,⟨@w,as⟩⟩⟩⟩:=(show ep b.prog b.w Xn o.heap g (.tup x) from p.aZ g _ O);refine⟨"tuple",id,F.plainAttrs_tuple,Yp,v,⟨m,r,(Prod.mk.inj n).1⟩,λe T=>?_,?_⟩
 ·cases T;exact⟨m,r,(Prod.mk.inj n).2⟩
 have t:=E q G o D Xn _ p R;rw[Xi]at t ⊢;refine D9 (by show (au || (f3 q<|bL S b.env).any (·.1))=au;rw[M]<;>rfl) (Kc ?_);refine cc t λXE U a=>?_;let⟨Xc,@XD,al,am,an⟩:=a;exact y G U D XD (.ref g) Xc (.ref g) XE B al rfl am an
theorem MI{g e v:aj}(c:oH g e=Z v):∃J a r,g=.im (.tup J)/\e=.im a/\V.bo 8 a=aa/\V.c2 8 J=aa/\kS J a=Z r/\v=.im (.int (r:Nat)):=by
 unfold oH at c;split at c
 ·rename_i J a;split at c
  ·rename_i b;let⟨@r,d,f⟩:=cD.mp c;rw[cU]at b;exact⟨J,a,r,rfl,rfl,b.1.1,b.1.2,d,f.symm⟩
  ·cases c
 ·cases c
def I3(I:az bq):Prop:=∀y s XC,I y=Z (s,XC)->XC=y
theorem Ih{a:Nat}:I3 (ai a):=by
 intro y s XC c;unfold ai at c;split at c
 ·cases c;rfl
 ·cases c
theorem JE{go Yj:az bq}(w:b.A.units+20<bU)(C:dR b m go)(f:dR b d Yj)(G:I3 Yj)(I:wI m "index" b.env (bZ m b.env)=bZ m b.env:=by rfl)(M:((f3 q<|bL [d] b.env).all (λh=>!h.1)&&(uQ q<|wX [] b.env).all (λh=>h.1.isSome)
   && decide ([d].length+([]:List l9).length+(if ([]:List l9).isEmpty then 0 else 1)<30))=aa:=by rfl)(N:(Q.endLine==q.line)=aa:=by rfl)(Xi:bL [d] b.env=(au,bZ d b.env)::bL [] b.env:=by rfl)(R:(f3 q<|bL [] b.env).any (·.1)=au:=by rfl):
  cS b (.Call (.Attribute m "index" Q) [d] [] q) (ay oH go Yj):=by
 refine eP (Ra CQ F.type_tuple_index (RS w) C (mj f lP Xi) I M N Xi R) λD j B S=>?_;let⟨y,P,s,@XC,X,ag,e,p⟩:=S;unfold ay at e;let⟨@⟨h,Xl⟩,f,e⟩:=bG.mp e;let⟨@⟨H,XO⟩,o,e⟩:=bG.mp e;let⟨@XY,z,e⟩:=bG.mp e;let⟨@X1,E,e⟩:=bG.mp e;let⟨@v,T,e⟩:=cD.mp e;cases e;have U:XO=Xl:=G _ _ _ o;subst U;let⟨J,al,@r,rfl,rfl,am,XZ,an,rfl⟩:=MI T;refine⟨y,P,h,_,X,ag,f,λu Xn Xz ap t XJ k=>⟨?_,_,Xz,[H],_,t,(dN.mp k.ag).1,by unfold ao;rw[o];rfl,λXc XD XS b4 l XR n=>?_⟩⟩
 ·let⟨@Xf,⟨g,@x,rfl,as,W⟩,W⟩:=XJ.read t z;exact⟨g,x,rfl,as⟩
 ·let⟨L,X9,a1,@bm,rfl,XR,@⟨rfl,rfl⟩,rfl⟩:=XR;have a2:=XJ.mono n.tup λg f m d=>n.keep g m d λc=>(dN.mp k.ag).2.2 g c g f rfl;have bd:=a2.read l z;have be:=XR.read l E;refine⟨al,J,L,r,rfl,be.i,bd.i,am,XZ,an,?_⟩;refine p (.int r) XD XS [] l ⟨rfl,rfl⟩ ?_;have bi:=k.trans n XJ.chg;exact bi.less (aP:=a1++ap) (by simp)
end
end L2
namespace L2
open PySem PySem.Spec PyProof.Rows
variable{c Yd Yj:az bq}{e g d:bx}{S:List bx}{Xu o:Pos}{k q w:Nat}{I:az (List bq)}{XX:List Nat}{XW Xo:List aB}{F:af}{Yi h:aB}{Xd:PySem.W.Frag}{Q:c9}
noncomputable def sM:List (af×a0)->Bool
 |[]=>aa
 | (_,m)::s=>(match m.data with
  |.seq _ _=>(match m.cls with | .type w=>w != "list" |_=>aa)
  |_=>aa)&&sM s
theorem KP{Xd:List (af×a0)}{g:af}{m:a0}{Xq:Array ab}(c:sM Xd=aa)(d:Xd.lookup g=Z m)(a:m.cls=.type "list")(hd:m.data=.seq Xq w):False:=by
 induction Xd with
 |nil=>cases d
 |cons o s b=>
  let⟨e,h⟩:=o;rw[sM,cU]at c;simp only[List.lookup]at d;split at d
  ·cases d;have z:=c.1;rw[hd]at z;dsimp only at z;rw[a]at z;exact absurd z (by decide)
  ·exact b c.2 d
theorem Ki{j:aw}:∀XA:List Int,br j (XA.map .int) (XA.map ar.int)
 |[]=>rfl
 |w::s=>⟨.int w,_,rfl,rfl,Ki s⟩
theorem UJ(a:sM Xd=aa)(j:aw)(g:af)(XA:List Int)(b:uB j)(e:df Xd j g (XA.map ar.int))(bQ:∃i,Q [.dn (XA.map .int)]=Z (.im<|.aG aa,i)){Xg:hc}:kj 1 Q [.ref g] j (λu W=>u=.aG aa) Xg:=by
 let⟨@i,bQ⟩:=bQ;have f:∃m,j g=Z (.dk m<|.lst<|XA.map ar.int):=by
  rcases e with (c|c)|⟨m,Xq,w,z,E,l,h,_⟩
  ·rcases b g with d|⟨m,x,d⟩
   ·rw[d]at c;cases c
   ·rw[d]at c;cases c
  ·exact c
  ·exact (KP a z E h).elim
 let⟨@m,k⟩:=f;refine⟨rfl,[.dn (XA.map .int)],[],.im<|.aG aa,i,⟨_,_,[],[],rfl,⟨g,_,m,rfl,k,Ki XA,rfl⟩,⟨rfl,rfl⟩,rfl⟩,iH,bQ,λu N Xf n c W W=>?_⟩;exact c.1
theorem lF{XE:List ab}(c:XE.length=w+1):∃g s,XE=g::s/\s.length=w:=by
 cases XE with
 |nil=>cases c
 |cons g s=>exact⟨g,s,rfl,Nat.succ.inj c⟩
theorem gO.P7{X:b8}{fd:hj}(P:gO Xd h Yi X F fd)(c:∀(cG y XP:ab) (M:Option af) (C cx:ab) (g:ab),k7 (PySem.W.fnOf h Yi (iX X) (g4 X) (dG X) .none cG y XP M C cx) ⟨[g],[]⟩=pure (Xo.zip [g]))(b:Xo.length=1:=by rfl):i6 Xd fd Xo []:=
 P.binds λcG y XP M C cx XE a=>by
  replace a:=a.trans b;let⟨g,@d,rfl,z⟩:=lF a;obtain rfl:=o3 z;exact c cG y XP M C cx g
theorem gO.Lb{X:b8}{fd:hj}(P:gO Xd h Yi X F fd)(c:∀(cG y XP:ab) (M:Option af) (C cx:ab) (g e:ab),k7 (PySem.W.fnOf h Yi (iX X) (g4 X) (dG X) .none cG y XP M C cx) ⟨[g,e],[]⟩=pure (Xo.zip [g,e]))(b:Xo.length=2:=by rfl):i6 Xd fd Xo []:=
 P.binds λcG y XP M C cx XE a=>by
  replace a:=a.trans b;let⟨g,@d,rfl,z⟩:=lF a;let⟨e,@f,rfl,E⟩:=lF z;obtain rfl:=o3 E;exact c cG y XP M C cx g e
theorem gO.Le{X:b8}{fd:hj}(P:gO Xd h Yi X F fd)(c:∀(cG y XP:ab) (M:Option af) (C cx:ab) (g e n:ab),k7 (PySem.W.fnOf h Yi (iX X) (g4 X) (dG X) .none cG y XP M C cx) ⟨[g,e,n],[]⟩=pure (Xo.zip [g,e,n]))(b:Xo.length=3:=by rfl):i6 Xd fd Xo []:=
 P.binds λcG y XP M C cx XE a=>by
  replace a:=a.trans b;let⟨g,@f,rfl,z⟩:=lF a;let⟨e,@i,rfl,E⟩:=lF z;let⟨n,@j,rfl,d⟩:=lF E;obtain rfl:=o3 d;exact c cG y XP M C cx g e n
theorem gO.KN{X:b8}{fd:hj}(P:gO Xd h Yi X F fd)(c:∀(cG y XP:ab) (M:Option af) (C cx:ab) (g e n v:ab),k7 (PySem.W.fnOf h Yi (iX X) (g4 X) (dG X) .none cG y XP M C cx) ⟨[g,e,n,v],[]⟩=pure (Xo.zip [g,e,n,v]))(b:Xo.length=4:=by rfl):i6 Xd fd Xo []:=
 P.binds λcG y XP M C cx XE a=>by
  replace a:=a.trans b;let⟨g,@i,rfl,z⟩:=lF a;let⟨e,@j,rfl,E⟩:=lF z;let⟨n,@k,rfl,d⟩:=lF E;let⟨v,@l,rfl,f⟩:=lF d;obtain rfl:=o3 f;exact c cG y XP M C cx g e n v
structure ef where
 P:bJ
 w:bc
 K:PySem.W.Frag
 aH:aB->Option ab
 base:aV
def dC(Xd:PySem.W.Frag)(h:aB)(X:b8)(F:af):Prop:=∃fd,gO Xd h h X F fd/\PySem.W.nsIn Xd dH h=Z (Z<|.ref F)
def d1(Xd:PySem.W.Frag)(aH:aB->Option ab)(h:aB)(X:b8)(F:af)(Xo:List aB):Prop:=∃fd,gO Xd h h X F fd/\i6 Xd fd Xo []/\aH h=Z (.ref F)
def mm(Xs:bJ)(l:bc)(Xd:PySem.W.Frag)(aH:aB->Option ab)(Xv:aV)(q:Nat)(h:aB)(X:b8)(F:af)(Xo:List aB)(w:Nat)(Q:c9):Prop:=∃fd,gO Xd h h X F fd/\i6 Xd fd Xo []/\aH h=Z (.ref F)/\iG Xs l Xd aH Xv ij q F fd Xo (kj w Q)
abbrev eE(n:ef):=mm n.P n.w n.K n.aH n.base
theorem JL{X:b8}{E:ab}{z M:Option af}{T:Array (Option ab)}{cG y XP C cx:ab}(g:PySem.W.nsIn Xd dH h=Z (Z<|.ref F))(t:Xd.lookup F=Z ⟨E,z,.func<|PySem.W.fnOf h h (iX X) (g4 X) (dG X) .none cG y XP M C cx,T⟩)(n:PySem.W.codeIn Xd C h=aa)(q:PySem.W.keepIn Xd (.ref F)=aa):dC Xd h X F:=⟨_,Md t n q,g⟩
section
variable{Xs:bJ}{l:bc}{Xd:PySem.W.Frag}{aH:aB->Option ab}{Xv c:aV}{q w:Nat}{h:aB}{X:b8}{F:af}{Xo:List aB}{Q:c9}
theorem dC.aQ(s:dC Xd h X F)(b:Xd.In c)(d:c.Ns dH aH)(e:∀(cG y XP:ab) (M:Option af) (C cx g:ab),k7 (PySem.W.fnOf h h (iX X) (g4 X) (dG X) .none cG y XP M C cx) ⟨[g],[]⟩=pure (Xo.zip [g]):=by intros;rfl)(f:Xo.length=1:=by rfl):d1 Xd aH h X F Xo:=
 have ⟨_,a,g⟩:=s
 ⟨_,a,a.P7 e f,ml b d g⟩
theorem dC.aR(s:dC Xd h X F)(b:Xd.In c)(d:c.Ns dH aH)(f:∀(cG y XP:ab) (M:Option af) (C cx g e:ab),k7 (PySem.W.fnOf h h (iX X) (g4 X) (dG X) .none cG y XP M C cx) ⟨[g,e],[]⟩=pure (Xo.zip [g,e]):=by intros;rfl)(i:Xo.length=2:=by rfl):d1 Xd aH h X F Xo:=
 have ⟨_,a,g⟩:=s
 ⟨_,a,a.Lb f i,ml b d g⟩
theorem dC.jL(s:dC Xd h X F)(b:Xd.In c)(d:c.Ns dH aH)(f:∀(cG y XP:ab) (M:Option af) (C cx g e n:ab),k7 (PySem.W.fnOf h h (iX X) (g4 X) (dG X) .none cG y XP M C cx) ⟨[g,e,n],[]⟩=pure (Xo.zip [g,e,n]):=by intros;rfl)(i:Xo.length=3:=by rfl):d1 Xd aH h X F Xo:=
 have ⟨_,a,g⟩:=s
 ⟨_,a,a.Le f i,ml b d g⟩
theorem dC.nB(s:dC Xd h X F)(b:Xd.In c)(d:c.Ns dH aH)(f:∀(cG y XP:ab) (M:Option af) (C cx g e n v:ab),k7 (PySem.W.fnOf h h (iX X) (g4 X) (dG X) .none cG y XP M C cx) ⟨[g,e,n,v],[]⟩=pure (Xo.zip [g,e,n,v]):=by intros;rfl)(i:Xo.length=4:=by rfl):d1 Xd aH h X F Xo:=
 have ⟨_,a,g⟩:=s
 ⟨_,a,a.KN f i,ml b d g⟩
theorem mm.fd{fd:hj}(aP:mm Xs l Xd aH Xv q h X F Xo w Q)(b:gO Xd h h X F fd):iG Xs l Xd aH Xv ij q F fd Xo (kj w Q):=by
 let⟨@e,c,W,W,I⟩:=aP;let⟨E,z,cG,y,XP,M,C,cx,@T,d,t,W⟩:=b.ex;let⟨f,g,i,j,k,m,n,o,@p,r,a,W⟩:=c.ex;rw[t]at a;cases a;exact I
theorem LM(s:dC Xd h X F)(b:Xd.In c)(i:c.Ns dH aH){a:af}(j:aH h=Z (.ref a)){o:aB}(k:∀(cG y XP:ab) (M:Option af) (C cx:ab) (f:ah) (u:ab),mW f (PySem.W.fnOf h h (iX X) (g4 X) (dG X) .none cG y XP M C cx) ⟨[u],[]⟩ [(o,u)])(aP:∀Xv,mm Xs l Xd aH Xv q h X F [o] w Q):
  ∃fd:hj,(∀(f:ah) (u:ab),mW f fd ⟨[u],[]⟩ [(o,u)])/\∀Xv:aV,Xd.In Xv->Xv.Ns dH aH->iG Xs l Xd aH Xv ij q a fd [o] (kj w Q):=by
 let⟨@fd,d,g⟩:=s;cases j.symm.trans (ml b i g);refine⟨fd,?_,λe U U=>(aP e).fd d⟩;let⟨E,z,cG,y,XP,M,C,cx,@T,rfl,t,U⟩:=d.ex;exact k cG y XP M C cx
theorem Wf{I:bA}(P:d1 Xd aH h X F Xo)(Xr:nv XW Xo (dG X))(c:Xo.length=w)(d:∀a∈XX,a<w)(g:XW.Nodup->∀(C:ab) (O:bw) (R:List fu) (f:ah) (j:aw) (Xg:hc),fk q (O.deeper<|jF h (dG X) f.heap.objs.size F C)->jg (lW ij Xs l Xd aH Xv XW h (dG X) F C O R f j Xg).oc XX (g4 X) I):
  mm Xs l Xd aH Xv (q+1) h X F Xo w (dA w XW.length XX I):=
 have ⟨_,b,e,k⟩:=P
 ⟨_,b,e,k,Fs b Xr c d<|g Xr.ag⟩
end
section
variable{b:aO}
theorem KL{X:b8}(aP:mm b.prog b.w b.K b.aH b.base q h X F Xo w Q)(a:fk k b.A)(c:dS b h)(f:fL b (d::S) I)(g:q<=k:=by decide)(i:(h==("__debug__" : aB))=au:=by decide)(j:bL (d::S) b.env=(au,bZ d b.env)::bL S b.env:=by rfl)(m:(f3 Xu<|bL S b.env).any (·.1)=au:=by rfl):
  cS b (.Call (.Name h o) (d::S) [] Xu) (b2 w Q I):=
 have ⟨_,n,e,k,P⟩:=aP
 Jo P (a.mono g) c k n.c5 e f i j m
theorem bp{a:Int}{r Xu}:dR b (.Constant (.int a) r Xu) (ae<|aC<|.int a):=a8 hg
theorem av(a:Nat){h:aB}{Xu:Pos}(c:b.N[a]?=Z h:=by rfl)(d:uu b.env.scope h:=by first|exact Or.inl rfl|exact Or.inr (Or.inl rfl)|exact Or.inr (Or.inr rfl))(hd:(h==("__debug__" : aB))=au:=by decide)(e:(h==("__classdict__" : aB))=au:=by decide):dR b (.Name h Xu) (ai a):=LB (Jq c d hd e)
theorem cv{I:az bq}(a:dR b d I)(Xi:bL [d] b.env=(au,bZ d b.env)::bL [] b.env:=by rfl):fL b [d] (ao I aF):=mj a lP Xi
theorem n8(a:fk k b.A)(c:dR b g Yj)(d:dR b e Yd)(Xi:vC e:=by exact λ_ W=>rfl):cS b (.Subscript g e Xu) (ay bE Yj Yd):=jh (H2 (by have:=a.un;lia)) c d Xi
theorem b0{F:bx}{I:az bq}(a:dR b d I)(e:dR b F c)(Xi:bL [d,F] b.env=(au,bZ d b.env)::bL [F] b.env:=by rfl)(E:bL [F] b.env=(au,bZ F b.env)::bL [] b.env:=by rfl):fL b [d,F] (ao I<|ao c aF):=mj a (cv e E) Xi
theorem hv{F v:bx}{I q:az bq}(a:dR b d I)(e:dR b F c)(hd:dR b v q)(Xi:bL [d,F,v] b.env=(au,bZ d b.env)::bL [F,v] b.env:=by rfl)(z:bL [F,v] b.env=(au,bZ F b.env)::bL [v] b.env:=by rfl)(E:bL [v] b.env=(au,bZ v b.env)::bL [] b.env:=by rfl):fL b [d,F,v] (ao I<|ao c<|ao q aF):=mj a (b0 e hd z E) Xi
theorem dh(a:Nat){h:aB}{d:bx}{I:az aj}{Xu i:Pos}(c:b.N.Nodup)(e:cS b d I)(U:b.N[a]?=Z h:=by rfl)(f:lS b.env.scope h:=by exact Or.inl rfl)(g:a∉XX:=by decide)(Xi:oY d (Z<|.Name h i) Xu.line b.env=pure au:=by rfl)(j:b.fn h=aa\/b.env.scope.names.lookup h=Z .local:=by first|exact .inl rfl|exact .inr rfl|assumption):iF b XX (.Assign [.Name h i] d Xu) (b_ a I):=uL c U f e g Xi j
theorem dK(a:Nat){h:aB}{Xu:Pos}(c:b.N.Nodup)(U:b.N[a]?=Z h:=by rfl)(d:lS b.env.scope h:=by exact Or.inl rfl)(e:a∉XX:=by decide)(f:b.fn h=aa\/b.env.scope.names.lookup h=Z .local:=by first|exact .inl rfl|exact .inr rfl|assumption):iR b XX (.Name h Xu) (bS a):=AM c U d e f
theorem jV{I c:fi}{a}(d:iR b XX g I)(f:iR b XX e c)(h:b.calm=aa:=by rfl)(z:(hz [g,e] b.env).map (·.2)=js g b.env::(hz [e] b.env).map (·.2):=by rfl)(E:(hz [e] b.env).map (·.2)=js e b.env::(hz [] b.env).map (·.2):=by rfl)(i:(hz [g,e] b.env).length=2:=by rfl)(j:(hz [g,e] b.env).findIdx? (·.1)=Y:=by rfl):iR b XX (.Tuple [g,e] a Xu) (ew 2<|de I<|de c fM):=LZ h (G6 d (G6 f Ti E) z) i j
theorem eR{id:String}{X7:List aj->Option aj}(a:hl b (.builtin id) X7)(c:b.aH h=Y)(e:eT h=Z (.builtin id))(f:fL b (d::S) I)(g:dS b h:=by rfl)(i:h ≠ "__name__" := by decide)(j:(h==("__debug__" : aB))=au:=by decide)(k:bL (d::S) b.env=(au,bZ d b.env)::bL S b.env:=by rfl)(l:(f3 Xu<|bL S b.env).any (·.1)=au:=by rfl):
  cS b (.Call (.Name h o) (d::S) [] Xu) (b9 X7 I):=Oz a g c e f i j k l
theorem c8{X:b8}(aP:mm b.prog b.w b.K b.aH b.base q h X F Xo w Q)(a:fk k b.A)(c:fL b (d::S) I)(e:dS b h:=by rfl)(f:q<=k:=by decide)(g:(h==("__debug__" : aB))=au:=by decide)(i:bL (d::S) b.env=(au,bZ d b.env)::bL S b.env:=by rfl)(j:(f3 Xu<|bL S b.env).any (·.1)=au:=by rfl):
  cS b (.Call (.Name h o) (d::S) [] Xu) (b2 w Q I):=KL aP a e c f g i j
theorem ez(a:fk k b.A)(c:dR b g Yj)(d:dR b e Yd)(Xi:vC e:=by exact λ_ W=>rfl):dR b (.Subscript g e Xu) (ae<|ay bE Yj Yd):=a8 (n8 a c d Xi)
theorem cm{X7:zf}{F:aj->aj->Option aj}(a:f7 b (gF X7) F)(c:dR b g Yj)(d:dR b e Yd):dR b (.BinOp g X7 e Xu) (ae<|ay F Yj Yd):=a8 (gZ a c d)
theorem hL{a}(c:fL b S I):dR b (.Tuple S a Xu) (ae<|d6 I):=a8 (mM c)
end
section
variable{Xs:bJ}{l:bc}{Xd:PySem.W.Frag}{aH:aB->Option ab}{Xv c:aV}{q w:Nat}{h:aB}{X:b8}{F:af}{Xo:List aB}{Q:c9}
theorem Cv{Xs:List aB}{i:hI}(g:i.kind=.function:=by rfl)(e:i.isCoroutine=au:=by rfl)(n:i.isGenerator=au:=by rfl)(v:XW.Nodup:=by decide +kernel)(d:XW.take Xs.length=Xs:=by rfl)(F:∀h∈Xs,i.names.lookup h=Z .local\/i.names.lookup h=Z .cell:=by decide +kernel)(I:∀H∈i.names,H.2≠.free:=by decide +kernel):nv XW Xs i:=⟨g,e,n,v,d,F,I⟩
theorem eF{I:bA}(XW:List aB)(P:d1 Xd aH h X F Xo)(b:XW.Nodup->∀(C:ab) (O:bw) (R:List fu) (f:ah) (j:aw) (Xg:hc),fk q (O.deeper<|jF h (dG X) f.heap.objs.size F C)->jg (lW ij Xs l Xd aH Xv XW h (dG X) F C O R f j Xg).oc XX (g4 X) I)(Xr:nv XW Xo (dG X):=by exact Cv)(c:Xo.length=w:=by rfl)(d:∀a∈XX,a<w:=by decide):mm Xs l Xd aH Xv (q+1) h X F Xo w (dA w XW.length XX I):=Wf P Xr c d b
end
end L2
set_option maxHeartbeats 4000000
namespace K50
open PySem L2 PyProof.Rows
variable{t:PySem.W.OpenLaw}{F:af}{n:ef}{q:Nat}{O:bw}
noncomputable def dF(a:Nat):b8:=PySem.Challenge.pw_mowfloor_k50_whose_cells.main.body.getD a (.Pass ⟨0,0,0,0⟩)
structure eo(aH:aB->Option ab):Prop where
 R3:aH "all" = Y
 OX:aH "bool" = Y
 LJ:aH "dict" = Y
 IM:aH "int" = Y
 qr:aH "isinstance" = Y
 kc:aH "len" = Y
 y5:aH "list" = Y
 tX:aH "max" = Y
 wD:aH "min" = Y
 qE:aH "range" = Y
 PS:aH "reversed" = Y
 U8:aH "set" = Y
 mh:aH "sorted" = Y
 DZ:aH "str" = Y
 iK:aH "tuple" = Y
 od:aH "zip" = Y
 K6:∃i,aH "LEFT" = Z (.int (-1) i)
 TV:∃i,aH "RIGHT" = Z (.int 1 i)
 zQ:∃i,aH "SIDE" = Z (.int 2 i)
theorem V0:eT "all" = Z (.builtin "all"):=by decide +kernel
theorem Pc:eT "bool" = Z (.type "bool"):=by decide +kernel
theorem Sy:eT "dict" = Z (.type "dict"):=by decide +kernel
theorem Hj:eT "int" = Z (.type "int"):=by decide +kernel
theorem qM:eT "isinstance" = Z (.builtin "isinstance"):=by decide +kernel
theorem kB:eT "len" = Z (.builtin "len"):=by decide +kernel
theorem Jv:eT "list" = Z (.type "list"):=by decide +kernel
theorem wF:eT "max" = Z (.builtin "max"):=by decide +kernel
theorem tV:eT "min" = Z (.builtin "min"):=by decide +kernel
theorem nr:eT "sorted" = Z (.builtin "sorted"):=by decide +kernel
theorem HC:eT "str" = Z (.type "str"):=by decide +kernel
theorem je:eT "tuple" = Z (.type "tuple"):=by decide +kernel
theorem dD(a:fk q O):O.units+20<bU:=by have:=a.un;omega
theorem JX(a:fk q O):O.units+30<bU:=by have:=a.un;omega
abbrev xW:b8:=dF 1
abbrev RY:List aB:=["one","other"]
abbrev yk:b8:=dF 2
abbrev TK:List aB:=["things","found","thing"]
abbrev Be:b8:=dF 5
abbrev Lz:List aB:=["field","cell"]
abbrev xD:b8:=dF 8
abbrev Vz:List aB:=["cell","way","many"]
abbrev zh:b8:=dF 9
abbrev Oa:List aB:=["field","tree","cell","block","ways"]
abbrev yZ:b8:=dF 10
abbrev Sz:List aB:=["field","tree","walk"]
abbrev uo:b8:=dF 12
abbrev Ex:List aB:=["many","spots"]
abbrev zp:b8:=dF 13
abbrev M8:List aB:=["time","left"]
abbrev AZ:b8:=dF 14
abbrev UW:List aB:=["spaces","time"]
abbrev zH:b8:=dF 15
abbrev QI:List aB:=["spaces","time","left","row","space","right"]
abbrev yg:b8:=dF 16
abbrev N5:List aB:=["spaces","time","row","right"]
abbrev uj:b8:=dF 17
abbrev Kx:List aB:=["spaces","time"]
abbrev u2:b8:=dF 18
abbrev HJ:List aB:=["spaces","time"]
abbrev xn:b8:=dF 19
abbrev Nf:List aB:=["many","spots","spaces","least","enough","middle"]
abbrev w7:b8:=dF 20
abbrev GW:List aB:=["many","spots","spaces","lefts","rights"]
abbrev wu:b8:=dF 24
abbrev CS:List aB:=["walk","starts"]
abbrev yG:b8:=dF 25
abbrev N9:List aB:=["walk","starts","spots","found","spot","share"]
abbrev uh:b8:=dF 26
abbrev GL:List aB:=["walk","start","way","many","spot"]
abbrev xg:b8:=dF 27
abbrev Vt:List aB:=["walk","start","share","left","right","fewer","more","out"]
abbrev wa:b8:=dF 28
abbrev Gw:List aB:=["field","tree","starts","walk","found"]
abbrev uC:b8:=dF 29
abbrev EU:List aB:=["field","tree","starts","found","start","walk"]
abbrev Bn:b8:=dF 31
abbrev Ui:List aB:=["_law_script","_law_k","_law_cell","_law_bound","_law_digits"]
abbrev zc:b8:=dF 32
abbrev RH:List aB:=["_law_hand_here","_law_many","_law_digit","_law_turn","_law_mixed","_law_odd"]
abbrev x8:b8:=dF 33
abbrev Vl:List aB:=["_law_hand_here","_law_some"]
abbrev AW:b8:=dF 34
abbrev LV:List aB:=["_law_hand_here","_law_most","_law_top","_law_side","_law_bricks","_law_turn","_law_row","_law_column","_law_down","_law_right","_law_block"]
abbrev A6:b8:=dF 35
abbrev OF:List aB:=["_law_bricks","_law_cells","_law_row","_law_column"]
abbrev uM:b8:=dF 36
abbrev GO:List aB:=["_law_hand_here","_law_bricks","_law_pairs","_law_row","_law_column","_law_other","_law_lots","_law_tree_here","_law_one","_law_old","_law_new","_law_block"]
abbrev Bj:b8:=dF 37
abbrev Sn:List aB:=["_law_hand_here","_law_field_here","_law_left","_law_starts_here","_law_turn"]
abbrev pV:b8:=dF 38
abbrev Dv:List aB:=["_law_told","_law_due"]
abbrev se:b8:=dF 39
abbrev A3:List aB:=["_law_script","_law_k","_law_hand_here","_law_bricks","_law_field_here","_law_tree_here","_law_starts_here","_law_due","_law_start","_law_walk","_law_asking"]
section
variable{Xs:bJ}{l:bc}{Xd:PySem.W.Frag}{aH:aB->Option ab}{Xv:aV}
abbrev Eh(n:ef)(F:af):Prop:=eE n 1 "lesser_first" xW F ["one","other"] 2 G.sF
theorem Pl(P:d1 n.K n.aH "lesser_first" xW F ["one","other"])(T:eo n.aH):Eh n F:=by
 refine eF RY P λag C O R f j Xg a=>?_;exact (cp<|du<|mM<|b0 (a8<|eR (Nk rfl<|dD a) T.wD tV<|b0 (av 0)<|av 1)<|a8<|eR (TB rfl<|dD a) T.tX wF<|b0 (av 0)<|av 1)
abbrev EE(n:ef)(F:af):Prop:=eE n 1 "lookup" yk F ["things"] 1 G.p7
theorem R5(P:d1 n.K n.aH "lookup" yk F ["things"])(T:eo n.aH):EE n F:=by
 refine eF TK P λag C O R f j Xg a=>?_;exact (bW (dh 1 ag HL) (bW (jv (X8:=[0]) hV rfl (ky<|av 0) (dK 2 ag) (cp<|mX sP<|rI (eh 1) (iw<|eh 2)<|yb<|dD a) (by decide) (xR (by decide)))<|cp<|du<|iw<|eh 1))
abbrev Hb(n:ef)(F:af):Prop:=eE n 1 "block_of" Be F ["field","cell"] 2 G.s6
theorem VR(P:d1 n.K n.aH "block_of" Be F ["field","cell"])(T:eo n.aH):Hb n F:=by
 refine eF Lz P λag C O R f j Xg a=>?_;exact (cp<|du<|mM<|b0 (cm jd (ez a (av 1) bp)<|cm ko (cm jd (ez a (av 1) bp)<|ez a (ez a (av 0) bp) bp)<|a8<|sl rfl T.zQ.choose_spec)<|cm jd (ez a (av 1) bp)<|cm ko (cm jd (ez a (av 1) bp)<|ez a (ez a (av 0) bp) bp)<|a8<|sl rfl T.zQ.choose_spec)
abbrev F8(n:ef)(Xb:di)(F:af):Prop:=eE n 1 "moved" xD F ["cell","way","many"] 3 (G.lU Xb)
theorem K5(P:d1 n.K n.aH "moved" xD F ["cell","way","many"])(T:eo n.aH){Xb:di}(dg:kQ n.K n.P n.w Xb.kt Xb.cR)(b:n.aH "WAYS" = Z (.ref Xb.fR)):F8 n Xb F:=by
 refine eF Vz P λag C O R f j Xg a=>?_;exact (cp<|du<|mM<|b0 (cm eg (a8<|jh (j5 (dD a) dg) (av 0) bp<|λ_ W=>rfl)<|cm hp (a8<|jh (j5 (dD a) dg) (av 1) bp<|λ_ W=>rfl)<|av 2)<|cm eg (a8<|jh (j5 (dD a) dg) (av 0) bp<|λ_ W=>rfl)<|cm hp (a8<|jh (j5 (dD a) dg) (av 1) bp<|λ_ W=>rfl)<|av 2)
abbrev Jp(n:ef)(Xb:di)(F:af):Prop:=eE n 2 "next_round" zh F ["field","tree","cell"] 3 (G.qv Xb)
theorem MF(P:d1 n.K n.aH "next_round" zh F ["field","tree","cell"])(T:eo n.aH){Xb:di}(dg:kQ n.K n.P n.w Xb.kt Xb.cR)(c:n.aH "WAYS" = Z (.ref Xb.fR)){d:af}(e:Hb n d){g:af}(h:Eh n g){i:af}(b:F8 n Xb i):Jp n Xb F:=by
 refine eF Oa P λag C O R f j Xg a=>?_;exact (bW (dh 3 ag<|c8 e a<|b0 (av 0)<|av 2)<|bW (dh 4 ag<|jh (j5 (dD a) dg) (a8<|OV rfl c) (hL<|b0 (cm jd (a8<|jh (j5 (dD a) dg) (av 2) bp<|λ_ W=>rfl)<|a8<|jh (j5 (dD a) dg) (av 3) bp<|λ_ W=>rfl)<|cm jd (a8<|jh (j5 (dD a) dg) (av 2) bp<|λ_ W=>rfl)<|a8<|jh (j5 (dD a) dg) (av 3) bp<|λ_ W=>rfl)<|λ_ W=>rfl)<|bW (g8 (gr (E0<|dD a) (a8<|c8 h a<|b0 (av 3)<|a8<|c8 b a<|hv (av 3) (a8<|jh (j5 (dD a) dg) (av 4) bp<|λ_ W=>rfl)<|a8<|sl rfl T.zQ.choose_spec) (av 1) rfl) (cp<|du<|c8 b a<|hv (av 2) (a8<|jh (j5 (dD a) dg) (av 4) bp<|λ_ W=>rfl) bp) ho)<|cp<|du<|c8 b a<|hv (av 2) (a8<|jh (j5 (dD a) dg) (av 4) bp<|λ_ W=>rfl) bp)
abbrev Cy(n:ef)(Xb:di)(F:af):Prop:=eE n 3 "ring" yZ F ["field","tree"] 2 (G.pZ Xb)
theorem MN(P:d1 n.K n.aH "ring" yZ F ["field","tree"])(T:eo n.aH){Xb:di}(dg:kQ n.K n.P n.w Xb.kt Xb.cR)(d:n.aH "WAYS" = Z (.ref Xb.fR)){b:af}(c:Jp n Xb b):Cy n Xb F:=by
 refine eF Sz P λag C O R f j Xg a=>?_;exact (bW (dh 2 ag<|gP<|cv<|ez a (av 0) bp)<|bW (yl 1000000 hV (gr ux (a8<|eR j_ T.kc kB<|cv<|av 2) (a8<|eR j_ T.kc kB<|cv<|av 0)<|fz _)<|cp<|kZ<|jz jE jO pD qB qh (eh 2)<|cv<|a8<|c8 c a<|hv (av 0) (av 1)<|ez a (av 2)<|a8<|mf hg)<|cp<|du<|iB kP rfl T.iK je<|cv<|av 2)
abbrev A5(n:ef)(F:af):Prop:=eE n 1 "between" uo F ["many","spots"] 2 G.uy
theorem Ld(P:d1 n.K n.aH "between" uo F ["many","spots"])(T:eo n.aH):A5 n F:=by
 refine eF Ex P λag C O R f j Xg b=>?_;exact (cp (du (ki (own:=["ahead" ,"behind"]) (XU:=[0]) rfl (jC (dG uo) Ex (by decide +kernel)) (by decide) (te rfl T.od<|b0 (av 1)<|cm eg (a8<|pR (av 1) (pj hg) qG)<|a8<|pR (av 1) qG<|pj hg) (λa=>(jV (dK 0 (show (["ahead" ,"behind" ,"many"]:List aB).Nodup by decide +kernel)) (dK 1 (show (["ahead" ,"behind" ,"many"]:List aB).Nodup by decide +kernel)))) (λa=>kx)<|λa=>(gZ ko (cm jd (cm jd (av 1)<|av 0) bp)<|av 2))))
abbrev xm(n:ef)(F:af):Prop:=eE n 1 "room" zp F ["time","left"] 2 G.ra
theorem T7(P:d1 n.K n.aH "room" zp F ["time","left"])(T:eo n.aH):xm n F:=by
 refine eF M8 P λag C O R f j Xg a=>?_;exact (bW (g8 (gr Kr (av 1) (av 0)<|fz _) (cp<|du tl) ho)<|bW (g8 (gr xV (cm hp (av 1) bp) (av 0)<|fz _) (cp<|du<|gZ jd (av 0)<|cm hp (av 1) bp) ho)<|cp<|du<|gZ sh (cm jd (av 0)<|av 1) bp)
abbrev CL(n:ef)(F:af):Prop:=eE n 1 "greatest_left" AZ F ["spaces","time"] 2 G.rF
theorem Uc(P:d1 n.K n.aH "greatest_left" AZ F ["spaces","time"])(T:eo n.aH):CL n F:=by
 refine eF UW P λag C O R f j Xg a=>?_;exact (cp<|du<|eR (Bm rfl) T.wD tV<|b0 (av 1)<|ez a (av 0)<|a8<|mf hg)
abbrev EK(n:ef)(F:af):Prop:=eE n 2 "row_from" zH F ["spaces","time","left"] 3 G.x6
theorem N8(P:d1 n.K n.aH "row_from" zH F ["spaces","time","left"])(T:eo n.aH){b:af}(c:xm n b):EK n F:=by
 refine eF QI P λag C O R f j Xg a=>?_;exact (bW (dh 3 ag<|gP<|cv<|av 2) (bW (jv (X8:=[0,1,2]) hV rfl (ky<|a8<|pR (av 0) qG<|pj<|mf hg) (dK 4 ag) (bW (dh 5 ag<|c8 c a<|b0 (av 1)<|ez a (av 3)<|a8<|mf hg)<|bW (g8 (gr x9 (av 5) (a8 tl)<|fz _) (cp<|du<|iB kP rfl T.iK je<|cv<|av 3) ho)<|cp<|kZ<|jz jE jO pD qB qh (eh 3)<|cv<|a8<|eR (yY rfl) T.tX wF<|b0 bp<|cm jd (av 4)<|av 5) (by decide) Gn)<|cp<|du<|iB kP rfl T.iK je<|cv<|av 3))
abbrev IQ(n:ef)(F:af):Prop:=eE n 2 "goes_through" yg F ["spaces","time","row"] 3 G.zA
theorem TP(P:d1 n.K n.aH "goes_through" yg F ["spaces","time","row"])(T:eo n.aH){b:af}(c:xm n b):IQ n F:=by
 refine eF N5 P λag C O R f j Xg a=>?_;exact (bW (dh 3 ag<|c8 c a<|b0 (av 1)<|ez a (av 2)<|a8<|mf hg)<|cp<|du<|uc (mZ<|pn K9 (av 3) (a8 tl)<|fz _)<|mZ<|zX<|pn AI (cm eg (av 3)<|ez a (av 2) bp) (ez a (av 0)<|a8<|mf hg)<|fz _)
abbrev EN(n:ef)(F:af):Prop:=eE n 3 "rows_of" uj F ["spaces","time"] 2 G.u4
theorem Us(P:d1 n.K n.aH "rows_of" uj F ["spaces","time"])(T:eo n.aH){c:af}(d:CL n c){e:af}(g:EK n e):EN n F:=by
 refine eF Kx P λag C O R f j Xg a=>?_;exact (cp (du (ki (own:=["left"]) (XU:=[0,1]) rfl (jC (dG uj) Kx (by decide +kernel)) (by decide) (tm rfl T.qE<|cv<|cm eg (a8<|c8 d a<|b0 (av 0)<|av 1) bp) (λb=>(dK 0 (show (["left" ,"spaces" ,"time"]:List aB).Nodup by decide +kernel))) (λb=>kx)<|λb=>(c8 g a<|hv (av 1) (av 2)<|av 0))))
abbrev Bk(n:ef)(F:af):Prop:=eE n 4 "rows_through" u2 F ["spaces","time"] 2 G.tA
theorem Sq(P:d1 n.K n.aH "rows_through" u2 F ["spaces","time"])(T:eo n.aH){c:af}(d:EN n c){e:af}(g:IQ n e):Bk n F:=by
 refine eF HJ P λag C O R f j Xg a=>?_;exact (cp (du (ki (own:=["row"]) (XU:=[0,1]) rfl (jC (dG u2) HJ (by decide +kernel)) (by decide) (ky<|a8<|c8 d a<|b0 (av 0)<|av 1) (λb=>(dK 0 (show (["row" ,"spaces" ,"time"]:List aB).Nodup by decide +kernel))) (λb=>(K8<|pK<|a8<|c8 g a<|hv (av 1) (av 2)<|av 0))<|λb=>(iw<|eh 0))))
abbrev FE(n:ef)(F:af):Prop:=eE n 5 "least_time" xn F ["many","spots"] 2 G.om
theorem R_(P:d1 n.K n.aH "least_time" xn F ["many","spots"])(T:eo n.aH){b:af}(c:A5 n b){d:af}(e:Bk n d):FE n F:=by
 refine eF Nf P λag C O R f j Xg a=>?_;exact (bW (dh 2 ag<|c8 c a<|b0 (av 0)<|av 1)<|bW (dh 3 ag hg)<|bW (dh 4 ag<|gZ jd (av 0) bp)<|bW (yl 1000000 hV (gr ux (av 3) (av 4)<|fz _)<|bW (dh 5 ag<|gZ sh (cm eg (av 3)<|av 4) bp)<|cp<|g8 (pK<|a8<|c8 e a<|b0 (av 2)<|av 5) (cp<|dh 4 ag<|iw<|eh 5)<|cp<|dh 3 ag<|gZ eg (av 5) bp)<|cp<|du<|iw<|eh 3)
abbrev CA(n:ef)(F:af):Prop:=eE n 6 "shares" w7 F ["many","spots"] 2 G.tu
theorem Tf(P:d1 n.K n.aH "shares" w7 F ["many","spots"])(T:eo n.aH){d:af}(e:A5 n d){g:af}(h:Bk n g){i:af}(k:FE n i):CA n F:=by
 refine eF GW P λag C O R f j Xg b=>?_;exact (bW (dh 2 ag<|c8 e b<|b0 (av 0)<|av 1) (bW (dh 3 ag<|n8 b (a8<|c8 h b<|b0 (av 2)<|a8<|c8 k b<|b0 (av 0)<|av 1) bp) (bW (Sj (a:=4) (own:=["space" ,"left"]) (XU:=[]) ag rfl (Or.inl rfl) rfl (jC (dG w7) GW (by decide +kernel)) (by decide) (Of rfl T.od<|b0 (av 2)<|cm eg (a8<|pR (av 3) (pj hg) qG)<|a8<|pR (av 3) qG<|pj hg) (λc=>(jV (dK 0 (show (["space" ,"left"]:List aB).Nodup by decide +kernel)) (dK 1 (show (["space" ,"left"]:List aB).Nodup by decide +kernel)))) (λc=>kx) (λc=>(gZ jd (av 0)<|av 1)) (by decide))<|cp<|du<|L9 rfl T.iK rfl T.od<|b0 (av 3)<|av 4)))
abbrev Cb(n:ef)(F:af):Prop:=eE n 1 "spots_of" wu F ["walk","starts"] 2 G.rV
theorem M3(P:d1 n.K n.aH "spots_of" wu F ["walk","starts"])(T:eo n.aH):Cb n F:=by
 refine eF CS P λag C O R f j Xg a=>?_;exact (cp (du (iB kP rfl T.iK je (cv (a8 (eR (E_ rfl<|dD a) T.mh nr (cv (a8 (ki (own:=["start"]) (XU:=[0]) rfl (jC (dG wu) CS (by decide +kernel)) (by decide) (ky<|av 1) (λb=>(dK 0 (show (["start" ,"walk"]:List aB).Nodup by decide +kernel))) (λb=>kx)<|λb=>(JE (dD a) (av 1) (av 0) Ih))))))))))
abbrev DM(n:ef)(F:af):Prop:=eE n 7 "shares_by_start" yG F ["walk","starts"] 2 G.rZ
theorem R4(P:d1 n.K n.aH "shares_by_start" yG F ["walk","starts"])(T:eo n.aH){b:af}(c:Cb n b){d:af}(e:CA n d):DM n F:=by
 refine eF N9 P λag C O R f j Xg a=>?_;exact (bW (dh 2 ag<|c8 c a<|b0 (av 0)<|av 1) (bW (dh 3 ag HL) (bW (jv (X8:=[0,1]) hV rfl (te rfl T.od<|b0 (av 2)<|a8<|c8 e a<|b0 (a8<|eR j_ T.kc kB<|cv<|av 0)<|av 2) (jV (dK 4 ag)<|dK 5 ag) (cp<|mX (iw<|eh 5)<|rI (eh 3) (n8 a (av 0)<|av 4)<|yb<|dD a) (by decide) Az)<|cp<|du<|iw<|eh 3)))
abbrev Fp(n:ef)(F:af):Prop:=eE n 1 "side" uh F ["walk","start","way","many"] 4 G.rA
theorem NU(P:d1 n.K n.aH "side" uh F ["walk","start","way","many"])(T:eo n.aH):Fp n F:=by
 refine eF GL P λag C O R f j Xg b=>?_;exact (bW (uL (a:=4) ag rfl (Or.inr rfl) (JE (dD b) (av 0) (av 1) Ih) (by decide)) (cp (du (ki (own:=["step"]) (XU:=[0,4,2]) rfl (jC (dG uh) GL (by decide +kernel)) (by decide) (VA rfl T.qE<|b0 bp<|cm eg (av 3) bp) (λc=>(dK 0 (show (["step" ,"walk" ,"spot" ,"way"]:List aB).Nodup by decide +kernel))) (λc=>kx)<|λc=>(n8 b (av 1)<|cm ko (cm eg (av 2)<|cm hp (av 3)<|av 0)<|a8<|eR j_ T.kc kB<|cv<|av 1)))))
abbrev C1(n:ef)(F:af):Prop:=eE n 2 "walk_of_share" xg F ["walk","start","share"] 3 G.Bw
theorem Mf(P:d1 n.K n.aH "walk_of_share" xg F ["walk","start","share"])(T:eo n.aH){c:af}(b:Fp n c):C1 n F:=by
 refine eF Vt P λag C O R f j Xg a=>?_;exact (bW (dh 3 ag<|c8 b a<|mj (av 0)<|hv (av 1) (a8<|sl rfl T.K6.choose_spec)<|ez a (av 2) bp)<|bW (dh 4 ag<|c8 b a<|mj (av 0)<|hv (av 1) (a8<|sl rfl T.TV.choose_spec)<|ez a (av 2) bp)<|bW (dh 5 ag<|FP (gr xV (ez a (av 2) bp) (ez a (av 2) bp)<|fz _) (iw<|eh 3)<|iw<|eh 4)<|bW (dh 6 ag<|FP (gr xV (ez a (av 2) bp) (ez a (av 2) bp)<|fz _) (iw<|eh 4)<|iw<|eh 3)<|bW (dh 7 ag<|gZ eg (a8<|gP<|cv<|av 1)<|av 5)<|cp<|du<|iB kP rfl T.iK je<|cv<|cm eg (cm eg (av 7)<|a8<|UC rfl T.y5 rfl T.PS<|cv<|a8<|pR (av 7) qG<|pj<|mf hg)<|av 6)
abbrev A7(n:ef)(Xb:di)(F:af):Prop:=eE n 8 "several" wa F ["field","tree","starts"] 3 (G.o6 Xb)
theorem NB(P:d1 n.K n.aH "several" wa F ["field","tree","starts"])(T:eo n.aH){Xb:di}(dg:kQ n.K n.P n.w Xb.kt Xb.cR)(m:n.aH "WAYS" = Z (.ref Xb.fR)){d:af}(e:Cy n Xb d){g:af}(h:DM n g){i:af}(k:C1 n i):A7 n Xb F:=by
 refine eF Gw P λag C O R f j Xg b=>?_;exact (bW (uL (a:=3) ag rfl (Or.inr rfl) (c8 e b<|b0 (av 0)<|av 1) (by decide)) (bW (uL (a:=4) ag rfl (Or.inr rfl) (c8 h b<|b0 (av 3)<|av 2) (by decide)) (cp (du (iB kP rfl T.iK je (cv (a8 (ki (own:=["start"]) (XU:=[3,4]) rfl (jC (dG wa) Gw (by decide +kernel)) (by decide) (ky<|av 2) (λc=>(dK 0 (show (["start" ,"walk" ,"found"]:List aB).Nodup by decide +kernel))) (λc=>kx)<|λc=>(c8 k b<|hv (av 1) (av 0)<|ez b (av 2)<|av 0)))))))))
abbrev HE(n:ef)(Xb:di)(F:af):Prop:=eE n 9 "whose" uC F ["field","tree","starts"] 3 (G.wC Xb)
theorem KV(P:d1 n.K n.aH "whose" uC F ["field","tree","starts"])(T:eo n.aH){Xb:di}(dg:kQ n.K n.P n.w Xb.kt Xb.cR)(i:n.aH "WAYS" = Z (.ref Xb.fR)){d:af}(e:A7 n Xb d){g:af}(h:EE n g):HE n Xb F:=by
 refine eF EU P λag C O R f j Xg b=>?_;exact (bW (dh 3 ag<|gP lP) (bW (jv (X8:=[0,1,2]) hV rfl (te rfl T.od<|b0 (av 2)<|a8<|c8 e b<|hv (av 0) (av 1)<|av 2) (jV (AM (a:=4) ag rfl (Or.inr rfl) (by decide))<|dK 5 ag) (cp (kZ (jz jE jO wc w5 uw (eh 3) (cv (a8 (ki (own:=["cell"]) (XU:=[4]) rfl (jC (dG uC) EU (by decide +kernel)) (by decide) (Pu<|a8<|c8 h b<|cv<|av 5) (λc=>(dK 0 (show (["cell" ,"start"]:List aB).Nodup by decide +kernel))) (λc=>kx)<|λc=>(mM<|b0 (av 0)<|av 1))))))) (by decide) Az)<|cp<|du<|iB kP rfl T.iK je<|cv<|a8<|eR (n2 rfl<|dD b) T.mh nr<|cv<|av 3))
abbrev FZ(n:ef)(F:af):Prop:=eE n 1 "_law_hand" Bn F ["_law_script","_law_k"] 2 G.uI
theorem TG(P:d1 n.K n.aH "_law_hand" Bn F ["_law_script","_law_k"])(T:eo n.aH):FZ n F:=by
 refine eF Ui P λag C O R f j Xg a=>?_;exact (bW (dh 2 ag hg)<|bW (g8 (gr ux (av 1) (a8<|eR j_ T.kc kB<|cv<|av 0)<|fz _) (cp<|dh 2 ag<|n8 a (av 0)<|av 1) ho)<|bW (dh 3 ag<|gZ hp (cm hp (cm ui bp bp)<|cm ui bp bp)<|cm ui bp bp)<|bW (dh 4 ag<|gZ hp (cm ko (av 2)<|av 3)<|a8<|iB U4 rfl T.IM Hj<|cv<|a8<|pn AI (av 2) (cm ui bp bp)<|fz _)<|cp<|du<|gP<|hv (av 4) (cm eg (cm eg (cm ko (av 2) bp)<|cm hp bp<|av 1) bp) bp)
abbrev tB(n:ef)(F:af):Prop:=eE n 1 "_law_take" zc F ["_law_hand_here","_law_many"] 2 G.jw
theorem S4(P:d1 n.K n.aH "_law_take" zc F ["_law_hand_here","_law_many"])(T:eo n.aH):tB n F:=by
 refine eF RH P λag C O R f j Xg a=>?_;exact (bW (g8 (gr Kr (ez a (av 0) bp) bp<|fz _) (bW (dh 2 ag<|gZ ko (ez a (av 0) bp)<|av 1)<|bW (mX (gZ sh (ez a (av 0) bp)<|av 1)<|rI (eh 0) hg<|IS<|dD a)<|cp<|du<|iw<|eh 2) ho)<|bW (mX (gZ eg (ez a (av 0) bp) bp)<|rI (eh 0) hg<|IS<|dD a)<|bW (dh 3 ag<|n8 a (av 0) bp)<|bW (dh 4 ag<|gZ ko (cm hp (ez a (av 0) bp)<|cm eg (cm eg bp<|cm hp (cm hp bp<|av 3)<|av 3)<|cm hp bp<|av 3) bp)<|bW (dh 5 ag<|gZ eg (cm eg (cm ko (av 4) bp)<|cm hp (av 3) bp) bp)<|bW (dh 4 ag<|gZ ko (cm hp (av 4)<|av 5) bp)<|cp<|du<|gZ ko (cm eg (cm sh (av 4) bp)<|cm sh (av 4) bp)<|av 1)
abbrev yR(n:ef)(F:af):Prop:=eE n 2 "_law_of" x8 F ["_law_hand_here","_law_some"] 2 G.m6
theorem Nd(P:d1 n.K n.aH "_law_of" x8 F ["_law_hand_here","_law_some"])(T:eo n.aH){b:af}(c:tB n b):yR n F:=by
 refine eF Vl P λag C O R f j Xg a=>?_;exact (cp<|du<|n8 a (av 1)<|a8<|c8 c a<|b0 (av 0)<|a8<|eR j_ T.kc kB<|cv<|av 1)
abbrev Jr(n:ef)(F:af):Prop:=eE n 3 "_law_blocks" AW F ["_law_hand_here","_law_most"] 2 G.wg
theorem PY(P:d1 n.K n.aH "_law_blocks" AW F ["_law_hand_here","_law_most"])(T:eo n.aH){e:af}(c:yR n e){g:af}(d:tB n g):Jr n F:=by
 refine eF LV P λag C O R f j Xg b=>?_;exact (bW (AP (a:=2) (r:=3) rfl ag rfl rfl (by decide) rfl rfl (b0 (a8<|c8 c b<|b0 (av 0)<|a8<|gP<|hv bp bp bp)<|a8<|c8 c b<|b0 (av 0)<|a8<|gP<|hv bp bp bp) (by decide) (by decide) rfl) (bW (dh 4 ag<|gP<|cv<|hL<|b0 (cm eg (av 2)<|cm hp bp<|a8<|c8 d b<|b0 (av 0) bp)<|cm eg (av 3)<|cm hp bp<|a8<|c8 d b<|b0 (av 0) bp) (bW (jv (X8:=[0,1]) hV rfl (tm rfl T.qE<|cv<|a8<|c8 d b<|b0 (av 0)<|av 1) (dK 5 ag) (bW (mX (c8 c b<|b0 (av 0)<|av 4)<|jV (dK 6 ag)<|dK 7 ag)<|bW (mX (c8 c b<|b0 (av 0)<|a8<|gP<|mj (hL<|b0 bp bp)<|hv (hL<|b0 bp bp) (hL<|b0 (a8<|mf hg) bp)<|hL<|b0 bp<|a8<|mf hg)<|jV (dK 8 ag)<|dK 9 ag)<|bW (dh 10 ag<|mM<|b0 (cm eg (av 6)<|av 8)<|cm eg (av 7)<|av 9)<|cp<|g8 (lM.G4<|Gf (gr AI (a8<|eR (L8 rfl) T.wD tV<|cv<|av 10) bp<|fz _)<|Gf (gr ux (a8<|eR (ND rfl) T.tX wF<|cv<|av 10) bp<|fz _)<|Q_<|gr (TJ<|dD b) (av 10) (av 4) rfl) (cp<|kZ<|jz jE jO pD qB qh (eh 4)<|cv<|av 10) ho) (by decide) vp)<|cp<|du<|eR (n2 rfl<|dD b) T.mh nr<|cv<|av 4)))
abbrev Dn(n:ef)(F:af):Prop:=eE n 1 "_law_field" A6 F ["_law_bricks"] 1 G.u0
theorem Vh(P:d1 n.K n.aH "_law_field" A6 F ["_law_bricks"])(T:eo n.aH):Dn n F:=by
 refine eF OF P λag C O R f j Xg a=>?_;exact (bW (dh 1 ag<|gP lP) (bW (jv (X8:=[0]) hV rfl (ky<|av 0) (jV (dK 2 ag)<|dK 3 ag) (bW (kZ<|jz jE jO wc w5 uw (eh 1)<|cv<|a8<|gP<|b0 (hL<|b0 (av 2)<|av 3)<|hL<|b0 (av 2)<|cm eg (av 3) bp)<|cp<|kZ<|jz jE jO wc w5 uw (eh 1)<|cv<|a8<|gP<|b0 (hL<|b0 (cm eg (av 2) bp)<|av 3)<|hL<|b0 (cm eg (av 2) bp)<|cm eg (av 3) bp) (by decide) (xR (by decide)))<|cp<|du<|iB kP rfl T.iK je<|cv<|a8<|eR (n2 rfl<|dD a) T.mh nr<|cv<|av 1))
abbrev J4(n:ef)(F:af):Prop:=eE n 2 "_law_tree" uM F ["_law_hand_here","_law_bricks"] 2 G.wx
theorem KS(P:d1 n.K n.aH "_law_tree" uM F ["_law_hand_here","_law_bricks"])(T:eo n.aH){d:af}(e:tB n d):J4 n F:=by
 refine eF GO P λag C O R f j Xg b=>?_;exact (bW (dh 2 ag<|gP lP) (bW (Nh (X8:=[0,1]) hV rfl (av 1) (jV (dK 3 ag)<|dK 4 ag) (cp (jv (X8:=[0,1]) hV rfl (ky<|hL<|b0 (hL<|b0 (av 3)<|cm eg (av 4) bp)<|hL<|b0 (cm eg (av 3) bp)<|av 4) (dK 5 ag) (cp<|g8 (gr (E0<|dD b) (av 5) (av 1) rfl) (cp<|kZ<|jz jE jO pD qB qh (eh 2)<|cv<|hL<|b0 (hL<|b0 (av 3)<|av 4)<|av 5) ho) (by decide) Gn)) (by decide) (by decide)) (bW (dh 6 ag (iB (Sw rfl<|JX b) rfl T.LJ Sy (cv (a8 (ki (own:=["_law_block"]) (XU:=[]) rfl (jC (dG uM) GO (by decide +kernel)) (by decide) (ky<|av 1) (λc=>(dK 0 (show (["_law_block"]:List aB).Nodup by decide +kernel))) (λc=>kx)<|λc=>(mM<|b0 (av 0)<|av 0)))))) (bW (dh 7 ag<|gP lP) (bW (yl 1000000 hV (gr (s9<|dD b) (av 2) (a8<|gP lP)<|fz _) (bW (mX (jz jE jO GU Dq Dj (eh 2)<|cv<|a8<|c8 e b<|b0 (av 0)<|a8<|eR j_ T.kc kB<|cv<|av 2)<|jV (dK 8 ag)<|dK 5 ag) (bW (AP (a:=9) (r:=10) rfl ag rfl rfl (by decide) rfl rfl (b0 (ez b (av 6)<|av 8)<|ez b (av 6)<|av 5) (by decide) (by decide) rfl) (cp (g8 (gr (s9<|dD b) (av 9) (av 10)<|fz _) (bW (kZ<|jz jE jO pD qB qh (eh 7)<|cv<|hL<|b0 (av 8)<|av 5) (cp (jv (X8:=[0,1]) hV rfl (ky<|av 1) (dK 11 ag) (cp<|g8 (gr (z9<|dD b) (ez b (av 6)<|av 11) (av 9)<|fz _) (cp<|mX (iw<|eh 10)<|rI (eh 6) (iw<|eh 11)<|yb<|dD b) ho) (by decide) (xR (by decide))))) ho)))))<|cp<|du<|iB kP rfl T.iK je<|cv<|a8<|eR (n2 rfl<|dD b) T.mh nr<|cv<|av 7)))))
abbrev F_(n:ef)(F:af):Prop:=eE n 3 "_law_starts" Bj F ["_law_hand_here","_law_field_here"] 2 G.wq
theorem Su(P:d1 n.K n.aH "_law_starts" Bj F ["_law_hand_here","_law_field_here"])(T:eo n.aH){c:af}(b:tB n c){d:af}(e:yR n d):F_ n F:=by
 refine eF Sn P λag C O R f j Xg a=>?_;exact (bW (dh 2 ag<|iB El rfl T.y5 Jv<|cv<|av 1) (bW (dh 3 ag<|gP lP) (bW (jv (X8:=[0,1]) hV rfl (tm rfl T.qE<|cv<|cm eg bp<|a8<|c8 b a<|b0 (av 0)<|a8<|c8 e a<|b0 (av 0)<|a8<|gP<|mj bp<|mj bp<|hv bp bp bp) (dK 4 ag) (cp<|g8 (gr (s9<|dD a) (av 2) (a8<|gP lP)<|fz _) (cp<|kZ<|jz jE jO pD qB qh (eh 3)<|cv<|a8<|jz jE jO GU Dq Dj (eh 2)<|cv<|a8<|c8 b a<|b0 (av 0)<|a8<|eR j_ T.kc kB<|cv<|av 2) ho) (by decide) vp)<|cp<|du<|iB kP rfl T.iK je<|cv<|a8<|eR (n2 rfl<|dD a) T.mh nr<|cv<|av 3)))
theorem I8:nv Dv ["_law_told","_law_due"] (dG pV):=Cv
theorem KE{b:af}{e:hj}(g:gO Xd "_law_same" "_law_same" pV b e)(T:eo aH)(i:i6 Xd e ["_law_told","_law_due"] [])(k:aH "_law_same" = Z (.ref b)):
  ∀q,iG Xs l Xd aH Xv ij (1+q) b e ["_law_told","_law_due"] (kj 2<|G.qD q):=by
 intro q;induction q with
 |zero=>exact⟨λXc j B Xg c=>c.1,λO R f j args XE Xc B Xg a n o p c=>absurd c.2 (by rintro⟨W,W,W,W,W,W,d,W⟩;cases d)⟩
 |succ q m=>
  have ag:=I8.ag;refine Fs (q:=1+q) g I8 rfl (by decide) (λC O R f j Xg a=>?_);exact (bW (g8 (pK<|a8<|q0 rfl T.qr qM rfl T.iK je<|av 1) (bW (g8 (lM.G4<|Lm (B4<|pK<|a8<|q0 rfl T.qr qM rfl T.iK je<|av 0)<|P9<|gr (s9<|dD a) (a8<|eR j_ T.kc kB<|cv<|av 0) (a8<|eR j_ T.kc kB<|cv<|av 1)<|fz _) (cp<|du sP) ho) (cp (du (eR (Pa rfl) T.R3 V0 (cv (a8 (ki (own:=["_law_one" ,"_law_other"]) (XU:=[]) rfl (jC (dG pV) Dv (by decide +kernel)) (by decide) (te rfl T.od<|b0 (av 0)<|av 1) (λh=>(jV (dK 0 (show (["_law_one" ,"_law_other"]:List aB).Nodup by decide +kernel)) (dK 1 (show (["_law_one" ,"_law_other"]:List aB).Nodup by decide +kernel)))) (λh=>kx)<|λh=>(Jo m (a.mono<|ba _) rfl k g.c5 i<|b0 (av 0)<|av 1)))))))) ho)<|bW (g8 (gr x9 (av 1) (a8 tl)<|fz _) (cp<|du<|pn x9 (av 0) (a8 tl)<|fz _) ho)<|bW (g8 (pK<|a8<|q0 rfl T.qr qM rfl T.DZ HC<|av 1) (cp<|du<|uc (mZ<|q0 rfl T.qr qM rfl T.DZ HC<|av 0)<|mZ<|zX<|pn (z9<|dD a) (av 0) (av 1)<|fz _) ho)<|cp<|du<|uc (mZ<|q0 rfl T.qr qM rfl T.IM Hj<|av 0)<|uc (mZ<|Wz<|mZ<|q0 rfl T.qr qM rfl T.OX Pc<|av 0)<|mZ<|zX<|pn (z9<|dD a) (av 0) (av 1)<|fz _)
abbrev N_(n:ef)(Xb:di)(F:af):Prop:=eE n 10 "law" se F ["_law_script"] 1 (G.pL Xb)
theorem Sf(P:d1 n.K n.aH "law" se F ["_law_script"])(T:eo n.aH){Xb:di}(dg:kQ n.K n.P n.w Xb.kt Xb.cR)(z:n.aH "WAYS" = Z (.ref Xb.fR)){d:af}(e:FZ n d){g:af}(h:Jr n g){i:af}(k:J4 n i){m:af}(o:Dn n m){p:af}(q:F_ n p){s:af}(t:A7 n Xb s){u:af}(v:eE n 7 "_law_same" pV u ["_law_told","_law_due"] 2 (G.qD 6)){x:af}(y:HE n Xb x):N_ n Xb F:=by
 refine eF A3 P λag C O R f j Xg b=>?_;exact (bW (jv (X8:=[0]) hV rfl (tm rfl T.qE<|cv<|a8<|eR (yY rfl) T.tX wF<|b0 bp<|a8<|eR (Bm rfl) T.wD tV<|b0 bp<|a8<|eR j_ T.kc kB<|cv<|av 0) (dK 1 ag) (bW (dh 2 ag<|c8 e b<|b0 (av 0)<|av 1) (bW (dh 3 ag<|c8 h b<|b0 (av 2) bp) (bW (AP (a:=4) (r:=5) rfl ag rfl rfl (by decide) rfl rfl (b0 (a8<|c8 o b<|cv<|av 3)<|a8<|c8 k b<|b0 (av 2)<|av 3) (by decide) (by decide) rfl) (bW (dh 6 ag<|c8 q b<|b0 (av 2)<|av 4) (bW (dh 7 ag<|gP lP) (bW (jv (X8:=[0]) hV rfl (te rfl T.od<|b0 (av 6)<|a8<|c8 t b<|hv (av 4) (av 5)<|av 6) (jV (AM (a:=8) ag rfl (Or.inr rfl) (by decide))<|dK 9 ag) (cp (kZ (jz jE jO wc w5 uw (eh 7) (cv (a8 (ki (own:=["_law_cell"]) (XU:=[8]) rfl (jC (dG se) A3 (by decide +kernel)) (by decide) (ky<|a8<|Is (JX b) rfl T.mh rfl T.U8<|cv<|av 9) (λc=>(dK 0 (show (["_law_cell" ,"_law_start"]:List aB).Nodup by decide +kernel))) (λc=>kx)<|λc=>(mM<|b0 (av 0)<|av 1))))))) (by decide) Az) (bW (jv (X8:=[0]) hV rfl (tm rfl T.qE<|cv bp) (dK 10 ag) (cp<|g8 (B4<|pK<|a8<|c8 v b<|b0 (a8<|c8 y b<|hv (av 4) (av 5)<|av 6)<|a8<|iB kP rfl T.iK je<|cv<|a8<|eR (n2 rfl<|dD b) T.mh nr<|cv<|av 7) (cp<|du sP) ho) (by decide) vp) (cp (g8 (gr (s9<|dD b) (a8 (eR (n2 rfl<|dD b) T.mh nr (cv (a8 (ki (own:=["_law_cell" ,"_law_start"]) (XU:=[]) rfl (jC (dG se) A3 (by decide +kernel)) (by decide) (ky<|av 7) (λc=>(jV (dK 0 (show (["_law_cell" ,"_law_start"]:List aB).Nodup by decide +kernel)) (dK 1 (show (["_law_cell" ,"_law_start"]:List aB).Nodup by decide +kernel)))) (λc=>kx)<|λc=>(iw<|eh 0)))))) (a8<|iB El rfl T.y5 Jv<|cv<|av 4)<|fz _) (cp<|du sP) ho))))))))) (by decide) vp)<|cp<|du sP)
end
theorem all_mk{l:bc}{Xd:PySem.W.Frag}{c:aV}{aH:aB->Option ab}{v P R S U al am an ap as a1 a2 bd be bi bm bn bs bv ca cd ce ch ci cl co cr cs db w ds:af}(b:Xd.In c)(a:c.Ns dH aH)(dL:aH "law" = Z (.ref v)){x y z:hO}(eq:dC Xd "lesser_first" xW P)(ev:dC Xd "lookup" yk R)(ex:dC Xd "block_of" Be S)(fn:dC Xd "moved" xD U)(fr:dC Xd "next_round" zh al)(f0:dC Xd "ring" yZ am)(f1:dC Xd "between" uo an)(f2:dC Xd "room" zp ap)(f4:dC Xd "greatest_left" AZ as)(f8:dC Xd "row_from" zH a1)(ga:dC Xd "goes_through" yg a2)(ge:dC Xd "rows_of" uj bd)(gl:dC Xd "rows_through" u2 be)(go:dC Xd "least_time" xn bi)(gt:dC Xd "shares" w7 bm)(g1:dC Xd "spots_of" wu bn)(g2:dC Xd "shares_by_start" yG bs)(g3:dC Xd "side" uh bv)(hd:dC Xd "walk_of_share" xg ca)(he:dC Xd "several" wa cd)(hf:dC Xd "whose" uC ce)(hm:dC Xd "_law_hand" Bn ch)(hw:dC Xd "_law_take" zc ci)(h0:dC Xd "_law_of" x8 cl)(ii:dC Xd "_law_blocks" AW co)(im:dC Xd "_law_field" A6 cr)(io:dC Xd "_law_tree" uM cs)(it:dC Xd "_law_starts" Bj db)(jp:dC Xd "_law_same" pV w)(A:dC Xd "law" se ds){g B XF XH C h Yh i XJ j m XR o p X2 q r:af}{D E F H:Int}{kw:Nat}{lc lf li lm ln ls lv lw mb mo mp ms m0 na nb ne:Option af}{nl nm nn no np ns nw of ol on op o0 pc pi pm po:Nat}{pp pr pt pu py rc re rs sc sn sp ss sw sB sK s0 s1 s2 s3 s4 s5 to tt ty:hO}{tz t0 t1 t3 ul un up us ut u8 v0 v1 v2 v4 v6 wf:Array (Option ab)}(wl:PySem.W.nsIn Xd dH "WAYS" = Z (Z<|.ref g))(wn:Xd.lookup g=Z ⟨.type "dict",Y,.dict #[⟨D,.ref B,.ref h⟩,⟨E,.ref XF,.ref XJ⟩,⟨F,.ref XH,.ref XR⟩,⟨H,.ref C,.ref X2⟩] kw,#[]⟩)(wr:Xd.lookup h=Z ⟨.type "tuple",m0,.seq #[.ref Yh,.ref i] pc,v2⟩)(ws:Xd.lookup XJ=Z ⟨.type "tuple",na,.seq #[.ref j,.ref m] pi,v4⟩)(wv:Xd.lookup XR=Z ⟨.type "tuple",nb,.seq #[.ref o,.ref p] pm,v6⟩)(ww:Xd.lookup X2=Z ⟨.type "tuple",ne,.seq #[.ref q,.ref r] po,wf⟩)(wE:Xd.lookup B=Z ⟨.type "tuple",lc,.seq #[.int 0 pp,.int 0 pr] nl,tz⟩)(wP:Xd.lookup XF=Z ⟨.type "tuple",lf,.seq #[.int 0 pt,.int 1 pu] nm,t0⟩)(wS:Xd.lookup XH=Z ⟨.type "tuple",li,.seq #[.int 1 py,.int 1 rc] nn,t1⟩)(wT:Xd.lookup C=Z ⟨.type "tuple",lm,.seq #[.int 1 re,.int 0 rs] no,t3⟩)(xs:Xd.lookup Yh=Z ⟨.type "tuple",ln,.seq #[.int (-1) sc,.int 0 sn] np,ul⟩)(xz:Xd.lookup i=Z ⟨.type "tuple",ls,.seq #[.int 0 sp,.int 1 ss] ns,un⟩)(xL:Xd.lookup j=Z ⟨.type "tuple",lv,.seq #[.int 0 sw,.int 1 sB] nw,up⟩)(x0:Xd.lookup m=Z ⟨.type "tuple",lw,.seq #[.int 1 sK,.int 0 s0] of,us⟩)(zn:Xd.lookup o=Z ⟨.type "tuple",mb,.seq #[.int 1 s1,.int 0 s2] ol,ut⟩)(zs:Xd.lookup p=Z ⟨.type "tuple",mo,.seq #[.int 0 s3,.int (-1) s4] on,u8⟩)(At:Xd.lookup q=Z ⟨.type "tuple",mp,.seq #[.int 0 s5,.int (-1) to] op,v0⟩)(AC:Xd.lookup r=Z ⟨.type "tuple",ms,.seq #[.int (-1) tt,.int 0 ty] o0,v1⟩)(AT:D=c_ l (.tup [.int 0,.int 0]))(Ch:E=c_ l (.tup [.int 0,.int 1]))(Da:F=c_ l (.tup [.int 1,.int 1]))(Db:H=c_ l (.tup [.int 1,.int 0]))(Do:PySem.W.nsIn Xd dH "LEFT" = Z (Z<|.int (-1) x))(Ev:PySem.W.nsIn Xd dH "RIGHT" = Z (Z<|.int 1 y))(EQ:PySem.W.nsIn Xd dH "SIDE" = Z (Z<|.int 2 z))(Fa:PySem.W.nsIn Xd dH "all" = Z Y)(Fk:PySem.W.nsIn Xd dH "bool" = Z Y)(FB:PySem.W.nsIn Xd dH "dict" = Z Y)(FM:PySem.W.nsIn Xd dH "int" = Z Y)(FS:PySem.W.nsIn Xd dH "isinstance" = Z Y)(Gc:PySem.W.nsIn Xd dH "len" = Z Y)(Go:PySem.W.nsIn Xd dH "list" = Z Y)(Gt:PySem.W.nsIn Xd dH "max" = Z Y)(GE:PySem.W.nsIn Xd dH "min" = Z Y)(GM:PySem.W.nsIn Xd dH "range" = Z Y)(GT:PySem.W.nsIn Xd dH "reversed" = Z Y)(H1:PySem.W.nsIn Xd dH "set" = Z Y)(If:PySem.W.nsIn Xd dH "sorted" = Z Y)(Is:PySem.W.nsIn Xd dH "str" = Z Y)(Ix:PySem.W.nsIn Xd dH "tuple" = Z Y)(IN:PySem.W.nsIn Xd dH "zip" = Z Y):
  ∃fd:hj,(∀(f:ah) (u:ab),mW f fd ⟨[u],[]⟩ [("_law_script",u)])/\∀Xv:aV,Xd.In Xv->Xv.Ns dH aH->iG t.prog l Xd aH Xv ij 10 v fd ["_law_script"] (kj 1<|G.pL<|lC g h Yh i XJ j m XR o p X2 q r):=by
 have T:eo aH:=⟨hS b a Fa,hS b a Fk,hS b a FB,hS b a FM,hS b a FS,hS b a Gc,hS b a Go,hS b a Gt,hS b a GE,hS b a GM,hS b a GT,hS b a H1,hS b a If,hS b a Is,hS b a Ix,hS b a IN,⟨x,ml b a Do⟩,⟨y,ml b a Ev⟩,⟨z,ml b a EQ⟩⟩;have h_w28:=jp.aR (Xo:=["_law_told","_law_due"]) b a;have dg:kQ Xd t.prog l (lC g h Yh i XJ j m XR o p X2 q r).kt (lC g h Yh i XJ j m XR o p X2 q r).cR:=OC wn AT Ch Da Db ⟨_,_,_,_,_,wE⟩ ⟨_,_,_,_,_,wP⟩ ⟨_,_,_,_,_,wS⟩ ⟨_,_,_,_,_,wT⟩ ⟨_,_,_,wr⟩ ⟨_,_,_,ws⟩ ⟨_,_,_,wv⟩ ⟨_,_,_,ww⟩ ⟨_,_,_,_,_,xs⟩ ⟨_,_,_,_,_,xz⟩ ⟨_,_,_,_,_,xL⟩ ⟨_,_,_,_,_,x0⟩ ⟨_,_,_,_,_,zn⟩ ⟨_,_,_,_,_,zs⟩ ⟨_,_,_,_,_,At⟩ ⟨_,_,_,_,_,AC⟩;have d:=ml b a wl;refine LM A b a dL (λ_ Q Q Q Q Q Q Q=>.of_eq rfl) λXv=>?_;let n:ef:=⟨t.prog,l,Xd,aH,Xv⟩
 have IR:=Pl (n:=n) (eq.aR b a) T;have KB:=R5 (n:=n) (ev.aQ b a) T;have KF:=VR (n:=n) (ex.aR b a) T;have KM:=K5 (n:=n) (fn.jL b a) T dg d;have KT:=MF (n:=n) (fr.jL b a) T dg d KF IR KM;have Lt:=MN (n:=n) (f0.aR b a) T dg d KT;have I:=Ld (n:=n) (f1.aR b a) T;have J:=T7 (n:=n) (f2.aR b a) T;have M2:=Uc (n:=n) (f4.aR b a) T;have No:=N8 (n:=n) (f8.jL b a) T J;have NE:=TP (n:=n) (ga.jL b a) T J;have Ok:=Us (n:=n) (ge.aR b a) T M2 No;have L:=Sq (n:=n) (gl.aR b a) T Ok NE;have On:=R_ (n:=n) (go.aR b a) T I L;have Op:=Tf (n:=n) (gt.aR b a) T I L On;have Os:=M3 (n:=n) (g1.aR b a) T;have Pi:=R4 (n:=n) (g2.aR b a) T Os Op;have Ps:=NU (n:=n) (g3.nB b a) T;have Pv:=Mf (n:=n) (hd.jL b a) T Ps;have M:=NB (n:=n) (he.jL b a) T dg d Lt Pi Pv;have PP:=KV (n:=n) (hf.jL b a) T dg d M KB;have P3:=TG (n:=n) (hm.aR b a) T;have s:=S4 (n:=n) (hw.aR b a) T;have N:=Nd (n:=n) (h0.aR b a) T s;have Re:=PY (n:=n) (ii.aR b a) T N s;have Rs:=Vh (n:=n) (im.aQ b a) T;have Sc:=KS (n:=n) (io.aR b a) T s;have SB:=Su (n:=n) (it.aR b a) T s N;have SC:mm t.prog l Xd aH Xv 7 "_law_same" pV w ["_law_told","_law_due"] 2 (G.qD 6):=have ⟨_,O,e,k⟩:=h_w28;⟨_,O,e,k,KE O T e k 6⟩;exact Sf (n:=n) (A.aQ b a) T dg d P3 Re Sc Rs SB M SC PP
theorem walk{a b Yh d XJ e i XR k m X2 n r:af}{p:bJ}{x:List aB}{y:(aB->Option ab)->aV->Prop}{s:bc->aV->Prop}{v:DefRec}{Xd:uY->PySem.W.Frag}(z:t.most=Z 63)(A:v.params.defaults=[])(D:∀(l:bc) (c:aV),s l c->(Xd l.params).In c)(E:∀o,sM (Xd o)=aa)(P:∀(l:bc) (aH:aB->Option ab) (u:af) (c:aV),(Xd l.params).In c->c.Ns dH aH->aH v.name=Z (.ref u)->
   ∃fd:hj,(∀(f:ah) (L:ab),mW f fd ⟨[L],[]⟩ [("_law_script",L)])/\∀Xv:aV,(Xd l.params).In Xv->Xv.Ns dH aH->iG t.prog l (Xd l.params) aH Xv ij 10 u fd ["_law_script"] (kj 1<|G.pL<|lC a b Yh d XJ e i XR k m X2 n r))(H:G.qm (lC a b Yh d XJ e i XR k m X2 n r)):
  PySem.W.WalkO p x y s t.row.toRowW v [] (λF Xc=>PySem.call F Xc):=
 L2.T5 (w:=63) (q:=10) (h := "_law_script") (Yr:=λ_=>ij) (XB:=λl=>kj 1<|G.pL<|lC a b Yh d XJ e i XR k m X2 n r) z (by decide) A ⟨rfl,by decide,by decide,rfl⟩ D P (λl j g XA I J M=>UJ (E l.params) j g XA J M (G.Qn H XA (va I (by decide)))) λ_ U U U U C=>C
end K50
namespace PySem.W.Fast
def tw12400078810562268701:=0
def tw4745467591957854432:=0
def tw3326288792432910912:=0
def tw7500998036484256576:=0
def tw8080586024676934337:=0
def tw3056252634761047202:=0
def tw6649418022952911522:=0
def tw8094072119471163106:=0
def tw487067108721166531:=0
def tw10201431684168688963:=0
def tw229192805038050691:=0
def tw5419901421010687459:=0
def tw15445257256859455492:=0
def tw12100653420601187588:=0
def tw3777247357189736964:=0
def tw9170810212099894629:=0
def tw3640074994018970149:=0
def tw9048539006318243365:=0
def tw15976003998568748645:=0
def tw9071742089242948774:=0
def tw17559831708289010886:=0
def tw10732516601384848902:=0
def tw5537514236410005190:=0
def tw6657093953996207046:=0
def tw13264453701283949127:=0
def tw10468577283153422183:=0
def tw7934479454338193351:=0
def tw14172987352408526056:=0
def tw9937084743935493448:=0
def tw17376236578999868040:=0
def tw13498541054025852584:=0
def tw13732547931146843880:=0
def tw9362546702196802376:=0
def tw3301954487172213865:=0
def tw393993749136740489:=0
def tw11619806400968365353:=0
def tw13300299555982385513:=0
def tw10786957150442847017:=0
def tw16520640098377168841:=0
def tw16105349411561536586:=0
def tw16809813905551276586:=0
def tw7277628958559233770:=0
def tw1417854509647781706:=0
def tw6084036103453555594:=0
def tw1767027529231181802:=0
def tw14669432008872822251:=0
def tw17178535507176379883:=0
def tw8202945408602384331:=0
def tw10896945557366862988:=0
def tw16353554080496816396:=0
def tw3563886385974205100:=0
def tw3028352984448618861:=0
def tw1035572065522693549:=0
def tw7804217471330094541:=0
def tw16683258187073567245:=0
def tw7233820517639785357:=0
def tw18007320299568864750:=0
def tw9519181184710555279:=0
def tw12619043709553430608:=0
def tw16439186180892337680:=0
def tw12333866294100382224:=0
def tw18316376927730719376:=0
def tw7037962890001051440:=0
def tw13824685874193350544:=0
def tw11256467741234332689:=0
def tw3939551416481563762:=0
def tw13654035944486174930:=0
def tw946221748071973074:=0
def tw27872662172978451:=0
def tw5031240010229254675:=0
def tw5082223887270281811:=0
def tw17564424172396915315:=0
def tw5386337229893040051:=0
def tw5120150036618999892:=0
def tw13221235171833515316:=0
def tw12907795389844654420:=0
def tw4077276835112808212:=0
def tw7326601030407193556:=0
def tw13336741980677025941:=0
def tw6417116408953946357:=0
def tw14017854250613455125:=0
def tw16349957577767811445:=0
def tw1305892101592857045:=0
def tw15790895362790879829:=0
def tw7241242615476220565:=0
def tw17188443640918329526:=0
def tw2780511482984368502:=0
def tw2814608521487522326:=0
def tw6083300219507539095:=0
def tw17044743796605885655:=0
def tw2524709905339276631:=0
def tw9352416576880309687:=0
def tw10941670188315002679:=0
def tw14664177993213129591:=0
def tw15783828786388875127:=0
def tw4995654828258664375:=0
def tw17323497569493394520:=0
def tw14892407872157524408:=0
def tw778635631042715416:=0
def tw8077466530137515928:=0
def tw12842256233126529049:=0
def tw17365886068323731929:=0
def tw9943856529701949594:=0
def tw5413580044310150714:=0
def tw17374575859763546970:=0
def tw16242018646584707066:=0
def tw17984054124882352219:=0
def tw10238655913804953947:=0
def tw15230804520941566619:=0
def tw4868050123713731291:=0
def tw8502247058122629148:=0
def tw4097424795669762844:=0
def tw8660986157137855420:=0
def tw608617615499471005:=0
def tw7481810150196230973:=0
def tw2722080692884053054:=0
def tw12060485510905618718:=0
def tw6177664093387257150:=0
def tw10835639546299000190:=0
def tw8348870211004446110:=0
def tw15259444729229414366:=0
def tw9225661388194528447:=0
def tw5753523650767658399:=0
end PySem.W.Fast
end
open PySem PySem.W PyProof.Rows
set_option maxRecDepth 100000 in
set_option maxHeartbeats 0 in
theorem PySem.Challenge.cw_mowfloor_k50_whose_cells_holds : PySem.Challenge.rw_mowfloor_k50_whose_cells.Holds := by
  w_on; o_law; k_head; (case hw => w_witness2)
  k_fill
  refine' K50.walk (t := PySem.Challenge.rw_mowfloor_k50_whose_cells) rfl rfl (fun w h Y => PySem.W.kIn_of Y) ?hK ?F ?KO
  case hK => intro p; rfl
  case F =>
    intro w mg fa h KX G hmg
    apply K50.all_mk KX G hmg
    iterate 30 (refine' L2.JL ?a ?l ?c ?k; (case a => k_is); (case l => k_is); (case c => k_is); (case k => k_is))
    iterate 18 k_is
    iterate 4 kernel_rfl
    iterate 19 k_is
  case KO => exact ⟨⟨_, _, _, rfl, rfl, rfl, rfl, rfl, rfl, rfl⟩, ⟨_, _, _, rfl, rfl, rfl, rfl, rfl, rfl, rfl⟩, ⟨_, _, _, rfl, rfl, rfl, rfl, rfl, rfl, rfl⟩, ⟨_, _, _, rfl, rfl, rfl, rfl, rfl, rfl, rfl⟩⟩
