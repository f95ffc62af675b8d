import PyProof.Rows.All
import Wide.All
import OpenK.AllK
import Wide.FinOn
import Lean
import PyProof.EqAt
import PyProof.EqKinds
import PyProof.TupleCall
import PyProof.IsiNone
import PyProof.NeKinds
import PyProof.MaxThree
import PyProof.Rows.SetFrom
import PyProof.WalksMore
import PyProof.CallStr
import KE.KRevIter
import PySem.Challenge.RW_mowfloor_k16_whole_fewest_turned_and_joi
set_option maxHeartbeats 4000000
set_option Elab.async false
set_option compiler.extract_closed false
open List (range range')
open Nat (beq)
noncomputable section
local macro_rules|`(∅)=>`(by decide)
local macro_rules|`(⇑$e)=>`(by simpa using $e)
local macro_rules|`(↥$_)=>`(by simp)
local macro_rules|`(tactic|let $p:term:=$e)=>do
 let q:=p.raw
 let X (s:Lean.Syntax):=s.isOfKind ``Lean.Parser.Term.explicit
 let I (s:String):=Lean.mkIdent (.mkSimple s)
 let l:=(if X q then q[1] else q)[1].getSepArgs
 let n:=l.size
 let j:=if X q then 0 else ((l.findIdx? X).map (·+1)).getD 99
 let mut b:Array Lean.Ident:=#[]
 let mut t:Array (Lean.TSyntax `tactic):=#[]
 let w:=I "ζ"
 let E:=e.raw
 let u:=E.getId
 let c:=j<99&&E.isIdent&&l.any fun s=>s.getId==u||s[1].getId==u
 let h:=I "ξ"
 let u:=u.toString
 let u:=if u.startsWith "ζ" then u else "ζ"
 let d:Lean.Term:=if c then h else e
 let r ←if c then `(tactic|(revert $(⟨e⟩):ident;intro $h:ident)) else `(tactic|skip)
 if j<99&&E.isIdent then t:=t.push (←`(tactic|try clear $(⟨d⟩):ident))
 for i in [0:n] do
  let s:=if i+1==j then l[i]![1] else l[i]!
  let z:=I s!"{u}{i}"
  if s.isIdent&&(j==99||s.getId != `rfl) then b:=b.push ⟨s⟩
  else
   b:=b.push z
   if s.isIdent then t:=t.push (←`(tactic|subst $z))
   else if !s.isOfKind ``Lean.Parser.Term.hole then t:=t.push (←`(tactic|let $(⟨s⟩):term:=$z))
 let A:=b.extract j n
 let B:=b.extract 0 j
 let k:=I s!"xE{j}"
 if j==99 then `(tactic|(obtain ⟨$[$b:ident],*⟩:=$e;$t;*)) else if j==0 then `(tactic|($r;refine $(I s!"xA{n}") ($d :) fun $b* =>?_;$t;*)) else if j+1==n then `(tactic|($r;refine $k ($d :) fun $b* =>?_;$t;*)) else `(tactic|($r;refine $k ($d :) fun $B* $w=>?_;refine $(I s!"xA{n-j}") $w fun $A* =>?_;clear $w;$t;*))
local macro_rules|`(command|def $i:declId $s:optDeclSig:=$v)=>if v.raw.isOfKind ``Lean.Parser.Term.paren then `(command|noncomputable def $i $s:optDeclSig:=$v) else (·.raw.rewriteBottomUp (·.setInfo .none))<$>`(command|theorem $i $(⟨.node .none ``Lean.Parser.Command.declSig #[s.raw[0],s.raw[1][0]]⟩):declSig:=$v)|`(command|def $i:declId $s:optDeclSig $v:matchAlts)=>`(command|noncomputable def $i $s:optDeclSig $v:matchAlts)|`(command|@[simp] def $i:declId $s:optDeclSig:=$v)=>`(command|@[simp] noncomputable def $i $s:optDeclSig:=$v)|`(command|@[simp] def $i:declId $s:optDeclSig $v:matchAlts)=>`(command|@[simp] noncomputable def $i $s:optDeclSig $v:matchAlts)|`(command|abbrev $i:declId $s:optDeclSig:=$v)=>`(command|noncomputable abbrev $i $s:optDeclSig:=$v)
local macro_rules|`(⋯)=>`(by lia)
open PySem renaming wpAny_bind->ar,wpAny_pure->aL,wpAny_newObj_type->fu,wpAny_call_entry->gd,wpAny_callSpecial?_slot->kl,wpAny_holding->f6,wpAny_seqItems->hT,wpAny_setField_rec->jC,wpAny_field->fR,wpAny_dictEntries->kg,wpAny_setState_of->k6,wpAny_mono->gR,wpAny_forIn_list->kE,wpAny_truthy_bool->mX,codeAny_builtin->lJ,wpAny_rule->iZ,wpAny_typeNameOfWhole_itemiter->uE,wpAny_typeNameOfWhole_keyiter->vt,wpAny_dictEpoch->nq,plainId_quiet->ma,wpAny_isInstance->pd,wpAny_fieldsOf->mO,wpAny_setField->ny,wpAny_typeNameOf_itemiter->wM,wpAny_specialOf->o9,wpAny_passesOwn->o2,wpAny_attempt->mV,wpAny_setEntries_of->rl,wpAny_Call_Name_kw->rx,size_of_entries->pD,wpAny_letGo->mC,wpAny_typeOf->o7,wpAny_updateSeq->rh,wpAny_pyIter_slot->u_,wpAny_pyIter_list->tF,wpAny_isOneOf_itemiter->xj,isSubtype_type->sG,atKey_none_of_get->u6,wpAny_notOrdered_dict->zX,wpAny_of_eq->qi,wpAny_updateSeq_pair->Bm,wpAny_execs_nil->uf,codeAny_mono->rQ,isSubtype_stop->uv,wpAny_tryCatch->tI,wpAny_handled->vx,wpAny_onRaise->uT,wpAny_newList->wu,filterMap_getElem?_range->DR,noFill_tuple_add->w3,wpAny_askSetting->ya,richCompare_meets_room->Dw,wpAny_ite_split->yz,wpAny_isOneOf_keyiter->Ew,builtinLookup_eq_fast->CV,wpAny_loadName_local->HF,sizeLine_eq->t8,wpAny_throw->ue,wpAny_pyIter_keyiter->Bp,wpAny_newTuple->zA,storedH_new->wm,wpAny_loadName_cell->H7,wpAny_Assign_stores->JT,evalArgs_none->IK,wpAny_standAt->w_,seq_tuple_add->yP,eqIsQuiet_byValue->DU,wpAny_assign_Name->Dr,concat_meets->zg,wpAny_sequenceKey->GZ,seqIndex_neg->yv,slot_list_getitem->CC,list_append->EV,wpAny_Call_method->GW,wpAny_storeSet_of->BF,wpAny_setEpoch_of->JG,atKey_of_get->xN,wpAny_pyHash_int->Fe,wpAny_pyHash_str->Fu,wpAny_execs_cons->Cs,wpAny_pyIter_zip->JP,seqIndex_of->yW,wpAny_alloc->xp,storedH_old->AA,codeAny_of_tree->BN,typeLookup_type->Cy,wpAny_Name->A_,wpAny_load->AJ,typeIs_str->x8,call_meets->zp,entryFor_alias->JA,wpAny_runValue->HC,evalPart_none->IT,call_list_seq->ID,intBits_le_64->BB,signature?_of->Gg,call_meetsIn->Cm
open Option renaming bind_eq_some_iff->bN,map_eq_some_iff->cm,isSome_map->t_,isSome_iff_exists->Fy,getD_some->xw,getD_none->Hv
open List renaming length_map->ba,append_assoc->bC,getD_eq_getElem?_getD->cK,getElem?_eq_getElem->dH,mem_singleton->cP,perm_append_comm->dm,map_cons->b2,size_toArray->cR,mem_cons->b8,append_nil->cF,length_append->di,length_cons->dj,mem_append->c5,nodup_append->dJ,mem_map->cG,getElem?_eq_some_iff->fs,mem_append_right->eW,pairwise_singleton->fC,take_append_drop->ff,getElem?_map->eB,pairwise_cons->e8,length_singleton->gI,mem_append_left->gz,mem_of_getElem?->gO,mem_range->eV,length_take->gf,drop_eq_getElem_cons->jA,length_drop->gH,nodup_cons->gb,map_append->f_,map_map->eU,lookup_cons->g5,length_range->hA,getElem?_append_right->mf,nodup_nil->hu,mem_iff_getElem->kA,eq_nil_of_length_eq_zero->oC,getElem?_append_left->mj,length_nil->iv,mem_cons_of_mem->k0,foldl_cons->i5,pairwise_iff_getElem->oW,mem_cons_self->lh,mem_filter->jw,not_mem_nil->ka,mem_of_mem_drop->mP,drop_of_length_le->oY,map_drop->jM,map_take->jB,find?_cons->lx,getElem?_drop->mY,getElem?_set_ne->oE,mem_of_mem_take->nH,filter_cons_of_neg->qv,pairwise_map->nz,all_eq_true->ml,nodup_range->mJ,getElem?_take->o8,filterMap_cons_some->rU,drop_zero->lU,take_length->oz,mem_filterMap->pY,getElem?_eq_none->rY,getElem?_zip_eq_some->vb,nil_append->oo,getElem_drop->pO,ext_getElem?->qm,filterMap_cons->rq,map_congr_left->rL,length_pos_iff->rH,filter_sublist->s6,drop_drop->o4,getElem_mem->pv,mem_nil_iff->qx,getElem?_set_self->tG,any_cons->oD,length_filter_le->uj,take_sublist->rO,getElem?_of_mem->wJ,cons_append->r3,mem_map_of_mem->uW,filter_cons_of_pos->yw,getElem_take->u0,take_of_length_le->Ah,drop_take->rD,drop_sublist->uC,eraseIdxIfInBounds_toArray->D9,getElem?_toArray->y_,getElem_map->tq,any_toArray->uh,pairwise_append->yO,map_eq_cons_iff->xV,length_set->vA,length_zip->wB,lookup_append->xb,take_take->tN,take_zero->vy,setIfInBounds_toArray->H2,zip_cons_cons->x6,perm_ext_iff_of_nodup->HJ,length_eraseIdx_of_lt->GL,nodup_iff_pairwise_ne->DK,getLast?_eq_getElem?->CB,foldl_append->Aa,getElem_inj->xS,drop_length->As,zipIdx_cons->yn,ext_getElem->z5,any_eq_true->Ag,length_eq_zero_iff->IZ,set_set->u2,of_mem_zip->zK,forIn_cons->xK,dropLast_eq_take->HB,extract_toArray->GD,zip_nil_right->C4,map_filterMap->It,map_nil->zq,getElem?_set->Hy,map_toArray->CY,filter_cons->I7,countP_cons->Eb,range'_succ->Iz,zipIdx_nil->GF,zip_append->G8,forIn_nil->Js,foldl_nil->IA,set_comm->EM,all_map->Eh,any_map->IH,not_lt->I4
open PySem.Heap renaming get?_push_of_some->b0,get?_push_size->c0,lt_size->b4,get?_update_other->iE,get?_update_self->jK,size_push->gZ
open Nat renaming le_refl->bh,ne_of_lt->dg,lt_of_lt_of_le->eK,le_trans->dx,le_of_ble_eq_true->f7,lt_or_ge->e4,ne_of_gt->hk,lt_irrefl->iN,zero_le->hj,lt_succ_self->lY,not_lt_zero->l4,le_add_right->nf,min_eq_left->pX,lt_trichotomy->rS,le_of_lt_succ->q6,le_of_lt->oP,add_lt_add_iff_right->za,lt_of_le_of_lt->wA,lt_trans->qr,add_assoc->tc,succ_pos->sX,not_lt->qV,lt_succ_of_lt->zU,lt_add_of_pos_right->Hl,lt_of_succ_lt_succ->JB,eq_of_beq_eq_true->HV,testBit_or->z6,add_sub_cancel->IC,eq_zero_or_pos->Iy,mod_lt->ud,le_succ_of_le->H_,sub_self->x_,sub_zero->zH,lt_succ_of_le->G1,min_eq_right->Ce,add_zero->Iq,add_comm->Fi,zero_add->Fj,min_self->GH,le_succ->CZ,le_zero->D8,div_one->Gz
open Bool renaming and_eq_true->cN,false_ne_true->dc,false_eq_true->g0,not_eq_true'->l1,not_true->oX,eq_iff_iff->q7,or_eq_true->yD,false_bne->DO,false_or->Em,and_true->BX,true_bne->Ec,true_or->H3
open PySem.W renaming kasC_pure->bp,kasC_bind->br,mg_none_of->iQ,kasC_range->fQ,kasC_modify->k4,mg_of->nE,kasC_get->kq,kasC_lift->oS,cellsFrom_some->D4,callWith_K->E4,kat_item->vp,kas_swaps_map->F_,kat_kind->yc
open Array renaming length_toList->dv,getElem?_toList->eQ,getElem?_eq_getElem->i6,getElem?_eq_some_iff->pa,forIn_toList->rZ,getElem?_eq_none->uY,ext'->kL,mem_toList_iff->vS,toList_filterMap->zI,getD_eq_getD_getElem?->GC,perm_iff_toList_perm->HK,toList_push->xk,getElem_toList->G_,size_map->AN,isEmpty_iff->Hc,toList_inj->JI
open List.Perm renaming append_left->d9,append_right->e5,eq_of_pairwise->Ro,cons_inv->Up
open PySem.Heap.SameBut renaming update->hv
open PyProof.Rows renaming slot_tuple_getitem->pl,callWith_type1->vP,callWith_builtin1->FQ,subscriptTail_builtinR->Bw,entry_list_sort->zx,slot_list_sort->y4,args_list_sort->AZ,entry_tuple_getitem->Il,assign_Tuple_tuple->BI,args_tuple_getitem->Dn,plain_sorted->A8,entry_sorted->yx,args_sorted1->zF,kind_sorted->Ad,get?_update_seq->G3,slicePart_none->DV,elem'_eq->wg,tupleItemsOf_->Hb,listUpdate_at->Jm,lt_int->Sw,gt_int->PD
open PySem.PassesOwn renaming never->jc
open Int renaming toNat_natCast->kb,le_refl->iY,emod_lt_of_pos->qd,emod_nonneg->ot,lt_or_gt_of_ne->A7,mul_ediv_add_emod->C_,toNat_of_nonneg->Cf,le_trans->xv,ediv_nonneg->FO,not_lt->xm,add_assoc->HQ,add_zero->IW,lt_or_le->E_,mul_one->GX
open PySem.Around renaming under_plainId->mZ
open PySem.F renaming slot_dict_itemiterator_next->sd,slot_dict_keyiterator_next->sS,called_set->mU,plainAttrs_list->qb,slot_list_append->r_,type_list_append->rt,slot_tuple_iterator_next->vV,slot_tuple_hash->sL,args_tuple_add_2->zZ,entry_tuple_add->xA,slot_tuple_add->xG,args_dict_itemiterator_next_1->El,slot_dict_get->yG,args_dict_keyiterator_next_1->ET,entry_dict_itemiterator_next->CE,entry_dict_keyiterator_next->CJ,args_tuple_iterator_next_1->En,slot_zip_next->wb,entry_tuple_iterator_next->EH,plain_extend_loop->BW,slot_dict_update->F2,args_dict_get_2->Dm,plainAttrs_dict->FE,plain_list_iadd->DM,entry_dict_get->B3,slot_dict_items_iter->Gw,plain_set_new->Co,slot_set_iter->Bx,args_list_append_2->Ct,entry_list_append->B6,slot_list_append->EC,args_zip_next_1->JN,slot_dict_items->CT,slot_dict_iter->EW,entry_zip_next->IX
open List.Nodup renaming length_le_of_subset->vG,sublist->Lh
open PyProof.Rows.F renaming plain_set_update_loop->Bg,entry_set_update_loop->ER
open PySem.Obj renaming data_mapFields->qL,data_mapDictKeys->vf,isFreed_of_fields->xY,isFreed_of_dict->y2,cls_mapFields->AY,data_mapDict->D0
open Classical renaming byContradiction->t6,epsilon_spec->Hh
open PySem.Calls renaming call_function_entry->Ab,callWith_builtin->Ae,Name_function_global->Df,spliced_cons->xZ,spliced_nil->zS,evalArgs_plain->Jx
open Prod renaming ext->mu
open PySem.AutoSeq1 renaming sub_tuple_tuple->Dq
open PySem.SetTable renaming toList_insertAt->He
open List.Pairwise renaming sublist->Im,filterMap->Og,imp₂->Lf
open Std.Legacy.Range renaming forIn_eq_forIn_range'->P8
open PyProof.Rows.LSm renaming kept_iter->yt
open PySem.W.Looks renaming of_pure->AR
open PySem.SeqAt.EqAt renaming int_str->JL,str_int->Ep,none_tuple->LN,bool_tuple->Va,tuple_none->Ld,tuple_bool->N_,none_bool->Nv,bool_none->Ud,bool_bool->NF,int_tuple->SE,str_tuple->So,tuple_int->LF,tuple_str->Uq,none_int->Pm,none_str->Pj,bool_int->Mt,bool_str->Qh,int_none->UO,int_bool->S2,str_none->QB,str_bool->Rd,int_int->Ua,str_str->Rr,of_refs->Qm
open PySem.SeqAt.RcAt renaming tuples->I2,lists_lengths->SQ,none_tuple->Mv,bool_tuple->Lb,tuple_none->M9,tuple_bool->UW,none_none->MU,none_bool->Ot,bool_none->Sv,bool_bool->UK,int_tuple->N9,str_tuple->OM,tuple_int->Q6,tuple_str->SX,none_int->Mi,none_str->K1,bool_int->Mj,bool_str->UQ,int_none->Kv,int_bool->N1,str_none->J6,str_bool->P4,int_int->NQ,int_str->PB,str_int->KX,str_str->MF,lists->SM
open PySem.IsL renaming update->B0
open PySem.SeqAt.RcNeAt renaming lists_lengths->Us,none_tuple->R0,bool_tuple->UL,tuple_none->TJ,tuple_bool->Kh,none_none->Rg,none_bool->Oz,bool_none->KC,bool_bool->UG,int_tuple->Rl,str_tuple->J2,tuple_int->SA,tuple_str->S3,none_int->TF,none_str->N4,bool_int->Nj,bool_str->RZ,int_none->Px,int_bool->O5,str_none->Kl,str_bool->OA,int_int->O1,int_str->LD,str_int->Oo,str_str->NN,tuples->J3,lists->S9
open List.cons renaming injEq->Uu
open PySem renaming Scope->g_,Str->aI,Heap->aY,Value->ae,Sem->dr,Addr->af,Stmt->cA,CmpOp->kQ,Expr->bu,Obj->a9,Shared->aq,Around->bD,GenState->AG,World->bl,Program->bJ,reduceHash->AB,Builtin->a0,cLine->bS,model->aR,isInstance->zv,Tok->iL,Paired->ea,sysModules->ie,entryOfKey->mz,mainGlobals->dZ,builtinsNs->wy,bootBuiltins->fk,Env->eT,Model->gu,storeName->AS,eval->cb,isTrue->q2,backTo->fI,starEach->bV,swapsWith->oR,assign->hS,assignEach->fx,setItem->uJ,Operator->pZ,swapsWithSole->vd,swappedStores->tu,PassesOwn->sZ,pyNext->fg,letOwnedTupleGo->sD,pyIter->my,rawInt->dR,Walks->jy,foldedSetIterable->mI,binaryOp->gh,compareOp->d3,behindInMarks->pq,recursionLimit->I5,Result->ta,FuncData->gT,BindsTo->mB,bindArgs->la,Keyword->og,NameKind->c8,cellsFrom->Bo,richCompare->oT,IsPart->k9,getItem->nA,sliceBounds->o_,PlainAttrs->t4,typeOf->q9,attributeBase->n2,backToKw->AU,keywordEach->yX,valueAt->oB,atKey->k_,storedH->lb,Params->wt,callerA->nW,DictEntry->nM,cellOf->uM,compEnvC->vE,newFunctionEnv->IV,comprehension->w9,newList->qt,setField->qz,newExc->nk,newTuple->sa,firstArgMember->nt,field->l2,seqItems?->m3,ZipApart->uz,IsZip->jJ,IsPair->hc,shortFactorBits->vM,checkCount->yy,argBest->iM,entryFor->ru,table->sO,argsOk->r6,updateSeq->tX,PyData->th,SetTable->aT,hashByValue->tJ,ofAClassStatement->uD,searchCouldBeSeen->GY,carriedByValue->Fn,setSearchFrom->Gq,drawOrder->xT,setNext->mD,setEntries->u5,pickOrder->jS,unsupported->zP,dictSetHashed->uX
open Bool renaming true->X,false->au
open Option renaming some->Z,none->Y
open PyProof.Rows renaming IsTup->nK,AllBare->l3,envOfC->jQ,subscriptTail->F6,IntsAre->rm,bubble->q3,SortKind->gX,Keyed->bo,SortSt->bF,pendingOf->il,failedOf->ih,mergeAt'->vY,ltAt'->nX,reverseSlice'->tm,seqObj->fB,keyKind'->w7,tuples'->qp
open PySem.W renaming WData->q5,WShape->q_,kas_rev->mQ,kas_cmp->fe,kas_item->bq,kas_st->vO,Frag->Φ,nsIn->Ψ,fnOf->Ξ,keepIn->Θ,codeIn->Δ,methodObj->Γ
open PySem
abbrev aM:=@if_pos
abbrev aN:=@if_neg
abbrev du:=@decide_eq_true
abbrev dQ:=@decide_eq_false
abbrev hz:=@of_decide_eq_true
abbrev ig:=@beq_self_eq_true
abbrev k7:=@decide_eq_true_iff
abbrev e9:=@if_false
abbrev qn:=@decide_eq_false_iff_not
abbrev gN:=@if_true
abbrev mN:=@beq_iff_eq
abbrev m6:=@or_false
abbrev Ba:=@decide_eq_true_eq
abbrev AV:=@decide_eq_decide
variable{Wr:Sort _}{r:Prop}
def xE1{s:Wr->Prop}(c:∃g,s g)(o:∀g,s g->r):r:=have ⟨g,x⟩:=c;o g x
variable{W9:Sort _}
def xE2{s:Wr->W9->Prop}(c:∃g f,s g f)(o:∀g f,s g f->r):r:=have ⟨g,f,x⟩:=c;o g f x
variable{XC:Sort _}
def xE3{s:Wr->W9->XC->Prop}(c:∃g f h,s g f h)(o:∀g f h,s g f h->r):r:=have ⟨g,f,h,x⟩:=c;o g f h x
variable{XD:Sort _}
def xE4{s:Wr->W9->XC->XD->Prop}(c:∃g f h q,s g f h q)(o:∀g f h q,s g f h q->r):r:=have ⟨g,f,h,q,x⟩:=c;o g f h q x
variable{XE:Sort _}
def xE5{s:Wr->W9->XC->XD->XE->Prop}(c:∃g f h q d,s g f h q d)(o:∀g f h q d,s g f h q d->r):r:=have ⟨g,f,h,q,d,x⟩:=c;o g f h q d x
variable{XF:Sort _}
def xE6{s:Wr->W9->XC->XD->XE->XF->Prop}(c:∃g f h q d I,s g f h q d I)(o:∀g f h q d I,s g f h q d I->r):r:=have ⟨g,f,h,q,d,I,x⟩:=c;o g f h q d I x
def xE9{b:Sort _}{Wu:Sort _}{e:Sort _}{s:Wr->W9->XC->XD->XE->XF->b->Wu->e->Prop}(c:∃g f h q d I F a i,s g f h q d I F a i)(o:∀g f h q d I F a i,s g f h q d I F a i->r):r:=have ⟨g,f,h,q,d,I,F,a,i,x⟩:=c;o g f h q d I F a i x
variable{g f:Prop}
def xA2(c:g/\f)(o:g->f->r):r:=o c.1 c.2
variable{h:Prop}
def xA3(c:g/\f/\h)(o:g->f->h->r):r:=o c.1 c.2.1 c.2.2
variable{q:Prop}
def xA4(c:g/\f/\h/\q)(o:g->f->h->q->r):r:=o c.1 c.2.1 c.2.2.1 c.2.2.2
variable{d:Prop}
def xA5(c:g/\f/\h/\q/\d)(o:g->f->h->q->d->r):r:=o c.1 c.2.1 c.2.2.1 c.2.2.2.1 c.2.2.2.2
variable{I:Prop}
def xA6(c:g/\f/\h/\q/\d/\I)(o:g->f->h->q->d->I->r):r:=o c.1 c.2.1 c.2.2.1 c.2.2.2.1 c.2.2.2.2.1 c.2.2.2.2.2
variable{F:Prop}
def xA7(c:g/\f/\h/\q/\d/\I/\F)(o:g->f->h->q->d->I->F->r):r:=o c.1 c.2.1 c.2.2.1 c.2.2.2.1 c.2.2.2.2.1 c.2.2.2.2.2.1 c.2.2.2.2.2.2
def xA8{a:Prop}(c:g/\f/\h/\q/\d/\I/\F/\a)(o:g->f->h->q->d->I->F->a->r):r:=o c.1 c.2.1 c.2.2.1 c.2.2.2.1 c.2.2.2.2.1 c.2.2.2.2.2.1 c.2.2.2.2.2.2.1 c.2.2.2.2.2.2.2
set_option linter.all false
set_option maxRecDepth 100000
namespace L2
open Spec PyProof.Rows
variable{Wq:g_}{Xc e:aI}{Wh c:aY}{aJ:aI->Option ae}{Wj Ww:List aI}{I:ae->ae->dr ae}{bI Xn:List af}{Xw:List cA}{WR:kQ}{Xt Wk:Pos}{F:Int->Int->Int}{WC h d:bu}{u o a WE:Nat}{Q:List bu}{V2:Φ}{G:List (af×a9)}{n V5:aq}{y U:ae->aq->Prop}{O:bD}{W3:Drawn}{Xo:Array AG}{D:bl}{Wd:bJ}{L:ae}{f g:af}{Wl:List ae}
inductive V where
 | aV|aB (f:Bool)|int (a:Int)|str (e:aI)|tup (J:List V)|fn (g:af)|aW (J:List V)|fd
mutual
def V.beq:V->V->Bool
 |.aV,.aV=>X
 |.aB g,.aB f=>g==f
 |.int a,.int i=>decide (a=i)
 |.str e,.str l=>decide (e=l)
 |.tup g,.tup f=>V.md g f
 |.fn g,.fn f=>decide (g=f)
 |.aW g,.aW f=>V.md g f
 |.fd,.fd=>X
 |_,_=>au
def V.md:List V->List V->Bool
 |[],[]=>X
 |g::m,f::E=>V.beq g f&&V.md m E
 |_,_=>au
end
mutual
theorem V.beq_iff:∀g f:V,V.beq g f=X↔g=f
 |.aV,f=>by cases f<;>simp[V.beq]
 |.aB g,f=>by cases f<;>simp[V.beq]
 |.int a,f=>by cases f<;>simp[V.beq]
 |.str e,f=>by cases f<;>simp[V.beq]
 |.tup e,f=>by
  cases f with
  |tup l=>rw[V.beq,V.w4 e l];simp
  |_=>simp[V.beq]
 |.fn g,f=>by cases f<;>simp[V.beq]
 |.aW e,f=>by
  cases f with
  |aW l=>rw[V.beq,V.w4 e l];simp
  |_=>simp[V.beq]
 |.fd,f=>by cases f<;>simp[V.beq]
theorem V.w4:∀g f:List V,V.md g f=X↔g=f
 |[],f=>by cases f<;>simp[V.md]
 |e::m,f=>by
  cases f with
  |nil=>simp[V.md]
  |cons l E=>rw[V.md,cN,V.beq_iff e l,V.w4 m E];simp
end
noncomputable instance:DecidableEq V:=λg f=>decidable_of_iff (V.beq g f=X) (V.beq_iff g f)
mutual
def dp(c:aY):V->ae->Prop
 |.aV,v=>v=.none
 |.aB f,v=>v=.bool f
 |.int a,v=>∃E,v=.int a E
 |.str e,v=>∃E,v=.str e E
 |.fn g,v=>v=.ref g
 |.aW _,v=>∃g,v=.ref g
 |.fd,v=>∃g,v=.ref g
 |.tup J,v=>∃g p Wv u,v=.ref g/\c.get? g=Z p/\p.cls=.type "tuple" /\ p.data=.seq Wv u/\dP c J Wv.toList
def dP(c:aY):List V->List ae->Prop
 |[],V4=>V4=[]
 |q::J,V4=>∃v m,V4=v::m/\dp c q v/\dP c J m
end
mutual
def V.key:Nat->V->Bool
 |_,.int _=>X
 |_,.str _=>X
 |u+1,.tup J=>V.keys u J
 |_,_=>au
def V.keys:Nat->List V->Bool
 |_,[]=>X
 |u,q::J=>V.key u q&&V.keys u J
end
mutual
def dN(D:bl):V->Int
 |.int a=>hashInt a
 |.str e=>hashStr D e
 |.tup J=>AB (a0.Tuple.tupleHashOf<|iO D J)
 |_=>0
def iO(D:bl):List V->List Int
 |[]=>[]
 |q::J=>dN D q::iO D J
end
mutual
def ve:V->Nat
 |.tup J=>kz J+1
 |_=>1
def kz:List V->Nat
 |[]=>0
 |q::J=>ve q+kz J
end
theorem Am(D:bl):∀g f:List V,iO D (g++f)=iO D g++iO D f
 |[],f=>rfl
 |q::g,f=>by rw[r3,iO,iO,Am D g f,r3]
theorem yI:∀g f:List V,kz (g++f)=kz g+kz f
 |[],f=>by simp[kz]
 |q::g,f=>by rw[r3,kz,kz,yI g f];lia
theorem I6{u:Nat}:∀{g f:List V},V.keys u (g++f)=X->V.keys u f=X
 |[],f,c=>c
 |q::g,f,c=>by rw[r3,V.keys,cN]at c;exact I6 c.2
theorem dP.length{c:aY}:∀{J:List V}{V4:List ae},dP c J V4->J.length=V4.length
 |[],V4,d=>by rw[show V4=[] from d];rfl
 |q::J,V4,d=>by
  let⟨v,@m,rfl,W,d⟩:=d;rw[dj,dj,dP.length d]
def tW(c T:aY):Prop:=(∀g p Wv u,c.get? g=Z p->p.cls=.type "tuple" -> p.data=.seq Wv u->T.get? g=Z p)
mutual
theorem dp.keep{c T:aY}(o:tW c T):∀{q:V}{v:ae},dp c q v->dp T q v
 |.aV,_,d=>d
 |.aB _,_,d=>d
 |.int _,_,d=>d
 |.str _,_,d=>d
 |.fn _,_,d=>d
 |.aW _,_,d=>d
 |.fd,_,d=>d
 |.tup J,_,d=>by
  let⟨g,p,Wv,@u,rfl,t,C,a,b⟩:=d;exact⟨g,p,Wv,u,rfl,o g p Wv u t C a,C,a,dP.keep o b⟩
theorem dP.keep{c T:aY}(o:tW c T):∀{J:List V}{V4:List ae},dP c J V4->dP T J V4
 |[],_,d=>d
 |q::J,_,d=>by
  let⟨v,@m,rfl,t,C⟩:=d;exact⟨v,m,rfl,dp.keep o t,dP.keep o C⟩
end
theorem E9{c:aY}:∀(u:Nat) {e l:V}{v:ae},V.key u e=X->V.key u l=X->dp c e v->dp c l v->e=l
 |u,.int a,l,v,_,bf,h,b=>by
  let⟨@E,rfl⟩:=h;cases l with
  |int i=>let⟨@L,d⟩:=b;injection d with d;rw[d]
  |str x=>let⟨@L,d⟩:=b;cases d
  |tup J=>let⟨W,W,W,@W,d,W⟩:=b;cases d
  |_=>cases u<;>cases bf
 |u,.str x,l,v,_,bf,h,b=>by
  let⟨@E,rfl⟩:=h;cases l with
  |int i=>let⟨@L,d⟩:=b;cases d
  |str x=>let⟨@L,d⟩:=b;injection d with d;rw[d]
  |tup J=>let⟨W,W,W,@W,d,W⟩:=b;cases d
  |_=>cases u<;>cases bf
 |u+1,.tup J,l,v,s,bf,h,b=>by
  let⟨g,p,Wv,@k,rfl,t,C,w,y⟩:=h;cases l with
  |int i=>let⟨@L,d⟩:=b;cases d
  |str x=>let⟨@L,d⟩:=b;cases d
  |tup Q=>
   let⟨D,WN,F,@G,d,n,H,j,z⟩:=b;cases d;rw[t]at n;cases n;rw[w]at j;injection j with j _;subst j;have all:∀(J Q:List V) (V4:List ae),V.keys u J=X->V.keys u Q=X->dP c J V4->dP c Q V4->J=Q:=by
    intro J;induction J with
    |nil=>
     intro Q V4 W W g f;cases Q with
     |nil=>rfl
     |cons d Q=>let⟨W,@W,r,W⟩:=f;rw[show V4=[] from g]at r;cases r
    |cons q J A=>
     intro Q V4 WG WO g f;let⟨v,@m,rfl,B,W5⟩:=g;cases Q with
     |nil=>cases (show v::m=[] from f)
     |cons d Q=>
      let⟨I,@WV,r,dd,dn⟩:=f;cases r;rw[V.keys,cN]at WG WO;rw[E9 u WG.1 WO.1 B dd,A Q m WG.2 WO.2 W5 dn]
   rw[all J Q _ s bf y z]
  |_=>cases bf
 |_,.aV,_,_,o,_,_,_=>by cases ‹Nat›<;>cases o
 |_,.aB _,_,_,o,_,_,_=>by cases ‹Nat›<;>cases o
 |_,.fn _,_,_,o,_,_,_=>by cases ‹Nat›<;>cases o
 |_,.aW _,_,_,o,_,_,_=>by cases ‹Nat›<;>cases o
 |_,.fd,_,_,o,_,_,_=>by cases ‹Nat›<;>cases o
 |0,.tup _,_,_,o,_,_,_=>by cases o
section
variable{Wb:bJ}{D:bl}
theorem Je:∀(u:Nat) {O:bD}{U:ae->aq->Prop}{n:aq}{q:V}{v:ae}{y:Int->aq->Prop},V.key u q=X->O.units+u<bS->dp n.heap q v->y (dN D q) {n with toks:=n.toks+ve q}->
  wpAny (aR Wb D) O (pyHash v) y U n
 |u,O,U,n,.int a,v,y,_,_,b,c=>by
  let⟨@E,rfl⟩:=b;exact Fe c
 |u,O,U,n,.str a,v,y,_,_,b,c=>by
  let⟨@E,rfl⟩:=b;exact Fu c
 |u+1,O,U,n,.tup J,v,y,o,w,b,c=>by
  let⟨g,p,Wv,@k,rfl,l,s,hd,V0⟩:=b;have h:n.TypeIs (.ref g) "tuple" := ⟨p,l,s⟩;unfold pyHash;first|unfold pyHashByItsType|skip
  first|refine ar (wpAny_cRoomFor_or (.inr ⋯) ?_)|skip
  refine ar (o9 h sL.lookup ?_);show wpAny _ _ (if (Z (ae.builtin "tuple.__hash__")==Z ae.none)=X then _ else _) y U n;rw[aN (by rw[beq_builtin_none];exact dc)];refine ar (o9 h sL.lookup ?_);show wpAny _ _ (callSpecialIfBoundUnlessNone? (.ref g) "__hash__" _ >>= _) y U n;refine ar (wpAny_callSpecialIfBoundUnlessNone?_slot h sL<|gd sL h F.entry_tuple_hash ?_<|F.args_tuple_hash_1 _);show wpAny _ _ (a0.Tuple.tupleItemsOf (.ref g) >>= _) _ _ n;refine ar (wpAny_tupleItemsOf l hd ?_);refine ar ?_;rw[<-rZ];refine kE _
   (λcx (f:Array Int) V5=>∃done left,J=done++left/\dP n.heap left cx/\f.toList=iO D done/\V5={n with toks:=n.toks+kz done})
   _ ?_ ?_ _ _ ⟨[],J,rfl,V0,rfl,rfl⟩
  ·rintro e cx f V5 ⟨done,left,rfl,i,j,rfl⟩;cases left with
   |nil=>cases (show e::cx=[] from i)
   |cons q left=>
    let⟨v,@m,d,t,r⟩:=i;cases d;have WO:=I6 (g:=done) (show V.keys u (done++q::left)=X from o);rw[V.keys,cN]at WO;refine ar (Je u WO.1 (by show O.units+1+u<bS;lia) t ?_);first
     | exact aL ⟨done++[q],left,by simp,r,by simp[j,Am,iO],by simp[yI,kz,tc]⟩
     | exact ar (aL (aL ⟨done++[q],left,by simp,r,by simp[j,Am,iO],by simp[yI,kz,tc]⟩))
  ·rintro f V5 ⟨done,left,rfl,i,j,rfl⟩;cases left with
   |cons q left=>let⟨W,@W,d,W⟩:=i;cases d
   |nil=>
   rw[cF]at c;show wpAny _ _ (retInt<|a0.Tuple.tupleHashOf f.toList) _ _ _;rw[j];refine wpAny_ret_mkInt ?_;show wpAny _ _ (if (decide (-(2:Int)^63<=a0.Tuple.tupleHashOf (iO D done))&&decide (a0.Tuple.tupleHashOf (iO D done)<2^63))=X then _ else _) y U _;rw[dN,ve]at c;unfold AB at c;by_cases V9:(decide (-(2:Int)^63<=a0.Tuple.tupleHashOf (iO D done))&&decide (a0.Tuple.tupleHashOf (iO D done)<2^63))=X
   ·rw[aM V9];rw[aM V9]at c;exact aL (by simpa [tc] using c)
   ·rw[aN V9];rw[aN V9]at c;exact ar (iZ (aL (by simpa [tc] using c)))
 |_,_,_,_,.aV,_,_,o,_,_,_=>by cases ‹Nat›<;>cases o
 |_,_,_,_,.aB _,_,_,o,_,_,_=>by cases ‹Nat›<;>cases o
 |_,_,_,_,.fn _,_,_,o,_,_,_=>by cases ‹Nat›<;>cases o
 |_,_,_,_,.aW _,_,_,o,_,_,_=>by cases ‹Nat›<;>cases o
 |_,_,_,_,.fd,_,_,o,_,_,_=>by cases ‹Nat›<;>cases o
 |0,_,_,_,.tup _,_,_,o,_,_,_=>by cases o
mutual
def cL:V->V->Bool
 |.aV,.aV=>X
 |.aB g,.aB f=>g==f
 |.aB g,.int i=>(if g then 1 else 0)==i
 |.int a,.aB f=>a==(if f then 1 else 0)
 |.int a,.int i=>a==i
 |.str e,.str l=>e==l
 |.tup g,.tup f=>fG g f
 |_,_=>au
def fG:List V->List V->Bool
 |[],[]=>X
 |g::m,f::E=>cL g f&&fG m E
 |_,_=>au
end
mutual
def V.bG:Nat->V->Bool
 |_,.aV=>X
 |_,.aB _=>X
 |_,.int _=>X
 |_,.str _=>X
 |u+1,.tup J=>V.dy u J
 |_,_=>au
def V.dy:Nat->List V->Bool
 |_,[]=>X
 |u,q::J=>V.bG u q&&V.dy u J
end
theorem kf{u:Nat}:∀{J:List V}{i:Nat}{q:V},V.dy u J=X->J[i]?=Z q->V.bG u q=X
 |[],i,q,_,c=>by simp at c
 |d::J,0,q,o,c=>by
  rw[V.dy,cN]at o;simp at c;subst c;exact o.1
 |d::J,i+1,q,o,c=>by
  rw[V.dy,cN]at o;exact kf o.2 ⇑c
theorem dP.get{c:aY}:∀{J:List V}{V4:List ae}{i:Nat}{v:ae},dP c J V4->V4[i]?=Z v->∃q,J[i]?=Z q/\dp c q v
 |[],V4,i,v,g,d=>by rw[show V4=[] from g]at d;simp at d
 |q::J,V4,0,v,g,d=>by
  let⟨L,@m,rfl,a,W5⟩:=g;simp at d;subst d;exact⟨q,rfl,a⟩
 |q::J,V4,i+1,v,g,d=>by
  let⟨L,@m,rfl,a,W5⟩:=g;let⟨@W3,t,C⟩:=dP.get (i:=i) W5 ⇑d;exact⟨W3,by simpa using t,C⟩
theorem Ei{c:aY}:∀(u:Nat) {e l:V}{v:ae},V.bG u e=X->V.bG u l=X->dp c e v->dp c l v->cL e l=X
 |u,.aV,l,v,_,bf,j,b=>by
  cases (show v=.none from j);cases l with
  |aV=>rfl
  |aB f=>cases b
  |int i=>let⟨@L,d⟩:=b;cases d
  |str x=>let⟨@L,d⟩:=b;cases d
  |tup J=>let⟨W,W,W,@W,d,W⟩:=b;cases d
  |fn g=>cases u<;>cases bf
  |aW g=>cases u<;>cases bf
  |fd=>cases u<;>cases bf
 |u,.aB f,l,v,_,bf,j,b=>by
  cases (show v=.bool f from j);cases l with
  |aV=>cases b
  |aB h=>cases b;simp[cL]
  |int i=>let⟨@L,d⟩:=b;cases d
  |str x=>let⟨@L,d⟩:=b;cases d
  |tup J=>let⟨W,W,W,@W,d,W⟩:=b;cases d
  |fn g=>cases u<;>cases bf
  |aW g=>cases u<;>cases bf
  |fd=>cases u<;>cases bf
 |u,.int a,l,v,_,bf,j,b=>by
  let⟨@E,rfl⟩:=j;cases l with
  |aV=>cases b
  |aB h=>cases b
  |int i=>let⟨@L,d⟩:=b;cases d;simp[cL]
  |str x=>let⟨@L,d⟩:=b;cases d
  |tup J=>let⟨W,W,W,@W,d,W⟩:=b;cases d
  |fn g=>cases u<;>cases bf
  |aW g=>cases u<;>cases bf
  |fd=>cases u<;>cases bf
 |u,.str a,l,v,_,bf,j,b=>by
  let⟨@E,rfl⟩:=j;cases l with
  |aV=>cases b
  |aB h=>cases b
  |int i=>let⟨@L,d⟩:=b;cases d
  |str x=>let⟨@L,d⟩:=b;cases d;simp[cL]
  |tup J=>let⟨W,W,W,@W,d,W⟩:=b;cases d
  |fn g=>cases u<;>cases bf
  |aW g=>cases u<;>cases bf
  |fd=>cases u<;>cases bf
 |u+1,.tup J,l,v,w,bf,j,b=>by
  let⟨g,p,Wv,@k,rfl,t,C,y,z⟩:=j;cases l with
  |aV=>cases b
  |aB h=>cases b
  |int i=>let⟨@L,d⟩:=b;cases d
  |str x=>let⟨@L,d⟩:=b;cases d
  |fn g=>cases bf
  |aW g=>cases bf
  |fd=>cases bf
  |tup Q=>
   let⟨F,WN,G,@H,d,s,I,n,A⟩:=b;cases d;rw[t]at s;cases s;rw[y]at n;injection n with n _;subst n;have all:∀(J Q:List V) (V4:List ae),V.dy u J=X->V.dy u Q=X->dP c J V4->dP c Q V4->fG J Q=X:=by
    intro J;induction J with
    |nil=>
     intro Q V4 W W g f;cases Q with
     |nil=>rfl
     |cons d Q=>let⟨W,@W,r,W⟩:=f;rw[show V4=[] from g]at r;cases r
    |cons q J B=>
     intro Q V4 WG WO g f;let⟨v,@m,rfl,D,W5⟩:=g;cases Q with
     |nil=>cases (show v::m=[] from f)
     |cons d Q=>
      let⟨M,@WV,r,dd,dn⟩:=f;cases r;rw[V.dy,cN]at WG WO;rw[fG,Ei u WG.1 WO.1 D dd,B Q m WG.2 WO.2 W5 dn];rfl
   rw[cL];exact all J Q _ w bf z A
 |u,.fn _,_,_,o,_,_,_=>by cases u<;>cases o
 |u,.aW _,_,_,o,_,_,_=>by cases u<;>cases o
 |u,.fd,_,_,o,_,_,_=>by cases u<;>cases o
 |0,.tup _,_,_,o,_,_,_=>by cases o
def rM{d:Nat->Bool}:∀{J Q:List V},(∀(i:Nat) (e l:V),J[i]?=Z e->Q[i]?=Z l->d i=cL e l)->((range<|min J.length Q.length).all d&&J.length==Q.length)=fG J Q:=by
 have R:∀(J Q:List V) (I:Nat->Bool),(∀(i:Nat) (e l:V),J[i]?=Z e->Q[i]?=Z l->I i=cL e l)->((range<|min J.length Q.length).all I&&J.length==Q.length)=fG J Q:=by
  intro J;induction J with
  |nil=>intro Q I W;cases Q<;>simp[fG]
  |cons q J a=>
   intro Q I c;cases Q with
   |nil=>simp[fG]
   |cons h Q=>
    have:=a Q (λi=>I<|i+1) λi e l g f=>c (i+1) e l ⇑g ⇑f;rw[fG,<-this,<-c 0 q h rfl rfl];rw[dj,dj,show min (J.length+1) (Q.length+1)=min J.length Q.length+1 by lia,List.range_succ_eq_map,List.all_cons,Eh,Bool.and_assoc];congr 2;rw[q7];simp
 exact λ{J Q} c=>R J Q d c
theorem jh{n:aq}:∀(u:Nat) {O:bD}{e l:V}{L v:ae},V.bG u e=X->V.bG u l=X->O.units+u+1<bS->dp n.heap e L->dp n.heap l v->SeqAt.EqAt O n L v (cL e l)
 |u,O,.aV,l,L,v,_,bf,q,j,b=>by
  cases (show L=.none from j);cases l with
  |aV=>cases (show v=.none from b);exact SeqAt.EqAt.same _
  |aB f=>cases (show v=.bool f from b);exact Nv f
  |int i=>let⟨@E,rfl⟩:=b;exact Pm i E
  |str x=>let⟨@E,rfl⟩:=b;exact Pj x E
  |tup J=>let⟨g,p,Wv,@k,rfl,t,C,m,W⟩:=b;exact LN ⟨p,t,C,k,m⟩ ⋯
  |fn g=>cases u<;>cases bf
  |aW g=>cases u<;>cases bf
  |fd=>cases u<;>cases bf
 |u,O,.aB f,l,L,v,_,bf,q,j,b=>by
  cases (show L=.bool f from j);cases l with
  |aV=>cases (show v=.none from b);exact Ud f
  |aB h=>cases (show v=.bool h from b);exact NF f h
  |int i=>let⟨@E,rfl⟩:=b;exact Mt f i E
  |str x=>let⟨@E,rfl⟩:=b;exact Qh f x E
  |tup J=>let⟨g,p,Wv,@k,rfl,t,C,m,W⟩:=b;exact Va f ⟨p,t,C,k,m⟩ ⋯
  |fn g=>cases u<;>cases bf
  |aW g=>cases u<;>cases bf
  |fd=>cases u<;>cases bf
 |u,O,.int a,l,L,v,_,bf,q,j,b=>by
  let⟨@c,rfl⟩:=j;cases l with
  |aV=>cases (show v=.none from b);exact UO a c
  |aB h=>cases (show v=.bool h from b);exact S2 a c h
  |int i=>let⟨@E,rfl⟩:=b;exact Ua a c i E
  |str x=>let⟨@E,rfl⟩:=b;exact JL a c x E
  |tup J=>let⟨g,p,Wv,@k,rfl,t,C,m,W⟩:=b;exact SE a c ⟨p,t,C,k,m⟩ ⋯
  |fn g=>cases u<;>cases bf
  |aW g=>cases u<;>cases bf
  |fd=>cases u<;>cases bf
 |u,O,.str a,l,L,v,_,bf,q,j,b=>by
  let⟨@c,rfl⟩:=j;cases l with
  |aV=>cases (show v=.none from b);exact QB a c
  |aB h=>cases (show v=.bool h from b);exact Rd a c h
  |int i=>let⟨@E,rfl⟩:=b;exact Ep a c i E
  |str x=>let⟨@E,rfl⟩:=b;exact Rr a c x E
  |tup J=>let⟨g,p,Wv,@k,rfl,t,C,m,W⟩:=b;exact So a c ⟨p,t,C,k,m⟩ ⋯
  |fn g=>cases u<;>cases bf
  |aW g=>cases u<;>cases bf
  |fd=>cases u<;>cases bf
 |u+1,O,.tup J,l,L,v,w,bf,q,j,b=>by
  have G:=j;let⟨g,p,Wv,@k,rfl,t,C,m,y⟩:=j;have WZ:n.heap.IsTuple g Wv:=⟨p,t,C,k,m⟩;cases l with
  |aV=>cases (show v=.none from b);exact Ld WZ ⋯
  |aB h=>cases (show v=.bool h from b);exact N_ h WZ ⋯
  |int i=>let⟨@E,rfl⟩:=b;exact LF i E WZ ⋯
  |str x=>let⟨@E,rfl⟩:=b;exact Uq x E WZ ⋯
  |fn g=>cases bf
  |aW g=>cases bf
  |fd=>cases bf
  |tup Q=>
   have H:=b;let⟨f,WN,s,@I,rfl,M,N,P,z⟩:=b;by_cases d:g=f
   ·subst d;rw[Ei (u+1) w bf G H];exact SeqAt.EqAt.same _
   ·have Xi:n.heap.IsTuple f s:=⟨WN,M,N,I,P⟩;have A:=y.length;have B:=z.length;have R:Wv.toList.length=Wv.size:=by simp
    have S:s.toList.length=s.size:=by simp
    rw[R]at A;rw[S]at B;have r:=Qm (A:=O) d (I2 (e:=λi=>cL (J.getD i .aV)<|Q.getD i .aV) WZ Xi ⋯ λi T U=>by
     let⟨@WY,D,al⟩:=y.get (i:=i) (v:=Wv[i]) (by rw[eQ];simp[T]);let⟨@WW,F,am⟩:=z.get (i:=i) (v:=s[i]) (by rw[eQ];simp[U]);rw[cK,D,cK,F];exact jh u (kf w D) (kf bf F) (by show O.units+1+u+1<bS;lia) al am)
    rw[<-A,<-B,rM (J:=J) (Q:=Q) (λi e l g f=>by rw[cK,g,cK,f];rfl)]at r;rw[cL];exact r
 |u,O,.fn _,_,_,_,o,_,_,_,_=>by cases u<;>cases o
 |u,O,.aW _,_,_,_,o,_,_,_,_=>by cases u<;>cases o
 |u,O,.fd,_,_,_,o,_,_,_,_=>by cases u<;>cases o
 |0,O,.tup _,_,_,_,o,_,_,_,_=>by cases o
mutual
theorem xX:∀{u:Nat}{q:V},V.key u q=X->V.bG u q=X
 |u,.int _,_=>by cases u<;>rfl
 |u,.str _,_=>by cases u<;>rfl
 |u+1,.tup J,c=>by rw[V.key]at c;rw[V.bG];exact HR c
 |0,.tup _,c=>by cases c
 |u,.aV,c=>by cases u<;>cases c
 |u,.aB _,c=>by cases u<;>cases c
 |u,.fn _,c=>by cases u<;>cases c
 |u,.aW _,c=>by cases u<;>cases c
 |u,.fd,c=>by cases u<;>cases c
theorem HR:∀{u:Nat}{J:List V},V.keys u J=X->V.dy u J=X
 |u,[],_=>by rw[V.dy]
 |u,q::J,c=>by rw[V.keys,cN]at c;rw[V.dy,xX c.1,HR c.2];rfl
end
mutual
theorem EP:∀{u:Nat}{e l:V},V.key u e=X->V.key u l=X->cL e l=decide (e=l)
 |u,.int a,l,_,b=>by
  cases l with
  |int i=>rw[cL];by_cases d:a=i<;>simp[d]
  |str x=>simp[cL]
  |tup x=>simp[cL]
  |_=>cases u<;>cases b
 |u,.str a,l,_,b=>by
  cases l with
  |int i=>simp[cL]
  |str x=>rw[cL];by_cases d:a=x<;>simp[d]
  |tup x=>simp[cL]
  |_=>cases u<;>cases b
 |u+1,.tup J,l,f,b=>by
  cases l with
  |int i=>simp[cL]
  |str x=>simp[cL]
  |tup Q=>
   rw[V.key]at f b;rw[cL,zG f b];simp
  |_=>cases b
 |0,.tup _,_,c,_=>by cases c
 |u,.aV,_,c,_=>by cases u<;>cases c
 |u,.aB _,_,c,_=>by cases u<;>cases c
 |u,.fn _,_,c,_=>by cases u<;>cases c
 |u,.aW _,_,c,_=>by cases u<;>cases c
 |u,.fd,_,c,_=>by cases u<;>cases c
theorem zG:∀{u:Nat}{e l:List V},V.keys u e=X->V.keys u l=X->fG e l=decide (e=l)
 |u,[],l,_,_=>by cases l<;>simp[fG]
 |u,q::J,[],_,_=>by simp[fG]
 |u,q::J,d::Q,a,b=>by
  rw[V.keys,cN]at a b;rw[fG,EP a.1 b.1,zG a.2 b.2];by_cases t:q=d<;>by_cases C:J=Q<;>simp[t,C]
end
theorem wN:∀(u:Nat) {O:bD}{U:ae->aq->Prop}{n:aq}{q:V}{v:ae}{y:Bool->aq->Prop},V.key u q=X->dp n.heap q v->y X n->wpAny (aR Wb D) O (eqIsQuiet u v) y U n
 |u,O,U,n,.int a,v,y,_,b,c=>by
  let⟨@E,rfl⟩:=b;rw[DU u rfl];exact aL c
 |u,O,U,n,.str a,v,y,_,b,c=>by
  let⟨@E,rfl⟩:=b;rw[DU u rfl];exact aL c
 |u+1,O,U,n,.tup J,v,y,o,b,c=>by
  let⟨g,p,Wv,@k,rfl,f,j,hd,V0⟩:=b;have h:n.TypeIs (.ref g) "tuple" := ⟨p,f,j⟩;unfold eqIsQuiet;refine ar (o9 h F.slot_tuple_eq.lookup ?_);show wpAny _ _ (zv (.ref g) (.type "tuple") >>= _) _ _ n;refine ar (pd h isSubtype_tuple_tuple ?_);simp only[oX,g0,e9];refine ar (hT f hd ?_);refine ar ?_;show wpAny _ _ (forIn Wv _ _) _ _ n;rw[<-rZ];rw[V.key]at o;refine kE _ (λcx m V5=>m.1=Y/\V5=n/\∃left,V.keys u left=X/\dP n.heap left cx) _ ?_ ?_ _ _ ⟨rfl,rfl,J,o,V0⟩
  ·rintro v cx m V5 ⟨V9,rfl,left,e,i⟩;cases left with
   |nil=>cases (show v::cx=[] from i)
   |cons q left=>
    let⟨r,@WV,d,t,l⟩:=i;cases d;rw[V.keys,cN]at e;refine ar (wN u e.1 t ?_);simp only[oX,g0,e9];exact aL ⟨rfl,rfl,left,e.2,l⟩
  ·rintro⟨s,w⟩ V5 ⟨V9,rfl,W⟩;simp only at V9;subst V9;exact aL c
 |_,_,_,_,.aV,_,_,o,_,_=>by cases ‹Nat›<;>cases o
 |_,_,_,_,.aB _,_,_,o,_,_=>by cases ‹Nat›<;>cases o
 |_,_,_,_,.fn _,_,_,o,_,_=>by cases ‹Nat›<;>cases o
 |_,_,_,_,.aW _,_,_,o,_,_=>by cases ‹Nat›<;>cases o
 |_,_,_,_,.fd,_,_,o,_,_=>by cases ‹Nat›<;>cases o
 |0,_,_,_,.tup _,_,_,o,_,_=>by cases o
def eL(Wb:bJ)(D:bl):HeapKind Wb D (List V) where
 is:=λc J g=>V.keys 7 J=X/\dp c (.tup J) (.ref g)
 hash:=λJ=>dN D (.tup J)
 draws:=λJ=>ve (.tup J)
 room:=λO=>O.units+10<bS
 inj:=λa b=>by
  have:=E9 8 (e:=.tup _) (l:=.tup _) a.1 b.1 a.2 b.2;injection this
 keeps:=λ{c T o g q p Q Wt} e k hd av=>⟨e.1,e.2.keep λf L Wv u h s j=>by
  have m:f≠q:=by
   rintro rfl;rw[k]at h;cases h;rw[hd]at j;cases j
  exact (av.2 f m).trans h⟩
 pyHash:=λi d c=>Je 8 (q:=.tup _) d.1 (show _<_ by have:_+10<bS:=i;lia) d.2 c
 eqBool:=λ{O U n e l g f y} i a b c=>by
  have r:=jh (n:=n) 8 (O:=O) (e:=.tup e) (l:=.tup l) (xX (u:=8) (q:=.tup e) a.1) (xX (u:=8) (q:=.tup l) b.1) (show _<_ by have:O.units+10<bS:=i;lia) a.2 b.2;rw[EP (u:=8) (e:=.tup e) (l:=.tup l) a.1 b.1]at r;exact r _ _ U y ⇑c
 quiet:=λd c=>wN 8 (q:=.tup _) d.1 d.2 c
end
abbrev eG:=Sum Int aI
def qR:eG->ae->Bool
 |.inl o,v=>ae.isInt o v
 |.inr e,v=>ae.isStrOf e v
def J4(D:bl):eG->Int
 |.inl o=>hashInt o
 |.inr e=>hashStr D e
theorem mg:∀{o:eG}{v:ae},qR o v=X->(∃a E,o=Sum.inl a/\v=ae.int a E)\/(∃e E,o=Sum.inr e/\v=ae.str e E)
 |.inl a,v,c=>by
  let⟨@E,d⟩:=ae.isInt_shape (k:=a) (v:=v) c;exact .inl ⟨a,E,rfl,d⟩
 |.inr e,v,c=>by
  let⟨@E,d⟩:=ae.isStrOf_shape (x:=e) (v:=v) c;exact .inr ⟨e,E,rfl,d⟩
def LB(a:Int)(E:iL):qR (.inl a) (.int a E)=X:=by simp[qR,ae.isInt]
def KR(e:aI)(E:iL):qR (.inr e) (.str e E)=X:=by simp[qR,ae.isStrOf]
def QD(g f:Int):decide ((Sum.inl g:eG)=Sum.inl f)=(g==f):=by
 by_cases d:g=f
 ·subst d;simp
 ·have c:¬ (Sum.inl g:eG)=Sum.inl f:=λr=>d (Sum.inl.inj r);rw[dQ c];exact (beq_eq_false_iff_ne.mpr d).symm
def Kx(g f:aI):decide ((Sum.inr g:eG)=Sum.inr f)=decide (g=f):=by
 by_cases d:g=f
 ·subst d;simp
 ·have c:¬ (Sum.inr g:eG)=Sum.inr f:=λr=>d (Sum.inr.inj r);rw[dQ c,dQ d]
def MS(g:Int)(f:aI):decide ((Sum.inl g:eG)=Sum.inr f)=au:=dQ (λr=>nomatch r)
def NZ(g:aI)(f:Int):decide ((Sum.inr g:eG)=Sum.inl f)=au:=dQ (λr=>nomatch r)
def lF(Wb:bJ)(D:bl):PySem.KeyKind Wb D eG where
 is:=qR
 hash:=J4 D
 inj:=λv g f k j=>by
  rcases mg k with ⟨a,E,rfl,rfl⟩|⟨e,E,rfl,rfl⟩
  ·rcases mg j with ⟨i,L,rfl,d⟩|⟨l,L,rfl,d⟩
   ·injection d with b _;rw[b]
   ·exact nomatch d
  ·rcases mg j with ⟨i,L,rfl,d⟩|⟨l,L,rfl,d⟩
   ·exact nomatch d
   ·injection d with b _;rw[b]
 byValue:=λo v c=>by
  rcases mg c with ⟨a,E,rfl,rfl⟩|⟨e,E,rfl,rfl⟩<;>rfl
 pyHash:=λh c=>by
  rcases mg h with ⟨a,E,rfl,rfl⟩|⟨e,E,rfl,rfl⟩
  ·exact Fe c
  ·exact Fu c
 eqBool:=λm h c=>by
  rcases mg m with ⟨a,E,rfl,rfl⟩|⟨e,E,rfl,rfl⟩
  ·rcases mg h with ⟨i,L,rfl,rfl⟩|⟨l,L,rfl,rfl⟩
   ·rw[QD]at c;exact wpAny_eqBool_int c
   ·rw[MS]at c;exact JL a E l L _ _ _ _ c
  ·rcases mg h with ⟨i,L,rfl,rfl⟩|⟨l,L,rfl,rfl⟩
   ·rw[NZ]at c;exact Ep e E i L _ _ _ _ c
   ·rw[Kx]at c;exact wpAny_eqBool_str c
 «strs»:=λo e E v c=>by
  rcases mg c with ⟨a,L,rfl,d⟩|⟨l,L,rfl,d⟩
  ·exact nomatch d
  ·injection d with b _;subst b;cases v<;>rfl
def TG(Wb:bJ)(D:bl)(a:Int)(E:iL):(lF Wb D).is (.inl a) (.int a E)=X:=LB a E
def PK(Wb:bJ)(D:bl)(e:aI)(E:iL):(lF Wb D).is (.inr e) (.str e E)=X:=KR e E
inductive ao where
 | aV|aB (f:Bool)|int (a:Int)|str (e:aI)|sl (f:Array UInt8)|yr (f:UInt64)|ref (g:af)|ty (u:String)
 deriving DecidableEq
variable{V4 z:List ao}{l v:ao}
def b5:ao->ae->Prop
 |.aV,L=>L=ae.none
 |.aB f,L=>L=ae.bool f
 |.int a,L=>∃E,L=ae.int a E
 |.str e,L=>∃E,L=ae.str e E
 |.sl f,L=>∃E,L=ae.bytes f E
 |.yr f,L=>∃E,L=ae.float f E
 |.ref g,L=>L=ae.ref g
 |.ty u,L=>L=ae.type u
abbrev bY:List ao->List ae->Prop:=ea b5
def bY.length(m:bY z Wl):z.length=Wl.length:=ea.length m
theorem bY.get:∀{z:List ao}{Wl:List ae}{a:Nat}{e:ao},bY z Wl->z[a]?=Z e->∃L,Wl[a]?=Z L/\b5 e L
 |_,_,_,_,.nil,d=>by simp at d
 |_,_,0,_,.cons m _,d=>by simp at d;subst d;exact⟨_,rfl,m⟩
 |_,_,a+1,e,.cons _ E,d=>by
  let⟨@L,t,C⟩:=bY.get (a:=a) (e:=e) E ⇑d;exact⟨L,by simpa using t,C⟩
theorem bY.set{e:ao}{L:ae}(m:b5 e L):∀{z:List ao}{Wl:List ae} (a:Nat),bY z Wl->bY (z.set a e) (Wl.set a L)
 |_,_,_,.nil=>.nil
 |_,_,0,.cons _ E=>.cons m E
 |_,_,a+1,.cons r E=>.cons r (bY.set m a E)
theorem bY.append:∀{z Wm:List ao}{Wl a:List ae},bY z Wl->bY Wm a->bY (z++Wm) (Wl++a)
 |_,_,_,_,.nil,n=>n
 |_,_,_,_,.cons m E,n=>.cons m (bY.append E n)
theorem bY.take:∀{z:List ao}{Wl:List ae} (u:Nat),bY z Wl->bY (z.take u) (Wl.take u)
 |_,_,0,_=>.nil
 |_,_,_+1,.nil=>.nil
 |_,_,u+1,.cons m E=>.cons m (bY.take u E)
theorem bY.drop:∀{z:List ao}{Wl:List ae} (u:Nat),bY z Wl->bY (z.drop u) (Wl.drop u)
 |_,_,0,m=>m
 |_,_,_+1,.nil=>.nil
 |_,_,u+1,.cons _ E=>bY.drop u E
def jD:Option ao->Option ae->Prop
 |some v,Z L=>b5 v L
 |none,Y=>True
 |_,_=>False
def fS{Wu:Type}:List (Wu×ao)->List (Wu×ae)->Prop:=(ea λ(s:Wu×ao) (r:Wu×ae)=>s.1=r.1/\b5 s.2 r.2)
def cB:eG->ao
 |.inl a=>.int a
 |.inr e=>.str e
inductive fO where
 | lst (z:List ao)
 | tup (z:List ao)
 | dw (Wf:List (eG×ao))|aF (Wf:List (List V×ao))
 | set (We:Int->Bool) (u:Nat)
 | ins (aO i:af) (aa:List (aI×ao))
 | own (e:af)
 | yS (aa:List (aI×ao))
 | met (I e:af)
 | pF (S V0:Int)
 | cU (p:a9) (L:fO)
 | oU (Wj:Array ae)
 | ext (WS:aY->Prop)
variable{p:fO}
abbrev aC:=af->Option fO
variable{V1 j:aC}
def upd(j:aC)(g:af)(p:fO):aC:=(λf=>if f=g then Z p else j f)
def fm:upd j g p g=Z p:=by unfold upd;rw[aM rfl]
def dq(c:f≠g):upd j g p f=j f:=by unfold upd;rw[aN c]
def Fb{L:fO}(c:j g=Z p)(T:j f=Z L)(q:p≠L):g≠f:=by
 intro d;subst d;rw[c]at T;exact q (Option.some.inj T)
def hF(c:j g=Z p)(T:j f=Y):g≠f:=by
 intro d;subst d;rw[c]at T;cases T
mutual
def cC(j:aC):V->ao->Prop
 |.aV,v=>v=.aV
 |.aB f,v=>v=.aB f
 |.int a,v=>v=.int a
 |.str e,v=>v=.str e
 |.fn g,v=>v=.ref g
 |.aW J,v=>∃g z p,v=.ref g/\j g=Z (.cU p<|.lst z)/\bM j J z
 |.fd,v=>∃g p,v=.ref g/\j g=Z (.cU p<|.aF [])
 |.tup J,v=>∃g z,v=.ref g/\j g=Z (.tup z)/\bM j J z
def bM(j:aC):List V->List ao->Prop
 |[],V4=>V4=[]
 |q::J,V4=>∃v m,V4=v::m/\cC j q v/\bM j J m
end
def rE(j V1:aC):Prop:=(∀g z,j g=Z (.tup z)->V1 g=Z (.tup z))
structure p9(j V1:aC):Prop where
 t:rE j V1
 z:∀g p L,j g=Z (.cU p L)->V1 g=Z (.cU p L)
noncomputable instance {j V1:aC}:CoeFun (p9 j V1) (λ_=>∀g z,j g=Z (.tup z)->V1 g=Z (.tup z)):=⟨λE=>E.t⟩
mutual
theorem cC.mono{j V1:aC}(o:p9 j V1):∀{q:V}{v:ao},cC j q v->cC V1 q v
 |.aV,_,d=>d
 |.aB _,_,d=>d
 |.int _,_,d=>d
 |.str _,_,d=>d
 |.fn _,_,d=>d
 |.tup J,_,d=>by
  let⟨g,@z,rfl,t,C⟩:=d;exact⟨g,z,rfl,o.t g z t,bM.mono o C⟩
 |.aW J,_,d=>by
  let⟨g,z,@p,rfl,t,C⟩:=d;exact⟨g,z,p,rfl,o.z g _ _ t,bM.mono o C⟩
 |.fd,_,d=>by
  let⟨g,@p,rfl,t⟩:=d;exact⟨g,p,rfl,o.z g _ _ t⟩
theorem bM.mono{j V1:aC}(o:p9 j V1):∀{J:List V}{V4:List ao},bM j J V4->bM V1 J V4
 |[],_,d=>d
 |q::J,_,d=>by
  let⟨v,@m,rfl,t,C⟩:=d;exact⟨v,m,rfl,cC.mono o t,bM.mono o C⟩
end
def ic(j:aC)(o:List V)(f:af):Prop:=(V.keys 7 o=X/\cC j (.tup o) (.ref f))
mutual
theorem cC.rF{j V1:aC}(o:rE j V1):∀{q:V}{u:Nat}{v:ao},V.key u q=X->cC j q v->cC V1 q v
 |.aV,_,_,_,d=>d
 |.aB _,_,_,_,d=>d
 |.int _,_,_,_,d=>d
 |.str _,_,_,_,d=>d
 |.fn _,_,_,_,d=>d
 |.tup J,u+1,_,r,d=>by
  let⟨g,@z,rfl,t,C⟩:=d;exact⟨g,z,rfl,o g z t,bM.rF o r C⟩
 |.tup J,0,_,r,d=>nomatch r
 |.aW J,0,_,r,d=>nomatch r
 |.aW J,u+1,_,r,d=>nomatch r
 |.fd,0,_,r,d=>nomatch r
 |.fd,u+1,_,r,d=>nomatch r
theorem bM.rF{j V1:aC}(o:rE j V1):∀{J:List V}{u:Nat}{V4:List ao},V.keys u J=X->bM j J V4->bM V1 J V4
 |[],_,_,_,d=>d
 |q::J,u,_,r,d=>by
  let⟨v,@m,rfl,t,C⟩:=d;rw[V.keys,cN]at r;exact⟨v,m,rfl,cC.rF o r.1 t,bM.rF o r.2 C⟩
end
def ic.mono{o:List V}(c:ic j o f)(E:rE j V1):ic V1 o f:=by
 let@⟨a,⟨g,@z,d,t,C⟩⟩:=c;exact⟨a,g,z,d,E g z t,C.rF E a⟩
def mH(c:aY)(g:af)(Wv:Array ae):Prop:=(∃p,c.get? g=Z p/\(p.cls,p.dict)=(.type "tuple",Y)/\∃u,p.data=.seq Wv u)
def mH.tup{Wv:Array ae}(e:mH c g Wv):nK c g Wv:=let ⟨p,d,h,m⟩:=e;⟨p,d,(Prod.mk.inj h).1,m⟩
def mH.new(c:aY)(Wv:Array ae):mH (c.push {cls:=.type "tuple",data:=.seq Wv}) c.objs.size Wv:=⟨_,c0 _ rfl,rfl,_,rfl⟩
section
variable(Wd:bJ)(D:bl)
def el(j:aC)(c:aY)(g:af):fO->Prop
 |.lst z=>z.length<=sizeLine/\∃(Wg:List ae) (u:Nat),bY z Wg/\c.get? g=Z {cls:=.type "list",data:=.seq Wg.toArray u}
 |.tup z=>z.length<=sizeLine/\∃Wg:List ae,bY z Wg/\mH c g Wg.toArray
 |.dw Wf=>Wf.length<=sizeLine/\(g==ie)=au/\∃V4,fS Wf V4/\c.DictOf (lF Wd D) g V4
 |.aF Wf=>Wf.length<=sizeLine/\(g==ie)=au/\∃z:List (List V×af×ae),
   ea (λ(s:List V×ao) (r:List V×af×ae)=>s.1=r.1/\ic j s.1 r.2.1/\b5 s.2 r.2.2) Wf z/\
   ∃p Q Wt,c.get? g=Z p/\p.ExactDict/\p.data=.dict Q Wt/\Q.toList=z.map (mz<|eL Wd D)/\(z.map (·.1)).Nodup
 |.set We u=>c.SetOf (intKind Wd D) g We u
 |.ins aO i aa=>j i=Z (.own g)/\aa.length<=1000/\i≠g/\c.get? g=Z (PySem.W.instObj aO i)/\
   ∃w,c.Ns1 i w/\(∀I,jD (aa.lookup I)<|w I)/\PySem.Within w (aa.map (·.1))
 |.own _=>∃p,c.get? g=Z p
 |.yS aa=>∃w,c.Ns1 g w/\∀I,jD (aa.lookup I) (w I)
 |.pF S V0=>∃E L v,c.get? g=Z {cls:=.type "range",data:=.fields #[.int S E,.int V0 L,.int 1 v]}
 |.cU p L=>c.get? g=Z p/\el j c g L
 |.oU Wj=>c.get? g=Z {cls:=.none,data:=.fields Wj}
 |.met I e=>c.get? g=Z (Γ (.ref I)<|.ref e)
 |.ext WS=>WS c/\(∃p,c.get? g=Z p)/\∀t C:aY,WS t->(∀p,t.get? g=Z p->C.get? g=Z p)->WS C
def ef(j:aC)(c:aY):Prop:=(∀g p,j g=Z p->el Wd D j c g p)
end
section
variable{Wd:bJ}{D:bl}{j V1:aC}{c T:aY}{g:af}{p:fO}
def el.lt(e:el Wd D j c g p):g<c.objs.size:=by
 cases p with
 |lst z=>let@⟨_,⟨_,@_,_,d⟩⟩:=e;exact b4 d
 |tup z=>let@⟨_,⟨@_,_,s⟩⟩:=e;exact s.tup.lt
 |dw Wf=>let@⟨_,_,⟨@_,_,⟨p,_,@_,d,_⟩⟩⟩:=e;exact b4 d
 |aF Wf=>let@⟨_,_,⟨@_,_,⟨p,_,@_,d,_⟩⟩⟩:=e;exact b4 d
 |set We u=>let⟨p,W,W,@W,d,W⟩:=e;exact b4 d
 |ins aO i aa=>let@⟨_,_,_,d,_⟩:=e;exact b4 d
 |own l=>let⟨@W,d⟩:=e;exact b4 d
 |yS aa=>let⟨@W,⟨W,W,@W,d,W⟩,W⟩:=e;exact b4 d
 |pF S V0=>let⟨W,W,@W,d⟩:=e;exact b4 d
 |cU WI L=>let@⟨d,_⟩:=e;exact b4 d
 |oU Wj=>exact b4 (show c.get? g=Z _ from e)
 |met I l=>exact b4 (show c.get? g=Z _ from e)
 |ext WS=>let@⟨_,⟨@_,d⟩,_⟩:=e;exact b4 d
theorem ea.u4{Wr W9:Type}{P V7:Wr->W9->Prop}:∀{a:List Wr}{b:List W9},ea P a b->(∀g f,P g f->V7 g f)->ea V7 a b
 |_,_,.nil,_=>.nil
 |_,_,.cons m E,I=>.cons (I _ _ m) (ea.u4 E I)
def el.hb(e:el Wd D j c g p)(o:∀f L,(f=g\/j f=Z (.own g))->c.get? f=Z L->T.get? f=Z L)(a:∀f,j f=Z (.own g)->V1 f=Z (.own g))(bT:∀f z,j f=Z (.tup z)->V1 f=Z (.tup z)):el Wd D V1 T g p:=by
 induction p with
 |lst z=>let@⟨x,⟨Wg,@u,m,d⟩⟩:=e;exact⟨x,Wg,u,m,o _ _ (.inl rfl) d⟩
 |tup z=>let@⟨x,⟨@Wg,m,⟨@WI,d,h⟩⟩⟩:=e;exact⟨x,Wg,m,WI,o _ _ (.inl rfl) d,h⟩
 |dw Wf=>let@⟨x,l,⟨@V4,m,⟨WI,Q,@Wt,d,h⟩⟩⟩:=e;exact⟨x,l,V4,m,WI,Q,Wt,o _ _ (.inl rfl) d,h⟩
 |aF Wf=>
  let@⟨x,l,⟨@z,m,⟨WI,Q,@Wt,d,h⟩⟩⟩:=e;exact⟨x,l,z,ea.u4 m λs r x=>⟨x.1,x.2.1.mono bT,x.2.2⟩,WI,Q,Wt,o _ _ (.inl rfl) d,h⟩
 |set We u=>let⟨WI,Q,Wt,@E,d,h⟩:=e;exact⟨WI,Q,Wt,E,o _ _ (.inl rfl) d,h⟩
 |ins aO i aa=>
  let@⟨q,x,ne,d,⟨@w,⟨M,Q,@Wt,b,h⟩,m⟩⟩:=e;exact⟨a _ q,x,ne,o _ _ (.inl rfl) d,w,⟨M,Q,Wt,o _ _ (.inr q) b,h⟩,m⟩
 |own l=>let⟨@WI,d⟩:=e;exact⟨WI,o _ _ (.inl rfl) d⟩
 |yS aa=>let⟨@w,⟨M,Q,@Wt,d,h⟩,m⟩:=e;exact⟨w,⟨M,Q,Wt,o _ _ (.inl rfl) d,h⟩,m⟩
 |pF S V0=>let⟨E,L,@v,d⟩:=e;exact⟨E,L,v,o _ _ (.inl rfl) d⟩
 |cU WI L k=>let@⟨d,r⟩:=e;exact⟨o _ _ (.inl rfl) d,k r⟩
 |oU Wj=>
  have d:c.get? g=Z {cls:=.none,data:=.fields Wj}:=e;show T.get? g=Z {cls:=.none,data:=.fields Wj};exact o g _ (.inl rfl) d
 |met I l=>
  have d:c.get? g=Z (Γ (.ref I)<|.ref l):=e;show T.get? g=Z (Γ (.ref I)<|.ref l);exact o g _ (.inl rfl) d
 |ext WS=>let@⟨s,⟨@p,d⟩,N⟩:=e;exact⟨N _ _ s λp r=>o _ _ (.inl rfl) r,⟨p,o _ _ (.inl rfl) d⟩,N⟩
theorem ef.lt(e:ef Wd D j c)(d:j g=Z p):g<c.objs.size:=(e g p d).lt
def ef.fresh(e:ef Wd D j c)(d:c.objs.size<=g):j g=Y:=by
 cases r:j g with
 |none=>rfl
 |some L=>exact absurd (eK (e.lt r) d) (iN _)
def ef.kept(e:ef Wd D j c)(o:∀f L,c.get? f=Z L->T.get? f=Z L):ef Wd D j T:=λg p d=>
 (e g p d).hb (λf L W r=>o f L r) (λ_ r=>r) λ_ W r=>r
def ef.laid(e:ef Wd D j c)(o:∀f L,c.get? f=Z L->T.get? f=Z L)(i:c.objs.size<=g)(new:el Wd D (upd j g p) T g p):ef Wd D (upd j g p) T:=λf L d=>by
 have a:=e.fresh i;by_cases b:f=g
 ·subst b;rw[fm]at d;cases d;exact new
 ·rw[dq b]at d;exact (e f L d).hb (λh v W r=>o h v r) (λh r=>by rw[dq (hF r a)];exact r) λh z r=>by rw[dq (hF r a)];exact r
end
def jx(j:aC)(g:af)(L:fO):Prop:=(j g=Z L\/∃p,j g=Z (.cU p L))
def jx.ok{L:fO}(m:jx j g L)(e:ef Wd D j c):el Wd D j c g L:=by
 rcases m with m|⟨p,m⟩
 ·exact e g L m
 ·let@⟨_,r⟩:=e g _ m;exact r
def sR:Option fO->Prop
 |some (.lst _)=>True
 |some (.dw _)=>True
 |some (.aF _)=>True
 |some (.set _ _)=>True
 |some (.ins _ _ _)=>True
 |some (.ext _)=>True
 |_=>False
section
variable{Wd:bJ}{D:bl}{j:aC}{c T:aY}{e d:af}{WN:fO}
def ef.write(ok:ef Wd D j c)(a:sR (j e))(k:d=e\/j d=Z (.own e))(o:∀f L,f≠d->c.get? f=Z L->T.get? f=Z L)(q:∃L,T.get? d=Z L)(new:el Wd D (upd j e WN) T e WN):ef Wd D (upd j e WN) T:=λf L r=>by
 have n:∀h l,j h=Z (.own l)->h≠e:=λh l m x=>by subst x;rw[m]at a;exact a
 have s:∀h z,j h=Z (.tup z)->h≠e:=λh z m x=>by subst x;rw[m]at a;exact a
 by_cases b:f=e
 ·subst b;rw[fm]at r;cases r;exact new
 ·rw[dq b]at r;by_cases g:f=d
  ·have p:j f=Z (.own e):=by
    rcases k with x|x
    ·exact absurd (g.trans x) b
    ·rw[g];exact x
   rw[r]at p;cases p;let⟨@v,t⟩:=q;exact⟨v,by rw[g];exact t⟩
  ·refine (ok f L r).hb (λh v i m=>o h v ?_ m) (λh m=>by rw[dq (n h f m)];exact m) λh z m=>by rw[dq (s h z m)];exact m
   rcases i with rfl|i
   ·exact g
   ·rintro rfl;rcases k with x|x
    ·exact n h f i x
    ·rw[i]at x;cases x;exact b rfl
end
structure fq(aa WM:List af)(j V1:aC)(c T:aY):Prop where
 keep:∀f p,c.get? f=Z p->j f=Y->f∉aa->f∉WM->T.get? f=Z p
 slot:∀f p,c.get? f=Z p->j f=Y->f∈aa->f∉WM->∃a4,T.get? f=Z {p with slots:=a4}
 free:∀f p,c.get? f=Z p->j f=Y->f∉WM->V1 f=Y
 there:∀f p,c.get? f=Z p->f∉WM->∃WN,T.get? f=Z WN
 kV:∀f z,j f=Z (.tup z)->V1 f=Z (.tup z)
 kc:∀f p L,j f=Z (.cU p L)->V1 f=Z (.cU p L)
 l6:∀f Wj,j f=Z (.oU Wj)->∃more,V1 f=Z (.oU<|Wj++more)
section
variable{aa k WM b:List af}{j Wc Ws:aC}{c t C T:aY}{g e d:af}{p:fO}
def fq.any(L:fq aa WM j Wc c t){f:af}{WI:a9}(r:c.get? f=Z WI)(u:j f=Y)(a:f∉WM):∃a4,t.get? f=Z {WI with slots:=a4}:=by
 by_cases b:f∈aa
 ·exact L.slot f WI r u b a
 ·exact⟨WI.slots,L.keep f WI r u b a⟩
def fq.kept(o:∀f L,c.get? f=Z L->T.get? f=Z L):fq aa WM j j c T:=
 ⟨λf WI r W W W=>o f WI r,λf WI r W W W=>⟨WI.slots,o f WI r⟩,λ_ W W u W=>u,λf WI r W=>⟨WI,o f WI r⟩,λ_ W r=>r,λ_ W W r=>r,λ_ Wj r=>⟨#[],by rw[r];simp⟩⟩
def fq.refl:fq aa WM j j c c:=fq.kept λ_ W r=>r
theorem fq.laid(o:∀f L,c.get? f=Z L->T.get? f=Z L)(b:c.objs.size<=g)(a:j g=Y):fq aa WM j (upd j g p) c T where
 keep:=λf L r W W W=>o f L r
 slot:=λf L r W W W=>⟨L.slots,o f L r⟩
 free:=λf L r u W=>by rw[dq (dg<|eK (b4 r) b)];exact u
 there:=λf L r W=>⟨L,o f L r⟩
 kV:=λf z r=>by rw[dq (hF r a)];exact r
 kc:=λf L z r=>by rw[dq (hF r a)];exact r
 l6:=λf Wj r=>⟨#[],by rw[dq (hF r a),r];simp⟩
def fq.write(a:sR (j e))(k:d=e\/j d=Z (.own e))(o:∀f L,f≠d->c.get? f=Z L->T.get? f=Z L)(l:∃L,T.get? d=Z L):fq aa WM j (upd j e p) c T:=by
 have g:∀f,j f=Y->f≠e:=λf u x=>by subst x;rw[u]at a;exact a
 have h:∀f,j f=Y->f≠d:=λf u x=>by
  subst x;rcases k with m|m
  ·exact g f u m
  ·rw[u]at m;cases m
 have b:∀f L,j f=Z L->¬ sR (Z L)->f≠e:=λf L r w x=>by subst x;rw[r]at a;exact w a
 refine⟨λf L r u W W=>o f L (h f u) r,λf L r u W W=>⟨L.slots,o f L (h f u) r⟩,λf L r u W=>by rw[dq (g f u)];exact u,λf L r W=>?_,
  λf z r=>by rw[dq (b f _ r λx=>x)];exact r,λf L z r=>by rw[dq (b f _ r λx=>x)];exact r,λf Wj r=>⟨#[],by rw[dq (b f _ r λx=>x),r];simp⟩⟩;by_cases i:f=d
 ·subst i;exact l
 ·exact⟨L,o f L i r⟩
end
def we(c:aY)(j:aC):List af:=((range c.objs.size).filter λg=>(j g).isSome)
def lL(c:aY)(j:aC):aY:=(PySem.W.hideAll c (we c j))
def To(c:aY)(j:aC):(lL c j).objs.size=c.objs.size:=PySem.W.hideAll_size _ _
def Sn{p:a9}(d:c.get? f=Z p)(u:j f=Y):(lL c j).get? f=Z p:=
 PySem.W.hideAll_get _ d λa=>by
  have r:(j f).isSome=X:=(jw.mp a).2;rw[u]at r;simp at r
def SU{p:a9}(d:(lL c j).get? f=Z p):c.get? f=Z p/\j f=Y:=by
 have a:c.get? f=Z p:=PySem.W.of_hideAll (we c j) d;refine⟨a,?_⟩;cases r:j f with
 |none=>rfl
 |some e=>
  have b:f∈we c j:=jw.mpr ⟨eV.mpr<|b4 a,by simp[r]⟩;have x:(lL c j).get? f=Y:=PySem.W.hideAll_none (we c j) b;rw[x]at d;cases d
def Vi(F c:aY)(J:af):List (af×a9):=((range c.objs.size).filterMap λg=>if g=J\/(F.get? g).isSome=X then Y else (c.get? g).map λp=>(g,p))
def cx(F c:aY)(J q:af):List (af×a9):=((Vi F c J).filter λs=>decide (s.1≠q))
structure Mod(V2:Φ)(aJ:aI->Option ae)(Wh:aY):Prop where
 w1:V2.In Wh
 glob:Wh.Ns dZ aJ
 blt:∃fK,Wh.Ns wy fK/\∀e:aI,e ≠ "__name__" -> fK e=fk e
 nolimit:Wh.NoLimit
structure aQ where
 prog:bJ
 w:bl
 K:Φ
 aJ:aI->Option ae
 base:aY
 A:bD
 N:List aI
 e2:aq
 qq:aC
 env:eT
 outer:List eT
 stack:List eT
 ex:List af
 fn:aI->Bool
 calm:Bool
 kY:List (af×a9)
 cJ:ae->aq->Prop
variable{b:aQ}
def iG(H:List eT):List af:=(H.filterMap (·.frame))
abbrev aQ.aa(b:aQ):List af:=iG b.outer
def sq(E:g_)(e:aI):Prop:=(E.names.lookup e=Z .local\/E.names.lookup e=Z .cell\/E.names.lookup e=Z .free)
def hy(E:g_)(e:aI):Prop:=(E.names.lookup e=Z .local\/E.names.lookup e=Z .cell)
def PI(V8:eT)(c:aY)(k:aI->Option ae)(e:aI)(L:ae):Prop:=(
 (V8.kindOf e=Z .local/\k e=Z L)\/((V8.kindOf e=Z .cell\/V8.kindOf e=Z .free)/\∃h,V8.cells.lookup e=Z h/\c.IsCell h (Z L)))
structure aQ.Ok(b:aQ):Prop where
 mod:Mod b.K b.aJ b.base
 kind:b.env.scope.kind=.function
 glob:b.env.globals=dZ
 blt:b.env.builtins=wy
 above:b.e2.heap.objs.size<=b.env.locals
 inj:∀e l h,b.env.cells.lookup e=Z h->b.env.cells.lookup l=Z h->e=l
 has:∀e,(b.env.kindOf e=Z .cell\/b.env.kindOf e=Z .free)->∃h,b.env.cells.lookup e=Z h
 qk:∀e h,b.fn e=X->b.env.cells.lookup e=Z h->b.e2.heap.objs.size<=h
 hd:b.calm=X->b.A.handled=Y
 frames:b.A.frames=Z b.stack
 sJ:b.stack=b.outer\/(b.stack=b.env::b.outer/\b.env.frame=Z b.env.locals)
 ze:∀f∈b.ex,f≠b.env.locals/\∀e h,b.env.cells.lookup e=Z h->h≠f
 bs:∀f p,b.base.get? f=Z p->b.e2.heap.get? f=Z p/\b.qq f=Y
 lD:b.base.objs.size<=b.e2.heap.objs.size
 pV:∀f p,b.base.get? f=Z p->f∉b.ex
 q0:∀f∈b.ex,f∉b.aa
 jl:b.e2.heap.FunFrames b.base b.outer
 nZ:∀f∈b.aa,b.qq f=Y
structure aK(b:aQ)(G:List (af×a9))(B:List (Option ao))(j:aC)(n:aq):Prop where
 ok:b.Ok
 os:n.os=b.e2.os
 bare:l3 n.gens
 base:fq b.aa b.ex b.qq j b.e2.heap n.heap
 loc:∃k,n.heap.Ns b.env.locals k/\∀(a:Nat) (e:aI) (v:ao),b.N[a]?=Z e->B[a]?=Z (Z v)->sq b.env.scope e->∃L,b5 v L/\PI b.env n.heap k e L
 cell:∀e h,b.env.cells.lookup e=Z h->∃v,n.heap.IsCell h v
 free:j b.env.locals=Y
 jj:∀e h,b.env.cells.lookup e=Z h->j h=Y
 pin:∀s∈b.kY++G,n.heap.get? s.1=Z s.2/\j s.1=Y/\s.1≠b.env.locals/\s.1∉b.aa/\∀v,s.2.data≠.cell v
 a5:ef b.prog b.w j n.heap
 len:B.length=b.N.length
section
variable{b:aQ}{G:List (af×a9)}{B:List (Option ao)}{j V1:aC}{n:aq}{T:aY}
def aQ.Ok.S0(ok:b.Ok){f:af}{p:a9}(d:b.base.get? f=Z p):f∉b.aa:=λa=>by
 have:=(ok.jl.mem a).1;rw[d]at this;cases this
def aK.bs(A:aK b G B j n):∀f p,b.base.get? f=Z p->n.heap.get? f=Z p/\j f=Y:=λf p d=>
 ⟨A.base.keep f p (A.ok.bs f p d).1 (A.ok.bs f p d).2 (A.ok.S0 d) (A.ok.pV f p d),A.base.free f p (A.ok.bs f p d).1 (A.ok.bs f p d).2 (A.ok.pV f p d)⟩
def aK.gc(A:aK b G B j n):∀f p,b.base.get? f=Z p->n.heap.get? f=Z p:=λf p d=>(A.bs f p d).1
def aK.mod(A:aK b G B j n):Mod b.K b.aJ b.base:=A.ok.mod
def aK.oI(A:aK b G B j n):b.K.In n.heap:=A.ok.mod.w1.keeps A.gc
def aK.lt(A:aK b G B j n):b.env.locals<n.heap.objs.size:=let ⟨_,a,_⟩:=A.loc;a.lt
def aK.ho(A:aK b G B j n):b.e2.heap.objs.size<=n.heap.objs.size:=dx A.ok.above (oP A.lt)
def aK.O3(A:aK b G B j n){g:af}(c:n.heap.objs.size<=g):g∉b.aa:=λa=>by
 let@⟨_,⟨@p,d,_⟩⟩:=A.ok.jl.mem a;exact absurd (eK (b4 d)<|dx A.ho c) (iN _)
def aK.nU(A:aK b G B j n):∀e h,b.env.cells.lookup e=Z h->h≠b.env.locals:=λe h d x=>by
 let⟨v,@p,a,hd⟩:=A.cell e h d;let⟨@k,⟨WN,Q,@Wt,c,f,W⟩,W⟩:=A.loc;rw[x,c]at a;cases a;rw[f]at hd;cases hd
def aK.jl(A:aK b G B j n):n.heap.FunFrames b.base b.outer:=by
 have all:∀(H:List eT),(∀f∈iG H,f∈b.aa)->b.e2.heap.FunFrames b.base H->n.heap.FunFrames b.base H:=by
  intro H;induction H with
  |nil=>intro W W;trivial
  |cons V8 m g=>
   intro av h;let@⟨i,⟨J,@p,a,k,l,hd⟩,V9⟩:=h;have c:J∈b.aa:=av J (by unfold iG;rw[rq,a];exact lh);let⟨@a4,d⟩:=A.base.slot J p l (A.ok.nZ J c) c λx=>A.ok.q0 J x c;exact⟨i,⟨J,_,a,k,d,hd⟩,g (λf e=>av f (by unfold iG;rw[rq,a];exact k0 _ e)) V9⟩
 exact all b.outer (λ_ e=>e) A.ok.jl
def aK.stack(A:aK b G B j n):n.heap.FunFrames b.base b.stack:=by
 rcases A.ok.sJ with d|⟨d,a⟩
 ·rw[d];exact A.jl
 ·rw[d];let⟨@k,c,W⟩:=A.loc;refine .cons (by rw[A.ok.kind];decide) a c ?_ A.jl;exact aY.get?_none_of_le (dx A.ok.lD A.ok.above)
def aK.yV(A:aK b G B j n):∀f∈iG b.stack,f∈b.env.locals::b.aa:=λf a=>by
 rcases A.ok.sJ with d|⟨d,c⟩
 ·rw[d]at a;exact k0 _ a
 ·rw[d]at a;unfold iG at a;rw[rq,c]at a;exact a
def aK.BK(A:aK b G B j n):∀f∈iG b.stack,j f=Y:=λf a=>by
 rcases b8.mp (A.yV f a) with d|a
 ·rw[d];exact A.free
 ·let@⟨_,⟨@p,c,_⟩⟩:=A.ok.jl.mem a;exact A.base.free f p c (A.ok.nZ f a) λx=>A.ok.q0 f x a
def aK.step(A:aK b G B j n)(t:∀f∈Xn,(f∈b.ex\/b.e2.heap.objs.size<=f)/\f≠b.env.locals/\(∀e h,b.env.cells.lookup e=Z h->h≠f)/\∀s∈b.kY++G,s.1≠f)(keep:∀f p,f≠b.env.locals->f∉b.aa->f∉Xn->n.heap.get? f=Z p->j f=Y->T.get? f=Z p)(Xl:∀f p,f≠b.env.locals->f∈b.aa->f∉Xn->n.heap.get? f=Z p->j f=Y->∃a4,T.get? f=Z {p with slots:=a4})(E:∀f p,f∉Xn->n.heap.get? f=Z p->j f=Y->V1 f=Y)(P:∀f p,f∉Xn->n.heap.get? f=Z p->∃WN,T.get? f=Z WN)(kV:∀f z,j f=Z (.tup z)->V1 f=Z (.tup z))(kc:∀f p L,j f=Z (.cU p L)->V1 f=Z (.cU p L))(l6:∀f Wj,j f=Z (.oU Wj)->∃Q,V1 f=Z (.oU<|Wj++Q))(Wi:∀k,n.heap.Ns b.env.locals k->T.Ns b.env.locals k)(a5:ef b.prog b.w V1 T)(R:l3 Xo):
  aK b G B V1 {n with heap:=T,gens:=Xo,drawn:=W3,toks:=WE}:=by
 have I:∀f p,b.e2.heap.get? f=Z p->f≠b.env.locals:=λf p d=>dg (eK (b4 d) A.ok.above);have F:∀f p,b.e2.heap.get? f=Z p->f∉b.ex->f∉Xn:=λf p d c i=>by
  rcases (t f i).1 with x|x
  ·exact c x
  ·exact absurd (eK (b4 d) x) (iN _)
 have J:∀e h,b.env.cells.lookup e=Z h->∀v,n.heap.IsCell h v->T.IsCell h v:=λe h d v ⟨p,l,hd⟩=>by
  have y:h∉Xn:=λx=>(t h x).2.2.1 e h d rfl;by_cases M:h∈b.aa
  ·let⟨@a4,r⟩:=Xl h p (A.nU e h d) M y l (A.jj e h d);exact⟨_,r,hd⟩
  ·exact⟨p,keep h p (A.nU e h d) M y l<|A.jj e h d,hd⟩
 refine⟨A.ok,A.os,R,⟨λf p d u i c=>?_,λf p d u i c=>?_,λf p d u c=>?_,λf p d c=>?_,λf z d=>kV f z<|A.base.kV f z d,λf p z d=>kc f p z<|A.base.kc f p z d,λf Wj d=>?_⟩,?_,λe h d=>?_,?_,λe h d=>?_,λs N=>?_,a5,A.len⟩
 ·exact keep f p (I f p d) i (F f p d c) (A.base.keep f p d u i c) (A.base.free f p d u c)
 ·let⟨@a4,g⟩:=A.base.slot f p d u i c;let⟨@S,C⟩:=Xl f _ (I f p d) i (F f p d c) g (A.base.free f p d u c);exact⟨S,C⟩
 ·let⟨@WN,g⟩:=A.base.there f p d c;exact E f WN (F f p d c) g (A.base.free f p d u c)
 ·let⟨@WN,g⟩:=A.base.there f p d c;exact P f WN (F f p d c) g
 ·let⟨@U,g⟩:=A.base.l6 f Wj d;let⟨@al,C⟩:=l6 f _ g;exact⟨U++al,by rw[C,Array.append_assoc]⟩
 ·let⟨@k,am,an⟩:=A.loc;refine⟨k,Wi k am,λa e v g C ap=>?_⟩;let⟨@L,m,H⟩:=an a e v g C ap;refine⟨L,m,?_⟩;rcases H with H|⟨o,h,d,x⟩
  ·exact .inl H
  ·exact .inr ⟨o,h,d,J e h d _ x⟩
 ·let⟨@v,x⟩:=A.cell e h d;exact⟨v,J e h d v x⟩
 ·let⟨@k,⟨p,W,@W,l,W⟩,W⟩:=A.loc;exact E _ p (λx=>(t _ x).2.1 rfl) l A.free
 ·let⟨v,@p,l,hd⟩:=A.cell e h d;exact E h p (λx=>(t h x).2.2.1 e h d rfl) l (A.jj e h d)
 ·let@⟨d,u,ne,O,q⟩:=A.pin s N;have y:s.1∉Xn:=λx=>(t s.1 x).2.2.2 s N rfl;exact⟨keep s.1 s.2 ne O y d u,E s.1 s.2 y d u,ne,O,q⟩
def aK.un(A:aK b G B j n)(L:fq b.aa [] j V1 n.heap T)(a5:ef b.prog b.w V1 T):aK b G B V1 {n with heap:=T,toks:=WE}:=by
 let⟨@k,⟨p,Q,@Wt,c,m⟩,W⟩:=id A.loc;let⟨@a4,g⟩:=L.any c A.free ↥0;exact A.step (Xo:=n.gens) (W3:=n.drawn) (Xn:=[]) (λ_ x=>nomatch x) (λf p W a W d u=>L.keep f p d u a ↥0) (λf p W a W d u=>L.slot f p d u a ↥0) (λf p W d u=>L.free f p d u ↥0) (λf p W d=>L.there f p d ↥0) L.kV L.kc L.l6 (λo h=>by
  let⟨WN,i,@l,e,WV⟩:=h;rw[c]at e;cases e;exact⟨_,i,l,g,WV⟩) a5 A.bare
def aK.call(A:aK b G B j n)(L:fq (iG b.stack) Xn j V1 n.heap T)(a5:ef b.prog b.w V1 T)(o:l3 Xo)(g:∀f∈Xn,(f∈b.ex\/b.e2.heap.objs.size<=f)/\f≠b.env.locals/\(∀e h,b.env.cells.lookup e=Z h->h≠f)/\∀s∈b.kY++G,s.1≠f):
  aK b G B V1 {n with heap:=T,gens:=Xo,drawn:=W3,toks:=WE}:=by
 let⟨@k,⟨p,Q,@Wt,i,m⟩,W⟩:=id A.loc;let⟨@a4,c⟩:=L.any i A.free λx=>(g _ x).2.1 rfl;exact A.step (Xn:=Xn) g (λf p c q a d u=>L.keep f p d u (λx=>(b8.mp<|A.yV f x).elim c q) a) (λf p W W a d u=>L.any d u a) (λf p a d u=>L.free f p d u a) (λf p a d=>L.there f p d a) L.kV L.kc L.l6 (λy r=>by
  let⟨WN,t,@v,l,WV⟩:=r;rw[i]at l;cases l;exact⟨_,t,v,c,WV⟩) a5 o
def aK.turned{ag:af}(A:aK b G B j n)(o:∀f p,f≠ag->n.heap.get? f=Z p->T.get? f=Z p)(i:j ag=Y)(c:ag≠b.env.locals)(t:ag∈b.ex\/b.e2.heap.objs.size<=ag)(C:∀e h,b.env.cells.lookup e=Z h->h≠ag)(l:∀s∈b.kY++G,s.1≠ag):aK b G B j {n with heap:=T,toks:=WE}:=by
 have g:∀f L,j f=Z L->f≠ag:=λf L d x=>by rw[x,i]at d;cases d
 refine A.step (Xo:=n.gens) (W3:=n.drawn) (Xn:=[ag]) (λf q=>?_) (λf p W W a d W=>o f p (λx=>a (by simp[x])) d) (λf p W W a d W=>⟨p.slots,o f p (λx=>a (by simp[x])) d⟩) (λ_ W W W u=>u)
  (λf p a d=>⟨p,o f p (λx=>a (by simp[x])) d⟩) (λ_ W d=>d) (λ_ W W d=>d) (λf Wj d=>⟨#[],by rw[d];simp⟩) (λk w=>?_) (λf L d=>?_) A.bare
 ·have d:f=ag:=by simpa using q
  subst d;exact⟨t,c,C,l⟩
 ·let⟨p,Q,@Wt,y,m⟩:=w;exact⟨p,Q,Wt,o _ p (Ne.symm c) y,m⟩
 ·refine (A.a5 f L d).hb (λh v a r=>o h v ?_ r) (λ_ r=>r) λ_ W r=>r;rcases a with x|x
  ·rw[x];exact g f L d
  ·exact g h _ x
def aK.tok(A:aK b G B j n)(E:Nat):aK b G B j {n with toks:=E}:=A.un (T:=n.heap) (WE:=E) fq.refl A.a5
def aK.kept(A:aK b G B j n)(o:∀f L,n.heap.get? f=Z L->T.get? f=Z L):aK b G B j {n with heap:=T,toks:=WE}:=A.un (fq.kept o) (A.a5.kept o)
def aK.laid(A:aK b G B j n)(o:∀f L,n.heap.get? f=Z L->T.get? f=Z L)(a:n.heap.objs.size<=g)(new:el b.prog b.w (upd j g p) T g p):
  aK b G B (upd j g p) {n with heap:=T,toks:=WE}:=A.un (fq.laid o a<|A.a5.fresh a) (A.a5.laid o a new)
def aK.write{e d:af}(A:aK b G B j n)(a:sR (j e))(c:d=e\/j d=Z (.own e))(o:∀f L,f≠d->n.heap.get? f=Z L->T.get? f=Z L)(g:∃L,T.get? d=Z L)(new:el b.prog b.w (upd j e p) T e p):aK b G B (upd j e p) {n with heap:=T,toks:=WE}:=A.un (fq.write a c o g) (A.a5.write a c o g new)
def aK.weak{c:List (Option ao)}(A:aK b G B j n)(d:c.length=B.length)(D:∀(a:Nat) v,c[a]?=Z (Z v)->B[a]?=Z (Z v)):aK b G c j n:=
 ⟨A.ok,A.os,A.bare,A.base,let ⟨k,f,g⟩:=A.loc;⟨k,f,λa e v h i l=>g a e v h (D a v i) l⟩,A.cell,A.free,A.jj,A.pin,A.a5,d.trans A.len⟩
def aK.qE{a:List (af×a9)}(A:aK b G B j n)(c:∀s∈a,n.heap.get? s.1=Z s.2/\j s.1=Y/\s.1≠b.env.locals/\s.1∉b.aa/\∀v,s.2.data≠.cell v):aK b a B j n:=
 ⟨A.ok,A.os,A.bare,A.base,A.loc,A.cell,A.free,A.jj,λs d=>(c5.mp d).elim (λx=>A.pin s<|gz _ x)<|c s,A.a5,A.len⟩
def F0(b:Ww.Nodup){a i:Nat}{e:aI}(g:Ww[a]?=Z e)(f:Ww[i]?=Z e):a=i:=by
 let⟨@t,c⟩:=fs.mp g;let⟨@C,d⟩:=fs.mp f;exact (xS b).mp (c.trans d.symm)
variable{y:Unit->aq->Prop}
def CK{aw:gu}(A:aK b G B j n)(a1:b.N.Nodup)(V0:b.N[a]?=Z e)(E:hy b.env.scope e)(m:b5 v L)(c:∀V5,aK b G (B.set a<|Z v) j V5->(∃g,aY.SameBut g n.heap V5.heap/\(g=b.env.locals\/b.env.cells.lookup e=Z g))->y () V5)(bv:b.fn e=X\/b.env.scope.names.lookup e=Z .local:=by first|exact .inl rfl|exact .inr rfl|assumption):wpAny aw O (AS b.env e L) y U n:=by
 let⟨@k,Q,a2⟩:=id A.loc;have ca:(b.env.scope.kind==.class || (b.env.scope.kind==.module&&b.env.locals != b.env.globals))=au:=by rw[A.ok.kind];rfl
 have bd:a<B.length:=by rw[A.len];exact (fs.mp V0).1
 have nU:=A.nU;have be:∀{g:af}{T:aY},(∃p,n.heap.get? g=Z p/\j g=Y)->aY.SameBut g n.heap T->ef b.prog b.w j T:=λ{g T} cd av f WI d=>by
  let⟨@W,W,bi⟩:=cd;refine (A.a5 f WI d).hb (λh M C r=>(av.2 h ?_).trans r) (λ_ r=>r) λ_ W r=>r;rintro rfl;rcases C with rfl|C
  ·rw[bi]at d;cases d
  ·rw[bi]at C;cases C
 rcases E with H|H
 ·refine wpAny_storeName_local H Q (λT ce av=>?_) ca;let⟨ch,W,@W,ci,W⟩:=id Q;refine c _ ⟨A.ok,A.os,A.bare,⟨λf p d u I E=>?_,λf p d u I E=>?_,A.base.free,λf p d E=>?_,A.base.kV,A.base.kc,A.base.l6⟩,⟨_,ce,λi l R z F al=>?_⟩,λl h d=>?_,A.free,A.jj,λs am=>?_,be ⟨ch,ci,A.free⟩ av,by simpa using A.len⟩ ⟨_,av,.inl rfl⟩
  ·exact (av.2 f<|dg<|eK (b4 d) A.ok.above).trans (A.base.keep f p d u I E)
  ·let⟨@a4,z⟩:=A.base.slot f p d u I E;exact⟨a4,(av.2 f<|dg<|eK (b4 d) A.ok.above).trans z⟩
  ·let⟨@WN,z⟩:=A.base.there f p d E;exact⟨WN,(av.2 f<|dg<|eK (b4 d) A.ok.above).trans z⟩
  ·by_cases J:i=a
   ·subst J;rw[V0]at z;cases z;rw[tG bd]at F;cases F;exact⟨L,m,.inl ⟨H,by simp⟩⟩
   ·rw[oE (Ne.symm J)]at F;let⟨@an,WV,r⟩:=a2 i l R z F al;refine⟨an,WV,?_⟩;rcases r with ⟨o,d⟩|⟨o,h,d,x⟩
    ·refine .inl ⟨o,?_⟩;have:l≠e:=λd=>J (F0 a1 z<|d ▸ V0);simp[this,d]
    ·exact .inr ⟨o,h,d,x.sameBut av<|nU l h d⟩
  ·let⟨@M,x⟩:=A.cell l h d;exact⟨M,x.sameBut av<|nU l h d⟩
  ·let@⟨d,u,ne,ap,q⟩:=A.pin s am;exact⟨(av.2 s.1 ne).trans d,u,ne,ap,q⟩
 ·have as:b.fn e=X:=by
   rcases bv with x|x
   ·exact x
   ·rw[x]at H;cases H
  let⟨@h,C⟩:=A.ok.has e (.inl H);let⟨@M,x⟩:=A.cell e h C;refine wpAny_storeName_cell A.ok.kind H C x (λT bm av=>?_);let⟨@t,bn,cl⟩:=id x;refine c {n with heap:=T} ⟨A.ok,A.os,A.bare,⟨λf p d u I E=>?_,λf p d u I E=>?_,A.base.free,λf p d E=>?_,A.base.kV,A.base.kc,A.base.l6⟩,⟨k,Q.sameBut av<|Ne.symm<|nU e h C,λi l R z F al=>?_⟩,λl P d=>?_,A.free,A.jj,λs am=>?_,be ⟨t,bn,A.jj e h C⟩ av,by simpa using A.len⟩ ⟨h,av,.inr C⟩
  ·exact (av.2 f<|dg<|eK (b4 d)<|A.ok.qk e h as C).trans (A.base.keep f p d u I E)
  ·let⟨@a4,z⟩:=A.base.slot f p d u I E;exact⟨a4,(av.2 f<|dg<|eK (b4 d)<|A.ok.qk e h as C).trans z⟩
  ·let⟨@WN,z⟩:=A.base.there f p d E;exact⟨WN,(av.2 f<|dg<|eK (b4 d)<|A.ok.qk e h as C).trans z⟩
  ·by_cases J:i=a
   ·subst J;rw[V0]at z;cases z;rw[tG bd]at F;cases F;exact⟨L,m,.inr ⟨.inl H,h,C,bm⟩⟩
   ·rw[oE (Ne.symm J)]at F;let⟨@an,WV,r⟩:=a2 i l R z F al;refine⟨an,WV,?_⟩;rcases r with r|⟨o,P,d,co⟩
    ·exact .inl r
    ·refine .inr ⟨o,P,d,co.sameBut av ?_⟩;rintro rfl;exact J (F0 a1 z<|A.ok.inj _ _ _ d C ▸ V0)
  ·by_cases bs:P=h
   ·subst bs;exact⟨_,bm⟩
   ·let⟨@cr,cs⟩:=A.cell l P d;exact⟨cr,cs.sameBut av bs⟩
  ·let@⟨d,u,ne,ap,q⟩:=A.pin s am;refine⟨(av.2 s.1 ?_).trans d,u,ne,ap,q⟩;intro r;rw[r,bn]at d;have db:t=s.2:=Option.some.inj d;exact q M (by rw[<-db];exact cl)
def Bc{aw:gu}(A:aK b G B j n)(d:b.N.Nodup)(V0:b.N[a]?=Z e)(f:hy b.env.scope e)(m:b5 v L)(c:∀V5,aK b G (B.set a<|Z v) j V5->y () V5)(g:b.fn e=X\/b.env.scope.names.lookup e=Z .local:=by first|exact .inl rfl|exact .inr rfl|assumption):wpAny aw O (AS b.env e L) y U n:=
 CK A d V0 f m (λV5 h W=>c V5 h) g
def aK.Q3(A:aK b G B j n)(a:V5.os=n.os)(L:fq (iG b.stack) Xn j V1 n.heap V5.heap)(a5:ef b.prog b.w V1 V5.heap)(c:l3 V5.gens)(g:∀f∈Xn,(f∈b.ex\/b.e2.heap.objs.size<=f)/\f≠b.env.locals/\(∀e h,b.env.cells.lookup e=Z h->h≠f)/\∀s∈b.kY++G,s.1≠f):aK b G B V1 V5:=by
 let⟨T,Xo,W3,WE,WN⟩:=V5;have d:WN=n.os:=a;subst d;exact A.call (Xo:=Xo) (WE:=WE) (W3:=W3) L a5 c g
end
abbrev gv:=ae->Option af->aC->Prop
abbrev bg:=List (Option ao)
variable{B:bg}
abbrev cH:=ao->aC->Prop
abbrev b6:=bg->aC->cH->Prop
variable{Xg:b6}
abbrev er:=bg->aC->(Bool->aC->Prop)->Prop
variable{XB:er}
abbrev eZ:=bg->aC->(List ao->aC->Prop)->Prop
structure oq where
 bB:bg->aC->Prop
 a_:cH
 gc:bg->aC->Prop:=λ_ _=>False
 cq:bg->aC->Prop:=λ_ _=>False
abbrev fa:=oq->bg->aC->Prop
variable{Xi:fa}
def en(b:aQ)(G:List (af×a9))(B:bg)(y:cH)(L:ae)(V5:aq):Prop:=(∃v V1,aK b G B V1 V5/\b5 v L/\y v V1)
def wI(b:aQ)(G:List (af×a9))(B:bg)(y:Bool->aC->Prop)(f:Bool)(V5:aq):Prop:=(∃V1,aK b G B V1 V5/\y f V1)
def OS(b:aQ)(G:List (af×a9))(B:bg)(y:List ao->aC->Prop)(Wl:List ae)(V5:aq):Prop:=(∃V4 V1,aK b G B V1 V5/\bY V4 Wl/\y V4 V1)
def o5(b:aQ)(G:List (af×a9))(w:oq)(I:Flow)(V5:aq):Prop:=(
 match I with
 |.next=>∃a V1,aK b G a V1 V5/\w.bB a V1
 |.brk=>∃a V1,aK b G a V1 V5/\w.gc a V1
 |.cont=>∃a V1,aK b G a V1 V5/\w.cq a V1
 |.ret L=>∃v a V1,aK b G a V1 V5/\b5 v L/\w.a_ v V1)
def xC(b:aQ)(d:bu)(E:b6)(G:List (af×a9)):Prop:=(
 ∀(n:aq) (B:bg) (j:aC) (y:cH),aK b G B j n->E B j y->wpAny (aR b.prog b.w) b.A (cb d b.env) (en b G B y) b.cJ n)
def bP(b:aQ)(d:bu)(E:b6):Prop:=(∀G,xC b d E G)
def FP(b:aQ)(d:bu)(E:er)(G:List (af×a9)):Prop:=(
 ∀(n:aq) (B:bg) (j:aC) (y:Bool->aC->Prop),aK b G B j n->E B j y->wpAny (aR b.prog b.w) b.A (q2 d b.env<|cb d b.env) (wI b G B y) b.cJ n)
def hJ(b:aQ)(d:bu)(E:er):Prop:=(∀G,FP b d E G)
def Ek(b:aQ)(d:bu)(E:er)(a:dr ae):Prop:=(
 ∀(G:List (af×a9)) (n:aq) (B:bg) (j:aC) (y:Bool->aC->Prop),aK b G B j n->E B j y->wpAny (aR b.prog b.w) b.A (q2 d b.env a) (wI b G B y) b.cJ n)
def j5(b:aQ)(d:bu)(E:er):Prop:=(∀a,Ek b d E a)
def j5.pt{E:er}(c:j5 b d E):hJ b d E:=c _
def GQ(b:aQ)(Q:List bu)(E:eZ)(Wk:Pos):Prop:=(
 ∀(G:List (af×a9)) (n:aq) (B:bg) (j:aC) (y:List ao->aC->Prop),aK b G B j n->E B j y->wpAny (aR b.prog b.w) b.A (spliced<|fI Wk<|bV Q b.env) (OS b G B y) b.cJ n)
def hR(b:aQ)(Q:List bu)(E:eZ):Prop:=(∀Wk,GQ b Q E Wk)
def Fd(b:aQ)(N:cA)(E:fa)(G:List (af×a9)):Prop:=(
 ∀(n:aq) (B:bg) (j:aC) (w:oq),aK b G B j n->E w B j->wpAny (aR b.prog b.w) b.A (exec N b.env) (o5 b G w) b.cJ n)
def hU(b:aQ)(N:cA)(E:fa):Prop:=(∀G,Fd b N E G)
def FI(b:aQ)(N:List cA)(E:fa)(G:List (af×a9)):Prop:=(
 ∀(n:aq) (B:bg) (j:aC) (w:oq),aK b G B j n->E w B j->wpAny (aR b.prog b.w) b.A (execs N b.env) (o5 b G w) b.cJ n)
def h9(b:aQ)(N:List cA)(E:fa):Prop:=(∀G,FI b N E G)
def bU{Wr:Type}{E:dr Wr}{y a:Wr->aq->Prop}{aw:gu}(c:wpAny aw O E y U n)(b:∀g n,y g n->a g n):wpAny aw O E a U n:=gR c b λ_ W e=>e
section
variable{b:aQ}
def kk(a:Nat):b6:=(λB j y=>∃v,B[a]?=Z (Z v)/\y v j)
def oa(v:ao):b6:=(λ_ j y=>y v j)
def Cu(o:b.N[a]?=Z e)(p:sq b.env.scope e)(hd:(e==("__debug__" : aI))=au:=by decide)(q:(e==("__classdict__" : aI))=au:=by decide):bP b (.Name e Wk) (kk a):=by
 intro G n B j y A c;let⟨@v,d,c⟩:=c;let⟨@k,r,s⟩:=A.loc;let⟨@L,m,H⟩:=s a e v o d p;have g:en b G B y L n:=⟨v,j,A,m,c⟩;rcases H with ⟨f,t⟩|⟨f,h,i,l⟩
 ·exact A_ (HF A.ok.kind f r t g) hd
 ·rcases f with f|f
  ·exact A_ (H7 A.ok.kind f i l g) hd
  ·exact A_ (wpAny_loadName_free A.ok.kind f i l g q) hd
def n6{a i Wk}:bP b (.Constant (.int a) i Wk) (oa<|.int a):=λ_ W W j W A c=>wpAny_Constant_int ⟨.int a,j,A.tok _,⟨_,rfl⟩,c⟩
def Py{f i Wk}:bP b (.Constant (.bool f) i Wk) (oa<|.aB f):=λ_ W W j W A c=>Constant_bool ⟨.aB f,j,A,rfl,c⟩
def Nf{i Wk}:bP b (.Constant .none i Wk) (oa .aV):=λ_ W W j W A c=>Constant_none ⟨.aV,j,A,rfl,c⟩
def fc(b:aQ)(e:aI):Prop:=(b.env.kindOf e=Z .globalImplicit)
def Ey(A:aK b G B j n)(a:fc b e)(d:b.aJ e=Z L)(c:y L n)(hd:(e==("__debug__" : aI))=au:=by decide):wpAny (aR b.prog b.w) b.A (cb (.Name e Wk) b.env) y U n:=
 Df A.ok.kind a (Calls.loadGlobal_global (by rw[A.ok.glob];exact A.mod.glob.keeps A.gc) d c) hd
def nJ(A:aK b G B j n)(a:fc b e)(d:b.aJ e=Y)(f:fk e=Z L)(c:y L n)(g:e ≠ "__name__" := by decide)(hd:(e==("__debug__" : aI))=au:=by decide):wpAny (aR b.prog b.w) b.A (cb (.Name e Wk) b.env) y U n:=by
 let⟨@fK,t,C⟩:=A.mod.blt;exact Df A.ok.kind a (Calls.loadGlobal_builtin (by rw[A.ok.glob];exact A.mod.glob.keeps A.gc) d (by rw[A.ok.blt];exact t.keeps A.gc) ((C e g).trans f) c) hd
def Cw(a:fc b e)(d:b.aJ e=Z L)(m:b5 v L)(hd:(e==("__debug__" : aI))=au:=by decide):bP b (.Name e Wk) (oa v):=
 λ_ W W j W A c=>Ey A a d ⟨v,j,A,m,c⟩ hd
def UY(a:fc b e)(d:b.aJ e=Y)(f:fk e=Z L)(m:b5 v L)(g:e ≠ "__name__" := by decide)(hd:(e==("__debug__" : aI))=au:=by decide):bP b (.Name e Wk) (oa v):=
 λ_ W W j W A c=>nJ A a d f ⟨v,j,A,m,c⟩ g hd
variable{g f:bu}{WZ Xi:b6}{Wk:Pos}
def aU(E:b6):er:=(λB j y=>E B j λe Wc=>∃h,e=.aB h/\y h Wc)
variable{hx i:er}{cx:List bu}
def Ca(E L:er):er:=(λB j y=>E B j λh Wc=>if h=X then L B Wc y else y au Wc)
def JU(E L:er):er:=(λB j y=>E B j λh Wc=>if h=X then y X Wc else L B Wc y)
def Qb(E:er):er:=(λB j y=>E B j λh Wc=>y (!h) Wc)
def UE(a:hJ b g hx):j5 b (.BoolOp .And [g] Wk) hx:=by
 intro e G n B j y A c;refine isTrue_and (bU (a G n B j y A c) λh f d=>?_);cases h with
 |true=>exact isTrue_and_nil d
 |false=>exact d
def N2(a:hJ b g hx):j5 b (.BoolOp .Or [g] Wk) hx:=by
 intro e G n B j y A c;refine isTrue_or (bU (a G n B j y A c) λh f d=>?_);cases h with
 |false=>exact isTrue_or_nil d
 |true=>exact d
def OG(e:hJ b g hx)(k:j5 b (.BoolOp .And (f::cx) Wk) i):j5 b (.BoolOp .And (g::f::cx) Wk) (Ca hx i):=by
 intro l G n B j y A c;refine isTrue_and (bU (e G n B j _ A c) λh m o=>?_);let⟨@Wc,a,d⟩:=o;cases h with
 |true=>exact k l G m B Wc y a d
 |false=>exact⟨Wc,a,d⟩
def OB(e:hJ b g hx)(k:j5 b (.BoolOp .Or (f::cx) Wk) i):j5 b (.BoolOp .Or (g::f::cx) Wk) (JU hx i):=by
 intro l G n B j y A c;refine isTrue_or (bU (e G n B j _ A c) λh m o=>?_);let⟨@Wc,a,d⟩:=o;cases h with
 |true=>exact⟨Wc,a,d⟩
 |false=>exact k l G m B Wc y a d
def SP(a:hJ b g hx):hJ b (.UnaryOp .Not g Wk) (Qb hx):=by
 intro G n B j y A c;exact isTrue_not (a G n B j (λh Wc=>y (!h) Wc) A c)
def MB(WZ Xi:b6):b6:=(λB j y=>WZ B j λe Wc=>∃h,e=.aB h/\if h=X then Xi B Wc y else y (.aB au) Wc)
def M8(WZ:b6):b6:=(λB j y=>WZ B j λe Wc=>∃h,e=.aB h/\y (.aB<|!h) Wc)
def K8{WR}{E:b6}(c:bP b g E):bP b (.BoolOp WR [g] Wk) E:=λG n B j y A a=>BoolOp_one (c G n B j y A a)
def UD(i:bP b g WZ)(k:bP b (.BoolOp .And (f::cx) Wk) Xi):bP b (.BoolOp .And (g::f::cx) Wk) (MB WZ Xi):=by
 intro G n B j y A c;refine BoolOp_and (bU (i G n B j _ A c) λv l m=>?_);let⟨e,@Wc,d,o,a⟩:=m;let⟨@h,rfl,a⟩:=a;cases o;refine mX ?_;cases h with
 |true=>exact k G l B Wc y d a
 |false=>exact⟨.aB au,Wc,d,rfl,a⟩
def Tu(d:bP b g WZ):bP b (.UnaryOp .Not g Wk) (M8 WZ):=by
 intro G n B j y A c;refine UnaryOp_ (bU (d G n B j _ A c) λv l f=>?_);let⟨e,@Wc,i,k,a⟩:=f;let⟨@h,rfl,a⟩:=a;cases k;exact not_of (mX ⟨.aB<|!h,Wc,i,rfl,a⟩)
def Q2(E:er)(WZ Xi:b6):b6:=(λB j y=>E B j λh Wc=>if h=X then WZ B Wc y else Xi B Wc y)
def P0(i:hJ b h hx)(k:bP b g WZ)(l:bP b f Xi):bP b (.IfExp h g f Wk) (Q2 hx WZ Xi):=by
 intro G n B j y A c;refine wpAny_IfExp (bU (i G n B j _ A c) λq a m=>?_);let⟨@Wc,d,e⟩:=m;cases q with
 |true=>exact k G a B Wc y d e
 |false=>exact l G a B Wc y d e
end
def dE(V2:Φ)(j:aC)(g:af)(z:List ao):Prop:=(
 jx j g (.lst z)\/
  ∃(p:a9) (Wg:Array ae) (u:Nat),V2.lookup g=Z p/\p.cls=.type "list" /\ p.dict=Y/\p.data=.seq Wg u/\Wg.size<=sizeLine/\bY z Wg.toList)
def cz(V2:Φ)(j:aC)(g:af)(z:List ao):Prop:=(
 jx j g (.tup z)\/
  ∃(p:a9) (Wg:Array ae) (u:Nat),V2.lookup g=Z p/\p.cls=.type "tuple" /\ p.data=.seq Wg u/\Wg.size<=sizeLine/\bY z Wg.toList)
def OL:ae->Option ao
 |.none=>Z .aV
 |.bool f=>Z (.aB f)
 |.int a _=>Z (.int a)
 |.str e _=>Z (.str e)
 |.bytes f _=>Z (.sl f)
 |.float f _=>Z (.yr f)
 |.ref g=>Z (.ref g)
 |.type u=>Z (.ty u)
 |_=>Y
def b5.abs{e:ao}(m:b5 e L):OL L=Z e:=by
 cases e with
 |aV=>cases m;rfl
 |aB _=>cases m;rfl
 |int _=>let⟨@E,rfl⟩:=m;rfl
 |str _=>let⟨@E,rfl⟩:=m;rfl
 |sl _=>let⟨@E,rfl⟩:=m;rfl
 |yr _=>let⟨@E,rfl⟩:=m;rfl
 |ref _=>cases m;rfl
 |ty _=>cases m;rfl
def b5.inj{e:ao}(m:b5 e L)(r:b5 l L):e=l:=Option.some.inj (m.abs.symm.trans r.abs)
theorem bY.inj:∀{z Wm:List ao}{Wl:List ae},bY z Wl->bY Wm Wl->z=Wm
 |_,_,_,.nil,.nil=>rfl
 |_,_,_,.cons m E,.cons WV WE=>by rw[m.inj WV,bY.inj E WE]
section
variable{b:aQ}{G:List (af×a9)}{B:bg}{j:aC}{n:aq}{g:af}{z Wm:List ao}
def dE.of(c:j g=Z (.lst z)):dE V2 j g z:=.inl (.inl c)
def cz.of(c:j g=Z (.tup z)):cz V2 j g z:=.inl (.inl c)
def aK.list(A:aK b G B j n)(c:dE b.K j g z):∃Wg:List ae,bY z Wg/\PlainL n.heap g Wg.toArray/\z.length<=sizeLine:=by
 rcases c with c|⟨p,Wg,u,a,e,hd,av,f,m⟩
 ·let@⟨x,⟨Wg,@u,m,d⟩⟩:=c.ok A.a5;exact⟨Wg,m,⟨_,u,d,rfl,rfl,rfl⟩,x⟩
 ·refine⟨Wg.toList,m,⟨p,u,A.oI g p a,e,hd,by simpa using av⟩,?_⟩;have d:=m.length;simp only[dv]at d;lia
def aK.tuple(A:aK b G B j n)(c:cz b.K j g z):∃Wg:List ae,bY z Wg/\nK n.heap g Wg.toArray/\z.length<=sizeLine:=by
 rcases c with c|⟨p,Wg,u,a,e,av,f,m⟩
 ·let@⟨x,⟨@Wg,m,s⟩⟩:=c.ok A.a5;exact⟨Wg,m,s.tup,x⟩
 ·refine⟨Wg.toList,m,⟨p,A.oI g p a,e,u,by simpa using av⟩,?_⟩;have d:=m.length;simp only[dv]at d;lia
def aK.MC(A:aK b G B j n)(c:dE b.K j g z)(T:dE b.K j g Wm):z=Wm:=by
 let⟨@Wg,m,⟨p,@u,d,W,W,q⟩,W⟩:=A.list c;let⟨@w,WV,⟨WN,@e,a,W,W,W3⟩,W⟩:=A.list T;rw[d]at a;cases a;rw[q]at W3;injection W3 with WY _;have:Wg=w:=by simpa using congrArg Array.toList WY
 subst this;exact m.inj WV
def aK.ye(A:aK b G B j n)(c:cz b.K j g z)(T:cz b.K j g Wm):z=Wm:=by
 let⟨@Wg,m,⟨@p,d,W,⟨@u,q⟩⟩,W⟩:=A.tuple c;let⟨@w,WV,⟨@WN,a,W,⟨@e,W3⟩⟩,W⟩:=A.tuple T;rw[d]at a;cases a;rw[q]at W3;injection W3 with WY _;have:Wg=w:=by simpa using congrArg Array.toList WY
 subst this;exact m.inj WV
end
abbrev aQ.kR(b:aQ)(U:ae->aq->Prop):aQ:={b with cJ:=U}
abbrev aQ.od(b:aQ):aQ:=b.kR λ_ _=>False
def aQ.Ok.kR(ok:b.Ok)(U:ae->aq->Prop):(b.kR U).Ok:=
 ⟨ok.mod,ok.kind,ok.glob,ok.blt,ok.above,ok.inj,ok.has,ok.qk,ok.hd,ok.frames,ok.sJ,ok.ze,ok.bs,ok.lD,ok.pV,ok.q0,ok.jl,ok.nZ⟩
def aQ.Ok.mr(ok:(b.kR U).Ok):b.Ok:=
 ⟨ok.mod,ok.kind,ok.glob,ok.blt,ok.above,ok.inj,ok.has,ok.qk,ok.hd,ok.frames,ok.sJ,ok.ze,ok.bs,ok.lD,ok.pV,ok.q0,ok.jl,ok.nZ⟩
section
variable{b:aQ}{G:List (af×a9)}{B:bg}{j:aC}{n:aq}{U:ae->aq->Prop}
def aK.kR(A:aK b G B j n)(U:ae->aq->Prop):aK (b.kR U) G B j n:=⟨A.ok.kR U,A.os,A.bare,A.base,A.loc,A.cell,A.free,A.jj,A.pin,A.a5,A.len⟩
def aK.mr(A:aK (b.kR U) G B j n):aK b G B j n:=⟨A.ok.mr,A.os,A.bare,A.base,A.loc,A.cell,A.free,A.jj,A.pin,A.a5,A.len⟩
def o5.mr{w:oq}{I:Flow}(c:o5 (b.kR U) G w I V5):o5 b G w I V5:=by
 cases I with
 |next=>let⟨a,@V1,A,r⟩:=c;exact⟨a,V1,A.mr,r⟩
 |brk=>let⟨a,@V1,A,r⟩:=c;exact⟨a,V1,A.mr,r⟩
 |cont=>let⟨a,@V1,A,r⟩:=c;exact⟨a,V1,A.mr,r⟩
 |ret L=>let⟨v,a,@V1,A,m,r⟩:=c;exact⟨v,a,V1,A.mr,m,r⟩
def h9.od{N:List cA}{E:fa}(c:h9 b.od N E):h9 b N E:=λG n B j w A a=>
 gR (c G n B j w (A.kR _) a) (λ_ W r=>r.mr) λ_ W x=>False.elim x
end
section
variable{b:aQ}{N:cA}{cx:List cA}{E L:fa}{d:bu}{Xg:b6}{Wk:Pos}
def LH:fa:=(λw B j=>w.bB B j)
def Jd(E L:fa):fa:=(λw B j=>E {w with bB:=L w} B j)
def T5:h9 b [] LH:=λ_ W B j W A c=>uf ⟨B,j,A,c⟩
def Tv(t:hU b N E)(C:h9 b cx L):h9 b (N::cx) (Jd E L):=by
 intro G n B j w A c;refine Cs (bU (t G n B j {w with bB:=L w} A c) λI a r=>?_);cases I with
 |next=>
  let⟨d,@V1,e,r⟩:=r;exact C G a d V1 w e r
 |ret v=>exact r
 |brk=>exact r
 |cont=>exact r
def S6(t:hU b N E):h9 b [N] E:=by
 intro G n B j w A c;refine Cs (bU (t G n B j w A c) λI a r=>?_);cases I with
 |next=>exact uf r
 |ret v=>exact r
 |brk=>exact r
 |cont=>exact r
def aK.quiet(A:aK b G B j n):interactive b.env=au:=by simp[interactive,A.ok.kind]
def KN(Xg:b6):fa:=(λw B j=>Xg B j λ_ Wc=>w.bB B Wc)
def R4(a:bP b d Xg)(av:oR d Y Wk.line b.env=pure au:=by rfl):hU b (.Expr d Wk) (KN Xg):=by
 intro G n B j w A c;exact wpAny_Expr_any (bU (a G n B j _ A c) λv h ⟨e,Wc,f,i,g⟩=>⟨B,Wc,f,g⟩) A.quiet av
def RO(Xg:b6):fa:=(λw B j=>Xg B j w.a_)
def Qf(a:bP b d Xg):hU b (.Return (Z d) Wk) (RO Xg):=by
 intro G n B j w A c;exact wpAny_Return_some (bU (a G n B j _ A c) λv i ⟨e,Wc,f,g,h⟩=>⟨e,B,Wc,f,g,h⟩)
def Mo(h:er)(E L:fa):fa:=(λw B j=>h B j λf Wc=>if f=X then E w B Wc else L w B Wc)
def KI{g f:List cA}(i:hJ b h XB)(k:h9 b g E)(l:h9 b f L):hU b (.If h g f Wk) (Mo XB E L):=by
 intro G n B j w A c;refine wpAny_If (bU (i G n B j _ A c) λq a m=>?_);let⟨@Wc,d,e⟩:=m;cases q with
 |true=>exact k G a B Wc w d e
 |false=>exact l G a B Wc w d e
end
abbrev gW:=ao->bg->aC->(bg->aC->Prop)->Prop
abbrev k5:=List ao->bg->aC->(bg->aC->Prop)->Prop
def GU(b:aQ)(c:bu)(E:gW)(G:List (af×a9)):Prop:=(
 ∀(n:aq) (B:bg) (j:aC) (v:ao) (L:ae) (y:bg->aC->Prop),aK b G B j n->b5 v L->E v B j y->
  wpAny (aR b.prog b.w) b.A (hS c b.env L) (λ_ V5=>∃a V1,aK b G a V1 V5/\y a V1) b.cJ n)
def kd(b:aQ)(a:bu)(E:gW):Prop:=(∀G,GU b a E G)
def Eg(b:aQ)(c:List bu)(E:k5)(G:List (af×a9)):Prop:=(
 ∀(n:aq) (B:bg) (j:aC) (V4:List ao) (Wl:List ae) (y:bg->aC->Prop),aK b G B j n->bY V4 Wl->E V4 B j y->
  wpAny (aR b.prog b.w) b.A (assignInOrder ((fx c b.env).map (·.2)) Wl) (λ_ V5=>∃a V1,aK b G a V1 V5/\y a V1) b.cJ n)
def oy(b:aQ)(a:List bu)(E:k5):Prop:=(∀G,Eg b a E G)
abbrev zu:=ao->ao->ao->aC->(aC->Prop)->Prop
def zk(b:aQ)(E:zu):Prop:=(
 ∀(G:List (af×a9)) (n:aq) (B:bg) (j:aC) (p a v:ao) (c d L:ae) (y:aC->Prop),aK b G B j n->b5 p c->b5 a d->b5 v L->E p a v j y->
  wpAny (aR b.prog b.w) b.A (uJ c d L) (λ_ V5=>∃V1,aK b G B V1 V5/\y V1) b.cJ n)
abbrev vN:=ao->ao->aC->cH->Prop
def A1(b:aQ)(WR:pZ)(E:vN):Prop:=(
 ∀(G:List (af×a9)) (n:aq) (B:bg) (j:aC) (e l:ao) (v L:ae) (y:cH),aK b G B j n->b5 e v->b5 l L->E e l j y->
  wpAny (aR b.prog b.w) b.A (inplaceOp WR v L) (en b G B y) b.cJ n)
section
variable{b:aQ}{Wk:Pos}
def zy(a:Nat):gW:=(λv B j y=>y (B.set a<|Z v) j)
def yf(d:b.N.Nodup)(V0:b.N[a]?=Z e)(f:hy b.env.scope e)(g:b.fn e=X\/b.env.scope.names.lookup e=Z .local:=by first|exact .inl rfl|exact .inr rfl|assumption):kd b (.Name e Wk) (zy a):=by
 intro G n B j v L y A m c;exact Dr (Bc A d V0 f m (λV5 h=>⟨_,j,h,c⟩) g)
def LY:k5:=(λV4 B j y=>V4=[]/\y B j)
def PR(E:gW)(L:k5):k5:=(λV4 B j y=>∃v m,V4=v::m/\E v B j λa V1=>L m a V1 y)
def JQ:oy b [] LY:=by
 intro G n B j V4 Wl y A m c;let@⟨d,c⟩:=c;subst d;cases m;exact assignInOrder_nil ⟨B,j,A,c⟩
def zi{E:gW}{L:k5}(t:kd b d E)(C:oy b Q L)(av:(fx (d::Q) b.env).map (·.2)=hS d b.env::(fx Q b.env).map (·.2):=by rfl):oy b (d::Q) (PR E L):=by
 intro G n B j V4 Wl y A m c;let⟨v,@k,a,c⟩:=c;subst a;cases m with
 |cons m e=>
  rw[av];refine assignInOrder_cons (bU (t G n B j _ _ _ A m c) λ_ f g=>?_);let⟨Xy,@Wc,h,i⟩:=g;exact C G f Xy Wc _ _ y h e i
def Ll(V2:Φ)(u:Nat)(E:k5):gW:=(λv B j y=>∃g z,v=.ref g/\cz V2 j g z/\z.length=u/\E z B j y)
def Rb{E:k5}(h:b.calm=X)(c:oy b Q E)(i:(fx Q b.env).length=u:=by rfl)(k:(fx Q b.env).findIdx? (·.1)=Y:=by rfl):kd b (.Tuple Q o Wk) (Ll b.K u E):=by
 intro G n B j v L y A m a;let⟨g,@z,l,q,r,a⟩:=a;subst l;cases m;let⟨@Wg,e,bT,w⟩:=A.tuple q;refine BI (A.ok.hd h) bT (by simp[i,<-r,e.length]) k λT s=>?_;have t:aK b G B j {n with heap:=T}:=A.kept (WE:=n.toks) λf p d=>s f p (dg<|b4 d) d;exact c G _ B j z _ y t ⇑e a
def Sj(k b:b6)(E:zu):gW:=(λv B j y=>k B j λp Wc=>b B Wc λa Ws=>E p a v Ws λc=>y B c)
def QZ{p a:bu}{k h:b6}{E:zu}(i:bP b p k)(V0:bP b a h)(av:zk b E)(o:∀v,hS (.Subscript p a Wk) b.env v=(do
   let d <-holding [v] (cb p b.env)
   let f <-holding [v,d] (cb a b.env)
   standAt Wk
   holding [v,d,f] (uJ d f v)
   release [v,d,f] []):=by intro W;rfl):kd b (.Subscript p a Wk) (Sj k h E):=by
 intro G n B j v L y A m c;rw[o];refine ar (f6<|bU (i G n B j _ A c) λd q g=>?_);let⟨e,@Wc,r,s,t⟩:=g;refine ar (f6<|bU (V0 G q B Wc _ r t) λf u g=>?_);let⟨l,@Ws,w,x,z⟩:=g;refine ar (w_<|ar<|f6<|bU (av G u B Ws e l v d f L _ w s x m z) λ_ H g=>?_);let⟨@C,D,F⟩:=g;exact wpAny_release ⟨B,C,D,F⟩
def Aq(Xg:b6)(F:gW):fa:=(λw B j=>Xg B j λe Wc=>F e B Wc w.bB)
def UJ{F:gW}(a:bP b d Xg)(f:kd b WC F)(av:vd [WC] d Wk.line b.env=pure au:=by rfl)(g:tu [WC] d b.env=pure Y:=by rfl)(t:(fx [WC] b.env).map (·.2)=[hS WC b.env]:=by rfl):hU b (.Assign [WC] d Wk) (Aq Xg F):=by
 intro G n B j w A c;refine JT (bU (a G n B j _ A c) λv h ⟨e,Wc,i,k,l⟩=>?_) av g;rw[t];exact bU (f G h B Wc e v _ i k l) λ_ m r=>r
def Ka(f:b.N.Nodup)(V0:b.N[a]?=Z e)(g:hy b.env.scope e)(h:bP b d Xg)(av:oR d (Z<|.Name e Xt) Wk.line b.env=pure au:=by rfl)(i:b.fn e=X\/b.env.scope.names.lookup e=Z .local:=by first|exact .inl rfl|exact .inr rfl|assumption):
  hU b (.Assign [.Name e Xt] d Wk) (Aq Xg<|zy a):=by
 intro G n B j w A c;refine wpAny_Assign_Name (bU (h G n B j _ A c) λv q ⟨l,Wc,k,m,o⟩=>?_) av;exact Bc k f V0 g m (λr p=>⟨_,Wc,p,o⟩) i
def L7(a i:Nat)(WZ:eZ):fa:=(λw B j=>WZ B j λV4 Wc=>∃v D,V4=[v,D]/\w.bB ((B.set a<|Z v).set i<|Z D) Wc)
def P1(a:Nat)(Xg:b6)(b:vN):fa:=(λw B j=>∃e,B[a]?=Z (Z e)/\Xg B j λl Wc=>b e l Wc λx Ws=>w.bB (B.set a<|Z x) Ws)
def QA{WR:pZ}{p:vN}(q:b.N.Nodup)(V0:b.N[a]?=Z e)(g:hy b.env.scope e)(r:bP b d Xg)(s:A1 b WR p)(t:b.fn e=X\/b.env.scope.names.lookup e=Z .local:=by first|exact .inl rfl|exact .inr rfl|assumption):
  hU b (.AugAssign (.Name e Xt) WR d Wk) (P1 a Xg p):=by
 intro G n B j w A c;let⟨@v,u,c⟩:=c;let⟨@k,y,z⟩:=A.loc;have C:sq b.env.scope e:=by rcases g with o|o;exact .inl o;exact .inr (.inl o)
 let⟨@L,m,H⟩:=z a e v V0 u C;refine wpAny_AugAssign_Name ?_;have go:wpAny (aR b.prog b.w) b.A (cb d b.env) (λD E=>wpAny (aR b.prog b.w) b.A (inplaceOp WR L D) (λm F=>wpAny (aR b.prog b.w) b.A (AS b.env e m) (λ_=>o5 b G w .next) b.cJ F) b.cJ E) b.cJ n:=by
  refine bU (r G n B j _ A c) λD I i=>?_;let⟨l,@Wc,J,M,P⟩:=i;refine bU (s G I B Wc v l L D _ J m M P) λx ap i=>?_;let⟨as,@Ws,Q,R,T⟩:=i;exact Bc Q q V0 g R (λa1 U=>⟨_,Ws,U,T⟩) t
 rcases H with ⟨f,al⟩|⟨f,h,am,an⟩
 ·exact HF A.ok.kind f y al go
 ·rcases f with f|f
  ·exact H7 A.ok.kind f am an go
  ·rcases g with o|o
   ·have:b.env.scope.names.lookup e=Z .free:=f;rw[o]at this;cases this
   ·have:b.env.scope.names.lookup e=Z .free:=f;rw[o]at this;cases this
def Hz(I:Int->Int->Int):vN:=(λe l j y=>∃a i,e=.int a/\l=.int i/\y (.int<|I a i) j)
def PH:A1 b .Add (Hz λa i=>a+i):=by
 intro G n B j e l v L y A d f c;let⟨a,@i,g,h,r⟩:=c;subst g;subst h;let⟨@E,rfl⟩:=d;let⟨@WE,rfl⟩:=f;exact iadd_int ⟨.int _,j,A.tok _,⟨_,rfl⟩,r⟩
def PC(h:er)(Xi:fa):fa:=(λw B j=>∃W:Nat->bg->aC->Prop,(∃k,W k B j)/\∀k B j,W k B j->
 h B j λf Wc=>if f=X then ∃Ww:bg->aC->Prop,(∀a V1,Ww a V1->∃b,b<k/\W b a V1)/\Xi {w with bB:=Ww,cq:=Ww,gc:=w.bB} B Wc else w.bB B Wc)
def Su(p:sZ (aR b.prog b.w) b.A b.env b.cJ)(t:hJ b h XB)(x:h9 b Xw Xi):hU b (.While h Xw [] Wk) (PC XB Xi):=by
 intro G n B j w A c;let⟨@W,⟨@y,z⟩,turn⟩:=c;refine wpAny_While (codeAny_whileLoop (λu V5=>∃q V1,aK b G q V1 V5/\W u q V1) ?_ y ⟨B,j,A,z⟩);rintro u C ⟨Xy,Wc,E,F⟩;refine o2 p (bU (t G C Xy Wc _ E<|turn u Xy Wc F) λf H J=>?_);let⟨@Ws,r,e⟩:=J;cases f with
 |true=>
  let⟨@Ww,s,e⟩:=e;rw[aM rfl];refine o2 p (bU (x G H Xy Ws _ r e) λI L g=>?_);cases I with
  |next=>
   let⟨a,@d,i,k⟩:=g;let⟨@l,m,o⟩:=s a d k;exact⟨l,m,a,d,i,o⟩
  |cont=>
   let⟨a,@d,i,k⟩:=g;let⟨@l,m,o⟩:=s a d k;exact⟨l,m,a,d,i,o⟩
  |brk=>exact g
  |ret v=>exact g
 |false=>
  rw[aN dc];exact uf ⟨Xy,Ws,r,e⟩
end
structure iz where
 go:Nat->aC->Prop
 rz:Nat->aC->ao->aC->Prop
 stop:Nat->aC->Prop
def j3(b:aQ)(G:List (af×a9))(j:aC)(f:af):Prop:=(
 j f=Y/\f≠b.env.locals/\f∉b.aa/\(f∈b.ex\/b.e2.heap.objs.size<=f)/\(∀e h,b.env.cells.lookup e=Z h->h≠f)/\∀s∈b.kY++G,s.1≠f)
def aK.pW(A:aK b G B j n)(a:n.heap.objs.size<=f)(c:V1 f=Y):j3 b G V1 f:=by
 refine⟨c,hk<|eK A.lt a,A.O3 a,.inr<|dx A.ho a,λe h d x=>?_,λs g x=>?_⟩
 ·let⟨@v,r⟩:=A.cell e h d;exact absurd (eK r.lt (by rw[x];exact a)) (iN _)
 ·exact absurd (eK (b4 (A.pin s g).1) (by rw[x];exact a)) (iN _)
structure oG(Wd:bJ)(D:bl)(V2:Φ)(WC:bu)(Xh:iz)(bI:List af)(ag:af)(i:Nat->aY->Prop):Prop where
 mem:ag∈bI
 obj:∀a c,i a c->∀f∈bI,∃p,c.get? f=Z p/\∀v,p.data≠.cell v
 keep:∀a c T,i a c->(∀f∈bI,∀p,c.get? f=Z p->T.get? f=Z p)->i a T
 item:∀(b:aQ),b.prog=Wd->b.w=D->b.K=V2->b.calm=X->∀(a:Nat) (G:List (af×a9)) (n:aq) (B:bg) (j:aC) (U:ae->aq->Prop),aK b G B j n->(∀f∈bI,j3 b G j f)->i a n.heap->Xh.go a j->
  wpAny (aR Wd D) b.A (fg<|.ref ag) (λm s1=>∃L,m=Z L/\
   wpAny (aR Wd D) b.A (sD WC (.ref ag) L) (λ_ s2=>∃e V1,aK b G B V1 s2/\b5 e L/\Xh.rz a j e V1/\i (a+1) s2.heap/\∀f∈bI,V1 f=Y) U s1) U n
 done:∀(b:aQ),b.prog=Wd->b.w=D->b.K=V2->b.calm=X->∀(a:Nat) (G:List (af×a9)) (n:aq) (B:bg) (j:aC) (U:ae->aq->Prop),aK b G B j n->(∀f∈bI,j3 b G j f)->i a n.heap->Xh.stop a j->
  wpAny (aR Wd D) b.A (fg<|.ref ag) (λm s1=>m=Y/\aK b G B j s1) U n
 self:∀(O:bD) (a:Nat) (n:aq) (y:ae->aq->Prop) (U:ae->aq->Prop),i a n.heap->y (.ref ag) n->wpAny (aR Wd D) O (my<|.ref ag) y U n
abbrev c_:=bg->aC->(iz->aC->Prop)->Prop
def EZ(b:aQ)(G:List (af×a9))(B:bg)(WC:bu)(V3:iz->aC->Prop)(c:ae)(a:aq):Prop:=(
 ∃(ag:af) (bI:List af) (i:Nat->aY->Prop) (Xh:iz) (V1:aC),c=.ref ag/\aK b G B V1 a/\oG b.prog b.w b.K WC Xh bI ag i/\i 0 a.heap/\(∀f∈bI,j3 b G V1 f)/\V3 Xh V1)
def Ic(b:aQ)(WC Xa:bu)(J:c_)(G:List (af×a9)):Prop:=(
 ∀(n:aq) (B:bg) (j:aC) (V3:iz->aC->Prop),aK b G B j n->J B j V3->
  wpAny (aR b.prog b.w) b.A (cb Xa b.env) (λv a=>wpAny (aR b.prog b.w) b.A (my v) (EZ b G B WC V3) b.cJ a) b.cJ n)
def jX(b:aQ)(WC Xa:bu)(J:c_):Prop:=(∀G,Ic b WC Xa J G)
def ts{aw:gu}{U:ae -> aq -> Prop}{ag:af}{p:a9}{u:String}{V4:Array ae}{y:Unit -> aq -> Prop}(b:n.heap.get? ag=Z p)(d:p.cls=.type u)(hd:p.data=.fields V4)(e:["enumerate", "zip", "dict_itemiterator", "dict_reverseitemiterator", "odict_iterator", "itertools.zip_longest", "itertools.pairwise"].contains u=au)(a:y () n): wpAny aw O (sD WC (.ref ag) L) y U n:=by
  unfold sD;cases WC <;> first
    | exact aL a
    | (cases L <;> first
        | exact aL a
        | (refine ar (AJ b ?_)
           rw [d,hd];show wpAny aw O (if (["enumerate", "zip", "dict_itemiterator", "dict_reverseitemiterator", "odict_iterator", "itertools.zip_longest", "itertools.pairwise"].contains u&&V4[0]? == Z (dR _))=X then _ else _) y U n;rw [aN (by intro c; rw [e,Bool.false_and]at c; cases c)];exact aL a))
def sP(V2:Φ)(g:af):iz:=(
 ⟨λa j=>∃z e,dE V2 j g z/\z[a]?=Z e,λa j e V1=>V1=j/\∀z,dE V2 j g z->z[a]?=Z e,λa j=>∃z,dE V2 j g z/\z.length<=a⟩)
def uS(V2:Φ)(g:af):iz:=(
 ⟨λa j=>∃z e,cz V2 j g z/\z[a]?=Z e,λa j e V1=>V1=j/\∀z,cz V2 j g z->z[a]?=Z e,λa j=>∃z,cz V2 j g z/\z.length<=a⟩)
def vU(S:Int)(u:Nat):iz:=(⟨λa W=>a<u,λa j e V1=>V1=j/\e=.int (S+a),λa W=>u<=a⟩)
theorem LS(g ag:af):oG Wd D V2 WC (sP V2 g) [ag] ag (λa c=>c.IsListIter ag g a) where
 mem:=by simp
 obj:=λa c N f i=>by
  have d:f=ag:=by simpa using i
  subst d;let⟨@p,d,h,q⟩:=N;exact⟨p,d,λv x=>by rw[q]at x;cases x⟩
 keep:=λa c T N o=>N.at λp d=>o ag ↥0 p d
 item:=by
  intro b m r t I a G n B j U A k N u;subst m r t;let⟨z,@e,l,w⟩:=u;let⟨@Wg,y,s,M⟩:=A.list l;let⟨@L,O,P⟩:=y.get w;let@⟨Xj,C,Q,E,F,H⟩:=k ag ↥0;refine wpAny_pyNext_list_item N s.isList (x:=L) ⇑O λT J cu=>?_;have R:aK b G B j {n with heap:=T}:=A.turned (WE:=n.toks) (λf p i d=>(cu.2 f i).trans d) Xj C E F H;let⟨@p,d,h,q⟩:=id J;exact⟨L,rfl,ts (n:={n with heap:=T}) d h q ∅ ⟨e,j,R,P,⟨rfl,λWm S=>by rw[A.MC S l];exact w⟩,J,λf i=>(k f i).1⟩⟩
 done:=by
  intro b m r t I a G n B j U A k N u;subst m r t;let⟨@z,l,w⟩:=u;let⟨@Wg,y,s,M⟩:=A.list l;let@⟨Xj,C,Q,E,F,H⟩:=k ag ↥0;have am:=y.length;exact wpAny_pyNext_list_end (A.ok.hd I) N s.isList (by simp;lia) λT al=>⟨rfl,A.turned (WE:=n.toks) (λf p i d=>al f p i d) Xj C E F H⟩
 self:=λ_ W W W W N c=>wpAny_pyIter_listiter N c
theorem KS(g ag:af):oG Wd D V2 WC (uS V2 g) [ag] ag (λa c=>c.IsTupleIter ag g a) where
 mem:=by simp
 obj:=λa c N f i=>by
  have d:f=ag:=by simpa using i
  subst d;let⟨@p,d,h,q⟩:=N;exact⟨p,d,λv x=>by rw[q]at x;cases x⟩
 keep:=λa c T N o=>N.at λp d=>o ag ↥0 p d
 item:=by
  intro b m r t I a G n B j U A k N u;subst m r t;let⟨z,@e,l,w⟩:=u;let⟨@Wg,y,s,M⟩:=A.tuple l;let⟨@L,O,P⟩:=y.get w;let@⟨Xj,C,Q,E,F,H⟩:=k ag ↥0;refine wpAny_pyNext_tuple_item N (show n.heap.IsTuple g Wg.toArray from s) (x:=L) ⇑O λT J cu=>?_;have R:aK b G B j {n with heap:=T}:=A.turned (WE:=n.toks) (λf p i d=>(cu.2 f i).trans d) Xj C E F H;let⟨@p,d,h,q⟩:=id J;exact⟨L,rfl,ts (n:={n with heap:=T}) d h q ∅ ⟨e,j,R,P,⟨rfl,λWm S=>by rw[A.ye S l];exact w⟩,J,λf i=>(k f i).1⟩⟩
 done:=by
  intro b m r t I a G n B j U A k N u;subst m r t;let⟨@z,l,w⟩:=u;let⟨@Wg,y,s,M⟩:=A.tuple l;let@⟨Xj,C,Q,E,F,H⟩:=k ag ↥0;have am:=y.length;exact wpAny_pyNext_tuple_end (A.ok.hd I) N (show n.heap.IsTuple g Wg.toArray from s) (by simp;lia) λT al=>⟨rfl,A.turned (WE:=n.toks) (λf p i d=>al f p i d) Xj C E F H⟩
 self:=λ_ W W W W N c=>wpAny_pyIter_tupleiter N c
theorem Uj(ag:af)(S:Int)(u:Nat):oG Wd D V2 WC (vU S u) [ag] ag (λa c=>IsRangeIter c ag (S+(a:Nat)*1) ((u:Int)-(a:Nat)) 1) where
 mem:=by simp
 obj:=λa c N f e=>by
  have d:f=ag:=by simpa using e
  subst d;exact⟨_,N,λv x=>by
   have z:Data.fields _=Data.cell v:=x;cases z⟩
 keep:=λa c T N o=>o ag ↥0 _ N
 item:=by
  intro b h i k l a G n B j U A g N m;subst h i k;let@⟨Xj,q,C,r,s,t⟩:=g ag ↥0;have W:=jy.range (prog:=b.prog) (w:=b.w) (A.ok.hd l) ag S 1 u;refine W.item a n _ _ m N λv T WK F y H=>?_;let⟨@E,rfl⟩:=F;have I:aK b G B j {n with heap:=T,toks:=WK}:=A.turned (λf p e d=>H f p ⇑e d) Xj q r s t;refine⟨_,rfl,ts (n:={n with heap:=T,toks:=WK}) (u := "range_iterator") y rfl rfl ∅ ⟨.int<|S+a,j,I,⟨E,?_⟩,⟨rfl,rfl⟩,y,λf e=>(g f e).1⟩⟩;rw[GX]
 done:=by
  intro b h i k l a G n B j U A g N m;subst h i k;let@⟨Xj,q,C,r,s,t⟩:=g ag ↥0;exact wpAny_pyNext_range_end (A.ok.hd l) N (by have:u<=a:=m;lia) λT J=>⟨rfl,A.turned (WE:=n.toks) (λf p e d=>J f p e d) Xj q r s t⟩
 self:=λ_ R R R R N c=>wpAny_pyIter_rangeiter N c
section
variable{b:aQ}{WC:bu}
def TY{V3:iz->aC->Prop}{S V0:Int}{E L v:iL}{WK:Nat}(A:aK b G B j n)(t : -(2^62)<=S)(C:S<2^62)(c : -(2^62)<=V0)(e:V0<2^62)(r:V3 (vU S (V0-S).toNat) j):wpAny (aR b.prog b.w) b.A (my<|.ref n.heap.objs.size) (EZ b G B WC V3) U {n with heap:=n.heap.push {cls:=.type "range",data:=.fields #[.int S E,.int V0 L,.int 1 v]},toks:=WK}:=by
 refine wpAny_pyIter_range (IsRange.new ..) (small_one t C c e) ?_;have a:aK b G B j {n with heap:=n.heap.push {cls:=.type "range",data:=.fields #[.int S E,.int V0 L,.int 1 v]},toks:=WK}:=A.kept λf p d=>b0 _ d;refine⟨(n.heap.push {cls:=.type "range",data:=.fields #[.int S E,.int V0 L,.int 1 v]}).objs.size,[(n.heap.push {cls:=.type "range",data:=.fields #[.int S E,.int V0 L,.int 1 v]}).objs.size],_,_,j,rfl,
  a.kept (WE:=WK) λf p d=>b0 _ d,Uj _ S (V0-S).toNat,?_,λf g=>?_,r⟩
 ·have h:S+((0:Nat):Int)*1=S:=by simp
  have i:(((V0-S).toNat:Nat):Int)-((0:Nat):Int)=a0.Range.rangeSize S V0 1:=by rw[rangeSize_one];split<;>lia
  show IsRangeIter _ _ (S+((0:Nat):Int)*1) ((((V0-S).toNat:Nat):Int)-((0:Nat):Int)) 1;rw[h,i];exact c0 _ rfl
 ·have d:f=(n.heap.push {cls:=.type "range",data:=.fields #[.int S E,.int V0 L,.int 1 v]}).objs.size:=by simpa using g
  subst d;exact a.pW (bh _) (a.a5.fresh<|bh _)
def Vc(WZ:eZ):c_:=(λB j V3=>WZ B j λV4 Wc=>∃i:Int,V4=[.int i] /\ -(2^62)<=i/\i<2^62/\V3 (vU 0 i.toNat) Wc)
def Vp{g:bu}{WZ:eZ}{s:Pos}(e:fc b "range")(f:b.aJ "range" = Y)(h:hR b [g] WZ)(av:bV [g] b.env=[(au,cb g b.env)]:=by rfl):jX b WC (.Call (.Name "range" s) [g] [] Wk) (Vc WZ):=by
 intro G n B j V3 A c;refine Call_ (nJ A e f boot_range<|vP (bU (h Wk G n B j _ A c) λWl q ⟨V4,Wc,k,l,a⟩=>?_) av rfl);let⟨@i,d,a,o,r⟩:=a;subst d;cases l with
 |cons m p=>
  cases p;let⟨@E,rfl⟩:=m;exact call_range_1 (TY k ⋯ ⋯ a o ⇑r)
def Ja(J:c_)(F:gW)(Xi:fa):fa:=(λw B j=>J B j λXh Wc=>∃W:Nat->Nat->bg->aC->Prop,(∃k,W 0 k B Wc)/\∀a k B j,W a k B j->
 (Xh.stop a j/\w.bB B j)\/(Xh.go a j/\∃Ww:bg->aC->Prop,(∀b V1,Ww b V1->∃c,c<k/\W (a+1) c b V1)/\∀e V1,Xh.rz a j e V1->F e B V1 λd Ws=>Xi {w with bB:=Ww,cq:=Ww,gc:=w.bB} d Ws))
def mv(bI:List af)(c:aY):List (af×a9):=(bI.filterMap λf=>(c.get? f).map λp=>(f,p))
def wh{p:a9}(a:f∈bI)(d:c.get? f=Z p):(f,p)∈mv bI c:=pY.mpr ⟨f,a,by rw[d];rfl⟩
def FV{s:af×a9}(a:s∈mv bI c):s.1∈bI/\c.get? s.1=Z s.2:=by
 let⟨@f,b,d⟩:=pY.mp a;cases r:c.get? f with
 |none=>rw[r]at d;cases d
 |some p=>
  rw[r]at d;have e:(f,p)=s:=Option.some.inj d;subst e;exact⟨b,r⟩
def aK.pinned(A:aK b G B j n)(e:∀f∈bI,j3 b G j f)(g:∀f∈bI,∃p,n.heap.get? f=Z p/\∀v,p.data≠.cell v):aK b (G++mv bI n.heap) B j n:=
 A.qE λs h=>(c5.mp h).elim (λx=>A.pin s<|eW _ x) λx=>by
  let@⟨a,d⟩:=FV x;let@⟨Xj,i,k,_⟩:=e s.1 a;let⟨@p,c,q⟩:=g s.1 a;rw[d]at c;cases c;exact⟨d,Xj,i,k,q⟩
def aK.yl{bG:List (af×a9)}(A:aK b (G++bG) B j n):aK b G B j n:=A.qE λs a=>A.pin s (eW _<|gz _ a)
def QX{Xa:bu}{J:c_}{F:gW}(x:sZ (aR b.prog b.w) b.A b.env b.cJ)(Q:b.calm=X)(V0:jX b WC Xa J)(ap:kd b WC F)(g:h9 b Xw Xi)(av:∀e,mI Xa b.env e=pure e:=by intro O;rfl):hU b (.For WC Xa Xw [] Wk) (Ja J F Xi):=by
 intro G n B j w A c;refine wpAny_For (bU (V0 G n B j _ A c) λv fn t=>bU t λfr f0 C=>?_) av;let⟨ag,bI,i,Xh,@Ws,d,as,V6,a1,R,⟨@W,⟨@a2,bd⟩,turn⟩⟩:=C;subst d;have M:∀{V1:aC},(∀f∈bI,V1 f=Y)->∀f∈bI,j3 b G V1 f:=λbe f g=>⟨be f g,(R f g).2⟩;refine codeAny_forLoop_any (λu V5=>∃a y V1,aK b G y V1 V5/\i a V5.heap/\(∀f∈bI,V1 f=Y)/\W a u y V1) ?_ a2 ⟨0,B,Ws,as,a1,λf g=>(R f g).1,bd⟩;rintro u S ⟨a,z,H,T,U,al,bi⟩;rcases turn a u z H bi with ⟨stop,bm⟩|⟨go,Ww,bn,step⟩
 ·refine o2 x (bU (V6.done b rfl rfl rfl Q a G S z H b.cJ T (M al) U stop) λm bs s=>?_);let@⟨V9,bv⟩:=s;subst V9;exact uf ⟨z,H,bv,bm⟩
 ·refine o2 x (bU (V6.item b rfl rfl rfl Q a G S z H b.cJ T (M al) U go) λm bs s=>?_);let⟨@L,V9,ca⟩:=s;subst V9;refine o2 x (bU ca λ_ am s=>?_);let⟨e,@an,cd,ce,ch,N,ci⟩:=s;have cl:=cd.pinned (M ci) (V6.obj _ _ N);refine o2 x (bU (ap _ am z an e L _ cl ce<|step e an ch) λ_ co s=>?_);let⟨cr,@cs,db,ds⟩:=s;refine o2 x (bU (g _ co cr cs _ db ds) λI P r=>?_);have again:∀{h:bg}{l:aC},aK b (G++mv bI am.heap) h l P->Ww h l->∃k,k<u/\∃a y V1,aK b G y V1 P/\i a P.heap/\(∀f∈bI,V1 f=Y)/\W a k y V1:=λ{h l} o E=>by
   let⟨@dL,eq,ev⟩:=bn h l E;refine⟨dL,eq,a+1,h,l,o.yl,V6.keep _ _ _ N λf g p d=>(o.pin (f,p)<|eW _<|eW _<|wh g d).1,λf g=>?_,ev⟩;let⟨@p,d,q⟩:=V6.obj _ _ N f g;exact (o.pin (f,p)<|eW _<|eW _<|wh g d).2.1
  cases I with
  |next=>let⟨h,@l,o,E⟩:=r;exact again o E
  |cont=>let⟨h,@l,o,E⟩:=r;exact again o E
  |brk=>let⟨h,@l,o,r⟩:=r;exact⟨h,l,o.yl,r⟩
  |ret v=>let⟨ex,h,@l,o,fd,r⟩:=r;exact⟨ex,h,l,o.yl,fd,r⟩
end
abbrev bZ:=ao->ao->aC->cH->Prop
variable{WV m:bZ}
def dU(b:aQ)(I:ae->ae->dr ae)(m:bZ):Prop:=(
 ∀(G:List (af×a9)) (n:aq) (B:bg) (j:aC) (e l:ao) (v L:ae) (y:cH),aK b G B j n->b5 e v->b5 l L->m e l j y->
  wpAny (aR b.prog b.w) b.A (I v L) (en b G B y) b.cJ n)
def z_(b:aQ)(I:ae->dr ae)(m:ao->aC->cH->Prop):Prop:=(
 ∀(G:List (af×a9)) (n:aq) (B:bg) (j:aC) (e:ao) (v:ae) (y:cH),aK b G B j n->b5 e v->m e j y->
  wpAny (aR b.prog b.w) b.A (I v) (en b G B y) b.cJ n)
def eO(b:aQ)(I:ae)(m:List ao->aC->cH->Prop):Prop:=(
 ∀(G:List (af×a9)) (n:aq) (B:bg) (j:aC) (z:List ao) (Wl:List ae) (y:cH),aK b G B j n->bY z Wl->m z j y->
  wpAny (aR b.prog b.w) b.A (call I Wl) (en b G B y) b.cJ n)
def RC(b:aQ)(m:ao->aC->(Bool->aC->Prop)->Prop):Prop:=(
 ∀(G:List (af×a9)) (n:aq) (B:bg) (j:aC) (e:ao) (v:ae) (y:Bool->aC->Prop),aK b G B j n->b5 e v->m e j y->
  wpAny (aR b.prog b.w) b.A (truthy v) (wI b G B y) b.cJ n)
def v_(m:bZ)(WZ Xi:b6):b6:=(λB j y=>WZ B j λe Wc=>Xi B Wc λl Ws=>m e l Ws y)
def MI(m:ao->aC->cH->Prop)(WZ:b6):b6:=(λB j y=>WZ B j λe Wc=>m e Wc y)
def p6(aO:Int->Int->Prop)(F:Int->Int->ao):bZ:=(λe l j y=>∃a i,e=.int a/\l=.int i/\aO a i/\y (F a i) j)
def l5(F:Int->Int->ao):bZ:=(λe l j y=>∃a i,e=.int a/\l=.int i/\y (F a i) j)
def Ih(F:Int->ao):ao->aC->cH->Prop:=(λe j y=>∃a,e=.int a/\y (F a) j)
section
variable{b:aQ}{g f h:bu}{WZ Xi XB:b6}{Wk:Pos}
def xc(h:bP b g WZ)(i:bP b f Xi){G:List (af×a9)}{n:aq}{B:bg}{j:aC}{V3:ao->ao->aC->Prop}(A:aK b G B j n)(c:WZ B j λe Wc=>Xi B Wc λl Ws=>V3 e l Ws){y:ae->aq->Prop}{I:ae->ae->dr ae}(k:∀v L a e l Ws,aK b G B Ws a->b5 e v->b5 l L->V3 e l Ws->wpAny (aR b.prog b.w) b.A (I v L) y b.cJ a):
  wpAny (aR b.prog b.w) b.A (cb g b.env) (λv m=>wpAny (aR b.prog b.w) b.A (cb f b.env) (λL o=>wpAny (aR b.prog b.w) b.A (I v L) y b.cJ o) b.cJ m) b.cJ n:=by
 refine bU (h G n B j _ A c) λv p d=>?_;let⟨e,@Wc,q,r,s⟩:=d;refine bU (i G p B Wc _ q s) λL a d=>?_;let⟨l,@Ws,t,u,x⟩:=d;exact k v L a e l Ws t r u x
def Sm{WR:pZ}(a:dU b (gh WR) m)(d:bP b g WZ)(h:bP b f Xi):bP b (.BinOp g WR f Wk) (v_ m WZ Xi):=by
 intro G n B j y A c;exact wpAny_BinOp (xc d h A c λv L i e l Ws k o p r=>a G i B Ws e l v L y k o p r)
def QF{WR:UnaryOp}{m:ao->aC->cH->Prop}(a:z_ b (unaryOp WR) m)(d:bP b g WZ):bP b (.UnaryOp WR g Wk) (MI m WZ):=by
 intro G n B j y A c;exact UnaryOp_ (bU (d G n B j _ A c) λv f ⟨e,Wc,h,i,k⟩=>a G f B Wc e v y h i k)
def uG{aO:Int->Int->Prop}(d:∀(a i:Int) (E L:iL) (n:aq) (y:ae->aq->Prop) (U:ae->aq->Prop),aO a i->y (.int (F a i) n.toks) {n with toks:=n.toks+1}->wpAny (aR b.prog b.w) b.A (I (.int a E)<|.int i L) y U n):
  dU b I (p6 aO λa i=>.int<|F a i):=by
 intro G n B j e l v L y A f g c;let⟨a,@i,rfl,rfl,h,r⟩:=c;let⟨@E,rfl⟩:=f;let⟨@WE,rfl⟩:=g;exact d a i E WE n _ _ h ⟨.int<|F a i,j,A.tok _,⟨_,rfl⟩,r⟩
def Fv(d:∀(a i:Int) (E L:iL) (n:aq) (y:ae->aq->Prop) (U:ae->aq->Prop),y (.int (F a i) n.toks) {n with toks:=n.toks+1}->wpAny (aR b.prog b.w) b.A (I (.int a E)<|.int i L) y U n):
  dU b I (l5 λa i=>.int<|F a i):=by
 intro G n B j e l v L y A f g c;let⟨a,@i,rfl,rfl,r⟩:=c;let⟨@E,rfl⟩:=f;let⟨@WE,rfl⟩:=g;exact d a i E WE n _ _ ⟨.int<|F a i,j,A.tok _,⟨_,rfl⟩,r⟩
def vD{F:Int->Int->Bool}(d:∀(a i:Int) (E L:iL) (n:aq) (y:ae->aq->Prop) (U:ae->aq->Prop),y (.bool<|F a i) n->wpAny (aR b.prog b.w) b.A (I (.int a E)<|.int i L) y U n):
  dU b I (l5 λa i=>.aB<|F a i):=by
 intro G n B j e l v L y A f g c;let⟨a,@i,rfl,rfl,r⟩:=c;let⟨@E,rfl⟩:=f;let⟨@WE,rfl⟩:=g;exact d a i E WE n _ _ ⟨.aB<|F a i,j,A,rfl,r⟩
def Sy(a i:Int):Prop:=(0<i/\i<1073741824)
def RK(a i:Int):Prop:=(0<=i/\i<=1000000/\a.natAbs<2^64)
def RW:dU b (gh .Add) (l5 λa i=>.int<|a+i):=Fv λ_ W W W W W W r=>add_int r
def Sp:dU b (gh .Sub) (l5 λa i=>.int<|a-i):=Fv λ_ W W W W W W r=>sub_int r
def Kn:dU b (gh .FloorDiv) (p6 Sy λa i=>.int<|a/i):=uG λa i W W W W W c r=>by
 have t:(0:Int)<i:=c.1;have C:i<1073741824:=c.2;exact floordiv_int ⋯ (by rw[Int.fdiv_eq_ediv_of_nonneg a ⋯];exact r) (.inl (PyProof.noPylong_small ⋯))
def Lo:dU b (gh .Mod) (p6 (λ_ i=>0<i) λa i=>.int<|a%i):=uG λa i W W W W W c r=>by
 have t:(0:Int)<i:=c;exact mod_int' ⋯ (by rw[Int.fmod_eq_emod_of_nonneg a ⋯];exact r)
def US:dU b (gh .Pow) (p6 RK λa i=>.int<|a^i.toNat):=uG λ_ W W W W W W c r=>pow_int_small c.1 c.2.1 c.2.2 r
def NV{I:ae->dr ae}{F:Int->Int}(d:∀(a:Int) (E:iL) (n:aq) (y:ae->aq->Prop) (U:ae->aq->Prop),y (.int (F a) n.toks) {n with toks:=n.toks+1}->wpAny (aR b.prog b.w) b.A (I<|.int a E) y U n):
  z_ b I (Ih λa=>.int<|F a):=by
 intro G n B j e v y A f c;let⟨@a,rfl,r⟩:=c;let⟨@E,rfl⟩:=f;exact d a E n _ _ ⟨.int<|F a,j,A.tok _,⟨_,rfl⟩,r⟩
def QG:z_ b (unaryOp .USub) (Ih λa=>.int<|-a):=NV λ_ W W W W r=>neg_int r
def E0{y:cH}{o a:Bool}(A:aK b G B j n)(r:y (.aB o) j)(d:o=a):en b G B y (.bool a) n:=by
 subst d;exact⟨.aB o,j,A,rfl,r⟩
def RP:dU b (d3 .Lt) (l5 λa i=>.aB<|decide (a<i)):=vD λ_ W W W W W W r=>lt_int r
def Uo:dU b (d3 .LtE) (l5 λa i=>.aB<|decide (a<=i)):=vD λ_ W W W W W W r=>le_int r
def KQ:dU b (d3 .Gt) (l5 λa i=>.aB<|decide (i<a)):=vD λ_ W W W W W W r=>gt_int r
def T4:dU b (d3 .GtE) (l5 λa i=>.aB<|decide (i<=a)):=vD λ_ W W W W W W r=>ge_int r
def Mg:dU b (d3 .Is) (λe l j y=>l=.aV/\y (.aB<|decide (e=.aV)) j):=by
 intro G n B j e l v L y A a d c;let@⟨rfl,r⟩:=c;cases d;refine is_none_gen (E0 A r ?_);cases e<;>first
  | (cases a;rfl)
  | (let⟨@E,rfl⟩:=a;rfl)
def NC:dU b (d3 .IsNot) (λe l j y=>l=.aV/\y (.aB<|!decide (e=.aV)) j):=by
 intro G n B j e l v L y A a d c;let@⟨rfl,r⟩:=c;cases d;refine isnot_none_gen (E0 A r ?_);cases e<;>first
  | (cases a;rfl)
  | (let⟨@E,rfl⟩:=a;rfl)
def dU.or(c:dU b I m)(T:dU b I WV):dU b I (λe l j y=>m e l j y\/WV e l j y):=by
 intro G n B j e l v L y A a d r;rcases r with r|r
 ·exact c G n B j e l v L y A a d r
 ·exact T G n B j e l v L y A a d r
def eX(f:bu){WR:kQ}(c:WR≠.In:=by decide)(C:WR≠.NotIn:=by decide):pq WR f=au:=by
 have a:(WR==kQ.In)=au:=by cases WR<;>first|rfl|exact absurd rfl c
 have b:(WR==kQ.NotIn)=au:=by cases WR<;>first|rfl|exact absurd rfl C
 cases f<;>simp[pq,a,b]
def R9(a:dU b (d3 WR) m)(d:bP b g WZ)(h:bP b f Xi)(i:pq WR f=au):bP b (.Compare g [WR] [f] Wk) (v_ m WZ Xi):=by
 intro G n B j y A c;exact wpAny_Compare1 (xc d h A c λv L k e l Ws o p q r=>a G k B Ws e l v L y o p q r) i
def H0(E:b6):er:=(λB j y=>E B j λe V1=>∃o,e=.aB o/\y o V1)
def U3(a:dU b (d3 WR) m)(i:bP b g WZ)(k:bP b f Xi)(p:pq WR f=au):hJ b (.Compare g [WR] [f] Wk) (H0<|v_ m WZ Xi):=by
 intro G n B j y A c;refine wpAny_isTrue_Compare1 (bU (i G n B j _ A c) λv q ⟨e,Wc,r,s,t⟩=>bU (k G q B Wc _ r t) λL u ⟨l,Ws,w,z,C⟩=>
  bU (a G u B Ws e l v L _ w s z C) λh I ⟨x,D,E,F,o,d,H⟩=>?_) p;subst d;cases F;exact mX ⟨D,E,H⟩
def EL(m WV:bZ)(WZ Xi XB:b6):b6:=(λB j y=>WZ B j λe Wc=>Xi B Wc λl Ws=>m e l Ws λx a=>∃o,x=.aB o/\
 (if o=X then XB B a λb c=>WV l b c y else y (.aB au) a))
def RT{a:kQ}(s:dU b (d3 WR) m)(t:dU b (d3 a) WV)(u:bP b g WZ)(w:bP b f Xi)(z:bP b h XB)(C:lastMarks [WR,a] [f,h]=au:=by with_unfolding_all rfl):hJ b (.Compare g [WR,a] [f,h] Wk) (H0<|EL m WV WZ Xi XB):=by
 intro G n B j y A c;refine isTrue_chain (bU (u G n B j _ A c) λv D ⟨e,Wc,E,F,H⟩=>test_link (bU (w G D B Wc _ E H) λL I ⟨l,Ws,J,i,M⟩=>
  bU (s G I B Ws e l v L _ J F i M) λq N ⟨x,k,p,O,o,d,r⟩=>?_)) C;subst d;cases O;refine mX ?_;cases o with
 |false=>
  let⟨@bi,P,Q⟩:=r;cases P;exact ite_ff ⟨k,p,Q⟩
 |true=>
  refine ite_tt (test_last<|bU (z G N B k _ p r) λR S ⟨T,U,al,am,an⟩=>bU (t G S B U l T L R _ al i am an) λW3 bm ap=>?_);let⟨bn,@as,a1,a2,⟨@WO,bd,be⟩⟩:=ap;subst bd;cases a2;exact mX ⟨as,a1,be⟩
def xJ(V2:Φ)(e:ao)(j:aC)(o:Bool):Prop:=(
 match e with
 |.aV=>o=au
 |.aB f=>o=f
 |.int a=>o=(a != 0)
 |.str l=>l.length<=sizeLine/\o=((l.length:Int) != 0)
 |.sl l=>l.size<=sizeLine/\o=((l.size:Int) != 0)
 |.ref s=>(∃z,dE V2 j s z/\o=!z.isEmpty)\/(∃z,cz V2 j s z/\o=!z.isEmpty)\/∃Wf,j s=Z (.dw Wf)/\o=!Wf.isEmpty
 |_=>False)
def Nt{Wu:Type}{Wf:List (Wu×ao)}{V4:List (Wu×ae)}(m:fS Wf V4):(!V4.isEmpty)=!Wf.isEmpty:=by
 cases m<;>rfl
def Fq{Wg:List ae}(m:bY z Wg):(!Wg.toArray.isEmpty)=!z.isEmpty:=by
 cases m<;>simp
def pj:(sizeLine:Nat)<2^63:=by rw[t8];decide
def PL:RC b (λe j y=>∃o,xJ b.K e j o/\y o j):=by
 intro G n B j e v y A h c;let⟨@o,d,r⟩:=c;have x:=pj;have av:sizeLine=16777216:=t8;cases e with
 |aV=>
  cases h;have g:o=au:=d;subst g;exact truthy_none ⟨j,A,r⟩
 |aB f=>
  cases h;have g:o=f:=d;subst g;exact mX ⟨j,A,r⟩
 |int a=>
  let⟨@E,rfl⟩:=h;have g:o=(a != 0):=d;subst g;exact PySem.P.truthy_int ⟨j,A,r⟩
 |str l=>
  let⟨@E,rfl⟩:=h;obtain⟨t,g⟩:l.length<=sizeLine/\o=((l.length:Int) != 0):=d;subst g;exact PySem.P.truthy_str ⋯ ⟨j,A.tok _,r⟩
 |sl l=>
  let⟨@E,rfl⟩:=h;obtain⟨t,g⟩:l.size<=sizeLine/\o=((l.size:Int) != 0):=d;subst g;exact PySem.W.truthy_bytes ⋯ ⟨j,A.tok _,r⟩
 |ref s=>
  cases h;have g:(∃z,dE b.K j s z/\o=!z.isEmpty)\/(∃z,cz b.K j s z/\o=!z.isEmpty)\/∃Wf,j s=Z (.dw Wf)/\o=!Wf.isEmpty:=d;rcases g with ⟨z,i,g⟩|⟨z,i,g⟩|⟨Wf,i,g⟩
  ·subst g;let⟨@Wg,m,bG,p⟩:=A.list i;have q:=m.length;exact wpAny_truthy_list bG.isList (by simp only[cR];lia) ⟨j,A.tok _,by rw[Fq m];exact r⟩
  ·subst g;let⟨@Wg,m,bG,p⟩:=A.tuple i;have q:=m.length;exact truthy_tuple bG (by simp only[cR];lia) ⟨j,A.tok _,by rw[Fq m];exact r⟩
  ·subst g;obtain⟨p,u,V4,m,k⟩:Wf.length<=sizeLine/\(s==ie)=au/\∃V4,fS Wf V4/\n.heap.DictOf (lF b.prog b.w) s V4:=A.a5 s _ i;have q:Wf.length=V4.length:=ea.length m;exact wpAny_truthy_dict u k ⋯ ⟨j,A.tok _,by rw[Nt m];exact r⟩
 |_=>exact (show False from d).elim
def QM(d:bP b g WZ)(f:∀a,q2 g b.env a=(do let v <-a;standAt g.pos;holding [v] (truthy v))):
  hJ b g (λB j y=>WZ B j λe V1=>∃o,xJ b.K e V1 o/\y o V1):=by
 intro G n B j y A c;exact isTrue_plain (bU (d G n B j _ A c) λv h ⟨e,Wc,i,k,l⟩=>PL G h B Wc e v y i k l) (f _)
def La:dU b (gh .Add) (λe l j y=>∃a i,e=.str a/\l=.str i/\a.length+i.length<=sizeLine/\y (.str<|a++i) j):=by
 intro G n B j e l v L y A d f c;let⟨a,@i,rfl,rfl,g,r⟩:=c;let⟨@E,rfl⟩:=d;let⟨@WE,rfl⟩:=f;exact add_str (λWE WK=>⟨.str<|a++i,j,A.tok _,⟨_,rfl⟩,r⟩) g
def ix{e:ao}(m:bY [e] Wl):∃L,Wl=[L]/\b5 e L:=by
 cases m with
 |cons a b=>cases b;exact⟨_,rfl,a⟩
def wq{e:ao}(m:bY [e,l] Wl):∃L a,Wl=[L,a]/\b5 e L/\b5 l a:=by
 cases m with
 |cons b c=>
  cases c with
  |cons d f=>cases f;exact⟨_,_,rfl,b,d⟩
def O0(e:b.calm=X):eO b (.builtin "max") (λz j y=>∃a i,z=[.int a,.int i]/\y (.int<|if i>a then i else a) j):=by
 intro G n B j z Wl y A m c;let⟨a,@i,rfl,r⟩:=c;let⟨L,@f,rfl,⟨@E,rfl⟩,⟨@WE,rfl⟩⟩:=wq m;refine max_two_ints (A.ok.hd e) λT WK o=>⟨_,j,A.kept o,?_,r⟩;by_cases d:i>a
 ·rw[aM d,aM d];exact⟨_,rfl⟩
 ·rw[aN d,aN d];exact⟨_,rfl⟩
def Pt(e:b.calm=X):eO b (.builtin "min") (λz j y=>∃a i,z=[.int a,.int i]/\y (.int<|if i<a then i else a) j):=by
 intro G n B j z Wl y A m c;let⟨a,@i,rfl,r⟩:=c;let⟨L,@f,rfl,⟨@E,rfl⟩,⟨@WE,rfl⟩⟩:=wq m;refine min_two_ints (A.ok.hd e) λT WK o=>⟨_,j,A.kept o,?_,r⟩;by_cases d:i<a
 ·rw[aM d,aM d];exact⟨_,rfl⟩
 ·rw[aN d,aN d];exact⟨_,rfl⟩
def Mb:eO b (.type "int") (λz j y=>(∃a,z=[.int a]/\y (.int a) j)\/∃o,z=[.aB o]/\y (.int<|if o then 1 else 0) j):=by
 intro G n B j z Wl y A m c;rcases c with ⟨a,rfl,r⟩|⟨o,rfl,r⟩
 ·let⟨@L,rfl,⟨@E,rfl⟩⟩:=ix m;exact call_int_int ⟨.int a,j,A,⟨_,rfl⟩,r⟩
 ·let⟨@L,rfl,d⟩:=ix m;cases d;exact call_int_bool ⟨.int<|if o then 1 else 0,j,A.tok _,⟨_,rfl⟩,r⟩
end
def jD.some_of{p:Option ae}(m:jD (Z v) p):∃L,p=Z L/\b5 v L:=by
 cases p with
 |none=>exact (show False from m).elim
 |some L=>exact⟨L,rfl,m⟩
structure eP(o:Nat)(O:bD):Prop where
 hd:O.handled=Y
 x4:O.depth+3*o+5<I5
 un:O.units+16*o+200<bS
 lr:O.guards=Z []
def eP.mono{i:Nat}(m:eP o O)(c:i<=o):eP i O:=⟨m.hd,by have:=m.x4;lia,by have:=m.un;lia,m.lr⟩
def eP.deeper(m:eP (o+1) O)(V8:eT):eP o (O.deeper V8):=
 ⟨m.hd,by have:=m.x4;show O.depth+1+3*o+5<_;lia,by have:=m.un;show O.units+3+16*o+200<_;lia,m.lr⟩
def eP.depth(m:eP o O):O.depth<I5:=by have:=m.x4;lia
def NS:eZ:=(λ_ j y=>y [] j)
def Td(WZ:b6)(jL:eZ):eZ:=(λB j y=>WZ B j λe Wc=>jL B Wc λz Ws=>y (e::z) Ws)
section
variable{b:aQ}{d:bu}{Q:List bu}{Xg:b6}{E:eZ}{Wk:Pos}
def Ex:hR b [] NS:=λ_ W W W j y A c=>zS ⟨[],j,A,.nil,c⟩
def xq(f:bP b d Xg)(V9:hR b Q E)(av:bV (d::Q) b.env=(au,cb d b.env)::bV Q b.env:=by rfl):hR b (d::Q) (Td Xg E):=by
 intro Wk G n B j y A c;rw[av];show wpAny _ _ (spliced ((au,cb d b.env)::fI Wk (bV Q b.env))) _ _ n;refine xZ (bU (f G n B j _ A c) λL g a=>?_);let⟨e,@Wc,h,i,k⟩:=a;refine bU (V9 Wk G g B Wc _ h k) λWl p a=>?_;let⟨z,@Ws,l,m,o⟩:=a;exact⟨e::z,Ws,l,.cons i m,o⟩
def Ph(E:eZ):b6:=(λB j y=>E B j λz Wc=>z.length<=sizeLine/\∀s,Wc s=Y->y (.ref s) (upd Wc s<|.tup z))
def Se(E:eZ):b6:=(λB j y=>E B j λz Wc=>z.length<=sizeLine/\∀s,Wc s=Y->y (.ref s) (upd Wc s<|.lst z))
def LU{g}(c:hR b Q E):bP b (.Tuple Q g Wk) (Ph E):=by
 intro G n B j y A h;refine wpAny_Tuple_spliced (bU (c Wk G n B j _ A h) λWl a ⟨z,Wc,e,m,x,r⟩=>⟨by rw[<-m.length];exact x,?_⟩);have i:Wc a.heap.objs.size=Y:=e.a5.fresh (bh _);refine⟨.ref a.heap.objs.size,upd Wc a.heap.objs.size<|.tup z,e.laid (WE:=a.toks) (λf L d=>b0 _ d) (bh _) ?_,rfl,r _ i⟩;exact⟨x,Wl,m,⟨_,c0 _ rfl,rfl,_,rfl⟩⟩
def Qp(c:hR b Q E):bP b (.List Q Wk) (Se E):=by
 intro G n B j y A g;refine wpAny_List_spliced (bU (c Wk G n B j _ A g) λWl a ⟨z,Wc,e,m,x,r⟩=>⟨by rw[<-m.length];exact x,?_⟩);have h:Wc a.heap.objs.size=Y:=e.a5.fresh (bh _);refine⟨.ref a.heap.objs.size,upd Wc a.heap.objs.size<|.lst z,e.laid (WE:=a.toks) (λf L d=>b0 _ d) (bh _) ?_,rfl,r _ h⟩;exact⟨x,Wl,0,m,c0 _ rfl⟩
end
abbrev kj:=List ao->aC->cH->gv->Prop
abbrev ke:=List eT->aC->aq->gv->ae->aq->Prop
variable{R:ke}
structure vz(Wd:bJ)(D:bl)(V2:Φ)(aJ:aI->Option ae)(Wh:aY)(O:bD)(W0:List eT)(n:aq)(j:aC):Prop where
 frames:O.frames=Z W0
 mod:Mod V2 aJ Wh
 bs:∀f p,Wh.get? f=Z p->n.heap.get? f=Z p/\j f=Y
 lD:Wh.objs.size<=n.heap.objs.size
 jl:n.heap.FunFrames Wh W0
 nZ:∀f∈iG W0,j f=Y
 a5:ef Wd D j n.heap
 bare:l3 n.gens
def yJ(W0:List eT)(Wd:bJ)(D:bl)(j:aC)(n:aq)(y:cH)(L:ae)(V5:aq):Prop:=(
 ∃v V1,V5.os=n.os/\l3 V5.gens/\fq (iG W0) [] j V1 n.heap V5.heap/\ef Wd D V1 V5.heap/\b5 v L/\y v V1)
def K_(R:ke)(W0:List eT)(Wd:bJ)(D:bl)(j:aC)(n:aq)(y:cH)(U:gv)(m:ta)(V5:aq):Prop:=(
 match m with
 |.ok (.ret L)=>yJ W0 Wd D j n y L V5
 |.ok _=>False
 |.error d=>R W0 j n U d V5)
structure h6(Wd:bJ)(D:bl)(V2:Φ)(aJ:aI->Option ae)(Wh:aY)(R:ke)(o:Nat)(I:af)(fd:gT)(Wj:List aI)(Xm:kj):Prop where
 len:∀V4 j y U,Xm V4 j y U->V4.length=Wj.length
 run:∀(O:bD) (W0:List eT) (n:aq) (j:aC) (args:Args) (Wl:List ae) (V4:List ao) (y:cH) (U:gv),eP o O->vz Wd D V2 aJ Wh O W0 n j->mB n fd args (Wj.zip Wl)->bY V4 Wl->Xm V4 j y U->
  codeAny (aR Wd D) O (.call (.ref I) args) (K_ R W0 Wd D j n y U) n
section
variable{b:aQ}{G:List (af×a9)}{B:bg}{j:aC}{n V5:aq}
def aK.MW(A:aK b G B j n):vz b.prog b.w b.K b.aJ b.base b.A b.stack n j:=
 ⟨A.ok.frames,A.ok.mod,A.bs,dx A.ok.lD A.ho,A.stack,A.BK,A.a5,A.bare⟩
def aK.after{y:cH}(A:aK b G B j n)(c:yJ b.stack b.prog b.w j n y L V5):en b G B y L V5:=by
 let⟨v,@V1,Wn,a,un,a5,m,r⟩:=c;let⟨d,F,q,E,e⟩:=V5;obtain rfl:e=n.os:=Wn;exact⟨v,V1,A.call (T:=d) (Xo:=F) (W3:=q) (WE:=E) (Xn:=[]) un a5 a (λf x=>absurd x ↥0),m,r⟩
end
def yA(Xm:kj)(i:List ao)(U:gv)(E:eZ):b6:=(λB j y=>E B j λV4 Wc=>Xm (V4++i) Wc y U)
def iD(V2:Φ)(fd:gT)(Wj:List aI)(J:List ae):Prop:=(
 ∀(n:aq) (Wl:List ae),V2.In n.heap->(Wl++J).length=Wj.length->mB n fd ⟨Wl,[]⟩ (Wj.zip<|Wl++J))
def iD.all{fd:gT}(c:∀Wl:List ae,Wl.length=Wj.length->la fd ⟨Wl,[]⟩=pure (Wj.zip Wl)):iD V2 fd Wj []:=λn Wl W a=>by
 rw[cF]at a ⊢;exact .of_eq (c Wl a)
def uN(R:ke)(b:aQ)(U:gv):Prop:=(∀(G:List (af×a9)) (B:bg) (j:aC) (n:aq) (d:ae) (V5:aq),aK b G B j n->R b.stack j n U d V5->b.cJ d V5)
section
variable{b:aQ}{R:ke}{o:Nat}{I aO:af}{fd:gT}{Wj:List aI}{Xm:kj}{i:List ao}{J:List ae}{U:gv}{e k:aI}{s Wk Xr:Pos}{d p:bu}{Q:List bu}{WZ:b6}{E:eZ}
def Fh{y:cH}(P:h6 b.prog b.w b.K b.aJ b.base R o I fd Wj Xm)(V9:eP o b.A)(f:iD b.K fd Wj J)(hd:bY i J)(g:uN R b U)(A:aK b G B j n)(m:bY V4 Wl)(c:Xm (V4++i) j y U):wpAny (aR b.prog b.w) b.A (call (.ref I) Wl) (en b G B y) b.cJ n:=by
 have e:bY (V4++i) (Wl++J):=m.append hd;have h:(Wl++J).length=Wj.length:=by rw[<-e.length];exact P.len _ _ _ _ c
 refine wpAny_call (rQ (P.run b.A b.stack n j ⟨Wl,[]⟩ (Wl++J) (V4++i) y U V9 A.MW (f n Wl A.oI h) e c) λm V5 a=>?_);cases m with
 |error d=>exact g G B j n d V5 A a
 |ok aW=>
  cases aW with
  |ret L=>exact A.after a
  |next=>exact False.elim a
  |brk=>exact False.elim a
  |cont=>exact False.elim a
def LV(P:h6 b.prog b.w b.K b.aJ b.base R o I fd Wj Xm)(V9:eP o b.A)(f:fc b e)(g:b.aJ e=Z (.ref I))(h:Θ b.K (.ref I)=X)(k:iD b.K fd Wj J)(hd:bY i J)(l:uN R b U)(p:hR b (d::Q) E)(q:(e==("__debug__" : aI))=au:=by decide)(t:bV (d::Q) b.env=(au,cb d b.env)::bV Q b.env:=by rfl)(u:(fI Wk<|bV Q b.env).any (·.1)=au:=by rfl):
  bP b (.Call (.Name e s) (d::Q) [] Wk) (yA Xm i U E):=by
 intro G n B j y A c;refine rx (Ey A f g ?_ q);refine E4 (h₀:=b.base) A.ok.mod.w1 h (bU (p Wk G n B j _ A c) λWl x ⟨V4,Wc,a,m,r⟩=>⟨a.oI,?_⟩) t u;exact Fh P V9 k hd l a m r
end
structure o6(Ww Wd:List aI)(E:g_):Prop where
 kind:E.kind=.function
 co:E.isCoroutine=au
 gen:E.isGenerator=au
 ah:Ww.Nodup
 pre:Ww.take Wd.length=Wd
 par:∀e∈Wd,E.names.lookup e=Z .local\/E.names.lookup e=Z .cell
 Th:∀l∈E.names,l.2≠.free
theorem Gp{a:aI->Option c8}{e:aI}:∀{binds:List (aI×ae)}{k:aI->Option ae},(∀v,(e,v)∉binds)->bindL a binds k e=k e
 |[],_,_=>rfl
 | (u,v)::m,k,c=>by
  unfold bindL;rw[Gp λD b=>c D<|k0 _ b];split
  ·have:e≠u:=by rintro rfl;exact c v lh
   simp[this]
  ·rfl
theorem I8{a:aI->Option c8}{e:aI}:∀{binds:List (aI×ae)}{k:aI->Option ae},(∀v,(e,v)∉binds)->bindC a binds k e=k e
 |[],_,_=>rfl
 | (u,v)::m,k,c=>by
  unfold bindC;rw[I8 λD b=>c D<|k0 _ b];split
  ·rfl
  ·have:e≠u:=by rintro rfl;exact c v lh
   simp[this]
theorem Ib{b:aI->Option c8}{e:aI}{v:ae}:∀{Wd:List aI}{V4:List ae}{a:Nat}{k:aI->Option ae},Wd.Nodup->Wd[a]?=Z e->V4[a]?=Z v->b e=Z .local->
  bindL b (Wd.zip V4) k e=Z v
 |[],_,_,_,_,c,_,_=>by simp at c
 |_::_,[],_,_,_,_,c,_=>by simp at c
 |s::Wd,D::V4,0,k,ah,t,C,d=>by
  simp at t C;subst t;subst C;show bindL b ((s,D)::Wd.zip V4) k s=_;unfold bindL;rw[Gp λv f=>(gb.mp ah).1 (zK f).1,aM d];simp
 |s::Wd,D::V4,a+1,k,ah,t,C,d=>by
  show bindL b ((s,D)::Wd.zip V4) k e=_;unfold bindL;exact Ib (a:=a) (gb.mp ah).2 ⇑t ⇑C d
theorem Jv{b:aI->Option c8}{e:aI}{v:ae}:∀{Wd:List aI}{V4:List ae}{a:Nat}{k:aI->Option ae},Wd.Nodup->Wd[a]?=Z e->V4[a]?=Z v->b e≠Z .local->
  bindC b (Wd.zip V4) k e=Z v
 |[],_,_,_,_,c,_,_=>by simp at c
 |_::_,[],_,_,_,_,c,_=>by simp at c
 |s::Wd,D::V4,0,k,ah,t,C,d=>by
  simp at t C;subst t;subst C;show bindC b ((s,D)::Wd.zip V4) k s=_;unfold bindC;rw[I8 λv f=>(gb.mp ah).1 (zK f).1,aN d];simp
 |s::Wd,D::V4,a+1,k,ah,t,C,d=>by
  show bindC b ((s,D)::Wd.zip V4) k e=_;unfold bindC;exact Jv (a:=a) (gb.mp ah).2 ⇑t ⇑C d
def start(Ww:List aI)(V4:List ao):bg:=(V4.map Z++List.replicate (Ww.length-V4.length) Y)
def lR(R:ke)(Wd:bJ)(D:bl)(V2:Φ)(aJ:aI->Option ae)(Wh:aY)(Ww:List aI)(Xc:aI)(Wq:g_)(I:af)(a:ae)(O:bD)(W0:List eT)(n:aq)(j:aC)(U:gv):aQ where
 prog:=Wd
 w:=D
 K:=V2
 aJ:=aJ
 base:=Wh
 A:=O.deeper (jQ Xc Wq n.heap.objs.size I a)
 N:=Ww
 e2:=n
 qq:=j
 env:=jQ Xc Wq n.heap.objs.size I a
 outer:=W0
 stack:=jQ Xc Wq n.heap.objs.size I a::W0
 ex:=[]
 calm:=X
 fn:=λ_=>X
 kY:=[]
 cJ:=λd V5=>wpAny (aR Wd D) (O.deeper<|jQ Xc Wq n.heap.objs.size I a) (leaving (jQ Xc Wq n.heap.objs.size I a) d) (λ_ b=>R W0 j n U d b) (λc b=>R W0 j n U c b) V5
def Et{E:g_}(c:E.names.lookup e=Z .cell):∃h,(Bo u E.names []).lookup e=Z h:=by
 have r:=D4 E.names u [] (.inl c);exact Fy.mp r
def Uy{I:af}{p:ae}{W0:List eT}{w:aq}{U:gv}(We:o6 Ww Wj Wq)(hd:O.handled=Y)(b:vz Wd D V2 aJ Wh O W0 n j)(F:V4.length=Wj.length)(m:bY V4 Wl)(e:InCallC n n.heap.objs.size (bindL (jQ Xc Wq n.heap.objs.size I p).kindOf (Wj.zip Wl) λ_=>Y) (Bo (n.heap.objs.size+1) Wq.names []) (bindC (jQ Xc Wq n.heap.objs.size I p).kindOf (Wj.zip Wl) λ_=>Y) w):
  aK (lR R Wd D V2 aJ Wh Ww Xc Wq I p O W0 n j U) [] (start Ww V4) j w:=by
 have G:Wj.length<=Ww.length:=by have:=congrArg List.length We.pre;rw[gf]at this;lia
 let⟨t,@WK,rfl,y⟩:=e.done;have q:∀f:af,f∉(lR R Wd D V2 aJ Wh Ww Xc Wq I p O W0 n j U).ex:=λf x=>absurd (show f∈([]:List af) from x) ↥0;refine⟨⟨b.mod,We.kind,rfl,rfl,bh _,λl x h t C=>?_,λl i=>?_,λl h W c=>?_,λ_=>hd,bD.frames_deeper b.frames,.inr ⟨rfl,rfl⟩,λf x=>absurd x<|q f,b.bs,b.lD,λf W W=>q f,λf x=>absurd x<|q f,b.jl,b.nZ⟩,
  rfl,b.bare,fq.kept y,⟨_,e.toInCall.ns,λa l v t C H=>?_⟩,λl h c=>⟨_,e.cell l h c⟩,b.a5.fresh<|bh _,λl h c=>?_,λs k=>absurd (show s∈([]:List (af×a9)) from k) ↥0,b.a5.kept y,?_⟩
 ·exact name_of_addr e.apart (PySem.mem_of_lookup t) (PySem.mem_of_lookup C)
 ·have i:Wq.names.lookup l=Z .cell\/Wq.names.lookup l=Z .free:=i;rcases i with i|i
  ·exact Et i
  ·exact absurd rfl (We.Th _<|PySem.mem_of_lookup i)
 ·exact oP (e.above l h<|PySem.mem_of_lookup c)
 ·have V0:a<V4.length:=by
   unfold start at C;by_cases V0:a<V4.length
   ·exact V0
   ·rw[mf ⇑V0]at C;rw[List.getElem?_replicate]at C;split at C<;>cases C
  have B:V4[a]?=Z v:=by
   unfold start at C;rw[mj ⇑V0,eB]at C;cases d:V4[a]? with
   |none=>rw[d]at C;cases C
   |some g=>rw[d]at C;cases C;rfl
  let⟨@L,z,E⟩:=m.get B;have k:Wj[a]?=Z l:=by
   rw[<-We.pre,List.getElem?_take_of_lt ⋯];exact t
  have A:Wj.Nodup:=by rw[<-We.pre];exact We.ah.sublist (rO _ _)
  refine⟨L,E,?_⟩;rcases We.par l (gO k) with o|o
  ·exact .inl ⟨o,Ib A k z o⟩
  ·let⟨@h,d⟩:=Et (u:=n.heap.objs.size+1) o;refine .inr ⟨.inl o,h,d,?_⟩;have r:=e.cell l h d;rw[Jv A k z (by show Wq.names.lookup l≠_;rw[o];decide)]at r;exact r
 ·exact b.a5.fresh (oP<|e.above l h<|PySem.mem_of_lookup c)
 ·unfold start;show _=Ww.length;rw[di,ba,List.length_replicate];lia
def PM{I:af}{name:aI}{g:Arguments}{h cB i WT x cq t:ae}{k M:Option af}{w:Array (Option ae)}{Xm:kj}(lk:V2.lookup I=Z ⟨t,M,.func<|Ξ name Xc g Xw Wq h cB i WT k x cq,w⟩)(C:Δ V2 x Xc=X)(We:o6 Ww Wj Wq)(len:∀V4 j y U,Xm V4 j y U->V4.length=Wj.length)(F:∀(O:bD) (W0:List eT) (n:aq) (j:aC) (V4:List ao) (y:cH) (U:gv),eP o (O.deeper<|jQ Xc Wq n.heap.objs.size I x)->Xm V4 j y U->
   ∃E,h9 (lR R Wd D V2 aJ Wh Ww Xc Wq I x O W0 n j U) Xw E/\E {bB:=λ_ V1=>y .aV V1,a_:=y} (start Ww V4) j):
  h6 Wd D V2 aJ Wh R (o+1) I (Ξ name Xc g Xw Wq h cB i WT k x cq) Wj Xm:=by
 refine⟨len,λO W0 n j args Wl V4 y U V9 a G m q=>?_⟩;have H:=len _ _ _ _ q;have s:V2.In n.heap:=a.mod.w1.keeps λf p d=>(a.bs f p d).1;have J:n.heap.NoLimit:=a.mod.nolimit.keeps λf p d=>(a.bs f p d).1;have N:∀l∈Wj.zip Wl,Wq.names.lookup l.1=Z .local\/(Wq.names.lookup l.1=Z .cell/\((Bo (n.heap.objs.size+1) Wq.names []).lookup l.1).isSome=X):=λ⟨u,v⟩ P=>by
  rcases We.par u (zK P).1 with r|r
  ·exact .inl r
  ·exact .inr ⟨r,D4 _ _ _<|.inl r⟩
 refine codeAny_call_function V9.depth (s _ _ lk) rfl We.co We.gen rfl (PySem.W.codeRec_of s C) (G _ _ _ _ ?_);refine wpAny_newFunctionEnv_cells We.kind N λV8 Q z e=>?_;subst Q;refine⟨J.keeps e.toInCall.keep,codeAny_func ?_⟩;let⟨@E,bT,T⟩:=F O W0 n j V4 y U (V9.deeper _) q;have A:aK (lR R Wd D V2 aJ Wh Ww Xc Wq I x O W0 n j U) [] (start Ww V4) j z:=Uy We V9.hd a H m e;refine gR (bT [] z (start Ww V4) j _ A T) (λaW V5 av=>?_) λd V5 av=>av;have B:∀{b:bg}{V1:aC}{v:ao}{L:ae},aK (lR R Wd D V2 aJ Wh Ww Xc Wq I x O W0 n j U) [] b V1 V5->b5 v L->y v V1->yJ W0 Wd D j n y L V5:=
  λ{b V1 v L} Xh c r=>⟨v,V1,Xh.os,Xh.bare,Xh.base,Xh.a5,c,r⟩;cases aW with
 |ret L=>
  let⟨v,b,@V1,Xh,c,r⟩:=av;exact B Xh c r
 |next=>
  let⟨b,@V1,Xh,r⟩:=av;exact B (v:=ao.aV) (L:=ae.none) Xh rfl r
 |brk=>
  let⟨S,@S,S,r⟩:=av;exact False.elim r
 |cont=>
  let⟨S,@S,S,r⟩:=av;exact False.elim r
section
variable{b:aQ}{e:aI}{s Wk:Pos}{d:bu}{Q:List bu}{E:eZ}{id V6:String}{m:List ao->aC->cH->Prop}
def Cv(m:List ao->aC->cH->Prop)(E:eZ):b6:=(λB j y=>E B j λV4 Wc=>m V4 Wc y)
def EE(a:eO b (.builtin id) m)(f:fc b e)(g:b.aJ e=Y)(h:fk e=Z (.builtin id))(i:hR b (d::Q) E)(k:e ≠ "__name__" := by decide)(l:(e==("__debug__" : aI))=au:=by decide)(o:bV (d::Q) b.env=(au,cb d b.env)::bV Q b.env:=by rfl)(p:(fI Wk<|bV Q b.env).any (·.1)=au:=by rfl):bP b (.Call (.Name e s) (d::Q) [] Wk) (Cv m E):=by
 intro G n B j y A c;refine rx (nJ A f g h ?_ k l);exact FQ (bU (i Wk G n B j _ A c) λWl q ⟨V4,Wc,r,t,u⟩=>a G q B Wc V4 Wl y r t u) o p
def KZ(a:eO b (.type V6) m)(f:fc b e)(g:b.aJ e=Y)(h:fk e=Z (.type V6))(i:hR b (d::Q) E)(k:e ≠ "__name__" := by decide)(l:(e==("__debug__" : aI))=au:=by decide)(o:bV (d::Q) b.env=(au,cb d b.env)::bV Q b.env:=by rfl)(p:(fI Wk<|bV Q b.env).any (·.1)=au:=by rfl):bP b (.Call (.Name e s) (d::Q) [] Wk) (Cv m E):=by
 intro G n B j y A c;refine rx (nJ A f g h ?_ k l);exact vP (bU (i Wk G n B j _ A c) λWl q ⟨V4,Wc,r,t,u⟩=>a G q B Wc V4 Wl y r t u) o p
end
end L2
namespace dt
open PyProof.Rows
variable{V0 S:Option Int}{l bW:ae}{a4 E:af}{y:ae->aq->Prop}
theorem LK(O:bD)(n:aq)(g:Int)(E:iL)(h:Int)(L:iL)(Wb:bJ)(D:bl)(U:ae->aq->Prop)(y:ae->aq->Prop)(c:y (.bool<|decide (g<h)) n):
  wpAny (aR Wb D) O (oT .Lt (.int g E)<|.int h L) y U n:=
 (Sw c:wpAny (aR Wb D) O (d3 .Lt (.int g E)<|.int h L) y U n)
section
open PySem.SeqAt
open PySem.AutoSeq1 (wpAny_loadPart')
open PySem.MeetsSeq PySem.MeetsSeq2 PySem.MeetsSeq3
end
section
variable{Wb:bJ}{D:bl}{O:bD}{U:ae->aq->Prop}{n:aq}
def Li{f:af}{V4 a:List ae}(bT:nK n.heap E V4.toArray)(o:nK n.heap f a.toArray)(g:V4≠[])(t:a=[]->y (.ref E) n)(C:a≠[]->y (.ref n.heap.objs.size) {n with heap:=n.heap.push {cls:=.type "tuple",data:=.seq (V4++a).toArray} })(p:V4.length+a.length<=sizeLine):wpAny (aR Wb D) O (gh .Add (.ref E)<|.ref f) y U n:=by
 let⟨@⟨cls,h,data,a4⟩,b,i,⟨@u,hd⟩⟩:=id bT;let⟨@⟨q,j,data2,k⟩,c,l,⟨@Xk,m⟩⟩:=id o;simp only at i hd l m;subst i hd l m;have d:V4.toArray++a.toArray=(V4++a).toArray:=by simp
 by_cases e:a=[]
 ·exact zg ⟨_,b,rfl⟩ ⟨_,c,rfl⟩ w3 yP xG xA (zZ _ _)
   (tuple_addW1 E f V4.toArray a.toArray u Xk h j a4 k ⇑g (by simp[e])) ⟨b,c,t e⟩
 ·refine zg ⟨_,b,rfl⟩ ⟨_,c,rfl⟩ w3 yP xG xA (zZ _ _)
   (tuple_addW2 E f V4.toArray a.toArray u Xk h j a4 k ⇑g ⇑e (by rw[cR,cR];exact p)) ⟨b,c,?_⟩;rw[d];exact C e
def cn(u q:Nat):Option Int->Nat
 |none=>q
 |some v=>if v<0 then (v+(u:Int)).toNat else min v.toNat u
def DF(u q:Nat):cn u q Y=q:=rfl
def E6(u q o:Nat):cn u q (Z (o:Int))=min o u:=by
 show (if (o:Int)<0 then ((o:Int)+(u:Int)).toNat else min (o:Int).toNat u)=min o u;rw[aN ⋯,kb]
def Mr(u q:Nat)(hd:q<=u)(p:Option Int):cn u q p<=u:=by
 cases p with
 |none=>exact hd
 |some v=>
  show (if v<0 then (v+(u:Int)).toNat else min v.toNat u)<=u;by_cases a:v<0
  ·rw[aM a];lia
  ·rw[aN a];exact Nat.min_le_right _ _
def IB(v:Int)(u q:Nat):(if v<0 then max (v+(u:Int)) 0 else min v (u:Int))=((cn u q (Z v):Nat):Int):=by
 show (if v<0 then max (v+(u:Int)) 0 else min v (u:Int))=(((if v<0 then (v+(u:Int)).toNat else min v.toNat u):Nat):Int);by_cases a:v<0
 ·simp only[aM a];lia
 ·simp only[aN a];lia
def Kp(S V0:Option Int)(u:Nat):a0.Slice.sliceAdjust S V0 1 (u:Int)=(((cn u 0 S:Nat):Int),((cn u u V0:Nat):Int)):=by
 have t:¬ ((1:Int)<0):=⋯
 unfold a0.Slice.sliceAdjust;simp only[t,e9];refine mu ?_ ?_
 ·cases S with
  |none=>rfl
  |some v=>exact IB v u 0
 ·cases V0 with
  |none=>rfl
  |some v=>exact IB v u u
def OH(a i:Nat):a0.Slice.slicePlaces (a:Int) (i:Int) 1=i-a:=by
 unfold a0.Slice.slicePlaces;have t:(1:Int)>0:=⋯
 simp only[t,gN,Int.ediv_one];split<;>lia
def FY{v:ae}{p:Option Int}{y:Option Int->aq->Prop}(s:k9 v p)(c:y p n):wpAny (aR Wb D) O (a0.Slice.slicePartIndex v) y U n:=by
 cases s with
 |none=>exact DV c
 |int a E=>exact slicePart_int c
def EF{u:Nat}{y:Int×Int×Nat->aq->Prop}(av:n.heap.IsSliceOf a4 bW l .none)(bG:k9 bW S)(d:k9 l V0)(c:y (((cn u 0 S:Nat):Int),1,cn u u V0-cn u 0 S) n):wpAny (aR Wb D) O (a0.Slice.sliceApplied (.ref a4)<|pure (u:Int)) y U n:=by
 let⟨@Wn,a,f,b⟩:=id av;unfold a0.Slice.sliceApplied a0.Slice.sliceFields;refine ar (ar<|fR a b (x:=bW) rfl<|ar<|fR a b (x:=l) rfl<|ar<|fR a b (x:=.none) rfl<|aL ?_);refine ar (DV ?_);show wpAny _ _ (if ((1:Int)==0)=X then _ else _) _ _ n;rw[aN ∅];refine ar (FY bG<|ar<|FY d<|ar<|aL ?_);show wpAny _ _ (match a0.Slice.sliceAdjust S V0 1 (u:Int) with|(S,V0)=>pure (S,(1:Int),a0.Slice.slicePlaces S V0 1)) _ _ n;rw[Kp S V0 u];show wpAny _ _ (pure (((cn u 0 S:Nat):Int),(1:Int),a0.Slice.slicePlaces ((cn u 0 S:Nat):Int) ((cn u u V0:Nat):Int) 1)) _ _ n;rw[OH];exact aL c
def Tg(z:Array ae)(a o:Nat):((range o).filterMap λ(k:Nat)=>z[((a:Int)+(k:Int)*1).toNat]?).toArray=((z.toList.drop a).take o).toArray:=by
 have d:(λ(k:Nat)=>z[((a:Int)+(k:Int)*1).toNat]?)=λk=>z[a+k]?:=by
  funext k;have:((a:Int)+(k:Int)*1).toNat=a+k:=⋯
  rw[this]
 rw[d];have:=pick_run z a o;rw[List.filterMap_map]at this;have b:((λe=>z[e]?) ∘ λe=>a+e)=λk=>z[a+k]?:=rfl;rw[b]at this;rw[this]
def KO{Wv:Array ae}(bT:nK n.heap E Wv)(av:n.heap.IsSliceOf a4 bW l .none)(bG:k9 bW S)(b:k9 l V0)(d:¬ (cn Wv.size 0 S=0/\cn Wv.size Wv.size V0=Wv.size))(c:y (.ref n.heap.objs.size) {n with heap:=n.heap.push {cls:=.type "tuple",data:=.seq ((Wv.toList.drop<|cn Wv.size 0 S).take<|cn Wv.size Wv.size V0-cn Wv.size 0 S).toArray} })(i:Wv.size<=sizeLine):wpAny (aR Wb D) O (nA (.ref E)<|.ref a4) y U n:=by
 have a:sizeOk (.seq ((Wv.toList.drop<|cn Wv.size 0 S).take<|cn Wv.size Wv.size V0-cn Wv.size 0 S).toArray):=by
  show ((Wv.toList.drop<|cn Wv.size 0 S).take<|cn Wv.size Wv.size V0-cn Wv.size 0 S).toArray.size<=sizeLine;rw[cR,gf,gH,dv];lia
 have j:cn Wv.size Wv.size V0<=Wv.size:=Mr _ _ (bh _) V0;let⟨@Wn,e,f,m⟩:=id av;have g:n.TypeIs (.ref a4) "slice" := ⟨Wn,e,f⟩;unfold nA;try with_reducible refine f6 ?_
 first|refine ar (aL ?_)|skip
 refine ar (GZ bT.typeIs ∅ ?_);refine ar (kl (name:=aI.ofString "__getitem__") bT.typeIs pl
  (gd pl bT.typeIs Il ?_<|Dn _ _));show wpAny _ _ (a0.Tuple.tupleItemsOf (.ref E) >>= _) _ _ n;refine ar (Hb bT ?_);refine ar (o7 g ?_);rw[aM ∅];refine ar (EF av bG b ?_);have h:¬ ((((cn Wv.size 0 S:Nat):Int)==0&&(1:Int)==1&&(cn Wv.size Wv.size V0-cn Wv.size 0 S)==Wv.size)=X):=by
  intro r;rw[cN,cN]at r;have o:((cn Wv.size 0 S:Nat):Int)=0:=eq_of_beq r.1.1;have p:cn Wv.size Wv.size V0-cn Wv.size 0 S=Wv.size:=eq_of_beq r.2;exact d ⟨⋯,⋯⟩
 show wpAny _ _ (if (((cn Wv.size 0 S:Nat):Int)==0&&(1:Int)==1&&(cn Wv.size Wv.size V0-cn Wv.size 0 S)==Wv.size)=X then _ else _) _ _ n;rw[aN h,Tg];first
  | exact ar (m:=a0.Tuple.tupleExact _) (fu (aL ⟨_,rfl,aL c⟩) a)
  | exact ar (m:=a0.Tuple.tupleExact _) (fu (ar<|aL<|aL ⟨_,rfl,aL c⟩) a)
  | exact ar (ar (m:=a0.Tuple.tupleExact _)<|fu (aL<|aL ⟨_,rfl,aL c⟩) a)
  | exact ar (ar (m:=a0.Tuple.tupleExact _)<|fu (aL ⟨_,rfl,aL c⟩) a)
end
end dt
namespace L2
open Spec PyProof.Rows
variable{g s:af}{b:aQ}{T:aY}{y:ae->aq->Prop}{V1 j:aC}{Wf:List (List V×ao)}{D:bl}{Wd:bJ}{L:Option ae}{p:Option ao}{WE i u:Nat}{w Wg Wl:List ae}{n:aq}{B:bg}{G:List (af×a9)}{m:bZ}{Wr:Type}{a:Int}{z:List (List V×af×ae)}
abbrev c2:=bg->aC->(Option Int->aC->Prop)->Prop
def DD(b:aQ)(d:Option bu)(E:c2)(G:List (af×a9)):Prop:=(
 ∀(n:aq) (B:bg) (j:aC) (y:Option Int->aC->Prop),aK b G B j n->E B j y->
  wpAny (aR b.prog b.w) b.A (evalPart d b.env) (λL V5=>∃p V1,aK b G B V1 V5/\k9 L p/\y p V1) b.cJ n)
def pB(b:aQ)(d:Option bu)(E:c2):Prop:=(∀G,DD b d E G)
def Qt:c2:=(λ_ j y=>y Y j)
def Q8(E:b6):c2:=(λB j y=>E B j λe Wc=>∃a,e=.int a/\y (Z a) Wc)
section
variable{b:aQ}{d:bu}{Xg:b6}{S V0:Option bu}{Xx t:c2}{Wk W2:Pos}
def Nb:pB b Y Qt:=by
 intro G n B j y A c;rw[IT];exact aL ⟨Y,j,A,.none,c⟩
def J9(c:bP b d Xg):pB b (Z d) (Q8 Xg):=by
 intro G n B j y A f;rw[evalPart_some];refine bU (c G n B j _ A f) λL l g=>?_;let⟨e,@Wc,h,i,k⟩:=g;let⟨@a,rfl,r⟩:=k;let⟨@E,rfl⟩:=i;exact⟨Z a,Wc,h,.int a E,r⟩
def sh(b:aQ)(m:ao->Option Int->Option Int->aC->cH->Prop):Prop:=(
 ∀(G:List (af×a9)) (n:aq) (B:bg) (j:aC) (e:ao) (v bW l:ae) (S V0:Option Int) (a4:af) (y:cH),aK b G B j n->b5 e v->n.heap.IsSliceOf a4 bW l .none->k9 bW S->k9 l V0->m e S V0 j y->
  ∃V6 id,typeLookup (.type V6) "__getitem__" = pure (Z<|.builtin id)/\n.TypeIs v V6/\wpAny (aR b.prog b.w) b.A (nA v<|.ref a4) (en b G B y) b.cJ n)
def ON(m:ao->Option Int->Option Int->aC->cH->Prop)(Xg:b6)(Xx t:c2):b6:=(λB j y=>Xg B j λe Wc=>Xx B Wc λH Ws=>t B Ws λL a=>m e H L a y)
def Qq{m:ao->Option Int->Option Int->aC->cH->Prop}(V9:sh b m)(i:bP b d Xg)(k:pB b S Xx)(o:pB b V0 t):bP b (.Subscript d (.Slice S V0 Y W2) Wk) (ON m Xg Xx t):=by
 intro G n B j y A c;refine Subscript_ (bU (i G n B j _ A c) λv p g=>?_);let⟨e,@Wc,q,s,u⟩:=g;refine wpAny_Slice (bU (k G p B Wc _ q u) λbW x ⟨H,Ws,z,bG,C⟩=>bU (o G x B Ws _ z C) λl a g=>?_);let⟨L,@h,E,F,I⟩:=g;rw[IT];refine aL ?_;have J:aK b G B h {a with heap:=a.heap.push {cls:=.type "slice",data:=.fields #[bW,l,.none]} }:=E.kept (WE:=a.toks) λf WI r=>b0 _ r;let⟨V6,@id,M,bT,N⟩:=V9 G {a with heap:=a.heap.push {cls:=.type "slice",data:=.fields #[bW,l,.none]} } B h e v bW l H L a.heap.objs.size y J s (aY.IsSliceOf.new ..) bG F I;show wpAny (aR b.prog b.w) b.A (F6 d (.Slice S V0 Y W2) v<|.ref a.heap.objs.size) (en b G B y) b.cJ {a with heap:=a.heap.push {cls:=.type "slice",data:=.fields #[bW,l,.none]} };exact tail_any (ops:=[.ref a.heap.objs.size,v]) bT M N (by with_unfolding_all rfl)
def m7(z:List ao)(S V0:Option Int):List ao:=((z.drop<|dt.cn z.length 0 S).take (dt.cn z.length z.length V0-dt.cn z.length 0 S))
def Cc(z:List ao)(S V0:Option Int):(m7 z S V0).length<=z.length:=by
 unfold m7;rw[gf,gH];lia
def Rc(V2:Φ):ao->Option Int->Option Int->aC->cH->Prop:=(λe S V0 j y=>∃g z,e=.ref g/\cz V2 j g z/\
 ¬ (dt.cn z.length 0 S=0/\dt.cn z.length z.length V0=z.length)/\∀s,j s=Y->y (.ref s) (upd j s<|.tup<|m7 z S V0))
def QV:sh b (Rc b.K):=by
 intro G n B j e v bW l S V0 a4 y A h av bG i c;let⟨g,@z,rfl,k,o,r⟩:=c;cases h;let⟨@Wg,m,bT,d⟩:=A.tuple k;have a:Wg.toArray.size=z.length:=by rw[cR];exact m.length.symm
 refine⟨"tuple",_,pl.lookup,bT.typeIs,?_⟩;refine dt.KO bT av bG i (by rw[a];exact o) ?_ (by rw[a];exact d);rw[a];refine⟨.ref n.heap.objs.size,_,A.laid (WE:=n.toks) (p:=.tup (m7 z S V0)) (λf WI r=>b0 _ r) (bh _) ?_,rfl,r _<|A.a5.fresh<|bh _⟩;exact⟨dx (Cc z S V0) d,_,(m.drop<|dt.cn z.length 0 S).take<|dt.cn z.length z.length V0-dt.cn z.length 0 S,mH.new _ _⟩
def Nd(V2:Φ):bZ:=(λe l j y=>∃g f z Wm,e=.ref g/\l=.ref f/\cz V2 j g z/\cz V2 j f Wm/\z≠[]/\z.length+Wm.length<=sizeLine/\
 (Wm=[]->y (.ref g) j)/\(Wm≠[]->∀s,j s=Y->y (.ref s) (upd j s<|.tup<|z++Wm)))
def bY.wx{z:List ao}(m:bY z Wl):Wl=[]↔z=[]:=by
 cases m with
 |nil=>simp
 |cons _ _=>simp
def NA:dU b (gh .Add) (Nd b.K):=by
 intro G n B j e l v L y A i k c;let⟨g,f,z,@Wm,rfl,rfl,m,o,q,h,s,t⟩:=c;cases i;cases k;let⟨@Wg,d,u,W⟩:=A.tuple m;let⟨@w,a,W2,W⟩:=A.tuple o;refine dt.Li u W2 (λx=>q<|d.wx.mp x) (λx=>⟨.ref g,j,A,rfl,s<|a.wx.mp x⟩) (λx=>?_) (by rw[<-d.length,<-a.length];exact h);refine⟨.ref n.heap.objs.size,_,A.laid (WE:=n.toks) (p:=.tup (z++Wm)) (λf WI r=>b0 _ r) (bh _) ?_,rfl,t (λD=>x<|a.wx.mpr D) _<|A.a5.fresh<|bh _⟩;exact⟨by rw[di];exact h,_,d.append a,mH.new _ _⟩
end
def j1(u:Nat)(a:Int):Option Nat:=(if 0<=a then (if a<u then Z a.toNat else Y) else if -(u:Int)<=a then Z (a+u).toNat else Y)
def fy{Wr:Type}(z:List Wr)(a:Int):Option Wr:=((j1 z.length a).bind λi=>z[i]?)
def EN(c:j1 u a=Z i):seqIndex? a u=Z i/\i<u /\ -(u:Int)<=a/\a<u:=by
 unfold j1 at c;by_cases b:0<=a
 ·rw[aM b]at c;by_cases t:a<u
  ·rw[aM t]at c;have d:a.toNat=i:=Option.some.inj c;exact⟨by rw[yW b t,d],⋯,⋯,t⟩
  ·rw[aN t]at c;cases c
 ·rw[aN b]at c;by_cases t : -(u:Int)<=a
  ·rw[aM t]at c;have d:(a+u).toNat=i:=Option.some.inj c;exact⟨by rw[yv ⋯ t,d],⋯,t,⋯⟩
  ·rw[aN t]at c;cases c
def F5{z:List Wr}{v:Wr}(c:fy z a=Z v):∃i,seqIndex? a z.length=Z i/\z[i]?=Z v/\i<z.length /\ -(z.length:Int)<=a/\a<z.length:=by
 unfold fy at c;cases d:j1 z.length a with
 |none=>rw[d]at c;cases c
 |some i=>
  rw[d]at c;let@⟨t,C,b,e⟩:=EN d;exact⟨i,t,c,C,b,e⟩
def MV{z:List Wr}{v:Wr}(c:z[i]?=Z v):fy z (i:Int)=Z v:=by
 have a:i<z.length:=(fs.mp c).1;have d:j1 z.length (i:Int)=Z i:=by
  unfold j1;rw[aM ⋯,aM ⋯];simp
 unfold fy;rw[d];exact c
def sj(f:bu):Prop:=(∀p a,subscripted f au p a=operate [p,a] (nA p a))
def i7(b:aQ)(m:bZ):Prop:=(
 ∀(k a:bu) (G:List (af×a9)) (n:aq) (B:bg) (j:aC) (e l:ao) (v L:ae) (y:cH),aK b G B j n->b5 e v->b5 l L->m e l j y->
  subscripted a au v L=operate [v,L] (nA v L)->wpAny (aR b.prog b.w) b.A (F6 k a v L) (en b G B y) b.cJ n)
def wC(b:aQ)(id:String)(m:ao->List ao->aC->cH->Prop):Prop:=(
 ∀(G:List (af×a9)) (n:aq) (B:bg) (j:aC) (e:ao) (z:List ao) (v:ae) (Wl:List ae) (y:cH),aK b G B j n->b5 e v->bY z Wl->m e z j y->
  wpAny (aR b.prog b.w) b.A (call (.builtin id) (v::Wl)) (en b G B y) b.cJ n)
section
variable{b:aQ}{g f:bu}{WZ Xi:b6}{Wk:Pos}
def i7.or{WV:bZ}(c:i7 b m)(T:i7 b WV):i7 b (λe l j y=>m e l j y\/WV e l j y):=by
 intro k a G n B j e l v L y A d f r av;rcases r with r|r
 ·exact c k a G n B j e l v L y A d f r av
 ·exact T k a G n B j e l v L y A d f r av
def Cj(V9:i7 b m)(a:bP b g WZ)(d:bP b f Xi)(av:sj f):bP b (.Subscript g f Wk) (v_ m WZ Xi):=by
 intro G n B j y A c;exact Subscript_ (xc a d A c λv L h e l Ws i k o r=>V9 g f G h B Ws e l v L y i k o r<|av _ _)
def Qi(V2:Φ):bZ:=(λe l j y=>∃s z a v,e=.ref s/\l=.int a/\dE V2 j s z/\fy z a=Z v/\y v j)
def QI(V2:Φ):bZ:=(λe l j y=>∃s z a v,e=.ref s/\l=.int a/\cz V2 j s z/\fy z a=Z v/\y v j)
def T2:i7 b (Qi b.K):=by
 intro k J G n B j e l v L y A o p c av;let⟨s,z,a,@x,rfl,rfl,q,u,r⟩:=c;cases o;let⟨@E,rfl⟩:=p;let⟨@Wg,m,bG,M⟩:=A.list q;let⟨@i,t,C,N,w,F⟩:=F5 u;let⟨@D,f,H⟩:=m.get C;have I:=m.length;have O:=pj;have g:en b G B y D n:=⟨x,j,A,H,r⟩;by_cases h:0<=a
 ·have d:a.toNat=i:=by
   rw[yW h F]at t;exact Option.some.inj t
  exact item_listR bG.isList h ⋯ (by rw[d];simpa using f) g av
 ·have d:(a+(Wg.toArray.size:Int)).toNat=i:=by
   rw[yv ⋯ w]at t;rw[cR,<-I];exact Option.some.inj t
  exact Bw (x:=D) bG.isList.typeIs CC.lookup
   (wpAny_getItem_list_neg (Q:=λm V5=>m=D/\en b G B y m V5) bG.isList ⋯ (by rw[cR]<;>lia) ⋯ (by rw[d];simpa using f) ⟨rfl,g⟩) av
def G6:i7 b (QI b.K):=by
 intro k w G n B j e l v L y A d f c av;let⟨s,z,a,@x,rfl,rfl,g,h,r⟩:=c;cases d;let⟨@E,rfl⟩:=f;let⟨@Wg,m,bG,F⟩:=A.tuple g;let⟨@i,t,C,H,I,J⟩:=F5 h;let⟨@D,o,p⟩:=m.get C;have q:=m.length;have M:=pj;have u:en b G B y D n:=⟨x,j,A,p,r⟩;exact Bw (x:=D) bG.typeIs slot_tuple_getitem.lookup
  (getItem_tuple (j:=i) (Q:=λm V5=>m=D/\en b G B y m V5) bG ⋯ ⋯ (by rw[cR,<-q];exact t) ⇑o ⟨rfl,u⟩) av
def U4(Wg:List ae)(u i:Nat)(L:ae):a9.mapSeq (·.setIfInBounds i L) {cls:=.type "list",data:=.seq Wg.toArray u}={cls:=.type "list",data:=.seq (Wg.set i L).toArray u}:=by
 simp[a9.mapSeq]
variable{z:List ao}
def aK.lst(A:aK b G B j n)(c:j s=Z (.lst z)):
  ∃(Wg:List ae) (u:Nat),bY z Wg/\n.heap.get? s=Z {cls:=.type "list",data:=.seq Wg.toArray u}/\z.length<=sizeLine:=by
 let@⟨x,⟨Wg,@u,m,d⟩⟩:=A.a5 s _ c;exact⟨Wg,u,m,d,x⟩
def aK.SK{Wm:List ao}{a:Nat}{I:a9->a9}(A:aK b G B j n)(c:j s=Z (.lst z))(h:n.heap.get? s=Z {cls:=.type "list",data:=.seq Wg.toArray u})(g:I {cls:=.type "list",data:=.seq Wg.toArray u}={cls:=.type "list",data:=.seq w.toArray a})(m:bY Wm w)(i:Wm.length<=sizeLine)(E:Nat):
  aK b G B (upd j s<|.lst Wm) {n with heap:=n.heap.update s I,toks:=E}:=by
 have d:(n.heap.update s I).get? s=Z {cls:=.type "list",data:=.seq w.toArray a}:=by
  rw[jK I h (by rw[g]<;>rfl),g]
 refine A.write (e:=s) (d:=s) (by rw[c];trivial) (.inl rfl) (λf L k r=>(iE _ _<|Ne.symm k).trans r) ⟨_,d⟩ ?_;exact⟨i,w,a,m,d⟩
def Nn:ao->ao->ao->aC->(aC->Prop)->Prop:=(λp a v j y=>∃s z o i,p=.ref s/\a=.int o/\j s=Z (.lst z)/\j1 z.length o=Z i/\y (upd j s<|.lst<|z.set i v))
def RE:zk b Nn:=by
 intro G n B j p a v I J L y A k x D c;let⟨s,z,o,@i,rfl,rfl,g,F,r⟩:=c;cases k;let⟨@E,rfl⟩:=x;let⟨Wg,@u,m,d,H⟩:=A.lst g;let@⟨t,C,h,l⟩:=EN F;have e:=m.length;have M:=pj;have q:aK b G B (upd j s<|.lst<|z.set i v) {n with heap:=n.heap.update s (a9.mapSeq (·.setIfInBounds i L))}:=
  A.SK g d (U4 Wg u i L) (m.set D i) (by rw[vA];exact H) n.toks;by_cases w:0<=o
 ·have f:o.toNat=i:=by
   rw[yW w l]at t;exact Option.some.inj t
  exact PySem.W.ki_setAt d w ⋯ (by rw[cR,<-e];exact l) (by rw[f];exact⟨_,q,r⟩)
 ·have f:(o+(Wg.toArray.size:Int)).toNat=i:=by
   rw[yv ⋯ h]at t;rw[cR,<-e];exact Option.some.inj t
  exact PySem.W.ki_setBack d ⋯ (by rw[cR,<-e];exact h) ⋯ (by rw[f];exact⟨_,q,r⟩)
def PV(S V0:Option Int)(u:Nat):(o_ S V0 Y u).1=((dt.cn u 0 S:Nat):Int)/\(o_ S V0 Y u).2.1=((dt.cn u u V0:Nat):Int)/\(o_ S V0 Y u).2.2=1:=by
 refine⟨?_,?_,rfl⟩
 ·cases S with
  |none=>simp[o_,dt.cn]
  |some a=>
   simp only[o_,dt.cn,Hv,show (1:Int)>0 by decide,gN];by_cases c:a<0
   ·simp only[c,gN]<;>lia
   ·simp only[c,e9]<;>lia
 ·cases V0 with
  |none=>simp[o_,dt.cn]
  |some a=>
   simp only[o_,dt.cn,Hv,show (1:Int)>0 by decide,gN];by_cases c:a<0
   ·simp only[c,gN]<;>lia
   ·simp only[c,e9]<;>lia
def Qr(Wg:List ae)(S V0:Option Int):slicePick Wg.toArray S V0 Y=((Wg.drop<|dt.cn Wg.length 0 S).take<|dt.cn Wg.length Wg.length V0-dt.cn Wg.length 0 S).toArray:=by
 let@⟨t,C,a⟩:=PV S V0 Wg.toArray.size;unfold slicePick;rw[t,C,a];simp only[sliceRange_one,pick_run,cR]<;>rfl
def Uk(V2:Φ):ao->Option Int->Option Int->aC->cH->Prop:=(λe S V0 j y=>∃g z,e=.ref g/\dE V2 j g z/\∀s,j s=Y->y (.ref s) (upd j s<|.lst<|m7 z S V0))
def GN:sh b (Uk b.K):=by
 intro G n B j e v bW l S V0 a4 y A a av bG d c;let⟨g,@z,rfl,h,r⟩:=c;cases a;let⟨@Wg,m,bT,i⟩:=A.list h;have k:=m.length;refine⟨"list",_,CC.lookup,bT.isList.typeIs,?_⟩;refine wpAny_getItem_list_slice bT.isList av bG d .none ↥0 ?_ (by rw[cR]<;>lia);rw[Qr,<-k];refine⟨.ref n.heap.objs.size,_,A.laid (WE:=n.toks) (p:=.lst (m7 z S V0)) (λf WI r=>b0 _ r) (bh _) ?_,rfl,r _<|A.a5.fresh<|bh _⟩;exact⟨dx (Cc z S V0) i,_,0,(m.drop<|dt.cn z.length 0 S).take<|dt.cn z.length z.length V0-dt.cn z.length 0 S,c0 _ rfl⟩
def P_:eO b (.builtin "len") (λz j y=>∃s Wm,z=[.ref s]/\(dE b.K j s Wm\/cz b.K j s Wm)/\y (.int Wm.length) j):=by
 intro G n B j z Wl y A m c;let⟨s,@Wm,rfl,a,r⟩:=c;let⟨@L,rfl,e⟩:=ix m;cases e;have g:=pj;rcases a with a|a
 ·let⟨@Wg,WV,bG,f⟩:=A.list a;have d:=WV.length;exact Calls.call_len_list bG.isList (by simp only[cR]<;>lia) ⟨.int Wm.length,j,A.tok _,⟨n.toks+1,by rw[cR,d]⟩,r⟩
 ·let⟨@Wg,WV,bG,f⟩:=A.tuple a;have d:=WV.length;exact len_tuple bG (by simp only[cR]<;>lia) ⟨.int Wm.length,j,A.tok _,⟨n.toks+1,by rw[cR,d]⟩,r⟩
def L1:eO b (.builtin "len") (λz j y=>∃x,z=[.str x]/\x.length<=sizeLine/\y (.int x.length) j):=by
 intro G n B j z Wl y A m c;let⟨@x,rfl,a,r⟩:=c;let⟨@L,rfl,⟨@E,rfl⟩⟩:=ix m;have d:=pj;exact len_str ⋯ ⟨.int x.length,j,A.tok _,⟨_,rfl⟩,r⟩
def eO.or{I:ae}{m WV:List ao->aC->cH->Prop}(c:eO b I m)(T:eO b I WV):eO b I (λz j y=>m z j y\/WV z j y):=by
 intro G n B j z Wl y A Xd r;rcases r with r|r
 ·exact c G n B j z Wl y A Xd r
 ·exact T G n B j z Wl y A Xd r
def Sh:eO b (.type "list") (λz j y=>∃s Wm,z=[.ref s]/\(dE b.K j s Wm\/cz b.K j s Wm)/\∀H,j H=Y->y (.ref H) (upd j H<|.lst Wm)):=by
 intro G n B j z Wl y A m c;let⟨s,@Wm,rfl,e,r⟩:=c;let⟨@L,rfl,l⟩:=ix m;cases l;have k:∀(Wg:List ae),bY Wm Wg->Wm.length<=sizeLine->∀(T:aY) (a:Nat),(∀f WN,n.heap.get? f=Z WN->T.get? f=Z WN)->
   T.get? n.heap.objs.size=Z {cls:=.type "list",dict:=Y,data:=.seq Wg.toArray a,slots:=#[]}->en b G B y (.ref n.heap.objs.size) {n with heap:=T}:=λWg WV g T a d6 d=>
  ⟨.ref n.heap.objs.size,_,A.laid (WE:=n.toks) d6 (bh _)<|show el b.prog b.w _ T _ (.lst Wm) from ⟨g,Wg,a,WV,d⟩,rfl,r _<|A.a5.fresh<|bh _⟩;rcases e with e|e
 ·let⟨@Wg,WV,bG,g⟩:=A.list e;have o:=WV.length;let⟨@p,h,i,⟨@u,hd⟩⟩:=bG.isList;exact ID s (.inl rfl) h i hd (λT a d6 d=>k Wg WV g T a d6 d) (by simp only[cR]<;>lia)
 ·let⟨@Wg,WV,bG,g⟩:=A.tuple e;have o:=WV.length;let⟨@p,h,i,⟨@u,hd⟩⟩:=bG;exact ID s (.inr rfl) h i hd (λT a d6 d=>k Wg WV g T a d6 d) (by simp only[cR]<;>lia)
def Oi:eO b (.type "tuple") (λz j y=>∃s Wm,z=[.ref s]/\((dE b.K j s Wm/\∀H,j H=Y->y (.ref H) (upd j H<|.tup Wm))\/(cz b.K j s Wm/\y (.ref s) j))):=by
 intro G n B j z Wl y A m c;let⟨s,@Wm,rfl,c⟩:=c;let⟨@L,rfl,h⟩:=ix m;cases h;rcases c with ⟨a,r⟩|⟨a,r⟩
 ·let⟨@Wg,WV,bG,e⟩:=A.list a;have k:=WV.length;refine call_tuple_list bG.isList (λT d6=>?_) (by simp only[cR]<;>lia);have g:aK b G B j {n with heap:=T}:=A.kept (WE:=n.toks) d6;have i:aK b G B (upd j T.objs.size<|.tup Wm) {n with heap:=T.push {cls:=.type "tuple",data:=.seq Wg.toArray} }:=
   g.laid (WE:=n.toks) (λf p d=>b0 _ d) (bh _) (show el b.prog b.w _ _ _ (.tup Wm) from ⟨e,Wg,WV,mH.new _ _⟩);exact⟨.ref T.objs.size,_,i,rfl,r _<|g.a5.fresh<|bh _⟩
 ·let⟨@Wg,WV,bG,e⟩:=A.tuple a;exact call_tuple_same bG ⟨.ref s,j,A,rfl,r⟩
def lG(V2:Φ)(V6:String)(e:ao)(j:aC):Prop:=(match e with
 |.str _=>V6 = "str"
 |.int _=>V6 = "int"
 |.ref s=>(V6 = "list" /\ ∃z,dE V2 j s z)\/(V6 = "tuple" /\ ∃p,V2.lookup s=Z p/\p.cls=.type "tuple" /\ p.dict=Y)\/
   (V6 = "dict" /\ ((∃Wf,j s=Z (.dw Wf))\/∃Wf,j s=Z (.aF Wf)))\/(V6 = "set" /\ ∃We u,j s=Z (.set We u))
 |_=>False)
def Ji{V6:String}{e:ao}{v:ae}(A:aK b G B j n)(m:b5 e v)(ty:lG b.K V6 e j):
  n.TypeIs v V6/\∀g,v=.ref g->∃WI,n.heap.get? g=Z WI/\WI.dict=Y:=by
 cases e with
 |str x=>
  let⟨@E,rfl⟩:=m;cases (show V6 = "str" from ty);exact⟨x8 n x E,λ_ d=>nomatch d⟩
 |int a=>
  let⟨@E,rfl⟩:=m;cases (show V6 = "int" from ty);exact⟨typeIs_int n a E,λ_ d=>nomatch d⟩
 |ref s=>
  cases m;rcases ty with ⟨rfl,z,i⟩|⟨rfl,p,c,k,hd⟩|⟨rfl,c⟩|⟨rfl,We,u,c⟩
  ·let⟨@Wg,W,bG,W⟩:=A.list i;refine⟨bG.isList.typeIs,λg d=>?_⟩;cases d;let⟨p,@u,d,h,hd,W⟩:=bG;exact⟨p,d,hd⟩
  ·refine⟨⟨p,A.oI s p c,k⟩,λg d=>?_⟩;cases d;exact⟨p,A.oI _ p c,hd⟩
  ·have x:∃p,n.heap.get? s=Z p/\p.ExactDict:=by
    rcases c with ⟨Wf,c⟩|⟨Wf,c⟩
    ·let@⟨_,_,⟨@_,_,⟨p,_,@_,d,WM,_⟩⟩⟩:=A.a5 s _ c;exact⟨p,d,WM⟩
    ·let@⟨_,_,⟨@_,_,⟨p,_,@_,d,WM,_⟩⟩⟩:=A.a5 s _ c;exact⟨p,d,WM⟩
   let⟨@p,d,WM⟩:=x;refine⟨⟨p,d,WM.1⟩,λg f=>?_⟩;cases f;exact⟨p,d,WM.2.1⟩
  ·let⟨p,W,W,@W,d,WM,W⟩:=A.a5 s _ c;refine⟨⟨p,d,WM.1⟩,λg f=>?_⟩;cases f;exact⟨p,d,WM.2.1⟩
 |_=>exact False.elim ty
def Pe(V2:Φ)(V6:String)(m:ao->List ao->aC->cH->Prop)(k:b6):b6:=(λB j y=>k B j λe Wc=>lG V2 V6 e Wc/\m e [] Wc y)
def Mh(V2:Φ)(V6:String)(m:ao->List ao->aC->cH->Prop)(k:b6)(E:eZ):b6:=(λB j y=>k B j λe Wc=>lG V2 V6 e Wc/\E B Wc λz Ws=>m e z Ws y)
variable{p d:bu}{Q:List bu}{k:b6}{E:eZ}{name:aI}{Xr H:Pos}{V6 id:String}{m:ao->List ao->aC->cH->Prop}
def Rw(bX:t4 V6)(Xl:Slot V6 name id)(f:q9 (.builtin id)=pure (.type "method_descriptor"))(g:wC b id m)(h:bP b p k)(i:n2 p name b.env (cb p b.env)=cb p b.env:=by rfl)(l:(Xr.endLine==H.line)=X:=by rfl):bP b (.Call (.Attribute p name Xr) [] [] H) (Pe b.K V6 m k):=by
 intro G n B j y A c;refine wpAny_Call_method0_late i l (bU (h G n B j _ A c) λv o q=>?_);let⟨e,@Wc,a,d,ty,r⟩:=q;let@⟨t,C⟩:=Ji a d ty;exact⟨V6,id,bX,Xl,f,t,C,Ae rfl<|IK<|g G o B Wc e [] v [] y a d .nil r⟩
def Km(bX:t4 V6)(Xl:Slot V6 name id)(i:q9 (.builtin id)=pure (.type "method_descriptor"))(l:wC b id m)(o:bP b p k)(q:hR b (d::Q) E)(r:n2 p name b.env (cb p b.env)=cb p b.env:=by rfl)(s:((fI H<|bV (d::Q) b.env).all (λe=>!e.1)&&(AU H<|yX [] b.env).all (λe=>e.1.isSome)
   && decide ((d::Q).length+([]:List og).length+(if ([]:List og).isEmpty then 0 else 1)<30))=X:=by rfl)(u:(Xr.endLine==H.line)=X:=by rfl)(av:bV (d::Q) b.env=(au,cb d b.env)::bV Q b.env:=by rfl)(w:(fI H<|bV Q b.env).any (·.1)=au:=by rfl):
  bP b (.Call (.Attribute p name Xr) (d::Q) [] H) (Mh b.K V6 m k E):=by
 intro G n B j y A c;refine wpAny_Call_method_late r s u rfl (bU (o G n B j _ A c) λv x a=>?_);let⟨e,@Wc,f,g,ty,z⟩:=a;let@⟨t,C⟩:=Ji f g ty;refine⟨V6,id,bX,Xl,i,t,C,?_⟩;have h:=q H G x B Wc _ f z;rw[av]at h ⊢;refine Ae (by show (au || (fI H<|bV Q b.env).any (·.1))=au;rw[w]<;>rfl) (Jx ?_);refine bU h λWl D a=>?_;let⟨V4,@Ws,F,I,J⟩:=a;exact l G D B Ws e V4 v Wl y F g I J
end
def G7(b:aQ)(id:String)(m:ao->List ao->aC->cH->Prop):Prop:=(
 ∀(G:List (af×a9)) (n:aq) (B:bg) (j:aC) (e:ao) (z:List ao) (v:ae) (Wl:List ae) (y:cH),aK b G B j n->b5 e v->bY z Wl->m e z j y->
  wpAny (aR b.prog b.w) b.A (call (.builtin id) (v::Wl)) (en b G B y) b.cJ n)
theorem bY.one:∀{e:ao}{Wl:List ae},bY [e] Wl->∃L,Wl=[L]/\b5 e L
 |_,_,.cons m .nil=>⟨_,rfl,m⟩
theorem bY.zero:∀{Wl:List ae},bY [] Wl->Wl=[]
 |_,.nil=>rfl
def bY.dropLast{z:List ao}(c:bY z Wl):bY z.dropLast Wl.dropLast:=by
 induction c with
 |nil=>exact .nil
 |cons m E a=>
  cases E with
  |nil=>exact .nil
  |cons r WE=>exact .cons m a
def Pb(H:List Wr):H.eraseIdx (H.length-1)=H.dropLast:=by
 induction H with
 |nil=>rfl
 |cons g m a=>
  cases m with
  |nil=>rfl
  |cons f m=>
   have d:(g::f::m).length-1=((f::m).length-1)+1:=by
    have t:(g::f::m).length=m.length+2:=rfl;have C:(f::m).length=m.length+1:=rfl;lia
   rw[d,List.eraseIdx_cons_succ,a];all_goals rfl
section
variable{b:aQ}{G:List (af×a9)}{B:bg}{j:aC}{n:aq}{H f:af}{z Wm W4:List ao}
def aK.BD{I:Array ae->Array ae}(A:aK b G B j n)(a:j H=Z (.lst z))(d:n.heap.get? H=Z {cls:=.type "list",data:=.seq Wg.toArray u})(c:I Wg.toArray=w.toArray)(f:bY Wm w)(g:Wm.length<=sizeLine):
  aK b G B (upd j H<|.lst Wm) {n with heap:=n.heap.update H (a9.mapSeq I),toks:=WE}:=by
 have r:=B0 d I;rw[c]at r;refine A.write (e:=H) (d:=H) (by rw[a];exact trivial) (.inl rfl) (λk L h i=>(iE n.heap (a9.mapSeq I)<|Ne.symm h).trans i) ⟨_,r⟩ ?_;exact⟨g,w,_,f,r⟩
def aK.KJ(A:aK b G B j n)(a:bY Wm Wg)(c:Wm.length<=sizeLine):
  aK b G B (upd j n.heap.objs.size<|.lst Wm) {n with heap:=n.heap.push {cls:=.type "list",data:=.seq Wg.toArray},toks:=WE}:=
 A.laid (λ_ W r=>b0 _ r) (bh _) ⟨c,Wg,0,a,c0 _ rfl⟩
def aK.fresh(A:aK b G B j n):j n.heap.objs.size=Y:=A.a5.fresh (bh _)
def aK.jf(A:aK b G B j n)(a:j H=Z (.lst z)):z.length<=sizeLine/\∃(Wg:List ae) (u:Nat),bY z Wg/\z.length=Wg.length/\n.heap.get? H=Z {cls:=.type "list",data:=.seq Wg.toArray u}:=by
 let@⟨x,⟨Wg,@u,m,d⟩⟩:=A.a5 H _ a;exact⟨x,Wg,u,m,m.length,d⟩
def VJ(c:u<=sizeLine):a0.List.listTooLong u=au:=by
 unfold a0.List.listTooLong;exact dQ ⋯
end
section
variable{b:aQ}
def S7:ao->List ao->aC->cH->Prop:=(λe V4 j y=>∃H z l,e=.ref H/\V4=[l]/\j H=Z (.lst z)/\z.length<sizeLine/\y .aV (upd j H<|.lst<|z++[l]))
def Vl:G7 b "list.append" S7:=by
 intro G n B j e V4 v Wl y A f g c;let⟨H,z,@l,rfl,rfl,a,i,r⟩:=c;cases f;let⟨@L,rfl,h⟩:=g.one;let@⟨x,⟨Wg,@u,m,k,d⟩⟩:=A.jf a;refine zp EC ⟨_,d,rfl⟩ B6 (Ct _ _) (EV H Wg.toArray u L (by rw[cR];lia)) ⟨d,?_⟩;refine⟨.aV,_,A.BD (w:=Wg++[L]) a d ↥0 (m.append<|.cons h .nil) ?_,rfl,r⟩;rw[di,gI];lia
def M4:ao->List ao->aC->cH->Prop:=(λe V4 j y=>∃H z l,e=.ref H/\V4=[]/\j H=Z (.lst z)/\z[z.length-1]?=Z l/\y l (upd j H<|.lst z.dropLast))
def QL:G7 b "list.pop" M4:=by
 intro G n B j e V4 v Wl y A f g c;let⟨H,z,@l,rfl,rfl,a,h,r⟩:=c;cases f;have i:=g.zero;subst i;let@⟨x,⟨Wg,@u,m,k,d⟩⟩:=A.jf a;let⟨@L,o,p⟩:=m.get h;have q:Wg.toArray[Wg.toArray.size-1]?=Z L:=by
  show Wg.toArray[Wg.length-1]?=Z L;rw[<-eQ,<-k];exact o
 refine zp F.slot_list_pop ⟨_,d,rfl⟩ F.entry_list_pop (F.args_list_pop_1 _) (MeetsSeq.list_pop_last H Wg.toArray u L q (by rw[cR];lia)) ⟨d,?_⟩;refine⟨l,_,A.BD (w:=Wg.dropLast) a d ?_ m.dropLast ?_,p,r⟩
 ·show Wg.toArray.eraseIdxIfInBounds (Wg.toArray.size-1)=Wg.dropLast.toArray;rw[cR,D9,Pb]
 ·rw[List.length_dropLast];lia
def Kq:bZ:=(λe l j y=>∃H f z W4,e=.ref H/\l=.ref f/\j H=Z (.lst z)/\j f=Z (.lst W4)/\z.length+W4.length<=sizeLine/\∀s,j s=Y->y (.ref s) (upd j s<|.lst<|z++W4))
def Uw:dU b (gh .Add) Kq:=by
 intro G n B j e l v L y A g h c;let⟨H,f,z,@W4,rfl,rfl,i,k,s,r⟩:=c;cases g;cases h;let@⟨x,⟨Wg,@u,m,t,d⟩⟩:=A.jf i;let@⟨w,⟨a,@Xk,o,C,p⟩⟩:=A.jf k;refine PySem.P.add_list d p ?_ (by rw[cR,cR];lia);have q:Wg.toArray++a.toArray=(Wg++a).toArray:=by simp
 rw[q];exact⟨.ref _,_,A.KJ (WE:=n.toks) (m.append o) (by rw[di];lia),rfl,r _ A.fresh⟩
end
section
variable{Wu:Type}[DecidableEq Wu]
def hO(Wf:List (Wu×ao))(o:Wu):Option ao:=((Wf.find? λa=>decide (a.1=o)).map (·.2))
def fX(Wf:List (Wu×ao))(o:Wu)(v:ao):List (Wu×ao):=(
 if (Wf.any λa=>decide (a.1=o))=X then Wf.map (λa=>if a.1=o then (a.1,v) else a) else Wf++[(o,v)])
def vR{s:Wu×ao}{m:List (Wu×ao)}{o:Wu}(d:s.1=o):hO (s::m) o=Z s.2:=by simp[hO,lx,d]
def vj{s:Wu×ao}{m:List (Wu×ao)}{o:Wu}(d:¬ s.1=o):hO (s::m) o=hO m o:=by simp[hO,lx,d]
theorem IM(o:Wu):∀Wf:List (Wu×ao),(Wf.any λa=>decide (a.1=o))=(hO Wf o).isSome
 |[]=>rfl
 |s::m=>by
  rw[oD];by_cases d:s.1=o
  ·simp only[vR d,du d,H3,Option.isSome_some]
  ·rw[vj d,dQ d,Em];exact IM o m
def G0(Wf:List (Wu×ao))(o:Wu)(v:ao):(fX Wf o v).length<=Wf.length+1:=by
 unfold fX;split
 ·rw[ba];lia
 ·rw[di,dj,iv];lia
def jD.sH(m:jD p L):p.isSome=L.isSome:=by
 cases p with
 |none=>cases L with
  |none=>rfl
  |some _=>exact (show False from m).elim
 |some _=>cases L with
  |none=>exact (show False from m).elim
  |some _=>rfl
def jD.getD{q:ao}{W3:ae}(m:jD p L)(a:b5 q W3):b5 (p.getD q) (L.getD W3):=by
 cases p with
 |none=>cases L with
  |none=>exact a
  |some _=>exact (show False from m).elim
 |some _=>cases L with
  |none=>exact (show False from m).elim
  |some _=>exact m
def fS.val{Wf:List (Wu×ao)}{V4:List (Wu×ae)}(m:fS Wf V4)(o:Wu):jD (hO Wf o) (oB V4 o):=by
 unfold fS at m;induction m with
 |nil=>exact True.intro
 |@cons s r Wj a c E e=>
  let@⟨t,C⟩:=c;by_cases d:s.1=o
  ·have b:r.1=o:=t.symm.trans d;have f:oB (r::a) o=Z r.2:=by simp[oB,lx,b]
   rw[vR d,f];exact C
  ·have b:¬ r.1=o:=λx=>d (t.trans x);have f:oB (r::a) o=oB a o:=by simp[oB,lx,b]
   rw[vj d,f];exact e
def fS.any{Wf:List (Wu×ao)}{V4:List (Wu×ae)}(m:fS Wf V4)(o:Wu):(Wf.any λa=>decide (a.1=o))=V4.any λa=>decide (a.1=o):=by
 unfold fS at m;induction m with
 |nil=>rfl
 |cons c E b=>rw[oD,oD,b,c.1]
def fS.zo{Wf:List (Wu×ao)}{V4:List (Wu×ae)}(m:fS Wf V4)(o:Wu){l:ao}{L:ae}(b:b5 l L):
  fS (Wf.map λa=>if a.1=o then (a.1,l) else a) (V4.map λa=>if a.1=o then (a.1,L) else a):=by
 unfold fS at m ⊢;induction m with
 |nil=>exact .nil
 |@cons s r Wj f c E e=>
  rw[b2,b2];refine .cons ?_ e;let@⟨t,C⟩:=c;by_cases d:s.1=o
  ·rw[aM d,aM<|t.symm.trans d];exact⟨t,b⟩
  ·rw[aN d,aN<|λx=>d<|t.trans x];exact⟨t,C⟩
def fS.put{Wf:List (Wu×ao)}{V4:List (Wu×ae)}(m:fS Wf V4)(o:Wu){l:ao}{L:ae}(a:b5 l L):fS (fX Wf o l) (stored V4 o L):=by
 unfold fX stored;rw[m.any o];by_cases d:(V4.any λb=>decide (b.1=o))=X
 ·rw[aM d,aM d];exact m.zo o a
 ·rw[aN d,aN d];exact ea.snoc m ⟨rfl,a⟩
def fS.length{Wf:List (Wu×ao)}{V4:List (Wu×ae)}(m:fS Wf V4):Wf.length=V4.length:=ea.length m
end
def rG{o:eG}{L:ae}(m:b5 (cB o) L):(lF Wd D).is o L=X:=by
 cases o with
 |inl a=>let⟨@E,d⟩:=(show ∃E,L=ae.int a E from m);subst d;exact TG Wd D a E
 |inr e=>let⟨@E,d⟩:=(show ∃E,L=ae.str e E from m);subst d;exact PK Wd D e E
abbrev fw(j:aC):List (List V×ao)->List (List V×af×ae)->Prop:=ea λs r=>s.1=r.1/\ic j s.1 r.2.1/\b5 s.2 r.2.2
def fw.val(m:fw j Wf z)(o:List V):jD (hO Wf o) ((k_ z o).map (·.2)):=by
 induction m with
 |nil=>exact True.intro
 |@cons s r Wj a c E e=>
  let@⟨t,_,C⟩:=c;by_cases d:s.1=o
  ·have b:r.1=o:=t.symm.trans d;have f:k_ (r::a) o=Z r.2:=by simp[k_,lx,b]
   rw[vR d,f];exact C
  ·have b:¬ r.1=o:=λx=>d (t.trans x);have f:k_ (r::a) o=k_ a o:=by simp[k_,lx,b]
   rw[vj d,f];exact e
def fw.zo(m:fw j Wf z)(o:List V){l:ao}{L:ae}(b:b5 l L):
  fw j (Wf.map λa=>if a.1=o then (a.1,l) else a) (z.map<|putAt o L):=by
 induction m with
 |nil=>exact .nil
 |@cons s r Wj g c E e=>
  rw[b2,b2];refine .cons ?_ e;let@⟨t,C,f⟩:=c;unfold putAt;by_cases d:s.1=o
  ·rw[aM d,aM<|t.symm.trans d];exact⟨t,C,b⟩
  ·rw[aN d,aN<|λx=>d<|t.trans x];exact⟨t,C,f⟩
def fw.put(m:fw j Wf z)(o:List V){f:af}{l:ao}{L:ae}(b:ic j o f)(a:b5 l L):
  fw j (fX Wf o l) (lb z o f L):=by
 have d:(Wf.any λc=>decide (c.1=o))=(k_ z o).isSome:=by
  rw[IM,(m.val o).sH,t_]
 unfold fX lb;rw[d];by_cases r:(k_ z o).isSome=X
 ·rw[aM r,aM r];exact m.zo o a
 ·rw[aN r,aN r];exact ea.snoc m ⟨rfl,b,a⟩
def fw.keeps(m:fw j Wf z)(bT:∀f Wm,j f=Z (.tup Wm)->V1 f=Z (.tup Wm)):fw V1 Wf z:=
 ea.u4 m λ_ W x=>⟨x.1,x.2.1.mono bT,x.2.2⟩
section
variable{Wd:bJ}{D:bl}{j:aC}{c:aY}{g:af}
def IQ{L:fO}(ok:ef Wd D j c)(d:jx j g L):el Wd D j c g L:=d.ok ok
def nv{Wf:List (eG×ao)}(ok:ef Wd D j c)(d:jx j g (.dw Wf)):Wf.length<=sizeLine/\(g==ie)=au/\∃V4,fS Wf V4/\c.DictOf (lF Wd D) g V4:=
 show el Wd D j c g (.dw Wf) from IQ ok d
def Pd{Wf:List (eG×ao)}(ok:ef Wd D j c)(d:j g=Z (.dw Wf)):Wf.length<=sizeLine/\(g==ie)=au/\∃V4,fS Wf V4/\c.DictOf (lF Wd D) g V4:=nv ok (.inl d)
mutual
theorem cC.eY(ok:ef Wd D j c):∀{q:V}{v:ao}{L:ae},cC j q v->b5 v L->dp c q L
 |.aV,_,_,d,m=>by cases (show _=ao.aV from d);exact m
 |.aB f,_,_,d,m=>by cases (show _=ao.aB f from d);exact m
 |.int a,_,_,d,m=>by cases (show _=ao.int a from d);exact m
 |.str e,_,_,d,m=>by cases (show _=ao.str e from d);exact m
 |.fn g,_,_,d,m=>by cases (show _=ao.ref g from d);exact m
 |.tup J,_,_,d,m=>by
  let⟨g,@z,rfl,t,C⟩:=d;cases m;let@⟨_,⟨@Wg,b,⟨@p,h,i,⟨@u,k⟩⟩⟩⟩:=(show el Wd D j c g (.tup z) from ok g _ t);exact⟨g,p,Wg.toArray,u,rfl,h,(Prod.mk.inj i).1,k,by simpa using bM.eY ok C b⟩
 |.aW J,_,_,d,m=>by
  let⟨g,z,@p,rfl,t,C⟩:=d;cases m;exact⟨g,rfl⟩
 |.fd,_,_,d,m=>by
  let⟨g,@p,rfl,t⟩:=d;cases m;exact⟨g,rfl⟩
theorem bM.eY(ok:ef Wd D j c):∀{J:List V}{V4:List ao}{Wl:List ae},bM j J V4->bY V4 Wl->dP c J Wl
 |[],_,_,d,m=>by cases (show _=[] from d);cases m;rfl
 |q::J,_,_,d,m=>by
  let⟨v,@E,rfl,t,C⟩:=d;cases m with
  |cons a b=>exact⟨_,_,rfl,cC.eY ok t a,bM.eY ok C b⟩
end
def p0{M:List V}(ok:ef Wd D j c)(d:ic j M g):(eL Wd D).is c M g:=⟨d.1,d.2.eY ok rfl⟩
def p2{Wd:bJ}{D:bl}{O:bD}(c:O.units+20<bS):(eL Wd D).room O.in1:=show O.units+1+10<bS by lia
def oN(ok:ef Wd D j c)(d:jx j g (.aF Wf)):Wf.length<=sizeLine/\(g==ie)=au/\
  ∃z,fw j Wf z/\c.DictOfH (eL Wd D) g z:=by
 let@⟨x,l,⟨@z,m,⟨p,Q,@Wt,t,C,f,h,i⟩⟩⟩:=(show el Wd D j c g (.aF Wf) from IQ ok d);refine⟨x,l,z,m,p,Q,Wt,t,C,f,h,λe a=>?_,i⟩;have all:∀{H:List (List V×ao)}{k:List (List V×af×ae)},fw j H k->∀e∈k,(eL Wd D).is c e.1 e.2.1:=by
  intro H k r;induction r with
  |nil=>intro e a;exact nomatch a
  |@cons s r Wj o b E n=>
   intro e a;rcases b8.mp a with d|a
   ·subst d;exact p0 ok (by rw[<-b.1];exact b.2.1)
   ·exact n e a
 exact all m e a
def Az(ok:ef Wd D j c)(d:j g=Z (.aF Wf)):Wf.length<=sizeLine/\(g==ie)=au/\
  ∃z,fw j Wf z/\c.DictOfH (eL Wd D) g z:=oN ok (.inl d)
end
def f9(j:aC)(g:af)(l:ao)(m:Option ao):Prop:=(
 (∃Wf o,jx j g (.dw Wf)/\l=cB o/\m=hO Wf o)\/∃Wf o f,jx j g (.aF Wf)/\l=.ref f/\ic j o f/\m=hO Wf o)
def nI(j:aC)(g:af)(l v:ao)(V1:aC):Prop:=(
 (∃Wf o,j g=Z (.dw Wf)/\l=cB o/\Wf.length<sizeLine/\V1=upd j g (.dw<|fX Wf o v))\/
 ∃Wf o f,j g=Z (.aF Wf)/\l=.ref f/\ic j o f/\Wf.length<sizeLine/\V1=upd j g (.aF<|fX Wf o v))
def f9.k{j:aC}{g:af}{Wf:List (eG×ao)}{o:eG}(d:j g=Z (.dw Wf)):f9 j g (cB o) (hO Wf o):=.inl ⟨Wf,o,.inl d,rfl,rfl⟩
def f9.t{j:aC}{g f:af}{Wf:List (List V×ao)}{o:List V}(d:j g=Z (.aF Wf))(a:ic j o f):f9 j g (.ref f) (hO Wf o):=.inr ⟨Wf,o,f,.inl d,rfl,a,rfl⟩
def nI.k{j:aC}{g:af}{Wf:List (eG×ao)}{o:eG}{v:ao}(d:j g=Z (.dw Wf))(a:Wf.length<sizeLine):nI j g (cB o) v (upd j g<|.dw<|fX Wf o v):=.inl ⟨Wf,o,d,rfl,a,rfl⟩
def nI.t{j:aC}{g f:af}{Wf:List (List V×ao)}{o:List V}{v:ao}(d:j g=Z (.aF Wf))(a:ic j o f)(b:Wf.length<sizeLine):
  nI j g (.ref f) v (upd j g<|.aF<|fX Wf o v):=.inr ⟨Wf,o,f,d,rfl,a,b,rfl⟩
section
variable{b:aQ}{G:List (af×a9)}{B:bg}{j:aC}{n:aq}{g:af}{l v:ao}{L m:ae}{p:Option ao}{O:bD}{U:ae->aq->Prop}
def aK.big(A:aK b G B j n):ie<n.heap.objs.size:=by
 have c:dZ<n.heap.objs.size:=(A.mod.glob.keeps A.gc).lt;exact qr ∅ c
def UP(r:O.units+20<bS)(A:aK b G B j n)(F:f9 j g l (Z v))(q:b5 l L)(c:∀a V5,aK b G B j V5->b5 v a->y a V5):
  wpAny (aR b.prog b.w) O (nA (.ref g) L) y U n:=by
 rcases F with ⟨Wf,o,d,e,H⟩|⟨Wf,o,f,d,e,t,H⟩
 ·subst e;let@⟨x,hd,⟨@V4,h,i⟩⟩:=nv A.a5 d;let⟨@a,k,m⟩:=jD.some_of (v:=v) (p:=oB V4 o) (by rw[H];exact h.val o);exact wpAny_getItem_of (rG q) i.mapOf k (c a _ (A.tok _) m)
 ·subst e;cases (show L=ae.ref f from q);let@⟨x,hd,⟨@z,h,i⟩⟩:=oN A.a5 d;let⟨@a,k,m⟩:=jD.some_of (v:=v) (p:=(k_ z o).map (·.2)) (by rw[H];exact h.val o);let⟨@s,u,C⟩:=cm.mp k;refine wpAny_getItem_heap (p2 r) (p0 A.a5 t) i u ?_;rw[C];exact c a _ (A.tok _) m
def zT(k:O.units+20<bS)(A:aK b G B j n)(F:f9 j g l p)(i:b5 l L)(c:∀V5,aK b G B j V5->y (.bool p.isSome) V5):
  wpAny (aR b.prog b.w) O (d3 .In L<|.ref g) y U n:=by
 rcases F with ⟨Wf,o,d,a,H⟩|⟨Wf,o,f,d,a,m,H⟩
 ·subst a;let@⟨x,hd,⟨@V4,e,h⟩⟩:=nv A.a5 d;refine wpAny_in_of (rG i) hd h.mapOf ?_;rw[<-(e.val o).sH,<-H];exact c _ (A.tok _)
 ·subst a;cases (show L=ae.ref f from i);let@⟨x,hd,⟨@z,e,h⟩⟩:=oN A.a5 d;refine wpAny_in_heap (p2 k) (p0 A.a5 m) hd h ?_;have r:=(e.val o).sH;rw[t_]at r;rw[<-r,<-H];exact c _ (A.tok _)
def xd(k:O.units+20<bS)(A:aK b G B j n)(F:f9 j g l p)(i:b5 l L)(c:∀V5,aK b G B j V5->y (.bool<|!p.isSome) V5):
  wpAny (aR b.prog b.w) O (d3 .NotIn L<|.ref g) y U n:=by
 rcases F with ⟨Wf,o,d,a,H⟩|⟨Wf,o,f,d,a,m,H⟩
 ·subst a;let@⟨x,hd,⟨@V4,e,h⟩⟩:=nv A.a5 d;refine wpAny_notIn_of (rG i) hd h.mapOf ?_;rw[<-(e.val o).sH,<-H];exact c _ (A.tok _)
 ·subst a;cases (show L=ae.ref f from i);let@⟨x,hd,⟨@z,e,h⟩⟩:=oN A.a5 d;refine wpAny_notIn_heap (p2 k) (p0 A.a5 m) hd h ?_;have r:=(e.val o).sH;rw[t_]at r;rw[<-r,<-H];exact c _ (A.tok _)
def yZ{WI:fO}(A:aK b G B j n)(a:sR (j g))(av:aY.SameBut g n.heap T)(c:∃r,T.get? g=Z r)(new:el b.prog b.w (upd j g WI) T g WI):
  aK b G B (upd j g WI) {n with heap:=T,toks:=WE}:=
 A.write (e:=g) (d:=g) a (.inl rfl) (λf r h x=>(av.2 f h).trans x) c new
def O_{Wf:List (eG×ao)}{V4:List (eG×ae)}(x:Wf.length<=sizeLine)(hd:(g==ie)=au)(a:fS Wf V4)(b:T.DictOf (lF Wd D) g V4):
  el Wd D V1 T g (.dw Wf):=⟨x,hd,V4,a,b⟩
def D1{y:Unit->aq->Prop}(M:O.units+20<bS)(A:aK b G B j n)(F:nI j g l v V1)(u:b5 l L)(E:b5 v m)(c:∀V5,aK b G B V1 V5->y () V5):
  wpAny (aR b.prog b.w) O (uJ (.ref g) L m) y U n:=by
 rcases F with ⟨Wf,o,d,k,H,p⟩|⟨Wf,o,f,d,k,I,H,p⟩
 ·subst k p;let@⟨x,hd,⟨@V4,a,q⟩⟩:=Pd A.a5 d;have s:V4.length<=sizeLine:=by rw[<-a.length];exact x
  have t:(fX Wf o v).length<=sizeLine:=by have:=G0 Wf o v;lia
  refine wpAny_setItem_pairs (hsz:=s) (rG u) q λT e av=>c _ ?_;have P:∃r,T.get? g=Z r:=let ⟨r,_,_,i,_⟩:=e;⟨r,i⟩
  exact yZ A (by rw[d];exact True.intro) av P (O_ t hd (a.put o E) e)
 ·subst k p;cases (show L=ae.ref f from u);let@⟨x,hd,⟨@z,a,q⟩⟩:=Az A.a5 d;have s:z.length<=sizeLine:=by rw[<-ea.length a];exact x
  have t:(fX Wf o v).length<=sizeLine:=by have:=G0 Wf o v;lia
  refine wpAny_setItem_heap (hsz:=s) (p2 M) (p0 A.a5 I) q λT e av=>c _ ?_;let⟨r,Q,@Wt,i,C,R,S,W,al⟩:=e;refine yZ A (by rw[d];exact True.intro) av ⟨r,i⟩ ⟨t,hd,_,(a.put o I E).keeps λh Wm J=>?_,r,Q,Wt,i,C,R,S,al⟩;rw[dq (Fb J d<|λx=>nomatch x)];exact J
end
section
variable{b:aQ}{G:List (af×a9)}{B:bg}{j:aC}{n:aq}{g:af}{Wf:List (eG×ao)}{o:eG}{L:ae}{O:bD}{U:ae->aq->Prop}
def Un(A:aK b G B j n)(d:jx j g (.dw Wf))(c:∀E V5,aK b G B j V5->y (.int Wf.length E) V5):wpAny (aR b.prog b.w) O (call (.builtin "len") [.ref g]) y U n:=by
 let@⟨x,hd,⟨@V4,a,e⟩⟩:=nv A.a5 d;refine call_len_dict hd e (by rw[<-a.length];rw[t8]at x;lia) ?_;rw[<-a.length];exact c _ _ (A.tok _)
end
def PJ{l:ao}(A:aK b G B j n)(F:f9 j g l p):n.TypeIs (.ref g) "dict" := by
 rcases F with ⟨Wf,o,d,_,_⟩|⟨Wf,o,f,d,_,_,_⟩
 ·let@⟨_,_,⟨@V4,_,a⟩⟩:=nv A.a5 d;exact a.typeIs
 ·let@⟨_,_,⟨@z,_,a⟩⟩:=oN A.a5 d;exact a.typeIs
def Qk(c:aY)(a:ie<c.objs.size):el Wd D j (c.push {cls:=.type "dict",data:=.dict #[]}) c.objs.size (.aF []):=
 ⟨hj _,beq_eq_false_iff_ne.mpr<|Ne.symm<|dg a,[],.nil,_,#[],0,c0 _ rfl,⟨rfl,rfl,rfl⟩,rfl,rfl,hu⟩
def Rv:b6:=(λ_ j y=>∀s,j s=Y->y (.ref s) (upd j s<|.aF []))
section
variable{b:aQ}{Wk:Pos}
def U0:bP b (.Dict [] [] Wk) Rv:=λG n B j y A c=>
 wpAny_Dict_empty ⟨.ref n.heap.objs.size,_,A.laid (g:=n.heap.objs.size) (p:=.aF []) (WE:=n.toks) (λ_ W r=>b0 _ r) (bh _)<|Qk n.heap A.big,rfl,c _<|A.a5.fresh<|bh _⟩
end
structure JS(b:aQ)(p:bu)(k:aI)(Xr:Pos)(d:bu)(H:Pos):Prop where
 base:n2 p k b.env (cb p b.env)=cb p b.env
 d5:((fI H<|bV [d] b.env).all (λe=>!e.1)&&(AU H<|yX [] b.env).all (λe=>e.1.isSome)
  && decide (([d]:List bu).length+([]:List og).length+(if ([]:List og).isEmpty then 0 else 1)<30))=X
 line:(Xr.endLine==H.line)=X
 trees:fI H (bV [d] b.env)=[(au,cb d b.env)]
def A6(j:aC)(g:af):Prop:=((∃Wf,jx j g<|.dw Wf)\/∃Wf,jx j g (.aF Wf))
def Lk(A:aK b G B j n)(q:A6 j g):
  n.TypeIs (.ref g) "dict" /\ (∀f,ae.ref g=.ref f->∃WI,n.heap.get? f=Z WI/\WI.dict=Y)/\(g==ie)=au:=by
 rcases q with ⟨Wf,d⟩|⟨Wf,d⟩
 ·let@⟨_,hd,⟨@V4,_,a⟩⟩:=nv A.a5 d;refine⟨a.typeIs,λf r=>?_,hd⟩;cases r;let⟨WI,W,@W,t,C,W⟩:=a;exact⟨WI,t,C.2.1⟩
 ·let@⟨_,hd,⟨@z,_,a⟩⟩:=oN A.a5 d;refine⟨a.typeIs,λf r=>?_,hd⟩;cases r;let⟨WI,W,@W,t,C,W⟩:=a;exact⟨WI,t,C.2.1⟩
section
variable{b:aQ}{G:List (af×a9)}{B:bg}{j:aC}{n:aq}{g:af}{l q:ao}{L m:ae}{p:Option ao}{O:bD}{U:ae->aq->Prop}
def PW(m:O.units+20<bS)(A:aK b G B j n)(F:f9 j g l p)(i:b5 l L)(c:∀k V5,aK b G B j V5->b5 (p.getD .aV) k->y k V5):
  wpAny (aR b.prog b.w) O (call (.builtin "dict.get") [.ref g,L]) y U n:=by
 rcases F with ⟨Wf,o,d,e,H⟩|⟨Wf,o,f,d,e,q,H⟩
 ·subst e;let@⟨x,hd,⟨@V4,h,a⟩⟩:=nv A.a5 d;refine Cm yG a.typeIs B3 (Dm _ _) (meets_dict_get (lF b.prog b.w) g (rG i) hd) ⟨_,a.mapOf,c _ _ (A.tok _) ?_⟩;rw[H];exact (h.val o).getD rfl
 ·subst e;cases (show L=ae.ref f from i);let@⟨x,hd,⟨@z,h,a⟩⟩:=oN A.a5 d;refine Cm yG a.typeIs B3 (Dm _ _) (meetsH_dict_get (eL b.prog b.w) g f hd) ⟨p2 m,o,z,p0 A.a5 q,a,c _ _ (A.tok _) ?_⟩;rw[H];exact (h.val o).getD rfl
end
def MG(o ty:b6):b6:=(λB j y=>o B j λe Wc=>∃g,e=.ref g/\A6 Wc g/\ty B Wc λl Ws=>∃p,f9 Ws g l p/\y (p.getD .aV) Ws)
section
variable{b:aQ}{p d I:bu}{Xr H:Pos}{o ty t:b6}
def PO(f:b.A.units+20<bS)(h:bP b p o)(i:bP b d ty)(k:JS b p "get" Xr d H):bP b (.Call (.Attribute p "get" Xr) [d] [] H) (MG o ty):=by
 intro G n B j y A c;refine GW k.base k.d5 k.line FE yG PySem.F.type_dict_get (bU (h G n B j _ A c) λL m r=>?_);let⟨e,@Wc,a,s,⟨@g,WM,q,t⟩⟩:=r;subst WM;obtain rfl:L=ae.ref g:=s;let@⟨u,v,_⟩:=Lk a q;refine⟨u,v,?_⟩;rw[k.trees];refine Ae rfl (Jx<|xZ<|bU (i G m B Wc _ a t) λE I ⟨l,Ws,w,x,J,F,z⟩=>zS ?_);exact PW f w F x λM N C D=>⟨_,Ws,C,D,z⟩
end
end L2
namespace Ea
open PySem.W PySem.Calls PyProof.Rows
variable{u:Nat}{H:OpenLaw}
def Ky{Wd:wt}{c:aY}:∀(Wi:List Int) (V4:List ae),WellAll Wd c V4 (Wi.map q5.int)->rm V4 Wi:=by
 intro Wi;induction Wi with
 |nil=>
  intro V4 D;rw[zq]at D;cases D;exact .nil
 |cons u Wi a=>
  intro V4 D;rw[b2]at D;cases D with
  |cons g f=>
   cases g;exact .cons _ _ (a _ f)
def Q0(h:H.most=Z u){Wd:wt}{c:aY}{args:List q5}{d:List ae}(e:H.row.toRowW.claim.pre args=X)(i:WellAll Wd c d args):
  ∃g V4 Wi,d=[ae.ref g]/\args=[q5.list (Wi.map q5.int)]/\c.get? g=Z {cls:=.type "list",data:=.seq V4.toArray}/\rm V4 Wi/\Wi.length<=u:=by
 have lW:q_.hasAll [] args [.list .int]=X:=(pre_splitW e).1;have f:H.pre.holds [] {args:=args}=X:=(pre_splitW e).2;let⟨q,@m,rfl,t,C⟩:=hasAllW_cons lW;obtain rfl:=hasAllW_nil C;let⟨@z,rfl,j⟩:=hasW_list t;let⟨@Wi,rfl⟩:=items_int j;have k:Wi.length<=u:=by
  unfold OpenLaw.pre at f;have a:(WTm.not<|.lt (.lit<|.int (u:Int))<|.len<|.arg 0).holds [] {args:=[.list (Wi.map .int)]}=X:=by
   have a:=(holds_andW f).1;rw[h]at a;exact a
  have b:=condW_of a (w_not<|w_lt w_lit<|w_len_list<|w_arg rfl);rw[ba]at b;refine Nat.le_of_not_lt λr=>?_;have l:(u:Int)<((Wi.length:Nat):Int):=⋯
  first
   | (rw[du l]at b;exact absurd b ∅)
   | (simp at b;lia)
 cases i with
 |cons n o=>
  cases o;cases n with
  |list p s=>exact⟨_,_,Wi,rfl,rfl,p,Ky Wi _ s,k⟩
def Om(H:OpenLaw)(args:List q5):H.row.toRowW.claim.post args (.bool X) args=X:=
 postW_of (r:=H.row.toRowW) (X:=(X==X))
  (show q_.has [] (.bool X) .bool=X by first|rfl|decide|simp[q_.has,q_.arms,q_.armsAll])
  (show (WTm.eq .res<|.lit<|.bool X).value [] {args:=args,res:=Z (.bool X),after:=args}=Z (.bool<|X==X) from w_eq_bool (w_res rfl) w_lit) rfl
def Vk{r:bJ}{d:List aI}{e:(aI->Option ae)->aY->Prop}{f:bl->aY->Prop}{q:DefRec}(j:H.most=Z u)(k:q.params.defaults=[])(call:∀(D:bl) (e2 a:aq) (aJ fK:aI->Option ae) (b:af) (p:a9) (WT c i:ae) (g:af) (V4:List ae) (Wi:List Int),
   Ground r d [] e D e2 aJ fK a.heap->f D a.heap->
   a.heap.get? b=Z p->p.data=.func (docDef q.name q.params q.body q.scope WT c i)->a.heap.CodeRec c q.name->aJ q.name=Z (.ref b)->
   a.heap.get? g=Z {cls:=.type "list",data:=.seq V4.toArray}->rm V4 Wi->Wi.length<=u->a.gens=#[]->
   codeAny (aR H.prog D) nW (.call (.ref b) ⟨[.ref g],[]⟩) (λm V5=>m=.ok (.ret<|.bool X)/\OldK a.heap V5.heap/\V5.os=a.os/\l3 V5.gens) a):
  WalkO r d e f H.row.toRowW q [] (λI V4=>PySem.call I V4):=by
 intro D e2 a aJ fK V7 l b p WT c i n cB o hd s h t v args J L w M N x O;obtain rfl:n=.none:=Dflts.none h k;obtain rfl:cB=.none:=Dflts.noKw h;let⟨g,V4,@Wi,rfl,rfl,y,z,A⟩:=Q0 j w x;refine enter_call (rQ (call D e2 a aJ fK b p WT c i g V4 Wi V7 l o (fd_plain hd) s t y z A v) λm V5 B=>?_);let@⟨rfl,C,E,F⟩:=B;exact⟨.inl ⟨.bool X,.bool X,[],rfl,λ_=>rfl,.bool X,Om H _,λ_=>⟨List.Pairwise.nil,λ_ G=>(nomatch G)⟩⟩,C,E,F⟩
end Ea
namespace L2
open Spec PyProof.Rows
variable{Wj:List aI}{I:af}{N:cA}{Xc e:aI}{fd:gT}{o:Nat}
theorem HA:∀{V4:List ae}{Wi:List Int},rm V4 Wi->bY (Wi.map ao.int) V4
 |_,_,.nil=>.nil
 |_,_,.cons u E c=>.cons ⟨E,rfl⟩ (HA c)
def tS(j:aC):Prop:=(∀f,j f=Y\/∃p z,j f=Z (.cU p<|.lst z))
def KD{Wd:bJ}{D:bl}{V2:Φ}{aJ fK:aI->Option ae}{R:ke}{s g:af}{Xm:kj}{a:aq}{V4:List ae}{Wi:List Int}(A:V2.In a.heap)(B:a.heap.Ns dZ aJ)(b:a.heap.Ns wy fK)(O:∀e:aI,e ≠ "__name__" -> fK e=fk e)(S:a.heap.NoLimit)(T:a.gens=#[])(i:a.heap.get? g=Z {cls:=.type "list",data:=.seq V4.toArray})(V0:rm V4 Wi)(E:Wi.length<=sizeLine)(V9:eP o nW)(P:∀Wh:aY,V2.In Wh->Wh.Ns dZ aJ->h6 Wd D V2 aJ Wh R o s fd [e] Xm)(U:∀(n:aq) (L:ae),mB n fd ⟨[L],[]⟩ [(e,L)])(al:∀j:aC,tS j->dE V2 j g (Wi.map ao.int)->Xm [.ref g] j (λv K=>v=.aB X) λ_ K K=>False)(am:∀j d V5,R [] j a (λ_ K K=>False) d V5->False):
  codeAny (aR Wd D) nW (.call (.ref s) ⟨[.ref g],[]⟩) (λm V5=>m=.ok (.ret<|.bool X)/\OldK a.heap V5.heap/\V5.os=a.os/\l3 V5.gens) a:=by
 have F:=HA V0;have an:=V0.length;have G:∀j:aC,tS j->dE V2 j g (Wi.map ao.int)->ef Wd D j a.heap->(∀f,j f≠Y->f=g)->(j g≠Y->V2.lookup g=Y)->
   codeAny (aR Wd D) nW (.call (.ref s) ⟨[.ref g],[]⟩) (λm V5=>m=.ok (.ret<|.bool X)/\OldK a.heap V5.heap/\V5.os=a.os/\l3 V5.gens) a:=by
  intro j H ap a5 I as;have J:∀{f:af}{p:a9},a.heap.get? f=Z p->j f=Y->(lL a.heap j).get? f=Z p:=λd u=>Sn d u;have a1:∀{f:af}{p:a9}{Q:Array nM}{Wt:Nat},a.heap.get? f=Z p->p.data=.dict Q Wt->j f=Y:=λ{f p Q Wt} d q=>by
   cases r:j f with
   |none=>rfl
   |some L=>
    have w:f=g:=I f (by rw[r];simp);subst w;rw[i]at d;cases d;have W3:Data.seq V4.toArray _=Data.dict Q Wt:=q;cases W3
  have l:∀{f:af}{k:aI->Option ae},a.heap.Ns f k->(lL a.heap j).Ns f k:=λ{f k} ⟨p,Q,Wt,d,q,m⟩=>⟨p,Q,Wt,J d<|a1 d q,q,m⟩;have M:V2.In (lL a.heap j):=λf p d=>J (A f p d) (by
   cases r:j f with
   |none=>rfl
   |some L=>
    have w:f=g:=I f (by rw[r];simp);subst w;rw[as (by rw[r];simp)]at d;cases d)
  have a2:Mod V2 aJ (lL a.heap j):=⟨M,l B,⟨fK,l b,O⟩,let ⟨kx,t,C⟩:=S;⟨kx,l t,C⟩⟩;have bd:vz Wd D V2 aJ (lL a.heap j) nW [] a j:=⟨rfl,a2,λf p d=>SU d,Nat.le_of_eq<|To _ _,trivial,λf b=>absurd (show f∈([]:List af) from b) ↥0,a5,.of_eq T⟩;refine rQ ((P _ M<|l B).run nW [] a j ⟨[.ref g],[]⟩ [.ref g] [.ref g] _ _ V9 bd (U a<|.ref g) (.cons rfl .nil)<|al j H ap) λm V5 c=>?_;cases m with
  |error d=>exact (am j d V5 c).elim
  |ok aW=>
   cases aW with
   |next=>exact False.elim c
   |brk=>exact False.elim c
   |cont=>exact False.elim c
   |ret L=>
    let⟨v,@V1,Wn,be,un,bi,WV,r⟩:=c;have bm:v=.aB X:=r;subst bm;obtain rfl:L=ae.bool X:=WV;refine⟨rfl,OldK.of_keep λf p d=>?_,Wn,be⟩;cases r:j f with
    |none=>exact un.keep f p d r (by intro x;exact absurd (show f∈([]:List af) from x) ↥0) ↥0
    |some L=>
     rcases H f with x|⟨WI,z,x⟩
     ·rw[r]at x;cases x
     ·have bn:=un.kc f WI _ x;let@⟨N,_⟩:=a5 f _ x;let@⟨bs,_⟩:=bi f _ bn;rw[d]at N;cases N;exact bs
 cases y:V2.lookup g with
 |some p=>
  have d:=A g p y;rw[i]at d;cases d;refine G (λ_=>Y) (λ_=>.inl rfl) (.inr ⟨_,V4.toArray,_,y,rfl,rfl,rfl,by rw[cR,an];exact E,by simpa using F⟩) (λf L x=>by have h:(Y:Option fO)=Z L:=x;cases h) (λf x=>absurd rfl x) λx=>absurd rfl x
 |none=>
  refine G (λf=>if f=g then Z (.cU {cls:=.type "list",data:=.seq V4.toArray} (.lst<|Wi.map ao.int)) else Y) (λf=>?_) (.inl<|.inr ⟨{cls:=.type "list",data:=.seq V4.toArray},aM rfl⟩) (λf L x=>?_) (λf x=>?_) λ_=>y
  ·by_cases b:f=g
   ·exact .inr ⟨_,_,aM b⟩
   ·exact .inl (aN b)
  ·by_cases b:f=g
   ·have h:=(aM b).symm.trans x;cases h;subst b;exact⟨i,by rw[ba];exact E,V4,_,F,i⟩
   ·have h:=(aN b).symm.trans x;cases h
  ·by_cases b:f=g
   ·exact b
   ·exact absurd (aN b) x
def QJ{H:PySem.W.OpenLaw}{u:Nat}{r:bJ}{m:List aI}{s:(aI->Option ae)->aY->Prop}{h:bl->aY->Prop}{q:DefRec}{V2:wt->Φ}{R:bl->ke}{Xm:bl->kj}(t:H.most=Z u)(w:u<=sizeLine)(x:q.params.defaults=[])(V9:eP o nW)(y:∀(D:bl) (c:aY),h D c->(V2 D.params).In c)(P:∀(D:bl) (aJ:aI->Option ae) (a:af) (c:aY),(V2 D.params).In c->c.Ns dZ aJ->aJ q.name=Z (.ref a)->
   ∃fd:gT,(∀(n:aq) (L:ae),mB n fd ⟨[L],[]⟩ [(e,L)])/\
    ∀Wh:aY,(V2 D.params).In Wh->Wh.Ns dZ aJ->h6 H.prog D (V2 D.params) aJ Wh (R D) o a fd [e] (Xm D))(z:∀(D:bl) (j:aC) (g:af) (Wi:List Int),Wi.length<=u->tS j->dE (V2 D.params) j g (Wi.map ao.int)->Xm D [.ref g] j (λv K=>v=.aB X) λ_ K K=>False)(A:∀(D:bl) (j:aC) (n:aq) (d:ae) (V5:aq),R D [] j n (λ_ K K=>False) d V5->False):
  PySem.W.WalkO r m s h H.row.toRowW q [] (λI V4=>PySem.call I V4):=by
 refine Ea.Vk t x λD e2 B aJ fK a p WT U i g V4 Wi V7 C al hd am E G J k M=>?_;have l:=y D _ C;let⟨@fd,N,O⟩:=P D aJ a _ l V7.T.g E;exact KD l V7.T.g V7.T.b V7.T.builtins V7.T.nolimit M G J (dx k w) V9 O N (λj Q S=>z D j g Wi k Q S) λj d V5=>A D j B d V5
def iJ(n:cA):Arguments:=(match n with
 |.FunctionDef _ g _ _ _ _ _ _ _ _=>g
 |_=>{posonlyargs:=[],args:=[],vararg:=Y,kwonlyargs:=[],kw_defaults:=[],kwarg:=Y,defaults:=[]})
def hh(n:cA):List cA:=(match n with
 |.FunctionDef _ _ f _ _ _ _ _ _ _=>f
 |_=>[])
def d2(n:cA):g_:=(match n with
 |.FunctionDef _ _ _ _ _ _ E _ _ _=>E
 |_=>{kind:=.function,names:=[],isGenerator:=au,isCoroutine:=au})
abbrev ik:ke:=λ_ _ _ _ _ _=>False
abbrev OY:gv:=λ_ _ _=>False
def HM{b:aQ}:uN ik b OY:=λ_ W W W W W W c=>c.elim
structure gU(V2:Φ)(e Xc:aI)(N:cA)(I:af)(fd:gT):Prop where
 ex:∃(t:ae) (M:Option af) (cB i WT:ae) (k:Option af) (x cq:ae) (w:Array (Option ae)),
  fd=Ξ e Xc (iJ N) (hh N) (d2 N) .none cB i WT k x cq/\V2.lookup I=Z ⟨t,M,.func fd,w⟩/\Δ V2 x Xc=X
 d6:Θ V2 (.ref I)=X
section
variable{Wd:bJ}{D:bl}{V2:Φ}{aJ:aI->Option ae}{Wh:aY}
def gU.ok{Ww:List aI}{Xm:kj}(P:gU V2 e Xc N I fd)(We:o6 Ww Wj (d2 N))(len:∀V4 j y U,Xm V4 j y U->V4.length=Wj.length)(a:∀(x:ae) (O:bD) (W0:List eT) (n:aq) (j:aC) (V4:List ao) (y:cH) (U:gv),eP o (O.deeper<|jQ Xc (d2 N) n.heap.objs.size I x)->Xm V4 j y U->
   ∃E,h9 (lR ik Wd D V2 aJ Wh Ww Xc (d2 N) I x O W0 n j U).od (hh N) E/\E {bB:=λ_ V1=>y .aV V1,a_:=y} (start Ww V4) j):h6 Wd D V2 aJ Wh ik (o+1) I fd Wj Xm:=by
 let⟨t,M,cB,i,WT,k,x,cq,@w,rfl,lk,b⟩:=P.ex;refine PM lk b We len λO W0 n j V4 y U V9 d=>?_;let⟨@E,c,r⟩:=a x O W0 n j V4 y U V9 d;exact⟨E,c.od,r⟩
def gU.binds(P:gU V2 e Xc N I fd)(c:∀(cB i WT:ae) (k:Option af) (x cq:ae) (Wl:List ae),Wl.length=Wj.length->la (Ξ e Xc (iJ N) (hh N) (d2 N) .none cB i WT k x cq) ⟨Wl,[]⟩=pure (Wj.zip Wl)):iD V2 fd Wj []:=by
 let⟨t,M,cB,i,WT,k,x,cq,@w,rfl,lk,a⟩:=P.ex;exact .all (c cB i WT k x cq)
def OC{t:ae}{M k:Option af}{w:Array (Option ae)}{cB i WT x cq:ae}(H:V2.lookup I=Z ⟨t,M,.func<|Ξ e Xc (iJ N) (hh N) (d2 N) .none cB i WT k x cq,w⟩)(h:Δ V2 x Xc=X)(o:Θ V2 (.ref I)=X):gU V2 e Xc N I (Ξ e Xc (iJ N) (hh N) (d2 N) .none cB i WT k x cq):=⟨⟨t,M,cB,i,WT,k,x,cq,w,rfl,H,h⟩,o⟩
end
section
variable{b:aQ}
def c1(a:Nat){e:aI}{Wk:Pos}(c:b.N[a]?=Z e:=by rfl)(d:sq b.env.scope e:=by first|exact Or.inl rfl|exact Or.inr (Or.inl rfl)|exact Or.inr (Or.inr rfl))(hd:(e==("__debug__" : aI))=au:=by decide)(f:(e==("__classdict__" : aI))=au:=by decide):bP b (.Name e Wk) (kk a):=Cu c d hd f
end
def c9(j V1:aC):Prop:=(∀f p,j f=Z p->V1 f=Z p)
def c9.refl(j:aC):c9 j j:=λ_ W c=>c
end L2
namespace L2
section
variable{b:aQ}
def Ub:eO b (.builtin "len") (λz j y=>∃g Wf,z=[ao.ref g]/\j g=Z (.dw Wf)/\y (.int Wf.length) j):=by
 intro G n B j z Wl y A m c;let⟨g,@Wf,rfl,a,r⟩:=c;let⟨@L,rfl,d⟩:=ix m;cases d;exact Un A (.inl a) λE V5 e=>⟨.int Wf.length,j,e,⟨E,rfl⟩,r⟩
end
end L2
namespace L2
open Spec PyProof.Rows
variable{y:Option ae->aq->Prop}{a Wt Xv:Nat}{c t:aY}{M:List ae}{q aO:af}{J:c_}{WC Xa Xs:bu}{Wa:List (aI×af)}{bI:List af}{j:aC}{B:bg}{G:List (af×a9)}{WD:List Nat}{own:List aI}{V8:eT}{Wk:Pos}{Wq:g_}{Xq:List bu}{n:aq}{O:bD}
def TR{Wb:bJ}{D:bl}{V3:ta->aq->Prop}{b:bu}{ag WA:ae}(A:Nat->aq->Prop)(o:∀u n,A u n->wpAny (aR Wb D) O (fg ag) (λm a=>match m with
   |none=>V3 (.ok .next) a
   |some v=>wpAny (aR Wb D) O (sD b ag v) (λ_ a=>wpAny (aR Wb D) O (hS b V8 v) (λ_ g=>
     wpAny (aR Wb D) O (forIn Xq X λh m=>if m=X then do let ok <-q2 h V8 (cb h V8);pure (ForInStep.yield ok) else pure (ForInStep.yield m)) (λok f=>
      if ok=X then wpAny (aR Wb D) O (cb Xs V8) (λe i=>
       wpAny (aR Wb D) O (call (.builtin "list.append") [WA,e]) (λ_ j=>∃k,k<u/\A k j) (λ_ W=>False) i) (λ_ W=>False) f
      else ∃k,k<u/\A k f) (λ_ W=>False) g) (λ_ W=>False) a) (λ_ W=>False) a) (λ_ W=>False) n)(u:Nat)(c:A u n):
  codeAny (aR Wb D) O (.compLoop (.ListComp Xs [⟨b,Xa,Xq,0⟩] Wq Wk) 0 ag WA V8) V3 n:=by
 refine codeAny_loop rfl A (λu n eE=>?_) u c;show wpAny _ O ((compTurn (.ListComp Xs [⟨b,Xa,Xq,0⟩] Wq Wk) 0 ag WA V8).onRaise (λe=>do noteFrame e V8;theTreesLotGoes e)) _ _ n;refine wpAny_noted ?_;rw[compTurn_list];refine ar (w_<|ar<|gR (o u n eE) (λm a d=>?_) λ_ W T=>T.elim);cases m with
 |none=>exact aL d
 |some v=>
  refine ar (gR d (λ_ a d=>?_) λ_ W T=>T.elim);refine ar (gR d (λ_ g p=>ar<|gR p (λok f l=>?_) λ_ W T=>T.elim) λ_ W T=>T.elim);cases ok with
  |false=>exact aL ⟨rfl,l⟩
  |true=>
   exact ar (ar<|gR l (λe i q=>ar<|gR q (λ_ j r=>aL<|aL ⟨rfl,r⟩) λ_ W T=>T.elim) λ_ W T=>T.elim)
def kH(V8:eT)(S:List (aI×c8)):List (aI×af):=(S.foldl (λWa l=>if l.2==.free then (l.1,(V8.cells.lookup l.1).getD 0)::Wa else Wa) [])
theorem xO{V8:eT}:∀(S:List (aI×c8)) (Wa:List (aI×af)),(∀l∈S,l.2=.free->∃h,V8.cells.lookup l.1=Z h)->
  (forIn S Wa λ(l:aI×c8) Wa=>if l.2==.free then (do let h <-uM V8 l.1;pure (ForInStep.yield ((l.1,h)::Wa))) else pure (ForInStep.yield Wa):dr _)=
   pure (S.foldl (λWa l=>if l.2==.free then (l.1,(V8.cells.lookup l.1).getD 0)::Wa else Wa) Wa)
 |[],Wa,_=>rfl
 |l::m,Wa,c=>by
  rw[xK,i5];by_cases a:l.2=.free
  ·let⟨@h,e⟩:=c l lh a;have d:(l.2==c8.free)=X:=by simp[a]
   rw[aM d,aM d];have f:uM V8 l.1=pure h:=by unfold uM;rw[e]
   rw[f,e];show (forIn m ((l.1,h)::Wa) _:dr _)=_;exact xO m _ λx b=>c x (k0 _ b)
  ·have d:¬ (l.2==c8.free)=X:=by simp[a]
   rw[aN d,aN d];show (forIn m Wa _:dr _)=_;exact xO m _ λx b=>c x (k0 _ b)
def Od(c:∀l∈Wq.names,l.2=.free->∃h,V8.cells.lookup l.1=Z h):closureFor Wq V8=pure (kH V8 Wq.names):=by
 have:=xO (V8:=V8) Wq.names [] c;unfold closureFor;dsimp only;have d:(forIn Wq.names ([]:List (aI×af))<|λ(e:aI×c8) (m:List (aI×af))=>(if e.2==.free then (do let h <-uM V8 e.1;pure (ForInStep.yield ((e.1,h)::m))) else pure (ForInStep.yield m):dr (ForInStep<|List<|aI×af)))=pure (kH V8 Wq.names):=this;rw[d];rfl
theorem Jj{V8:eT}:∀(S:List (aI×c8)) (Wa:List (aI×af)) (e:aI) (h:af),
  (S.foldl (λWa l=>if l.2==.free then (l.1,(V8.cells.lookup l.1).getD 0)::Wa else Wa) Wa).lookup e=Z h->
  (h=(V8.cells.lookup e).getD 0/\(e,c8.free)∈S)\/Wa.lookup e=Z h
 |[],Wa,e,h,c=>.inr c
 |l::m,Wa,e,h,c=>by
  rw[i5]at c;rcases Jj m _ e h c with ⟨d,k⟩|c
  ·exact .inl ⟨d,k0 _ k⟩
  ·by_cases a:l.2=.free
   ·rw[aM (by simp[a])]at c;rw[g5]at c;by_cases b:e=l.1
    ·subst b;rw[ig]at c;refine .inl ⟨(Option.some.inj c).symm,?_⟩;rw[<-a];exact lh
    ·have:(e==l.1)=au:=by simpa using b
     rw[this]at c;exact .inr c
   ·rw[aN (by simp[a])]at c;exact .inr c
theorem zY{V8:eT}:∀(S:List (aI×c8)) (Wa:List (aI×af)) (e:aI),(e,c8.free)∈S\/(∃h,Wa.lookup e=Z h)->
  ∃h,(S.foldl (λWa l=>if l.2==.free then (l.1,(V8.cells.lookup l.1).getD 0)::Wa else Wa) Wa).lookup e=Z h
 |[],Wa,e,c=>by
  rcases c with c|c
  ·cases c
  ·exact c
 |l::m,Wa,e,c=>by
  rw[i5];apply zY m _ e;rcases c with c|⟨h,c⟩
  ·rcases b8.mp c with d|c
   ·right;subst d;rw[aM (by rfl),g5,ig];exact⟨_,rfl⟩
   ·exact .inl c
  ·right;by_cases a:(l.2==c8.free)=X
   ·rw[aM a,g5];cases e==l.1
    ·exact⟨h,c⟩
    ·exact⟨_,rfl⟩
   ·rw[aN a];exact⟨h,c⟩
structure j0 where
 aO:af
 s:aq
 H:aC
 bI:List af
 cs:List (aI×af)
variable{Xg:j0->b6}{XA:j0->er}{F:j0->gW}
def aQ.fT(b:aQ)(c:List aI)(Wq:g_)(a:j0): aQ :=(
  {prog:=b.prog,w:=b.w,K:=b.K,aJ:=b.aJ,base:=b.base,A:=b.A,N:=c,e2:=a.s,qq:=a.H,env:=vE Wq (a.cs ++ kH b.env Wq.names) a.aO b.env,outer:=b.stack,stack:=b.stack,
    ex:=a.bI,fn:=λe => Wq.names.lookup e==Z .cell,calm:=b.calm,kY:=[],cJ:=λ_ W => False})
structure ug(Xv:Nat)(S:List (aI×c8))(Wa:List (aI×af))(c:aY):Prop where
 j7:∀e h,Wa.lookup e=Z h->Xv<=h/\c.IsCell h Y/\(e,c8.cell)∈S
 inj:∀e l h,Wa.lookup e=Z h->Wa.lookup l=Z h->e=l
def Kb{aw:gu}{U:ae->aq->Prop}{t:af}{o:List (aI×af)}{Xc:aI}{y:eT->aq->Prop}(c:∀T Wa,(∀f p,n.heap.get? f=Z p->T.get? f=Z p)->T.Ns n.heap.objs.size (λ_=>Y)->ug (n.heap.objs.size+1) Wq.names Wa T->(∀e,(e,c8.cell)∈Wq.names->∃h,Wa.lookup e=Z h)->
   y (newEnv Wq n.heap.objs.size t (Wa++o) Xc Y .none (Z V8) wy) {n with heap:=T}):
  wpAny aw O (IV Wq t o [] Xc Y .none<|Z V8) y U n:=by
 unfold IV;refine ar (xp ?_);have Xv:(n.heap.push {cls:=.type (if (Z V8).isSome=X then "dict" else "frame"),data:=.dict #[]}).Ns n.heap.objs.size λ_=>Y:=⟨_,#[],_,c0 _ rfl,rfl,by intro a V0;simp at V0,λ_=>rfl⟩;refine ar (kE _ (λcx cells V5=>∃done Wa T,done++cx=Wq.names/\cells=Wa++o/\V5={n with heap:=T}/\n.heap.objs.size+1<=T.objs.size/\(∀f p,n.heap.get? f=Z p->T.get? f=Z p)/\T.Ns n.heap.objs.size (λ_=>Y)/\ug (n.heap.objs.size+1) Wq.names Wa T/\∀e,(e,c8.cell)∈done->∃h,Wa.lookup e=Z h) _ ?_ ?_ _ _ ⟨[],[],_,rfl,rfl,rfl,by rw[gZ];exact bh _,λf p d=>b0 _ d,Xv,⟨(λe h d=>by simp at d),(λe l h d=>by simp at d)⟩,(λe b=>nomatch b)⟩)
 ·rintro⟨w,i⟩ cx cells V5 ⟨done,Wa,T,m,rfl,rfl,ho,ext,Wi,j,av⟩;by_cases r:i=.cell
  ·subst r;show wpAny aw O (alloc {cls:=.type "cell",data:=.cell Y} >>= λg=>pure<|ForInStep.yield ((w,g)::(Wa++o))) _ _ _;refine ar (xp<|aL ?_);have u:∀f p,T.get? f=Z p->(T.push {cls:=.type "cell",data:=.cell Y}).get? f=Z p:=λf p d=>b0 _ d;have z:∀h,(∃v,T.IsCell h v)->h≠T.objs.size:=λh ⟨v,p,d,_⟩=>dg (b4 d);refine⟨done++[(w,.cell)],(w,T.objs.size)::Wa,_,by rw[bC];exact m,rfl,rfl,by rw[gZ];exact H_ ho,λf p d=>u f p<|ext f p d,Wi.push _,⟨λe h d=>?_,λe l h WM k=>?_⟩,λe b=>?_⟩
   ·rw[g5]at d;by_cases b:e=w
    ·subst b;rw[ig]at d;cases d;exact⟨ho,⟨_,c0 _ rfl,rfl⟩,by rw[<-m];exact eW _ (.head _)⟩
    ·rw[show (e==w)=au by simpa using b]at d;let⟨A,⟨p,B,C⟩,D⟩:=j.j7 e h d;exact⟨A,⟨p,u h p B,C⟩,D⟩
   ·rw[g5]at WM k;by_cases b:e=w
    ·by_cases q:l=w
     ·rw[b,q]
     ·rw[b,ig]at WM;rw[show (l==w)=au by simpa using q]at k;cases WM;exact absurd rfl (z _ ⟨_,(j.j7 l _ k).2.1⟩)
    ·rw[show (e==w)=au by simpa using b]at WM;by_cases q:l=w
     ·rw[q,ig]at k;cases k;exact absurd rfl (z _ ⟨_,(j.j7 e _ WM).2.1⟩)
     ·rw[show (l==w)=au by simpa using q]at k;exact j.inj e l h WM k
   ·rw[g5];by_cases s:e=w
    ·rw[s,ig];exact⟨_,rfl⟩
    ·rw[show (e==w)=au by simpa using s];refine av e ((c5.mp b).resolve_right λx=>?_);exact s (Prod.mk.inj<|cP.mp x).1
  ·have d:(i==c8.cell)=au:=by simpa using r
   show wpAny aw O (if (i==c8.cell)=X then _ else pure (ForInStep.yield<|Wa++o)) _ _ _;rw[aN (by rw[d];exact dc)];refine aL ⟨done++[(w,i)],Wa,T,by rw[bC];exact m,rfl,rfl,ho,ext,Wi,j,λe b=>av e<|(c5.mp b).resolve_right λx=>?_⟩;exact r (Prod.mk.inj<|cP.mp x).2.symm
 ·rintro cells V5 ⟨done,Wa,T,m,rfl,rfl,ho,ext,Wi,j,av⟩;rw[cF]at m;subst m;exact ar (aL<|aL<|c T Wa ext Wi j av)
theorem mem_of_lookup:∀{H:List (aI×c8)}{e:aI}{o:c8},H.lookup e=Z o->(e,o)∈H
 |[],_,_,c=>by simp at c
 | (u,b)::m,e,o,c=>by
  rw[g5]at c;by_cases a:e=u
  ·subst a;rw[ig]at c;cases c;exact lh
  ·rw[show (e==u)=au by simpa using a]at c;exact k0 _ (mem_of_lookup c)
theorem zf{V8:eT}:∀{S:List (aI×c8)}{e:aI}{o:c8},
  (S.map λ(u,o)=>if (o==c8.free&&V8.scope.kind==.function&&V8.kindOf u==Z .cell) then (u,c8.cell) else (u,o)).lookup e=Z o->
  (o=.cell\/o=.free)->(e,c8.free)∈S\/S.lookup e=Z .cell
 |[],e,o,c,_=>by simp at c
 | (u,f)::m,e,o,c,a=>by
  rw[b2]at c;dsimp only at c;by_cases h:e=u
  ·subst h;by_cases b:(f==c8.free&&V8.scope.kind==.function&&V8.kindOf e==Z .cell)=X
   ·have:f=c8.free:=by
     simp only[cN]at b;exact by simpa using b.1.1
    subst this;exact .inl lh
   ·simp only[b]at c;have d:f=o:=by simpa [g5] using c
    subst d;rcases a with a|a
    ·exact .inr (by rw[g5,ig,a])
    ·rw[a];exact .inl lh
  ·have g:(e==u)=au:=by simpa using h
   have T:(m.map λ(u,o)=>if (o==c8.free&&V8.scope.kind==.function&&V8.kindOf u==Z .cell) then (u,c8.cell) else (u,o)).lookup e=Z o:=by
    by_cases b:(f==c8.free&&V8.scope.kind==.function&&V8.kindOf u==Z .cell)=X
    ·rw[aM b,g5,g]at c;exact c
    ·rw[aN b,g5,g]at c;exact c
   rcases zf T a with x|x
   ·exact .inl (k0 _ x)
   ·exact .inr (by rw[g5,g];exact x)
section
variable{b:aQ}
structure h4(b:aQ)(Wq:g_)(own:List aI)(WD:List Nat):Prop where
 kind:Wq.kind=.function
 RN:∀l∈Wq.names,l.2=.cell->Wq.names.lookup l.1=Z .cell
 free:∀l∈Wq.names,l.2=.free->b.env.scope.names.lookup l.1=Z .cell
 loc:∀l∈Wq.names,l.2=.local->Wq.names.lookup l.1=Z .local
 Ve:∀a∈WD,∃e,b.N[a]?=Z e/\(e,c8.free)∈Wq.names/\Wq.names.lookup e=Z .free
def fY(b:aQ)(own:List aI)(WD:List Nat):List aI:=(own++WD.map λa=>b.N.getD a "")
def ko(own:List aI)(WD:List Nat)(B:bg):bg:=(own.map (λ_=>Y)++WD.map λa=>B.getD a Y)
def h4.cells(We:h4 b Wq own WD)(ok:b.Ok):∀l∈Wq.names,l.2=.free->∃h,b.env.cells.lookup l.1=Z h:=
 λl a c=>ok.has l.1 (.inl<|We.free l a c)
def h4.sub(We:h4 b Wq own WD)(ok:b.Ok){e:aI}{h:af}(c:(kH b.env Wq.names).lookup e=Z h):b.env.cells.lookup e=Z h/\(e,c8.free)∈Wq.names:=by
 rcases Jj Wq.names [] e h c with ⟨d,k⟩|c
 ·let⟨@f,a⟩:=We.cells ok (e,.free) k rfl;rw[show (List.lookup e b.env.cells)=Z f from a]at d;refine⟨?_,k⟩;rw[d];exact a
 ·simp at c
def h4.two(We:h4 b Wq own WD)(ok:b.Ok){Wa:List (aI×af)}{e:aI}{h:af}(c:(Wa++kH b.env Wq.names).lookup e=Z h):Wa.lookup e=Z h\/(Wa.lookup e=Y/\b.env.cells.lookup e=Z h):=by
 rw[xb]at c;cases r:Wa.lookup e with
 |some q=>rw[r]at c;exact .inl c
 |none=>rw[r]at c;exact .inr ⟨rfl,(We.sub ok c).1⟩
def aK.yk(A:aK b G B j n){e:aI}{h:af}(c:b.env.cells.lookup e=Z h):h<n.heap.objs.size:=by
 let⟨v,p,a,W⟩:=A.cell e h c;exact b4 a
theorem C5(We:h4 b Wq own WD)(A:aK b G B j n)(w:n.heap.objs.size<=aO)(u:∀f∈bI,j3 b G j f)(y:∀f∈bI,f<n.heap.objs.size)(i:ug Xv Wq.names Wa t)(v:n.heap.objs.size<=Xv)(av:∀e,(e,c8.cell)∈Wq.names->∃h,Wa.lookup e=Z h):(b.fT (fY b own WD) Wq ⟨aO,n,j,bI,Wa⟩).Ok where
 mod:=A.ok.mod
 kind:=We.kind
 glob:=A.ok.glob
 blt:=A.ok.blt
 above:=w
 inj:=λe l h t C=>by
  rcases We.two A.ok t with m|⟨_,m⟩<;>rcases We.two A.ok C with o|⟨_,o⟩
  ·exact i.inj e l h m o
  ·exact absurd (eK (A.yk o)<|dx v (i.j7 e h m).1) (iN _)
  ·exact absurd (eK (A.yk m)<|dx v (i.j7 l h o).1) (iN _)
  ·exact A.ok.inj e l h m o
 has:=λe g=>by
  have k:(e,c8.free)∈Wq.names\/Wq.names.lookup e=Z .cell:=by
   rcases g with g|g
   ·exact zf g (.inl rfl)
   ·exact zf g (.inr rfl)
  show ∃h,(Wa++kH b.env Wq.names).lookup e=Z h;rw[xb];cases r:Wa.lookup e with
  |some q=>exact⟨q,rfl⟩
  |none=>
   rcases k with k|k
   ·exact zY Wq.names [] e (.inl k)
   ·let⟨h,s⟩:=av e (mem_of_lookup k);rw[r]at s;cases s
 qk:=λe h c z=>by
  have g:Wq.names.lookup e=Z .cell:=eq_of_beq c;let⟨D,s⟩:=av e (mem_of_lookup g);rcases We.two A.ok z with x|⟨x,_⟩
  ·exact dx v (i.j7 e h x).1
  ·rw[x]at s;cases s
 hd:=A.ok.hd
 frames:=A.ok.frames
 sJ:=.inl rfl
 ze:=λf a=>⟨dg<|eK (y f a) w,λe h c=>by
  rcases We.two A.ok c with x|⟨_,x⟩
  ·exact hk (eK (y f a)<|dx v (i.j7 e h x).1)
  ·exact (u f a).2.2.2.2.1 e h x⟩
 bs:=A.bs
 lD:=dx A.ok.lD A.ho
 pV:=λf p d a=>by
  rcases (u f a).2.2.2.1 with x|x
  ·exact A.ok.pV f p d x
  ·exact absurd (eK (b4 d)<|dx A.ok.lD x) (iN _)
 q0:=λf a x=>by
  rcases b8.mp (A.yV f x) with d|d
  ·exact (u f a).2.1 d
  ·exact (u f a).2.2.1 d
 jl:=A.stack
 nZ:=A.BK
theorem N6{WK:Nat}{k:aI->Option ae}(We:h4 b Wq own WD)(A:aK b G B j n)(I:n.heap.objs.size<=aO)(al:∀f∈bI,j3 b G j f)(am:∀f∈bI,f<n.heap.objs.size)(C:∀f p,n.heap.get? f=Z p->t.get? f=Z p)(an:t.Ns aO k)(D:ug Xv Wq.names Wa t)(E:n.heap.objs.size<=Xv)(av:∀e,(e,c8.cell)∈Wq.names->∃h,Wa.lookup e=Z h):
  aK (b.fT (fY b own WD) Wq ⟨aO,n,j,bI,Wa⟩) [] (ko own WD B) j {n with heap:=t,toks:=WK} where
 ok:=C5 We A I al am D E av
 os:=rfl
 bare:=A.bare
 base:=fq.kept C
 loc:=by
  let⟨@bm,E,ap⟩:=A.loc;refine⟨k,an,λi e v w d y=>?_⟩;have w:(own++WD.map λa=>b.N.getD a "")[i]?=Z e:=w;have d:(own.map (λ_=>(Y:Option ao))++WD.map λa=>B.getD a Y)[i]?=Z (Z v):=d;by_cases as:i<own.length
  ·rw[mj (by rw[ba];exact as),eB]at d;cases r:own[i]? with
   |none=>rw[r]at d;cases d
   |some x=>rw[r]at d;cases d
  ·rw[mf ⋯,eB]at w;rw[mf (by rw[ba];lia),eB,ba]at d;cases r:WD[i-own.length]? with
   |none=>rw[r]at w;cases w
   |some a=>
    rw[r]at w d;have w:b.N.getD a "" = e:=Option.some.inj w;have d:B.getD a Y=Z v:=Option.some.inj d;let⟨@g,J,M,O⟩:=We.Ve a (gO r);have WM:g=e:=by
     rw[<-w,cK,J];rfl
    subst WM;have av:B[a]?=Z (Z v):=by
     rw[cK]at d;cases P:B[a]? with
     |none=>rw[P]at d;cases d
     |some x=>rw[P]at d;rw[show x=Z v from d]
    have Q:=We.free (g,.free) M rfl;let⟨@L,m,lk⟩:=ap a g v J av (.inr<|.inl Q);refine⟨L,m,.inr ⟨?_,?_⟩⟩
    ·rcases y with y|y|y
     ·
      exfalso;have:∀{S:List (aI×c8)},S.lookup g=Z .free->(S.map λ(u,o)=>if (o==c8.free&&b.env.scope.kind==.function&&b.env.kindOf u==Z .cell) then (u,c8.cell) else (u,o)).lookup g≠Z .local:=by
       intro S;induction S with
       |nil=>intro c;simp at c
       |cons l m R=>
        let⟨u,o⟩:=l;intro c;rw[b2];dsimp only;by_cases T:g=u
        ·subst T;have Xu:o=.free:=by simpa [g5] using c
         subst Xu;by_cases z:(c8.free==c8.free&&b.env.scope.kind==ScopeKind.function&&b.env.kindOf g==Z c8.cell)=X
         ·rw[aM z];simp[g5]
         ·rw[aN z];simp[g5]
        ·have F:(g==u)=au:=by simpa using T
         rw[g5,F]at c;by_cases z:(o==c8.free&&b.env.scope.kind==ScopeKind.function&&b.env.kindOf u==Z c8.cell)=X
         ·rw[aM z,g5,F];exact R c
         ·rw[aN z,g5,F];exact R c
      exact this O y
     ·exact .inl y
     ·exact .inr y
    ·rcases lk with ⟨a1,_⟩|⟨_,h,a2,bd⟩
     ·exact absurd (a1.symm.trans Q) ↥0
     ·let⟨@bn,U⟩:=zY (V8:=b.env) Wq.names [] g (.inl M);have:=(We.sub A.ok U).1;rw[a2]at this;cases this;let⟨@p,H,hd⟩:=bd;have be:Wa.lookup g=Y:=by
       cases r:Wa.lookup g with
       |none=>rfl
       |some q=>
        have:=We.RN _ (D.j7 g q r).2.2 rfl;rw[O]at this;cases this
      exact⟨h,by show (Wa++kH b.env Wq.names).lookup g=Z h;rw[xb,be];exact U,p,C _ _ H,hd⟩
 cell:=λe h c=>by
  rcases We.two A.ok c with x|⟨_,x⟩
  ·exact⟨_,(D.j7 e h x).2.1⟩
  ·let⟨v,@p,H,hd⟩:=A.cell e h x;exact⟨v,p,C _ _ H,hd⟩
 free:=A.a5.fresh I
 jj:=λe h c=>by
  rcases We.two A.ok c with x|⟨_,x⟩
  ·exact A.a5.fresh (dx E (D.j7 e h x).1)
  ·exact A.jj e h x
 pin:=λs bi=>nomatch bi
 a5:=A.a5.kept C
 len:=by simp[ko,fY,aQ.fT]
def Fo(b:aQ)(Xq:List bu)(E:er)(G:List (af×a9)):Prop:=(
 ∀(n:aq) (B:bg) (j:aC) (y:Bool->aC->Prop),aK b G B j n->E B j y->
  wpAny (aR b.prog b.w) b.A (forIn Xq X λh m=>if m=X then do let ok <-q2 h b.env (cb h b.env);pure (ForInStep.yield ok) else pure (ForInStep.yield m)) (wI b G B y) b.cJ n)
def sk(b:aQ)(Xq:List bu)(E:er):Prop:=(∀G,Fo b Xq E G)
def Pn:er:=(λ_ j y=>y X j)
def Ku:sk b [] Pn:=λG n B j y A c=>wpAny_tests_nil ⟨j,A,c⟩
def KA{h:bu}{E:er}(c:hJ b h E):sk b [h] E:=λG n B j y A a=>wpAny_tests_one (c G n B j y A a)
def Nl(own:List aI)(WD:List Nat)(F:gW)(XA:er)(Xg:b6)(B:bg)(Ww:List ao->aC->Prop)(Wm:List ao)(e:ao)(V1:aC):Prop:=(
 F e (ko own WD B) V1 λa Ws=>(∀(i:Nat) (v:ao),(ko own WD B)[i]?=Z (Z v)->a[i]?=Z (Z v))/\XA a Ws λf b=>if f=X then Xg a b λv c=>Wm.length<sizeLine/\Ww (Wm++[v]) c else Ww Wm b)
def MN(Xh:iz)(own:List aI)(WD:List Nat)(F:gW)(XA:er)(Xg:b6)(B:bg)(Wc:aC)(y:cH):Prop:=(
 ∃W:Nat->Nat->List ao->aC->Prop,(∃k,W 0 k [] Wc)/\∀a k Wm j,W a k Wm j->(Xh.stop a j/\∀w,j w=Y->y (.ref w) (upd j w<|.lst Wm))\/
  (Xh.go a j/\∃Ww:List ao->aC->Prop,(∀b V1,Ww b V1->∃c,c<k/\W (a+1) c b V1)/\∀e V1,Xh.rz a j e V1->Nl own WD F XA Xg B Ww Wm e V1))
def ua(own:List aI)(WD:List Nat)(J:c_)(F:j0->gW)(XA:j0->er)(Xg:j0->b6):b6:=(λB j y=>J B j λXh Wc=>∀a:j0,MN Xh own WD (F a) (XA a) (Xg a) B Wc y)
def wR(E:g_)(Ww:List aI)(Wq:g_)(WD:List Nat):Bool:=(
 Wq.kind==.function&&Wq.names.all (λl=>l.2 != .cell || Wq.names.lookup l.1==Z .cell)&&Wq.names.all (λl=>l.2 != .free || E.names.lookup l.1==Z .cell)&&Wq.names.all (λl=>l.2 != .local || Wq.names.lookup l.1==Z .local) &&
  WD.all (λa=>match Ww[a]? with|some e=>Wq.names.lookup e==Z .free|none=>au))
def ly{b:aQ}(E:g_)(Ww:List aI)(c:wR E Ww Wq WD=X)(d:b.env.scope=E:=by rfl)(i:b.N=Ww:=by rfl):h4 b Wq own WD:=by
 unfold wR at c;simp only[cN,ml,bne_iff_ne,ne_eq,yD,mN]at c;let@⟨@⟨@⟨@⟨t,C⟩,j⟩,k⟩,m⟩:=c;refine⟨t,λl f g=>(C l f).resolve_left λx=>x g,λl f g=>?_,λl f g=>?_,λa V0=>?_⟩
 ·rw[d];exact (j l f).resolve_left λx=>x g
 ·exact (k l f).resolve_left λx=>x g
 ·have:=m a V0;rw[i];cases r:Ww[a]? with
  |none=>rw[r]at this;cases this
  |some e=>
   rw[r]at this;have h:Wq.names.lookup e=Z .free:=by simpa using this
   exact⟨e,rfl,mem_of_lookup h,h⟩
def EI{W2:Pos}{use:Option (ae->dr Unit)}{f0:ae->aq->Prop}{it:cH}(on:b.calm=X)(We:h4 b Wq own WD)(V0:jX b WC Xa J)(op:∀al,kd (b.fT (fY b own WD) Wq al) WC<|F al)(bT:∀al,sk (b.fT (fY b own WD) Wq al) Xq<|XA al)(o0:∀al,bP (b.fT (fY b own WD) Wq al) Xs<|Xg al)(av:∀e,mI Xa b.env e=pure e)(A:aK b G B j n)(c:ua own WD J F XA Xg B j it)(pc:∀(w aO:af) (f1:aC) (I:aq) (k:aI->Option ae),aK b G B f1 I->I.heap.Ns aO k->f1 aO=Y->b.env.locals≠aO->(∀e h,b.env.cells.lookup e=Z h->h≠aO)->b.e2.heap.objs.size<=aO->(∀s∈b.kY++G,s.1≠aO)->it (.ref w) f1->compPost (aR b.prog b.w) b.A b.cJ use f0 (.ref w) aO (.ok .next) I):
  wpAny (aR b.prog b.w) b.A (w9 (.ListComp Xs [⟨WC,Xa,Xq,0⟩] Wq Wk) Wq b.env W2 (qt []) au (cb Xa b.env) use) f0 b.cJ n:=by
 refine wpAny_comprehension_free (use:=use) rfl av (Od<|We.cells A.ok) We.kind We.loc (bU (V0 G n B j _ A c) λv v1 t=>bU t λv2 E C=>?_);let⟨ag,bI,i,Xh,@Ws,d,R,V6,f2,am,pi⟩:=C;subst d;have ca:∀f∈bI,f<E.heap.objs.size:=λf q=>by
  let⟨@p,d,S⟩:=V6.obj _ _ f2 f q;exact b4 d
 refine fu (Kb λf4 Wa ext cl a1 jp=>?_);dsimp only at cl ext a1 ⊢;generalize f8:E.heap.push {cls:=.type "list",dict:=Y,data:=.seq ([]:List ae).toArray}=co at cl ext a1 ⊢;have cr:co.objs.size=E.heap.objs.size+1:=by rw[<-f8,gZ]
 have a2:E.heap.objs.size≠co.objs.size:=by rw[cr];exact dg (lY _)
 have cs:E.heap.objs.size<=co.objs.size:=by rw[cr];exact CZ _
 have ga:∀f p,E.heap.get? f=Z p->f4.get? f=Z p:=λf p d=>ext f p (f8 ▸ b0 _ d);have kt:f4.get? E.heap.objs.size=Z {cls:=.type "list",data:=.seq ([]:List ae).toArray 0}:=ext _ _ (f8 ▸ c0 _ rfl);generalize v4:co.objs.size=aO at cl a1 cr a2 cs ⊢;have db:E.heap.objs.size<=aO+1:=H_ cs;generalize T:E.heap.objs.size=w at kt cr a2 cs ⊢;have bd:E.heap.objs.size<=aO:=by rw[T];exact cs
 let⟨@W,⟨@pm,po⟩,turn⟩:=pi ⟨aO,E,Ws,bI,Wa⟩;have kw:=λ(WK:Nat)=>N6 (WK:=WK) We R bd am ca ga cl a1 db jp;have lc:=op ⟨aO,E,Ws,bI,Wa⟩;have lf:=bT ⟨aO,E,Ws,bI,Wa⟩;have li:=o0 ⟨aO,E,Ws,bI,Wa⟩;have ge:=C5 We R bd am ca a1 db jp;generalize M:b.fT (fY b own WD) Wq ⟨aO,E,Ws,bI,Wa⟩=y at kw lc lf li ge;have be:y.prog=b.prog:=by rw[<-M];rfl
 have bi:y.w=b.w:=by rw[<-M];rfl
 have lm:y.K=b.K:=by rw[<-M];rfl
 have cd:y.A=b.A:=by rw[<-M];rfl
 have ln:y.calm=X:=by rw[<-M];exact on
 have bm:y.env.locals=aO:=by rw[<-M];rfl
 have gl:y.ex=bI:=by rw[<-M];rfl
 have ds:y.e2=E:=by rw[<-M];rfl
 have pp:y.qq=Ws:=by rw[<-M];rfl
 have pr:y.aa=iG b.stack:=by rw[<-M];rfl
 have dL:y.kY=[]:=by rw[<-M];rfl
 have gt:y.cJ=λ_ S=>False:=by rw[<-M];rfl
 have ls:y.env=vE Wq (Wa++kH b.env Wq.names) aO b.env:=by rw[<-M];rfl
 have lv:∀e h,y.env.cells.lookup e=Z h->aO+1<=h\/b.env.cells.lookup e=Z h:=λe h c=>by
  rw[ls]at c;rcases We.two R.ok c with x|⟨_,x⟩
  ·exact .inl (a1.j7 e h x).1
  ·exact .inr x
 have pt:∀e h,y.env.cells.lookup e=Z h->h≠w:=λe h c x=>by
  rcases lv e h c with l|l
  ·rw[x,<-T]at l;exact absurd (dx (Nat.succ_le_succ bd) l) (Nat.not_succ_le_self _)
  ·have:=R.yk l;rw[x,<-T]at this;exact iN _ this
 have g1:∀f∈bI,f≠w:=λf q x=>by
  have:=ca f q;rw[x,<-T]at this;exact iN _ this
 have pu:w∉y.aa:=λx=>by
  let@⟨_,⟨@p,bn,_⟩⟩:=ge.jl.mem x;rw[ds]at bn;have:=b4 bn;rw[T]at this;exact iN _ this
 have g2:∀(V1:aC) (p:a9),(∀f∈bI,V1 f=Y)->∀f∈bI,j3 y [(w,p)] V1 f:=λV1 p g3 f q=>by
  refine⟨g3 f q,?_,?_,.inl (by rw[gl];exact q),λe h c=>(lv e h c).elim (λl=>hk (eK (ca f q) (dx db (by rw[T]at db;exact l)))) λl=>(am f q).2.2.2.2.1 e h l,λs H=>?_⟩
  ·rw[bm];exact dg (eK (ca f q) bd)
  ·exact ge.q0 f (by rw[gl];exact q)
  ·rw[dL]at H;have:s=(w,p):=by simpa using H
   rw[this];exact Ne.symm (g1 f q)
 have lw:∀hd:aq,hd={E with heap:=f4,toks:=E.toks+([]:List (aI×ae)).length}->
   codeAny (aR b.prog b.w) b.A (.compLoop (.ListComp Xs [⟨WC,Xa,Xq,0⟩] Wq Wk) 0 (.ref ag) (.ref w) y.env)
    (compPost (aR b.prog b.w) b.A b.cJ use f0 (.ref w) aO) hd:=by
  rintro hd rfl;refine TR (λu V5=>∃(a:Nat) (Wm:List ao) (V1:aC) (Wg:List ae) (o:Nat),aK y [(w,{cls:=.type "list",data:=.seq Wg.toArray o})] (ko own WD B) V1 V5/\bY Wm Wg/\Wm.length<=sizeLine/\i a V5.heap/\
   (∀f∈bI,V1 f=Y)/\W a u Wm V1) ?_ pm ?_
  ·rintro u mo ⟨a,Wm,N,Wg,o,he,eq,mp,ms,m0,py⟩;rcases turn a u Wm N py with ⟨stop,rc⟩|⟨go,Ww,na,step⟩
   ·have:=V6.done y be bi lm ln a _ mo _ N (λ_ S=>False) he (g2 N _ m0) ms stop;rw[cd]at this;refine bU this λm I P=>?_;let@⟨V9,an⟩:=P;subst V9;let⟨@k,g3,S⟩:=an.loc;have re:I.heap.Ns aO k:=by rw[<-bm];exact g3
    have H:=an.pin (w,{cls:=.type "list",data:=.seq Wg.toArray o}) (by rw[dL];simp);have bs:N w=Y:=H.2.1;have d6:∀f,f≠aO->I.heap.get? f=I.heap.get? f:=λf q=>rfl;have bv:∀f p,E.heap.get? f=Z p->f≠aO:=λf p d=>dg (eK (b4 d) bd);have rs:∀f p,E.heap.get? f=Z p->f≠w:=λf p d=>by rw[<-T];exact dg (b4 d)
    have U:fq (iG b.stack) bI Ws N E.heap I.heap:=by
     have:=an.base;rw[pr,gl,pp,ds]at this;exact this
    have L:fq (iG b.stack) bI Ws (upd N w<|.lst Wm) E.heap I.heap:=
     ⟨λf p d u q as=>(d6 f<|bv f p d).trans<|U.keep f p d u q as,
      λf p d u q as=>by
      let⟨@a4,r⟩:=U.slot f p d u q as;exact⟨a4,(d6 f<|bv f p d).trans r⟩,
      λf p d u as=>by rw[dq (rs f p d)];exact U.free f p d u as,
      λf p d as=>by
      let⟨@WN,r⟩:=U.there f p d as;exact⟨WN,(d6 f<|bv f p d).trans r⟩,
      λf z d=>by rw[dq (hF (U.kV f z d) bs)];exact U.kV f z d,
      λf p z d=>by rw[dq (hF (U.kc f p z d) bs)];exact U.kc f p z d,
      λf Wj d=>by
      let⟨@sc,r⟩:=U.l6 f Wj d;exact⟨sc,by rw[dq (hF r bs)];exact r⟩⟩
    have nb:∀f p,N f=Z p->f≠aO:=λf p d x=>by
     have:=an.free;rw[bm,<-x,d]at this;cases this
    have sn:ef b.prog b.w (upd N w<|.lst Wm) I.heap:=λg p d=>by
     by_cases ne:g=w
     ·subst ne;rw[fm]at d;cases d;exact⟨mp,Wg,o,eq,(d6 _ a2).trans H.1⟩
     ·rw[dq ne]at d;have:=an.a5 g p d;rw[be,bi]at this;refine this.hb (λf L q r=>(d6 f ?_).trans r) (λf r=>by rw[dq (hF r bs)];exact r) λf z r=>by rw[dq (hF r bs)];exact r
      rcases q with x|x
      ·rw[x];exact nb g p d
      ·exact nb f _ x
    have sp:aK b G B (upd N w<|.lst Wm) I:=R.Q3 (V5:=I) (Xn:=bI) (by have:=an.os;rw[ds]at this;exact this) L sn an.bare λf q=>⟨(am f q).2.2.2.1,(am f q).2.1,(am f q).2.2.2.2.1,(am f q).2.2.2.2.2⟩;have ss:b.env.locals≠aO:=by
     let⟨@v6,sw,S⟩:=R.loc;let⟨p,S,@S,bn,S⟩:=sw;exact bv _ _ bn
    have sB:∀e h,b.env.cells.lookup e=Z h->h≠aO:=λe h c=>by
     let⟨v,@p,bn,S⟩:=R.cell e h c;exact bv _ _ bn
    refine pc w aO _ I k sp re ?_ ss sB ?_ (λs H=>bv _ _ (R.pin s H).1) (rc w bs)
    ·rw[dq (Ne.symm a2)];have:=an.free
     rwa [bm]at this
    ·exact dx R.ho bd
   ·have:=V6.item y be bi lm ln a _ mo _ N (λ_ S=>False) he (g2 N _ m0) ms go;rw[cd]at this;refine bU this λm I P=>?_;let⟨@L,V9,sK⟩:=P;subst V9;refine bU sK λ_ ce P=>?_;let⟨e,@hf,s0,s1,s2,hm,s3⟩:=P;have s4:=s0.pinned (g2 hf _ s3) (V6.obj _ _ hm);have nl:=lc _ ce _ hf e L _ s4 s1 (step e hf s2);rw[be,bi,cd,gt]at nl;refine bU nl λ_ s5 P=>?_;let⟨ch,@to,tt,ty,tz⟩:=P;have nm:=lf _ s5 ch to _ tt tz;rw[be,bi,cd,gt]at nm;refine bU nm λf t0 P=>?_;let⟨@nn,ev,fd⟩:=P;have no:∀{np:bg}{V1:aC}{V5:aq},aK y ([(w,{cls:=.type "list",data:=.seq Wg.toArray o})]++mv bI ce.heap) np V1 V5->(∀f∈bI,V1 f=Y)/\i (a+1) V5.heap:=λ{np V1 V5} ci=>by
     refine⟨λf q=>?_,V6.keep _ _ _ hm λf q p d=>(ci.pin (f,p)<|eW _<|eW _<|wh q d).1⟩;let⟨@p,d,S⟩:=V6.obj _ _ hm f q;exact (ci.pin (f,p)<|eW _<|eW _<|wh q d).2.1
    have ns:∀{hw:List (af×a9)}{V1:aC}{V5:aq},aK y hw ch V1 V5->aK y hw (ko own WD B) V1 V5:=λ{hw V1 V5} ci=>
     ci.weak (by rw[ci.len,he.len]) ty;cases f with
    |false=>
     rw[aN dc]at fd;let⟨@h0,ii,t1⟩:=na _ _ fd;rw[aN dc];let@⟨WG,WO⟩:=no ev;exact⟨h0,ii,a+1,Wm,nn,Wg,o,ns (ev.qE λs H=>ev.pin s (by
      rw[dL];simp at H ⊢;exact .inl H)),eq,mp,WO,WG,t1⟩
    |true=>
     rw[aM rfl]at fd ⊢;have nw:=li _ t0 ch nn _ ev fd;rw[be,bi,cd,gt]at nw;refine bU nw λQ ap P=>?_;let⟨t3,@im,fn,ul,wf,un⟩:=P;let⟨@h0,ii,up⟩:=na _ _ un;have H:=fn.pin (w,{cls:=.type "list",data:=.seq Wg.toArray o}) (eW _ (gz _ ↥0));have io:=H.1;refine zp EC ⟨_,io,rfl⟩ B6 (Ct _ _) (EV w Wg.toArray o Q (by rw[cR,<-eq.length];lia)) ⟨io,?_⟩;have r:=B0 io (λg=>g.push Q);let@⟨WG,WO⟩:=no fn;have us:aK y (mv bI ce.heap) ch im ap:=fn.qE λs H=>fn.pin s (eW _<|eW _ H);have of:∀f p,f≠w->ap.heap.get? f=Z p->(ap.heap.update w<|a9.mapSeq λg=>g.push Q).get? f=Z p:=λf p q d=>(iE ap.heap _<|Ne.symm q).trans d;have ut:aK y (mv bI ce.heap) ch im {ap with heap:=ap.heap.update w (a9.mapSeq λg=>g.push Q),toks:=ap.toks}:=
      us.turned (ag:=w) of H.2.1 (by rw[bm];exact a2) (.inr (by rw[ds,T];exact bh _)) pt λs fr=>by
       rw[dL]at fr;let@⟨q,_⟩:=FV (show s∈mv bI ce.heap by simpa using fr);exact g1 _ q
     refine⟨h0,ii,a+1,Wm++[t3],im,Wg++[Q],o+1,ns<|ut.qE λs fr=>?_,eq.append<|.cons ul .nil,?_,?_,WG,up⟩
     ·have d:s=(w,{cls:=.type "list",data:=.seq (Wg++[Q]).toArray (o+1)}):=by simpa using fr
      subst d;refine⟨?_,H.2.1,H.2.2.1,H.2.2.2.1,λv x=>by cases x⟩;have u8:Wg.toArray.push Q=(Wg++[Q]).toArray:=by simp
      rw[<-u8];have ol:IsL (ap.heap.update w<|a9.mapSeq λg=>g.push Q) w (Wg.toArray.push Q) (if (Wg.toArray.push Q).size==Wg.toArray.size then o else o+1):=r;rw[aN ↥0]at ol;exact ol
     ·rw[di,gI];lia
     ·refine V6.keep _ _ _ WO λf q p d=>of f p (g1 f q) d
  ·refine⟨0,[],Ws,[],0,?_,.nil,hj _,V6.keep _ _ _ f2 λf S p d=>ga f p d,λf q=>(am f q).1,po⟩;refine (kw _).qE λs H=>?_;have d:s=(w,{cls:=.type "list",data:=.seq ([]:List ae).toArray 0}):=by simpa using H
   subst d;exact⟨kt,R.a5.fresh (by rw[T];exact bh _),by rw[bm];exact a2,pu,λv x=>by cases x⟩
 have v0:vE Wq (Wa++kH b.env Wq.names) aO b.env=y.env:=ls.symm;show codeAny (aR b.prog b.w) b.A (.compStart _ 0 (.ref ag) (.ref w)<|vE Wq (Wa++kH b.env Wq.names) aO b.env) _ _;rw[v0];exact codeAny_compStart_list (lw _ rfl) (V6.self b.A 0 _ _ _ (V6.keep _ _ _ f2 λf S p d=>ga f p d)<|lw _ rfl)
def Rf(i:b.calm=X)(We:h4 b Wq own WD)(V0:jX b WC Xa J)(l:∀a,kd (b.fT (fY b own WD) Wq a) WC<|F a)(bT:∀a,sk (b.fT (fY b own WD) Wq a) Xq<|XA a)(m:∀a,bP (b.fT (fY b own WD) Wq a) Xs<|Xg a)(av:∀e,mI Xa b.env e=pure e:=by intro W;rfl):bP b (.ListComp Xs [⟨WC,Xa,Xq,0⟩] Wq Wk) (ua own WD J F XA Xg):=by
 intro G n B j y A c;show wpAny _ b.A (w9 (.ListComp Xs [⟨WC,Xa,Xq,0⟩] Wq Wk) Wq b.env _ (qt []) au (cb Xa b.env) Y) _ _ n;refine EI (use:=Y) (f0:=en b G B y) i We V0 l bT m av A c λw aO o g k q t I H h x s r=>?_;show ∃k,g.heap.Ns aO k/\∀T,aY.SameBut aO g.heap T->en b G B y (.ref w) {g with heap:=T};refine⟨k,t,λT cu=>⟨.ref w,o,?_,rfl,r⟩⟩;exact q.turned (ag:=aO) (WE:=g.toks) (λf p u d=>(cu.2 f u).trans d) I (Ne.symm H) (.inr x) h s
end
def hD(c:aY)(q:af)(M:List ae)(Wt:Nat):Prop:=(∃p Q,c.get? q=Z p/\p.ExactDict/\p.data=.dict Q Wt/\Q.toList.map (·.key)=M)
def hD.ty(e:hD n.heap q M Wt):n.TypeIs (.ref q) "dict" := let ⟨p,_,d,h,_⟩:=e;⟨p,d,h.1⟩
def hD.lt(e:hD c q M Wt):q<c.objs.size:=let ⟨_,_,d,_⟩:=e;b4 d
def hD.go{T:aY}(e:hD c q M Wt)(o:∀p,c.get? q=Z p->T.get? q=Z p):hD T q M Wt:=let ⟨p,Q,d,m⟩:=e;⟨p,Q,o p d,m⟩
section
variable{Wb:bJ}{D:bl}{O:bD}{U:ae->aq->Prop}{n:aq}
def CX{y:ae->aq->Prop}(S:(q==ie)=au)(e:hD n.heap q M Wt)(r:y (.ref n.heap.objs.size) {n with heap:=n.heap.push {cls:=.type "dict_keyiterator",data:=.fields #[.ref q,.int 0 0,.int M.length 0,.int Wt 0]} }):wpAny (aR Wb D) O (my<|.ref q) y U n:=by
 have ty:=e.ty;let⟨p,@Q,a,d,b,c⟩:=e;have u:Q.size=M.length:=by rw[<-c,ba,dv]
 refine u_ ty EW (gd EW ty F.entry_dict_iter ?x<|F.args_dict_iter_1 _)
 case x=>
  unfold a0.«dict.__iter__» a0.Dict.dictSlotNone;refine ar (ar<|zX ty ?_);show wpAny _ _ (pure<|ae.ref q) _ _ n;apply aL;show wpAny _ _ (a0.Dict.showsAll q >>= _) _ _ n;unfold a0.Dict.showsAll;rw[aN (by rw[S];simp)];refine ar (aL<|ar<|kg a b<|ar<|nq a b<|ar<|fu<|aL ⟨_,rfl,"dict_keyiterator",_,⟨_,c0 _ rfl,rfl⟩,sS.lookup,?_⟩);simpa [dR,u] using r
def Jz{ag q:af}{v:ae}(b:n.heap.IsKeyIter ag q a M.length Wt)(e:hD n.heap q M Wt)(d:M[a]?=Z v)(r:∀T,T.IsKeyIter ag q (a+1) M.length Wt->aY.SameBut ag n.heap T->y (Z v) {n with heap:=T}):wpAny (aR Wb D) O (fg<|.ref ag) y U n:=by
 let⟨@l,f,k,c⟩:=id b;let⟨p,@Q,g,m,h,i⟩:=e;have u:Q.size=M.length:=by rw[<-i,ba,dv]
 have V0:a<Q.size:=by
  have:a<M.length:=(fs.mp d).1;lia
 have Xu:Q[a].key=v:=by
  rw[<-i,eB,eQ,i6 V0]at d;exact Option.some.inj d
 unfold fg;refine ar (mV<|kl (name:=aI.ofString "__next__") b.typeIs sS<|gd sS b.typeIs CJ ?x<|ET _)
 case x=>
  refine ar (aL<|ar<|ar ?_);refine ar (vt b.typeIs<|aL<|ar<|mO f c ?_);simp only[show a0.Dict_items.ownsTuple "dict_keyiterator" = au by decide,g0,e9];show wpAny _ _ (if (ae.ref q==ae.none)=X then _ else _) _ _ n;rw[aN (show ¬ (ae.ref q==ae.none)=X by intro x;cases x)];refine ar (aL<|ar<|kg g h ?_);rw[aN (by simp[u])];refine ar (aL<|ar<|nq g h ?_);rw[aN ↥0];apply aL;simp only[show ¬ ((a:Int)<0) by lia,e9,kb,i6 V0];refine ar (ar<|vt b.typeIs<|aL<|ar<|Ew b.typeIs ?_);show wpAny _ _ (qz (.ref ag) 1 (dR<|(a:Int)+1) >>= _) _ _ n;have j:(n.heap.update ag (a9.mapFields (·.setIfInBounds 1 (dR<|(a:Int)+1)))).IsKeyIter ag q (a+1) M.length Wt:=
   ⟨_,jK _ f<|xY<|qL c _,(AY ..).trans k,by rw[qL c];simp[dR]⟩;refine ar (ny f c ↥0 (ar (f6 (ar (Ew (s:={n with heap:=n.heap.update ag (a9.mapFields (·.setIfInBounds 1 (dR<|(a:Int)+1)))}) j.typeIs ?_)))));show wpAny _ _ (pure Q[a].key) _ _ _;rw[Xu];exact aL (aL ⟨_,rfl,aL<|r _ j<|hv ..⟩)
def EG{ag q:af}(j:O.handled=Y)(b:n.heap.IsKeyIter ag q a M.length Wt)(e:hD n.heap q M Wt)(m:M.length<=a)(r:∀T,aY.ExtBut ag n.heap T->y Y {n with heap:=T}):wpAny (aR Wb D) O (fg<|.ref ag) y U n:=by
 let⟨@o,c,s,d⟩:=id b;let⟨p,@Q,h,t,i,l⟩:=e;have u:Q.size=M.length:=by rw[<-l,ba,dv]
 unfold fg;refine ar (mV<|kl (name:=aI.ofString "__next__") b.typeIs sS<|gd sS b.typeIs CJ ?x<|ET _)
 case x=>
  refine ar (aL<|ar<|ar ?_);refine ar (vt b.typeIs<|aL<|ar<|mO c d ?_);simp only[show a0.Dict_items.ownsTuple "dict_keyiterator" = au by decide,g0,e9];show wpAny _ _ (if (ae.ref q==ae.none)=X then _ else _) _ _ n;rw[aN (show ¬ (ae.ref q==ae.none)=X by intro x;cases x)];refine ar (aL<|ar<|kg h i ?_);rw[aN (by simp[u])];refine ar (aL<|ar<|nq h i ?_);rw[aN ↥0];apply aL;simp only[show ¬ ((a:Int)<0) by lia,e9,kb,uY (show Q.size<=a by lia)];refine ar (ar<|vt b.typeIs<|aL ?_);show wpAny _ _ (qz (.ref ag) 0 .none >>= _) _ _ n;refine ar (ny c d ↥0 ?_);show wpAny _ _ (nk (.type "StopIteration") [] >>= _) _ _ _;apply ar;simp only[nk,sa];refine ar (fu (ar (m:=nt _ _) (qi (a:=ae.none) (by first|rfl|(simp only[nt];rfl)) (fu ?_ (by size_fits)))) (by size_fits));simp only[raiseNew];apply ar;apply vx;rw[show O.in1.handled=Y from j];refine ar (m:=pure _) (aL<|ue ?_);apply ar;refine pd (T := "StopIteration") (b:=X) ⟨_,c0 _ rfl,rfl⟩ uv ?_;exact aL (r _<|((hv ..).extBut.push _).push _)
theorem RF(j:O.handled=Y)(ag q:af)(ne:q≠ag)(M:List ae)(Wt:Nat):jy Wb D O ag [ag,q] [ag] M.length (λa v=>M[a]?=Z v) (λa c=>c.IsKeyIter ag q a M.length Wt/\hD c q M Wt) where
 sub:=λf k=>by
  have:f=ag:=by simpa using k
  simp[this]
 frame:=λa c T N o=>⟨let ⟨p,d,m⟩:=N.1;⟨p,o ag ↥0 p d,m⟩,N.2.go (o q ↥0)⟩
 item:=λa n y U V0 N b=>by
  have i:M[a]?=Z M[a]:=by simp[V0]
  refine Jz N.1 N.2 i λT g f=>b _ T n.toks i ⟨g,N.2.go λp d=>f.extBut q p ne d⟩ λh p e d=>f.extBut h p ⇑e d
 done:=λn y U N b=>EG j N.1 N.2 (bh _) λT f=>b T n.toks λh p e d=>f h p ⇑e d
 self:=λa n y U N b=>Bp N.1 b
theorem RD(S:(q==ie)=au):PySem.W.KdlSrc Wb D "dict" q q M.length (λa v=>M[a]?=Z v) (λc=>hD c q M Wt) where
 type:=λn e=>e.ty
 there:=λc e=>⟨e.lt,e.lt⟩
 keep:=λc T e o=>e.go (o q<|.inl rfl)
 notList:=by decide
 notTuple:=by decide
 hint:=λO U n y e r=>PySem.W.kdl_hint_dict e.ty r
 iter:=λO n b e=>⟨_,_,(λU y r=>CX S e r),RF b _ q (dg e.lt) M Wt,⟨⟨_,c0 _ rfl,rfl,rfl⟩,e.go λp d=>b0 _ d⟩⟩
end
end L2
namespace L2
open Spec PyProof.Rows PySem.W
section
variable{u:Nat}{R:Nat->Int}{b:Nat->Nat->(Bool->aq->Prop)->aq->Prop}
def bk(R:Nat->Int)(s:Array Nat)(a:Nat):Int:=(R (s.getD a 0))
def iV(R:Nat->Int)(s:Array Nat)(k:Nat):Prop:=(∀a i,a<=i->i<k->bk R s a<=bk R s i)
def fM(u:Nat)(R:Nat->Int)(b:Nat->Nat->(Bool->aq->Prop)->aq->Prop)(n:aq):Prop:=(∀a i aO,a<u->i<u->aO (decide (R a<R i)) n->b a i aO n)
def da(u:Nat)(s:Array Nat):Prop:=(s.toList.Perm (range u))
variable{s:Array Nat}
def da.size(c:da u s):s.size=u:=by
 have:=c.length_eq;simpa using this
def da.lt(c:da u s){a:Nat}(V0:a<u):s.getD a 0<u:=by
 have av:=c.size;have d:s.getD a 0=s[a]:=by simp[Array.getD,av,V0]
 rw[d];have:s[a]∈s.toList:=by simp
 exact eV.mp (c.mem_iff.mp this)
def da.ne(c:da u s)(inj:∀a i,a<u->i<u->R a=R i->a=i){a i:Nat}(j:a<i)(b:i<u):bk R s a≠bk R s i:=by
 intro d;have av:=c.size;have e:=inj _ _ (c.lt (by omega)) (c.lt b) d;have f:s.getD a 0=s[a]:=by simp[Array.getD,av,show a<u by omega]
 have g:s.getD i 0=s[i]:=by simp[Array.getD,av,b]
 rw[f,g]at e;have ah:s.toList.Nodup:=c.nodup_iff.mpr mJ;have h:s.toList[a]'(by simpa [av] using (show a<u by omega))=s.toList[i]'(by simpa [av] using b):=by simpa using e
 have:=(xS ah).mp h;omega
def mq{r:Array Nat}{a i:Nat}(d:s[a]?=r[i]?):bk R s a=bk R r i:=by
 unfold bk;rw[GC,GC,d]
theorem da.rev(c:da u s)(a i:Nat):da u (mQ s a i):=(HK.mp<|mirror_perm s a i _).trans c
theorem da.Lv(c:da u s)(a i:Nat):da u (q3 s a i):=(HK.mp<|bubble_perm s a i).trans c
end
section
variable{Wb:bJ}{D:bl}{O:bD}{U:ae->aq->Prop}{Wu:gX}{ag:Array bo}{R:Nat->Int}{u:Nat}{n:aq}
def qo:Bool->bo->Array bo->Nat->Nat->Nat->StateT bF dr (Option Nat):=(sortPriv% PySem.Builtin.gallop)
def sm(b:fM u R (fe Wb D O Wu ag) n){a i:Nat}(V0:a<u)(d:i<u){N:bF}(e:kindOf N=Wu){y:Option Bool->bF->aq->Prop}(c:y (Z<|decide (R a<R i)) N n):
  kasC (aR Wb D) O U (lt' (bq ag a)<|bq ag i) y N n:=by
 rw[lt'_eq];apply br;apply kq;have:=b a i (λh V5=>V5=n/\h=decide (R a<R i)) V0 d ⟨rfl,rfl⟩;unfold fe at this;rw[e];refine br (oS<|mV<|gR this (λh V5 f=>?_) λ_ W g=>g.elim);let@⟨rfl,rfl⟩:=f;exact bp c
theorem g8{B W9:Type}{aw:gu}{I:Nat->W9->StateT B dr (ForInStep W9)}{y:W9->B->aq->Prop}(A:Nat->W9->B->aq->Prop)(step:∀e h N V5,A e h N V5->kasC aw O U (I e h) (λm b f=>match m with | .yield a=>A (e+1) a b f | .done a=>y a b f) N V5):∀(k g:Nat) (h:W9) (N:B) (V5:aq),(∀h N V5,A (g+k) h N V5->y h N V5)->A g h N V5->
   kasC aw O U (forIn (range' g k) h I) y N V5
 |0,g,h,N,V5,i,c=>by
  show kasC aw O U (forIn ([]:List Nat) h I) y N V5;exact kasC_nil (i h N V5 c)
 |k+1,g,h,N,V5,i,c=>by
  show kasC aw O U (forIn (g::range' (g+1) k) h I) y N V5;refine kasC_cons (gR (step g h N V5 c) (λm f T=>?_) λ_ W d=>d);let⟨m,b⟩:=m;cases m with
  |done a=>exact T
  |yield a=>exact g8 A step k (g+1) a b f (λh N V5 V0=>i h N V5 (by rw[show g+(k+1)=g+1+k by lia];exact V0)) T
def cX(R:Nat->Int)(left:Bool)(o:Nat)(bX:Array Nat)(Wh a:Nat):Bool:=(if left=X then decide (R (bX.getD (Wh+a) 0)<R o) else !decide (R o<R (bX.getD (Wh+a) 0)))
def IE(P:fM u R (fe Wb D O Wu ag) n){left:Bool}{o:Nat}(Q:o<u){bX:Array Nat}(an:∀a,a<bX.size->bX.getD a 0<u){Wh k b:Nat}(a2:Wh+k<=bX.size)(ap:b<k)(mono:∀a i,a<=i->i<k->cX R left o bX Wh i=X->cX R left o bX Wh a=X){N:bF}(T:kindOf N=Wu){y:Option Nat->bF->aq->Prop}(c:∀m,m<=k->(∀a,a<m->cX R left o bX Wh a=X)->(∀a,m<=a->a<k->cX R left o bX Wh a=au)->y (Z m) N n):
  kasC (aR Wb D) O U (qo left (bq ag o) (bX.map<|bq ag) Wh k b) y N n:=by
 have as:∀a,a<k->(bX.map<|bq ag)[Wh+a]?=Z (bq ag<|bX.getD (Wh+a) 0):=λa V0=>by
  have:Wh+a<bX.size:=⋯
  simp[Array.getD,this]
 have ask:∀a,a<k->∀M:Option Bool->bF->aq->Prop,M (Z<|cX R left o bX Wh a) N n->
   kasC (aR Wb D) O U (do let e <-elem' (bX.map<|bq ag) (Wh+a);if left=X then lt' e (bq ag o) else do let m <-lt' (bq ag o) e;pure (m.map λe=>!e)) M N n:=λa V0 M I=>by
  rw[wg,as a V0];apply br;apply bp;have al:=an (Wh+a) ⋯;unfold cX at I;cases left with
  |true=>
   rw[aM rfl]at I ⊢;exact sm P al Q T I
  |false=>
   rw[aN dc]at I ⊢;exact br (sm P Q al T<|bp I)
 unfold qo;with_unfolding_all refine br ?_;refine ask b ap _ ?_;dsimp only;cases am:cX R left o bX Wh b with
 |true=>
  rw[aM rfl];apply br;apply fQ;have G:∀last j,last<j->b+last<k->cX R left o bX Wh (b+last)=X->(j >= k-b\/cX R left o bX Wh (b+j)=au)->
    b+last+1<=b+min j (k-b)/\b+min j (k-b)<=k/\(∀a,a<b+last+1->cX R left o bX Wh a=X)/\(∀a,b+min j (k-b)<=a->a<k->cX R left o bX Wh a=au)/\b+min j (k-b)-(b+last+1)<=k-0:=λlast j a1 W5 L F=>by
   refine⟨⋯,⋯,λa V0=>mono a (b+last) ⋯ W5 L,λa t C=>?_,⋯⟩;rcases F with F|F
   ·lia
   ·cases x:cX R left o bX Wh a with
    |false=>rfl
    |true=>rw[mono (b+j) a ⋯ C x]at F;cases F
  refine g8 (λe h q V5=>q=N/\V5=n/\∃last j,h=(Y,last,j)/\last<j/\e<j/\b+last<k/\cX R left o bX Wh (b+last)=X) ?_ _ 0 _ _ _ ?_ ⟨rfl,rfl,0,1,rfl,⋯,⋯,⋯,am⟩
  ·rintro e h q V5 ⟨r,s,last,j,rfl,t,C,l,p⟩;rw[r,s];dsimp only;by_cases H:j >= k-b
   ·rw[aM H];apply bp;dsimp only;have z:=G last j t l p (.inl H);apply br;apply fQ;refine g8 (λe h q V5=>q=N/\V5=n/\∃S V0,h=(Y,S,V0)/\S<=V0/\V0<=k/\(∀a,a<S->cX R left o bX Wh a=X)/\(∀a,V0<=a->a<k->cX R left o bX Wh a=au)/\V0-S<=k-e) ?_ _ 0 _ _ _ ?_ ⟨rfl,rfl,_,_,rfl,z⟩
    ·rintro e h q V5 ⟨r,s,S,V0,rfl,t,C,l,p,A⟩;rw[r,s];dsimp only;by_cases w:S >= V0
     ·rw[aM w];apply bp;dsimp only;have d:S=V0:=⋯
      subst d;exact bp (c S C l p)
     ·rw[aN w];have B:S<=S+(V0-S)/2:=⋯
      have E:S+(V0-S)/2<V0:=⋯
      generalize S+(V0-S)/2=mid at B E ⊢;refine br (ask mid ⋯ _ ?_);dsimp only;cases v:cX R left o bX Wh mid with
      |true=>
       rw[aM rfl];exact bp ⟨rfl,rfl,mid+1,V0,rfl,⋯,C,λa J=>mono a mid ⋯ ⋯ v,p,⋯⟩
      |false=>
       rw[aN dc];refine bp ⟨rfl,rfl,S,mid,rfl,⋯,⋯,l,λa g f=>?_,⋯⟩;cases x:cX R left o bX Wh a with
       |false=>rfl
       |true=>rw[mono mid a g f x]at v;cases v
    ·rintro h q V5 ⟨r,s,S,V0,rfl,t,C,l,p,A⟩;rw[r,s];dsimp only;have d:S=V0:=⋯
     subst d;exact bp (c S C l p)
   ·rw[aN H];refine br (ask (b+j) ⋯ _ ?_);dsimp only;cases v:cX R left o bX Wh (b+j) with
    |true=>
     simp only[oX,g0,e9];exact bp ⟨rfl,rfl,j,2*j+1,rfl,⋯,⋯,⋯,v⟩
    |false=>
     simp only[Bool.not_false,gN];apply bp;dsimp only;have z:=G last j t l p (.inr v);apply br;apply fQ;refine g8 (λe h q V5=>q=N/\V5=n/\∃S V0,h=(Y,S,V0)/\S<=V0/\V0<=k/\(∀a,a<S->cX R left o bX Wh a=X)/\(∀a,V0<=a->a<k->cX R left o bX Wh a=au)/\V0-S<=k-e) ?_ _ 0 _ _ _ ?_ ⟨rfl,rfl,_,_,rfl,z⟩
     ·rintro e h q V5 ⟨r,s,S,V0,rfl,t,C,l,p,A⟩;rw[r,s];dsimp only;by_cases w:S >= V0
      ·rw[aM w];apply bp;dsimp only;have d:S=V0:=⋯
       subst d;exact bp (c S C l p)
      ·rw[aN w];have B:S<=S+(V0-S)/2:=⋯
       have E:S+(V0-S)/2<V0:=⋯
       generalize S+(V0-S)/2=mid at B E ⊢;refine br (ask mid ⋯ _ ?_);dsimp only;cases v:cX R left o bX Wh mid with
       |true=>
        rw[aM rfl];exact bp ⟨rfl,rfl,mid+1,V0,rfl,⋯,C,λa J=>mono a mid ⋯ ⋯ v,p,⋯⟩
       |false=>
        rw[aN dc];refine bp ⟨rfl,rfl,S,mid,rfl,⋯,⋯,l,λa g f=>?_,⋯⟩;cases x:cX R left o bX Wh a with
        |false=>rfl
        |true=>rw[mono mid a g f x]at v;cases v
     ·rintro h q V5 ⟨r,s,S,V0,rfl,t,C,l,p,A⟩;rw[r,s];dsimp only;have d:S=V0:=⋯
      subst d;exact bp (c S C l p)
  ·rintro h q V5 ⟨r,s,last,j,rfl,t,C,l,p⟩;rw[r,s];dsimp only;have z:=G last j t l p (.inl ⋯);apply br;apply fQ;refine g8 (λe h q V5=>q=N/\V5=n/\∃S V0,h=(Y,S,V0)/\S<=V0/\V0<=k/\(∀a,a<S->cX R left o bX Wh a=X)/\(∀a,V0<=a->a<k->cX R left o bX Wh a=au)/\V0-S<=k-e) ?_ _ 0 _ _ _ ?_ ⟨rfl,rfl,_,_,rfl,z⟩
   ·rintro e h q V5 ⟨r,s,S,V0,rfl,t,C,l,p,A⟩;rw[r,s];dsimp only;by_cases w:S >= V0
    ·rw[aM w];apply bp;dsimp only;have d:S=V0:=⋯
     subst d;exact bp (c S C l p)
    ·rw[aN w];have B:S<=S+(V0-S)/2:=⋯
     have E:S+(V0-S)/2<V0:=⋯
     generalize S+(V0-S)/2=mid at B E ⊢;refine br (ask mid ⋯ _ ?_);dsimp only;cases v:cX R left o bX Wh mid with
     |true=>
      rw[aM rfl];exact bp ⟨rfl,rfl,mid+1,V0,rfl,⋯,C,λa J=>mono a mid ⋯ ⋯ v,p,⋯⟩
     |false=>
      rw[aN dc];refine bp ⟨rfl,rfl,S,mid,rfl,⋯,⋯,l,λa g f=>?_,⋯⟩;cases x:cX R left o bX Wh a with
      |false=>rfl
      |true=>rw[mono mid a g f x]at v;cases v
   ·rintro h q V5 ⟨r,s,S,V0,rfl,t,C,l,p,A⟩;rw[r,s];dsimp only;have d:S=V0:=⋯
    subst d;exact bp (c S C l p)
 |false=>
  rw[aN dc];apply br;apply fQ;have G:∀last j,last<j->last<=b->cX R left o bX Wh (b-last)=au->(j >= b+1\/cX R left o bX Wh (b-j)=X)->
    b+1-min j (b+1)<=b-last/\b-last<=k/\(∀a,a<b+1-min j (b+1)->cX R left o bX Wh a=X)/\(∀a,b-last<=a->a<k->cX R left o bX Wh a=au)/\b-last-(b+1-min j (b+1))<=k-0:=λlast j a1 W5 L F=>by
   refine⟨⋯,⋯,λa V0=>?_,λa t C=>?_,⋯⟩
   ·rcases F with F|F
    ·lia
    ·exact mono a (b-j) ⋯ ⋯ F
   ·cases x:cX R left o bX Wh a with
    |false=>rfl
    |true=>rw[mono (b-last) a ⋯ C x]at L;cases L
  refine g8 (λe h q V5=>q=N/\V5=n/\∃last j,h=(Y,last,j)/\last<j/\e<j/\last<=b/\cX R left o bX Wh (b-last)=au) ?_ _ 0 _ _ _ ?_ ⟨rfl,rfl,0,1,rfl,⋯,⋯,⋯,am⟩
  ·rintro e h q V5 ⟨r,s,last,j,rfl,t,C,l,p⟩;rw[r,s];dsimp only;by_cases H:j >= b+1
   ·rw[aM H];apply bp;dsimp only;have z:=G last j t l p (.inl H);apply br;apply fQ;refine g8 (λe h q V5=>q=N/\V5=n/\∃S V0,h=(Y,S,V0)/\S<=V0/\V0<=k/\(∀a,a<S->cX R left o bX Wh a=X)/\(∀a,V0<=a->a<k->cX R left o bX Wh a=au)/\V0-S<=k-e) ?_ _ 0 _ _ _ ?_ ⟨rfl,rfl,_,_,rfl,z⟩
    ·rintro e h q V5 ⟨r,s,S,V0,rfl,t,C,l,p,A⟩;rw[r,s];dsimp only;by_cases w:S >= V0
     ·rw[aM w];apply bp;dsimp only;have d:S=V0:=⋯
      subst d;exact bp (c S C l p)
     ·rw[aN w];have B:S<=S+(V0-S)/2:=⋯
      have E:S+(V0-S)/2<V0:=⋯
      generalize S+(V0-S)/2=mid at B E ⊢;refine br (ask mid ⋯ _ ?_);dsimp only;cases v:cX R left o bX Wh mid with
      |true=>
       rw[aM rfl];exact bp ⟨rfl,rfl,mid+1,V0,rfl,⋯,C,λa J=>mono a mid ⋯ ⋯ v,p,⋯⟩
      |false=>
       rw[aN dc];refine bp ⟨rfl,rfl,S,mid,rfl,⋯,⋯,l,λa g f=>?_,⋯⟩;cases x:cX R left o bX Wh a with
       |false=>rfl
       |true=>rw[mono mid a g f x]at v;cases v
    ·rintro h q V5 ⟨r,s,S,V0,rfl,t,C,l,p,A⟩;rw[r,s];dsimp only;have d:S=V0:=⋯
     subst d;exact bp (c S C l p)
   ·rw[aN H];refine br (ask (b-j) ⋯ _ ?_);dsimp only;cases v:cX R left o bX Wh (b-j) with
    |false=>
     rw[aN dc];exact bp ⟨rfl,rfl,j,2*j+1,rfl,⋯,⋯,⋯,v⟩
    |true=>
     rw[aM rfl];apply bp;dsimp only;have z:=G last j t l p (.inr v);apply br;apply fQ;refine g8 (λe h q V5=>q=N/\V5=n/\∃S V0,h=(Y,S,V0)/\S<=V0/\V0<=k/\(∀a,a<S->cX R left o bX Wh a=X)/\(∀a,V0<=a->a<k->cX R left o bX Wh a=au)/\V0-S<=k-e) ?_ _ 0 _ _ _ ?_ ⟨rfl,rfl,_,_,rfl,z⟩
     ·rintro e h q V5 ⟨r,s,S,V0,rfl,t,C,l,p,A⟩;rw[r,s];dsimp only;by_cases w:S >= V0
      ·rw[aM w];apply bp;dsimp only;have d:S=V0:=⋯
       subst d;exact bp (c S C l p)
      ·rw[aN w];have B:S<=S+(V0-S)/2:=⋯
       have E:S+(V0-S)/2<V0:=⋯
       generalize S+(V0-S)/2=mid at B E ⊢;refine br (ask mid ⋯ _ ?_);dsimp only;cases v:cX R left o bX Wh mid with
       |true=>
        rw[aM rfl];exact bp ⟨rfl,rfl,mid+1,V0,rfl,⋯,C,λa J=>mono a mid ⋯ ⋯ v,p,⋯⟩
       |false=>
        rw[aN dc];refine bp ⟨rfl,rfl,S,mid,rfl,⋯,⋯,l,λa g f=>?_,⋯⟩;cases x:cX R left o bX Wh a with
        |false=>rfl
        |true=>rw[mono mid a g f x]at v;cases v
     ·rintro h q V5 ⟨r,s,S,V0,rfl,t,C,l,p,A⟩;rw[r,s];dsimp only;have d:S=V0:=⋯
      subst d;exact bp (c S C l p)
  ·rintro h q V5 ⟨r,s,last,j,rfl,t,C,l,p⟩;rw[r,s];dsimp only;have z:=G last j t l p (.inl ⋯);apply br;apply fQ;refine g8 (λe h q V5=>q=N/\V5=n/\∃S V0,h=(Y,S,V0)/\S<=V0/\V0<=k/\(∀a,a<S->cX R left o bX Wh a=X)/\(∀a,V0<=a->a<k->cX R left o bX Wh a=au)/\V0-S<=k-e) ?_ _ 0 _ _ _ ?_ ⟨rfl,rfl,_,_,rfl,z⟩
   ·rintro e h q V5 ⟨r,s,S,V0,rfl,t,C,l,p,A⟩;rw[r,s];dsimp only;by_cases w:S >= V0
    ·rw[aM w];apply bp;dsimp only;have d:S=V0:=⋯
     subst d;exact bp (c S C l p)
    ·rw[aN w];have B:S<=S+(V0-S)/2:=⋯
     have E:S+(V0-S)/2<V0:=⋯
     generalize S+(V0-S)/2=mid at B E ⊢;refine br (ask mid ⋯ _ ?_);dsimp only;cases v:cX R left o bX Wh mid with
     |true=>
      rw[aM rfl];exact bp ⟨rfl,rfl,mid+1,V0,rfl,⋯,C,λa J=>mono a mid ⋯ ⋯ v,p,⋯⟩
     |false=>
      rw[aN dc];refine bp ⟨rfl,rfl,S,mid,rfl,⋯,⋯,l,λa g f=>?_,⋯⟩;cases x:cX R left o bX Wh a with
      |false=>rfl
      |true=>rw[mono mid a g f x]at v;cases v
   ·rintro h q V5 ⟨r,s,S,V0,rfl,t,C,l,p,A⟩;rw[r,s];dsimp only;have d:S=V0:=⋯
    subst d;exact bp (c S C l p)
end
section
variable{R:Nat->Int}
def cy(R:Nat->Int)(H:List Nat):Prop:=(H.Pairwise λe l=>R e<=R l)
structure Mq(R:Nat->Int)(A J:List Nat)(b:List Nat)(w z:Nat):Prop where
 perm:b.Perm (A.take w++J.take z)
 aP:cy R (b++A.drop w)
 cu:cy R (b++J.drop z)
 bX:w+1<A.length
 j8:z<J.length
variable{H k:List Nat}
def fv:cy R (H++k)↔cy R H/\cy R k/\∀e∈H,∀l∈k,R e<=R l:=yO
def qH(H:List Nat)(a o:Nat):H.take a++(H.drop a).take o=H.take (a+o):=by rw[List.take_add]
variable{A J b:List Nat}{w z:Nat}
def vC(o:Nat)(perm:b.Perm (A.take w++J.take z))(aP:cy R (b++A.drop w))(cu:cy R (b++J.drop z))(c:∀e∈(A.drop w).take o,∀l∈J.drop z,R e<=R l):
  (b++(A.drop w).take o).Perm (A.take (w+o)++J.take z)/\cy R (b++(A.drop w).take o++A.drop (w+o))/\cy R (b++(A.drop w).take o++J.drop z):=by
 refine⟨?_,?_,?_⟩
 ·rw[<-qH A w o];refine (perm.append_right _).trans ?_;rw[bC,bC];exact d9 _ dm
 ·rw[bC,<-o4,ff];exact aP
 ·rw[bC];have d:=fv.mp aP;have f:=fv.mp cu;refine fv.mpr ⟨d.1,fv.mpr ⟨d.2.1.sublist<|rO _ _,f.2.1,c⟩,λe g l a=>?_⟩;rcases c5.mp a with a|a
  ·exact d.2.2 e g l (nH a)
  ·exact f.2.2 e g l a
def AO(o:Nat)(perm:b.Perm (A.take w++J.take z))(aP:cy R (b++A.drop w))(cu:cy R (b++J.drop z))(c:∀e∈(J.drop z).take o,∀l∈A.drop w,R e<=R l):
  (b++(J.drop z).take o).Perm (A.take w++J.take (z+o))/\cy R (b++(J.drop z).take o++A.drop w)/\cy R (b++(J.drop z).take o++J.drop (z+o)):=by
 have:=vC (A:=J) (J:=A) o (perm.trans dm) cu aP c;exact⟨this.1.trans dm,this.2.2,this.2.1⟩
variable{a:Nat}
def j9(c:a<H.length):(H.drop a).take 1=[H.getD a 0]:=by
 rw[jA c,cK,dH c];rfl
variable{l:Nat}
def kv(c:l∈H.drop a):∃i,a<=i/\i<H.length/\l=H.getD i 0:=by
 let⟨i,b,d⟩:=kA.mp c;have e:=b;rw[gH]at e;exact⟨a+i,⋯,⋯,by rw[<-d,pO];simp[List.getD,show a+i<H.length by lia]⟩
variable{o:Nat}
def qB(c:l∈(H.drop a).take o):∃i,i<o/\a+i<H.length/\l=H.getD (a+i) 0:=by
 let⟨i,b,d⟩:=kA.mp c;have e:=b;rw[gf,gH]at e;exact⟨i,by omega,by omega,by rw[<-d,u0,pO];simp[List.getD,show a+i<H.length by omega]⟩
def oQ(c:cy R H){a i:Nat}(d:a<=i)(b:i<H.length):R (H.getD a 0)<=R (H.getD i 0):=by
 rcases Nat.lt_or_eq_of_le d with e|rfl
 ·have:=oW.mp c a i ⋯ b e;simpa [List.getD,b,show a<H.length by lia] using this
 ·exact iY _
theorem BG(c:cy R (H++k)):cy R k:=(fv.mp c).2.1
def p5{i:Nat}(c:cy R (b++H.drop a))(d:a<=i)(e:i<=o)(f:o<H.length):R (H.getD i 0)<=R (H.getD o 0):=by
 have:=oQ (BG c) (a:=i-a) (i:=o-a) ⋯ (by rw[gH];lia);simpa [List.getD,mY,show a+(i-a)=i by lia,show a+(o-a)=o by lia] using this
def g7(R:Nat->Int)(ag:Array bo)(A J:List Nat)(out:Array bo):Prop:=(∃b:List Nat,out=(b.map<|bq ag).toArray/\b.Perm (A++J)/\cy R b)
def tj{ag:Array bo}(perm:b.Perm (A.take w++J.take z))(aP:cy R (b++A.drop w))(cu:cy R (b++J.drop z))(a:z=J.length\/w=A.length):
  g7 R ag A J ((b.map<|bq ag).toArray++(A.map<|bq ag).toArray.extract w (A.map<|bq ag).toArray.size++(J.map<|bq ag).toArray.extract z (J.map<|bq ag).toArray.size):=by
 refine⟨b++A.drop w++J.drop z,?_,?_,?_⟩
 ·apply kL;simp[jM,Ah]
 ·rw[bC];refine (perm.append_right _).trans ?_;have:(A.take w++J.take z++(A.drop w++J.drop z)).Perm ((A.take w++A.drop w)++(J.take z++J.drop z)):=by
   rw[bC,bC];refine d9 _ ?_;rw[<-bC,<-bC];exact e5 _ dm
  rw[ff,ff]at this;exact this
 ·rcases a with d|d
  ·rw[d,As,cF];exact aP
  ·rw[d,As,cF];exact cu
def vB{ag:Array bo}(perm:b.Perm (A.take w++J.take z))(aP:cy R (b++A.drop w))(cu:cy R (b++J.drop z))(d:w+1=A.length)(dM:∀e∈J,R e<=R (A.getD (A.length-1) 0)):
  g7 R ag A J ((b.map<|bq ag).toArray++(J.map<|bq ag).toArray.extract z (J.map<|bq ag).toArray.size++(A.map<|bq ag).toArray.extract w (A.map<|bq ag).toArray.size):=by
 refine⟨b++J.drop z++A.drop w,?_,?_,?_⟩
 ·apply kL;simp[jM,Ah]
 ·rw[bC];refine (perm.append_right _).trans ?_;have:(A.take w++J.take z++(J.drop z++A.drop w)).Perm ((A.take w++A.drop w)++(J.take z++J.drop z)):=by
   rw[bC,bC];refine d9 _ ?_;rw[<-bC];exact dm
  rw[ff,ff]at this;exact this
 ·refine fv.mpr ⟨cu,BG aP,λe a l c=>?_⟩;rcases c5.mp a with a|a
  ·exact (fv.mp aP).2.2 e a l c
  ·let⟨@i,t,C,rfl⟩:=kv c;have:i=A.length-1:=⋯
   rw[this];exact dM e (mP a)
end
section
variable{Wb:bJ}{D:bl}{O:bD}{U:ae->aq->Prop}{Wu:gX}{ag:Array bo}{R:Nat->Int}{u:Nat}{n:aq}
def BQ:Array bo->Array bo->StateT bF dr (Array bo):=(sortPriv% PySem.Builtin.mergeLo)
structure dC(m N:bF):Prop where
 k:kindOf N=kindOf m
 a:arrOf N=arrOf m
 p:il N=il m
 f:ih N=ih m
def dC.refl(N:bF):dC N N:=⟨rfl,rfl,rfl,rfl⟩
def hZ{B Wr:Type}{aw:gu}{k:StateT B dr Wr}{y a:Wr->B->aq->Prop}{N:B}{V5:aq}(c:kasC aw O U k a N V5)(F:∀g N V5,a g N V5->y g N V5):kasC aw O U k y N V5:=
 gR c (λm V5 e=>F m.1 m.2 V5 e) λ_ W d=>d
variable{H:List Nat}
def gq{a:Nat}(V0:a<H.length){N:bF}{y:bo->bF->aq->Prop}(c:y (bq ag<|H.getD a 0) N n):kasC (aR Wb D) O U (elem' (H.map<|bq ag).toArray a) y N n:=by
 rw[wg,show ((H.map<|bq ag).toArray)[a]?=Z (bq ag<|H.getD a 0) by simp[List.getD,V0]];exact bp c
def jN(b:∀e∈H,e<u){a:Nat}(V0:a<H.length):H.getD a 0<u:=by
 rw[cK,dH V0];exact b _ (pv V0)
def mc(H:List Nat)(a:Nat):H.toArray.getD a 0=H.getD a 0:=by simp[Array.getD,List.getD];split<;>simp_all
def y3(d:fM u R (fe Wb D O Wu ag) n){o:Nat}(h:o<u){H:List Nat}(j:∀e∈H,e<u){Wh k b:Nat}(l:Wh+k<=H.length)(p:b<k)(mono:∀a i,Wh<=a->a<=i->i<Wh+k->R (H.getD a 0)<=R (H.getD i 0)){N:bF}(q:kindOf N=Wu){y:Option Nat->bF->aq->Prop}(c:∀m,m<=k->(∀a,Wh<=a->a<Wh+m->R (H.getD a 0)<=R o)->(∀a,Wh+m<=a->a<Wh+k->R o<R (H.getD a 0))->y (Z m) N n):
  kasC (aR Wb D) O U (qo au (bq ag o) (H.map<|bq ag).toArray Wh k b) y N n:=by
 rw[<-CY];refine IE d h (λa V0=>by rw[mc];exact jN j ⇑V0) ⇑l p (λa i s v r=>?_) q λm V9 g f=>c m V9 (λa t C=>?_) (λa t C=>?_)
 ·simp only[cX,mc,g0,e9,l1,qn,xm]at r ⊢;have:=mono (Wh+a) (Wh+i) ⋯ ⋯ ⋯;lia
 ·have:=g (a-Wh) ⋯;simp only[cX,mc,g0,e9,l1,qn,xm]at this
  rwa [show Wh+(a-Wh)=a by lia]at this
 ·have:=f (a-Wh) ⋯ ⋯;simp only[cX,mc,g0,e9,Bool.not_eq_false',Ba]at this
  rwa [show Wh+(a-Wh)=a by lia]at this
def xF(d:fM u R (fe Wb D O Wu ag) n){o:Nat}(h:o<u){H:List Nat}(j:∀e∈H,e<u){Wh k b:Nat}(l:Wh+k<=H.length)(p:b<k)(mono:∀a i,Wh<=a->a<=i->i<Wh+k->R (H.getD a 0)<=R (H.getD i 0)){N:bF}(q:kindOf N=Wu){y:Option Nat->bF->aq->Prop}(c:∀m,m<=k->(∀a,Wh<=a->a<Wh+m->R (H.getD a 0)<R o)->(∀a,Wh+m<=a->a<Wh+k->R o<=R (H.getD a 0))->y (Z m) N n):
  kasC (aR Wb D) O U (qo X (bq ag o) (H.map<|bq ag).toArray Wh k b) y N n:=by
 rw[<-CY];refine IE d h (λa V0=>by rw[mc];exact jN j ⇑V0) ⇑l p (λa i s v r=>?_) q λm V9 g f=>c m V9 (λa t C=>?_) (λa t C=>?_)
 ·simp only[cX,mc,gN,Ba]at r ⊢;have:=mono (Wh+a) (Wh+i) ⋯ ⋯ ⋯;lia
 ·have:=g (a-Wh) ⋯;simp only[cX,mc,gN,Ba]at this
  rwa [show Wh+(a-Wh)=a by lia]at this
 ·have:=f (a-Wh) ⋯ ⋯;simp only[cX,mc,gN,qn,xm]at this
  rwa [show Wh+(a-Wh)=a by lia]at this
def pR(b:List Nat)(l:Nat):(b.map<|bq ag).toArray.push (bq ag l)=((b++[l]).map<|bq ag).toArray:=by simp
def Iv(b H:List Nat)(a o:Nat):(b.map<|bq ag).toArray++(H.map<|bq ag).toArray.extract a (a+o)=((b++(H.drop a).take o).map<|bq ag).toArray:=by
 apply kL;simp[jM,jB,rD]
end
section
variable{Wb:bJ}{D:bl}{O:bD}{U:ae->aq->Prop}{Wu:gX}{ag:Array bo}{R:Nat->Int}{u:Nat}{n:aq}
def hX(R:Nat->Int)(ag:Array bo)(A J:List Nat)(out:Array bo)(w z:Nat):Prop:=(∃b:List Nat,out=(b.map<|bq ag).toArray/\Mq R A J b w z)
variable{B Wr:Type}
def GP{aw:gu}{O:bD}{U:ae->aq->Prop}{h:Nat->Prop}{b:∀F,Decidable (h F)}{g Wd:Nat->StateT B dr Wr}{y:Wr->B->aq->Prop}{N:B}{n:aq}(e:Nat->Nat)(a:∀F,g F=Wd (e F))(j:∀F,kasC aw O U (Wd F) y N n):∀F,kasC aw O U (if h F then g F else Wd F) y N n:=by
 intro F;rw[a];split
 ·exact j _
 ·exact j _
variable{h:Prop}
def vc{aw:gu}{O:bD}{U:ae->aq->Prop}{i:Decidable h}{b Xh:Array bo->Nat->StateT B dr Wr}{y:Wr->B->aq->Prop}{N:B}{n:aq}(d e:Array bo->Nat->Prop)(j:∀p a,e p a->kasC aw O U (Xh p a) y N n)(f:¬ h->∀p a,d p a->e p a)(g:(∀p a,e p a->kasC aw O U (Xh p a) y N n)->h->∀p a,d p a->kasC aw O U (b p a) y N n):∀p a,d p a->kasC aw O U (if h then b p a else Xh p a) y N n:=λp a s=>
 if c:h then by rw[aM c];exact g j c p a s else by rw[aN c];exact j p a (f c p a s)
def IP{aw:gu}{O:bD}{U:ae->aq->Prop}{I:bF->bF}{y:PUnit->bF->aq->Prop}{m N:bF}{n:aq}(av:dC m (I N))(c:∀a,dC m a->y ⟨⟩ a n):kasC aw O U (modify I:StateT bF dr PUnit) y N n:=k4 (c _ av)
def sF(R:Nat->Int)(ag:Array bo)(A J:List Nat)(N:bF)(n:aq): Option (Array bo)×Array bo×Nat×Nat×Nat->bF->aq->Prop:=(λh b V5=>n=V5/\dC N b/\∃a s r m F,h=(Z a,s,r,m,F)/\g7 R ag A J a)
def sU(R:Nat->Int)(ag:Array bo)(A J:List Nat)(N:bF)(n:aq)(e:Nat):Option (Array bo)×Array bo×Nat×Nat×Nat->bF->aq->Prop:=(λh a V5=>n=V5/\dC N a/\∃p w z F,h=(Y,p,w,z,F)/\hX R ag A J p w z/\e+1<=w+z)
def kI(R:Nat->Int)(ag:Array bo)(A J:List Nat)(N:bF)(n:aq)(e:Nat):Option (Array bo)×Array bo×Nat×Nat×Nat×Nat->bF->aq->Prop:=(λh c V5=>n=V5/\dC N c/\((∃b s r m ac a,h=(Z b,s,r,m,ac,a)/\g7 R ag A J b)\/∃p w z ac a,h=(Y,p,w,z,ac,a)/\hX R ag A J p w z/\e+2<=w+z))
def qI(R:Nat->Int)(ag:Array bo)(A J:List Nat)(N:bF)(n:aq)(e l:Nat):Option (Array bo)×Array bo×Nat×Nat×Nat×Nat->bF->aq->Prop:=(λh a V5=>n=V5/\dC N a/\∃p w z ac b,h=(Y,p,w,z,ac,b)/\hX R ag A J p w z/\e+1+l<=w+z)
def jY(R:Nat->Int)(ag:Array bo)(A J:List Nat)(N:bF)(n:aq)(e:Nat):Option (Array bo)×Array bo×Nat×Nat×Nat×Nat×Nat->bF->aq->Prop:=(λh c V5=>n=V5/\dC N c/\((∃b s r m F ac a,h=(Z b,s,r,m,F,ac,a)/\g7 R ag A J b)\/∃p w z F ac a,h=(Y,p,w,z,F,ac,a)/\hX R ag A J p w z/\e+2<=w+z))
def sA(R:Nat->Int)(ag:Array bo)(A J:List Nat)(N:bF)(n:aq)(e l:Nat):Option (Array bo)×Array bo×Nat×Nat×Nat×Nat×Nat->bF->aq->Prop:=(λh a V5=>n=V5/\dC N a/\∃p w z F ac b,h=(Y,p,w,z,F,ac,b)/\hX R ag A J p w z/\e+2<=w+z)
def sF.a{R:Nat->Int}{ag:Array bo}{A J:List Nat}{N b:bF}{n:aq}{out:Array bo}{s:Array bo}{r m:Nat}{F:Nat}(c:dC N b)(k:g7 R ag A J out):sF R ag A J N n (Z out,s,r,m,F) b n:=⟨rfl,c,_,_,_,_,_,rfl,k⟩
def sU.k{R:Nat->Int}{ag:Array bo}{A J:List Nat}{N a:bF}{n:aq}{e:Nat}{p:Array bo}{w z:Nat}{F:Nat}(c:dC N a)(i:hX R ag A J p w z)(d:e+1<=w+z):sU R ag A J N n e (Y,p,w,z,F) a n:=⟨rfl,c,_,_,_,_,rfl,i,d⟩
def kI.a{R:Nat->Int}{ag:Array bo}{A J:List Nat}{N b:bF}{n:aq}{e:Nat}{out:Array bo}{s:Array bo}{r m:Nat}{F d:Nat}(c:dC N b)(k:g7 R ag A J out):kI R ag A J N n e (Z out,s,r,m,F,d) b n:=⟨rfl,c,.inl ⟨_,_,_,_,_,_,rfl,k⟩⟩
def kI.b{R:Nat->Int}{ag:Array bo}{A J:List Nat}{N a:bF}{n:aq}{e:Nat}{p:Array bo}{w z:Nat}{F g:Nat}(c:dC N a)(i:hX R ag A J p w z)(d:e+2<=w+z):kI R ag A J N n e (Y,p,w,z,F,g) a n:=⟨rfl,c,.inr ⟨_,_,_,_,_,rfl,i,d⟩⟩
def qI.k{R:Nat->Int}{ag:Array bo}{A J:List Nat}{N a:bF}{n:aq}{e l:Nat}{p:Array bo}{w z:Nat}{F b:Nat}(c:dC N a)(i:hX R ag A J p w z)(d:e+1+l<=w+z):qI R ag A J N n e l (Y,p,w,z,F,b) a n:=⟨rfl,c,_,_,_,_,_,rfl,i,d⟩
def jY.a{R:Nat->Int}{ag:Array bo}{A J:List Nat}{N b:bF}{n:aq}{e:Nat}{out:Array bo}{s:Array bo}{r m:Nat}{F d f:Nat}(c:dC N b)(k:g7 R ag A J out):jY R ag A J N n e (Z out,s,r,m,F,d,f) b n:=⟨rfl,c,.inl ⟨_,_,_,_,_,_,_,rfl,k⟩⟩
def jY.b{R:Nat->Int}{ag:Array bo}{A J:List Nat}{N a:bF}{n:aq}{e:Nat}{p:Array bo}{w z:Nat}{F g h:Nat}(c:dC N a)(i:hX R ag A J p w z)(d:e+2<=w+z):jY R ag A J N n e (Y,p,w,z,F,g,h) a n:=⟨rfl,c,.inr ⟨_,_,_,_,_,_,rfl,i,d⟩⟩
def sA.k{R:Nat->Int}{ag:Array bo}{A J:List Nat}{N a:bF}{n:aq}{e l:Nat}{p:Array bo}{w z:Nat}{F b f:Nat}(c:dC N a)(i:hX R ag A J p w z)(d:e+2<=w+z):sA R ag A J N n e l (Y,p,w,z,F,b,f) a n:=⟨rfl,c,_,_,_,_,_,_,rfl,i,d⟩
def S1{g f:Nat}(c:g=f):(g==f)=X:=by simp[c]
def Uz{g f:Nat}(c:¬ g=f):¬ (g==f)=X:=by simp[c]
def lQ{aw:gu}{O:bD}{U:ae->aq->Prop}{g:Nat}{H:List Nat}{e l:StateT B dr Wr}{y:Wr->B->aq->Prop}{N:B}{n:aq}(bT:g=H.length->kasC aw O U e y N n)(a:¬ g=H.length->kasC aw O U l y N n):kasC aw O U (if (g==(List.map (bq ag) H).toArray.size)=X then e else l) y N n:=by
 rw[show (List.map (bq ag) H).toArray.size=H.length by simp];by_cases c:g=H.length
 ·rw[aM (S1 c)];exact bT c
 ·rw[aN (Uz c)];exact a c
def lS{aw:gu}{O:bD}{U:ae->aq->Prop}{b:Decidable h}{e l:StateT B dr Wr}{y:Wr->B->aq->Prop}{N:B}{n:aq}(bT:h->kasC aw O U e y N n)(a:¬ h->kasC aw O U l y N n):kasC aw O U (if h then e else l) y N n:=if c:h then by rw[aM c];exact bT c else by rw[aN c];exact a c
def OT(b:fM u R (fe Wb D O Wu ag) n){o:Nat}(d:o<u){H:List Nat}(j:∀e∈H,e<u){Wh:Nat}(p:Wh<H.length)(mono:∀a i,Wh<=a->a<=i->i<H.length->R (H.getD a 0)<=R (H.getD i 0)){N:bF}(k:kindOf N=Wu){y:Option Nat->bF->aq->Prop}(c:∀m,Wh+m<=H.length->(∀a,Wh<=a->a<Wh+m->R (H.getD a 0)<=R o)->(∀a,Wh+m<=a->a<H.length->R o<R (H.getD a 0))->y (Z m) N n):
  kasC (aR Wb D) O U (qo au (bq ag o) (H.map<|bq ag).toArray Wh ((H.map<|bq ag).toArray.size-Wh) 0) y N n:=by
 rw[show (H.map<|bq ag).toArray.size=H.length by simp];exact y3 b d j ⋯ ⋯ (λa i g f h=>mono a i g f ⋯) k λm t C l=>c m ⋯ C λa g f=>l a g ⋯
def KV(b:fM u R (fe Wb D O Wu ag) n){o:Nat}(d:o<u){H:List Nat}(j:∀e∈H,e<u){Wh:Nat}(p:Wh<H.length)(mono:∀a i,Wh<=a->a<=i->i<H.length->R (H.getD a 0)<=R (H.getD i 0)){N:bF}(k:kindOf N=Wu){y:Option Nat->bF->aq->Prop}(c:∀m,Wh+m<=H.length->(∀a,Wh<=a->a<Wh+m->R (H.getD a 0)<R o)->(∀a,Wh+m<=a->a<H.length->R o<=R (H.getD a 0))->y (Z m) N n):
  kasC (aR Wb D) O U (qo X (bq ag o) (H.map<|bq ag).toArray Wh ((H.map<|bq ag).toArray.size-Wh) 0) y N n:=by
 rw[show (H.map<|bq ag).toArray.size=H.length by simp];exact xF b d j ⋯ ⋯ (λa i g f h=>mono a i g f ⋯) k λm t C l=>c m ⋯ C λa g f=>l a g ⋯
def UR(be:fM u R (fe Wb D O Wu ag) n){A J:List Nat}(bi:∀e∈A,e<u)(bm:∀e∈J,e<u)(ex:cy R A)(fd:cy R J)(hf:0<A.length)(t:0<J.length)(first:∀e∈A,R (J.getD 0 0)<=R e)(dM:∀e∈J,R e<=R (A.getD (A.length-1) 0)){N:bF}(ce:kindOf N=Wu){y:Array bo->bF->aq->Prop}(c:∀out x,g7 R ag A J out->dC N x->y out x n):
  kasC (aR Wb D) O U (BQ (A.map<|bq ag).toArray (J.map<|bq ag).toArray) y N n:=by
 have bn:[J.getD 0 0].Perm (A.take 0++J.take 1):=by
  have:=j9 (H:=J) (a:=0) t;simp only[lU]at this;rw[this];exact List.Perm.refl _
 have bs:cy R ([J.getD 0 0]++J.drop 1):=by
  have:=j9 (H:=J) (a:=0) t;simp only[lU]at this;rw[<-this,ff];exact fd
 have bv:cy R ([J.getD 0 0]++A.drop 0):=fv.mpr ⟨fC _ _,by rw[lU];exact ex,λe d l q=>by
  rw[cP.mp d];exact first l (by rwa [lU]at q)⟩
 have hm:(List.map (bq ag) A).toArray.size=A.length:=by simp
 have hw:(List.map (bq ag) J).toArray.size=J.length:=by simp
 unfold BQ;with_unfolding_all refine br (oS<|iZ ?_);refine br (gq t ?_);refine lQ (λch=>bp<|c _ _ (tj bn bv bs<|.inl ch)<|dC.refl N) λch=>?_;refine lQ (λci=>bp<|c _ _ (vB bn bv bs ci dM)<|dC.refl N) λci=>?_;refine br (kq ?_);refine br (hZ (a:=sF R ag A J N n) (fQ (g8 (sU R ag A J N n) ?step _ 0 _ _ _ ?fin (sU.k (dC.refl N) ⟨_,rfl,bn,bv,bs,⋯,⋯⟩ ⋯))) ?after)
 case after=>
  rintro h x V5 ⟨rfl,av,co,p,w,z,F,rfl,am⟩;exact bp (c _ _ am av)
 case fin=>
  rintro h x V5 ⟨rfl,av,p,w,z,F,rfl,⟨b,rfl,k⟩,d⟩;have:=k.bX;have:=k.j8;lia
 case step=>
  rintro e h x V5 ⟨rfl,av,p,w,z,F,rfl,B,d⟩;refine br (hZ (a:=kI R ag A J N n e)
   (fQ (g8 (qI R ag A J N n e) ?fn _ 0 _ _ _ ?fr (qI.k av B ⋯))) ?f0)
  case fr=>
   rintro h x V5 ⟨rfl,av,p,w,z,ac,Q,rfl,B,d⟩;exact kI.b av B ⋯
  case fn=>
   rintro l h x V5 ⟨rfl,av,p,w,z,ac,Q,rfl,⟨b,rfl,k⟩,d⟩;have an:=k.bX;have r:=k.j8;have a2:kindOf x=Wu:=av.k.trans ce;have v:w<A.length:=⋯
   have dd:R (J.getD z 0)<R (A.getD w 0)->(b++[J.getD z 0]).Perm (A.take w++J.take (z+1))/\cy R (b++[J.getD z 0]++A.drop w)/\cy R (b++[J.getD z 0]++J.drop (z+1)):=λap=>by
    have:=AO 1 k.perm k.aP k.cu (λe d l q=>by
     rw[j9 r,cP]at d;let⟨@i,C,S,rfl⟩:=kv q;have:=p5 k.aP (bh _) C S;rw[d];lia)
    rwa [j9 r]at this
   have dn:¬ R (J.getD z 0)<R (A.getD w 0)->(b++[A.getD w 0]).Perm (A.take (w+1)++J.take z)/\cy R (b++[A.getD w 0]++A.drop (w+1))/\cy R (b++[A.getD w 0]++J.drop z):=λap=>by
    have:=vC 1 k.perm k.aP k.cu (λe d l q=>by
     rw[j9 v,cP]at d;let⟨@i,C,S,rfl⟩:=kv q;have:=p5 k.cu (bh _) C S;rw[d];lia)
    rwa [j9 v]at this
   refine br (gq r<|br<|gq v<|br<|sm be (jN bm r) (jN bi v) a2 ?_);refine lS (λap=>?_) λap=>?_
   ·have f:=dd ⇑ap;refine br (gq r (lQ (λL=>bp (kI.a av (by rw[pR];exact tj f.1 f.2.1 f.2.2 (.inl L)))) λL=>?_));have M:hX R ag A J ((b.map<|bq ag).toArray.push<|bq ag<|J.getD z 0) w (z+1):=⟨_,pR _ _,f.1,f.2.1,f.2.2,an,⋯⟩;exact lS (λ_=>bp (kI.b av M ⋯)) λ_=>bp (qI.k av M ⋯)
   ·have f:=dn ⇑ap;refine br (gq v (lQ (λL=>bp (kI.a av (by rw[pR];exact vB f.1 f.2.1 f.2.2 L dM))) λL=>?_));have M:hX R ag A J ((b.map<|bq ag).toArray.push<|bq ag<|A.getD w 0) (w+1) z:=⟨_,pR _ _,f.1,f.2.1,f.2.2,⋯,r⟩;exact lS (λ_=>bp (kI.b av M ⋯)) λ_=>bp (qI.k av M ⋯)
  case f0=>
   rintro h x V5 ⟨rfl,av,⟨co,p,w,z,ac,Q,rfl,am⟩|⟨p,w,z,ac,Q,rfl,B,d⟩⟩
   ·exact bp (sF.a av am)
   ·refine br (oS<|iZ ?_);refine br (hZ (a:=jY R ag A J N n e)
     (fQ (g8 (sA R ag A J N n e) ?f4 _ 0 _ _ _ ?fin2 (sA.k av B ⋯))) ?f8)
    case fin2=>
     rintro h x V5 ⟨rfl,av,p,w,z,F,ac,Q,rfl,B,d⟩;exact jY.b av B ⋯
    case f8=>
     rintro h x V5 ⟨rfl,av,⟨co,p,w,z,F,ac,Q,rfl,am⟩|⟨p,w,z,F,ac,Q,rfl,B,d⟩⟩
     ·exact bp (sF.a av am)
     ·refine br (k4 ?_);exact bp (sU.k ⟨av.k,av.a,av.p,av.f⟩ B ⋯)
    case f4=>
     rintro l h x V5 ⟨rfl,av,p,w,z,F,ac,Q,rfl,⟨b,cr,k⟩,d⟩;have an:=k.bX;have r:=k.j8;dsimp only;revert F;refine GP (λF=>F-1) ?v ?_
     case v=>exact λF=>rfl
     intro F;refine br (IP (m:=N) ⟨av.k,av.a,av.p,av.f⟩ λh0 P=>?_);have a2:=P.k.trans ce;refine br (gq r ?_);refine br (OT be (jN bm r) bi (show w<A.length by lia) (λa i g f h=>p5 k.aP g f h) a2 ?_);intro o ii ga cs;dsimp only;generalize as:p=WN;generalize a1:w=a;have Wd:WN=p/\a=w:=⟨as.symm,a1.symm⟩;clear as a1;revert WN a;refine vc (λWN a=>WN=p/\a=w) (λWN a=>hX R ag A J WN a z/\w<=a/\∀i,a<=i->i<A.length->R (J.getD z 0)<R (A.getD i 0)) ?Wc ?f1 ?ge
     case f1=>
      rintro gl WN a ⟨rfl,rfl⟩;exact⟨⟨b,cr,k⟩,bh _,λi g f=>cs i ⋯ f⟩
     case ge=>
      rintro j _ WN a ⟨rfl,rfl⟩;try dsimp only
      have G:=vC o k.perm k.aP k.cu (λe d l q=>by
       let⟨@i,go,C,rfl⟩:=qB d;let⟨@gt,ca,W5,rfl⟩:=kv q;have:=ga (a+i) ⋯ ⋯;have:=p5 k.cu (bh _) ca W5;lia)
      rw[cr,Iv];refine lQ (λL=>bp<|jY.a P<|vB G.1 G.2.1 G.2.2 L dM) λL=>?_;refine lQ (λdb=>bp<|jY.a P<|tj G.1 G.2.1 G.2.2<|.inr db) λdb=>?_;exact j _ _ ⟨⟨_,rfl,G.1,G.2.1,G.2.2,⋯,r⟩,⋯,λi g f=>cs i g f⟩
     case Wc=>
      rintro WN a ⟨⟨b,rfl,k⟩,le,g1⟩;have an:=k.bX;try dsimp only
      refine br (gq r ?_);have W2:=AO 1 k.perm k.aP k.cu (λe d l q=>by
       rw[j9 r,cP]at d;let⟨@i,C,S,rfl⟩:=kv q;have:=g1 i C S;rw[d];lia)
      rw[j9 r]at W2;rw[pR];refine lQ (λds=>bp<|jY.a P<|tj W2.1 W2.2.1 W2.2.2<|.inl ds) λds=>?_;have v:a<A.length:=⋯
      refine br (gq v ?_);refine br (KV be (jN bi v) bm (show z+1<J.length by lia) (λa i g f h=>p5 W2.2.2 g f h) a2 ?_);intro WO im g2 dL;dsimp only;generalize b++[J.getD z 0]=cd at *;generalize io:z+1=bd at *;generalize as:(List.map (bq ag) cd).toArray=WN;generalize a1:bd=i;have Wd:WN=(List.map (bq ag) cd).toArray/\i=bd:=⟨as.symm,a1.symm⟩;clear as a1;revert WN i;refine vc (λWN i=>WN=(List.map (bq ag) cd).toArray/\i=bd) (λWN i=>hX R ag A J WN a i/\bd<=i/\∀E,i<=E->E<J.length->R (A.getD a 0)<=R (J.getD E 0)) ?Ws ?f2 ?g3
      case f2=>
       rintro gl WN i ⟨rfl,rfl⟩;exact⟨⟨_,rfl,W2.1,W2.2.1,W2.2.2,an,⋯⟩,bh _,λE g f=>dL E ⋯ f⟩
      case g3=>
       rintro j _ WN i ⟨rfl,rfl⟩;try dsimp only
       have al:=AO WO W2.1 W2.2.1 W2.2.2 (λe d l q=>by
        let⟨@E,go,C,rfl⟩:=qB d;let⟨@gt,ca,W5,rfl⟩:=kv q;have:=g2 (i+E) ⋯ ⋯;have:=p5 W2.2.1 (bh _) ca W5;lia)
       rw[Iv];refine lQ (λeq=>bp<|jY.a P<|tj al.1 al.2.1 al.2.2<|.inl eq) λeq=>?_;exact j _ _ ⟨⟨_,rfl,al.1,al.2.1,al.2.2,an,⋯⟩,⋯,λE g f=>dL E g f⟩
      case Ws=>
       rintro WN i ⟨⟨b,rfl,k⟩,it,hd⟩;have he:=k.j8;try dsimp only
       refine br (gq v ?_);have T:=vC 1 k.perm k.aP k.cu (λe d l q=>by
        rw[j9 v,cP]at d;let⟨@E,C,S,rfl⟩:=kv q;rw[d];exact hd E C S)
       rw[j9 v]at T;rw[pR];refine lQ (λev=>bp<|jY.a P<|vB T.1 T.2.1 T.2.2 ev dM) λev=>?_;have M:hX R ag A J ((b++[A.getD a 0]).map<|bq ag).toArray (a+1) i:=⟨_,rfl,T.1,T.2.1,T.2.2,⋯,he⟩;exact lS (λ_=>bp (jY.b P M ⋯)) λ_=>bp (sA.k P M ⋯)
end
section
variable{Wb:bJ}{D:bl}{O:bD}{U:ae->aq->Prop}{Wu:gX}{ag:Array bo}{R:Nat->Int}{u:Nat}{n:aq}
def FN:Array bo->Array bo->StateT bF dr (Array bo):=(sortPriv% PySem.Builtin.mergeHi)
variable{H:List Nat}{a i:Nat}
def yB(b:a<=i)(c:i<=H.length):H.drop a=(H.take i).drop a++H.drop i:=by
 have d:H.drop a=(H.take i++H.drop i).drop a:=by rw[ff]
 rw[d,List.drop_append_of_le_length (by rw[gf];lia)]
def Sz(b:a<=i):H.take a++(H.take i).drop a=H.take i:=by
 have:=ff a (H.take i)
 rwa [tN,pX b]at this
variable{A J k:List Nat}{v x:Nat}
def wG(o:Nat)(f:o<=v)(h:v<=A.length)(perm:k.Perm (A.drop v++J.drop x))(aP:cy R (A.take v++k))(cu:cy R (J.take x++k))(c:∀e∈(A.take v).drop o,∀l∈J.take x,R l<=R e):
  ((A.take v).drop o++k).Perm (A.drop o++J.drop x)/\cy R (A.take o++((A.take v).drop o++k))/\cy R (J.take x++((A.take v).drop o++k)):=by
 refine⟨?_,?_,?_⟩
 ·rw[yB f h,bC];exact d9 _ perm
 ·rw[<-bC,Sz f];exact aP
 ·have g:=fv.mp aP;have d:=fv.mp cu;refine fv.mpr ⟨d.1,fv.mpr ⟨g.1.sublist<|uC _ _,d.2.1,λe b l a=>g.2.2 e (mP b) l a⟩,λe b l a=>?_⟩;rcases c5.mp a with a|a
  ·exact c l a e b
  ·exact d.2.2 e b l a
def AM(o:Nat)(a:o<=x)(b:x<=J.length)(perm:k.Perm (A.drop v++J.drop x))(aP:cy R (A.take v++k))(cu:cy R (J.take x++k))(c:∀e∈(J.take x).drop o,∀l∈A.take v,R l<=R e):
  ((J.take x).drop o++k).Perm (A.drop v++J.drop o)/\cy R (A.take v++((J.take x).drop o++k))/\cy R (J.take o++((J.take x).drop o++k)):=by
 have:=wG (A:=J) (J:=A) o a b (perm.trans dm) cu aP c;exact⟨this.1.trans dm,this.2.2,this.2.1⟩
def lz(b:0<a)(c:a<=H.length):(H.take a).drop (a-1)=[H.getD (a-1) 0]:=by
 rw[rD,show a-(a-1)=1 by lia];exact j9 ⋯
variable{l:Nat}
def lX(c:l∈H.take a):∃i,i<a/\i<H.length/\l=H.getD i 0:=by
 have:=qB (a:=0) (o:=a) (l:=l) (H:=H) (by rwa [lU]);let⟨@i,g,f,d⟩:=this;exact⟨i,g,⋯,by rw[d];congr 1;lia⟩
variable{o:Nat}
def DY(c:l∈(H.take o).drop a):∃i,a<=i/\i<o/\i<H.length/\l=H.getD i 0:=by
 rw[rD]at c;let⟨@i,g,f,d⟩:=qB c;exact⟨a+i,⋯,⋯,f,d⟩
def pT(c:cy R (H.take a++k))(b:i<=o)(d:o<a)(e:o<H.length):R (H.getD i 0)<=R (H.getD o 0):=by
 have:=oQ (fv.mp c).1 (a:=i) (i:=o) b (by rw[gf];lia);simpa [List.getD,o8,show i<a by lia,d] using this
def so(perm:k.Perm (A.drop v++J.drop x))(aP:cy R (A.take v++k))(cu:cy R (J.take x++k))(a:v=0\/x=0):
  g7 R ag A J ((A.map<|bq ag).toArray.extract 0 v++(J.map<|bq ag).toArray.extract 0 x++(k.reverse.map<|bq ag).toArray.reverse):=by
 refine⟨A.take v++J.take x++k,?_,?_,?_⟩
 ·apply kL;simp[jB]
 ·refine (d9 _ perm).trans ?_;have:(A.take v++J.take x++(A.drop v++J.drop x)).Perm ((A.take v++A.drop v)++(J.take x++J.drop x)):=by
   rw[bC,bC];refine d9 _ ?_;rw[<-bC,<-bC];exact e5 _ dm
  rw[ff,ff]at this;exact this
 ·rcases a with d|d
  ·rw[d,vy,oo];exact cu
  ·rw[d,vy,cF];exact aP
def v8(perm:k.Perm (A.drop v++J.drop x))(aP:cy R (A.take v++k))(cu:cy R (J.take x++k))(c:x=1)(first:∀e∈A,R (J.getD 0 0)<=R e):
  g7 R ag A J ((J.map<|bq ag).toArray.extract 0 x++(A.map<|bq ag).toArray.extract 0 v++(k.reverse.map<|bq ag).toArray.reverse):=by
 refine⟨J.take x++A.take v++k,?_,?_,?_⟩
 ·apply kL;simp[jB]
 ·refine (d9 _ perm).trans ?_;have:(J.take x++A.take v++(A.drop v++J.drop x)).Perm ((A.take v++A.drop v)++(J.take x++J.drop x)):=by
   rw[bC,<-bC (A.take v),<-bC (A.take v++A.drop v)];rw[<-bC (J.take x)];exact e5 _ dm
  rw[ff,ff]at this;exact this
 ·rw[bC];refine fv.mpr ⟨(fv.mp cu).1,aP,λe b l a=>?_⟩;rcases c5.mp a with a|a
  ·let⟨@i,t,C,rfl⟩:=lX b;have:i=0:=⋯
   rw[this];exact first l (nH a)
  ·exact (fv.mp cu).2.2 e b l a
def p7(k:List Nat)(l:Nat):(k.reverse.map<|bq ag).toArray.push (bq ag l)=(([l]++k).reverse.map<|bq ag).toArray:=by simp
def JM(k H:List Nat)(a o:Nat):(k.reverse.map<|bq ag).toArray++((H.map<|bq ag).toArray.extract a o).reverse=(((H.take o).drop a++k).reverse.map<|bq ag).toArray:=by
 apply kL;simp[jM,jB,rD]
structure Pq(R:Nat->Int)(A J:List Nat)(k:List Nat)(v x:Nat):Prop where
 perm:k.Perm (A.drop v++J.drop x)
 aP:cy R (A.take v++k)
 cu:cy R (J.take x++k)
 bX:0<v
 j8:1<x
 Aj:v<=A.length
 Bj:x<=J.length
def h3(R:Nat->Int)(ag:Array bo)(A J:List Nat)(out:Array bo)(v x:Nat):Prop:=(∃k:List Nat,out=(k.reverse.map<|bq ag).toArray/\Pq R A J k v x)
end
section
variable{Wb:bJ}{D:bl}{O:bD}{U:ae->aq->Prop}{Wu:gX}{ag:Array bo}{R:Nat->Int}{u:Nat}{n:aq}
def rj(R:Nat->Int)(ag:Array bo)(A J:List Nat)(N:bF)(n:aq): Option (Array bo)×Nat×Nat×Array bo×Nat->bF->aq->Prop:=(λh b V5=>n=V5/\dC N b/\∃a s r m F,h=(Z a,s,r,m,F)/\g7 R ag A J a)
def tf(R:Nat->Int)(ag:Array bo)(A J:List Nat)(N:bF)(n:aq)(e:Nat):Option (Array bo)×Nat×Nat×Array bo×Nat->bF->aq->Prop:=(λh a V5=>n=V5/\dC N a/\∃v x p F,h=(Y,v,x,p,F)/\h3 R ag A J p v x/\v+x+e+1<=A.length+J.length)
def kO(R:Nat->Int)(ag:Array bo)(A J:List Nat)(N:bF)(n:aq)(e:Nat):Option (Array bo)×Nat×Nat×Array bo×Nat×Nat->bF->aq->Prop:=(λh c V5=>n=V5/\dC N c/\((∃b s r m ac a,h=(Z b,s,r,m,ac,a)/\g7 R ag A J b)\/∃v x p ac a,h=(Y,v,x,p,ac,a)/\h3 R ag A J p v x/\v+x+e+2<=A.length+J.length))
def qT(R:Nat->Int)(ag:Array bo)(A J:List Nat)(N:bF)(n:aq)(e l:Nat):Option (Array bo)×Nat×Nat×Array bo×Nat×Nat->bF->aq->Prop:=(λh a V5=>n=V5/\dC N a/\∃v x p ac b,h=(Y,v,x,p,ac,b)/\h3 R ag A J p v x/\v+x+e+1+l<=A.length+J.length)
def jU(R:Nat->Int)(ag:Array bo)(A J:List Nat)(N:bF)(n:aq)(e:Nat):Option (Array bo)×Nat×Nat×Array bo×Nat×Nat×Nat->bF->aq->Prop:=(λh c V5=>n=V5/\dC N c/\((∃b s r m F ac a,h=(Z b,s,r,m,F,ac,a)/\g7 R ag A J b)\/∃v x p F ac a,h=(Y,v,x,p,F,ac,a)/\h3 R ag A J p v x/\v+x+e+2<=A.length+J.length))
def q8(R:Nat->Int)(ag:Array bo)(A J:List Nat)(N:bF)(n:aq)(e l:Nat):Option (Array bo)×Nat×Nat×Array bo×Nat×Nat×Nat->bF->aq->Prop:=(λh a V5=>n=V5/\dC N a/\∃v x p F ac b,h=(Y,v,x,p,F,ac,b)/\h3 R ag A J p v x/\v+x+e+2<=A.length+J.length)
def rj.a{R:Nat->Int}{ag:Array bo}{A J:List Nat}{N b:bF}{n:aq}{out:Array bo}{s r:Nat}{m:Array bo}{F:Nat}(c:dC N b)(k:g7 R ag A J out):rj R ag A J N n (Z out,s,r,m,F) b n:=⟨rfl,c,_,_,_,_,_,rfl,k⟩
def tf.k{R:Nat->Int}{ag:Array bo}{A J:List Nat}{N a:bF}{n:aq}{e:Nat}{v x:Nat}{p:Array bo}{F:Nat}(c:dC N a)(i:h3 R ag A J p v x)(d:v+x+e+1<=A.length+J.length):tf R ag A J N n e (Y,v,x,p,F) a n:=⟨rfl,c,_,_,_,_,rfl,i,d⟩
def kO.a{R:Nat->Int}{ag:Array bo}{A J:List Nat}{N b:bF}{n:aq}{e:Nat}{out:Array bo}{s r:Nat}{m:Array bo}{F d:Nat}(c:dC N b)(k:g7 R ag A J out):kO R ag A J N n e (Z out,s,r,m,F,d) b n:=⟨rfl,c,.inl ⟨_,_,_,_,_,_,rfl,k⟩⟩
def kO.b{R:Nat->Int}{ag:Array bo}{A J:List Nat}{N a:bF}{n:aq}{e:Nat}{v x:Nat}{p:Array bo}{F g:Nat}(c:dC N a)(i:h3 R ag A J p v x)(d:v+x+e+2<=A.length+J.length):kO R ag A J N n e (Y,v,x,p,F,g) a n:=⟨rfl,c,.inr ⟨_,_,_,_,_,rfl,i,d⟩⟩
def qT.k{R:Nat->Int}{ag:Array bo}{A J:List Nat}{N a:bF}{n:aq}{e l:Nat}{v x:Nat}{p:Array bo}{F b:Nat}(c:dC N a)(i:h3 R ag A J p v x)(d:v+x+e+1+l<=A.length+J.length):qT R ag A J N n e l (Y,v,x,p,F,b) a n:=⟨rfl,c,_,_,_,_,_,rfl,i,d⟩
def jU.a{R:Nat->Int}{ag:Array bo}{A J:List Nat}{N b:bF}{n:aq}{e:Nat}{out:Array bo}{s r:Nat}{m:Array bo}{F d f:Nat}(c:dC N b)(k:g7 R ag A J out):jU R ag A J N n e (Z out,s,r,m,F,d,f) b n:=⟨rfl,c,.inl ⟨_,_,_,_,_,_,_,rfl,k⟩⟩
def jU.b{R:Nat->Int}{ag:Array bo}{A J:List Nat}{N a:bF}{n:aq}{e:Nat}{v x:Nat}{p:Array bo}{F g h:Nat}(c:dC N a)(i:h3 R ag A J p v x)(d:v+x+e+2<=A.length+J.length):jU R ag A J N n e (Y,v,x,p,F,g,h) a n:=⟨rfl,c,.inr ⟨_,_,_,_,_,_,rfl,i,d⟩⟩
def q8.k{R:Nat->Int}{ag:Array bo}{A J:List Nat}{N a:bF}{n:aq}{e l:Nat}{v x:Nat}{p:Array bo}{F b f:Nat}(c:dC N a)(i:h3 R ag A J p v x)(d:v+x+e+2<=A.length+J.length):q8 R ag A J N n e l (Y,v,x,p,F,b,f) a n:=⟨rfl,c,_,_,_,_,_,_,rfl,i,d⟩
def lV{aw:gu}{O:bD}{U:ae->aq->Prop}{B Wr:Type}{g f:Nat}{e l:StateT B dr Wr}{y:Wr->B->aq->Prop}{N:B}{n:aq}(bT:g=f->kasC aw O U e y N n)(a:¬ g=f->kasC aw O U l y N n):kasC aw O U (if (g==f)=X then e else l) y N n:=lS (λc=>bT ⇑c) λc=>a ⇑c
def UT(bv:fM u R (fe Wb D O Wu ag) n){A J:List Nat}(ca:∀e∈A,e<u)(cd:∀e∈J,e<u)(ga:cy R A)(ge:cy R J)(gl:0<A.length)(t:0<J.length)(first:∀e∈A,R (J.getD 0 0)<=R e)(dM:∀e∈J,R e<=R (A.getD (A.length-1) 0)){N:bF}(dL:kindOf N=Wu){y:Array bo->bF->aq->Prop}(c:∀out r,g7 R ag A J out->dC N r->y out r n):
  kasC (aR Wb D) O U (FN (A.map<|bq ag).toArray (J.map<|bq ag).toArray) y N n:=by
 have bm:(List.map (bq ag) A).toArray.size=A.length:=by simp
 have bn:(List.map (bq ag) J).toArray.size=J.length:=by simp
 have ce:=lz gl (bh _);rw[oz]at ce;have ch:[A.getD (A.length-1) 0].Perm (A.drop (A.length-1)++J.drop J.length):=by
  rw[ce,As];exact List.Perm.refl _
 have ci:cy R (A.take (A.length-1)++[A.getD (A.length-1) 0]):=by
  rw[<-ce,ff];exact ga
 have cl:cy R (J.take J.length++[A.getD (A.length-1) 0]):=fv.mpr ⟨by rw[oz];exact ge,fC _ _,λe d l q=>by
  rw[cP.mp q];exact dM e (by rwa [oz]at d)⟩
 unfold FN;with_unfolding_all refine br (oS<|iZ ?_);refine br (gq (show (List.map (bq ag) A).toArray.size-1<A.length by lia) ?_);refine lV (λco=>bp (c _ _ (by rw[bm]at co;rw[bm,bn];exact so ch ci cl (.inl co))<|dC.refl N)) λco=>?_;refine lV (λcr=>bp (c _ _ (by rw[bn]at cr;rw[bm,bn];exact v8 ch ci cl cr first)<|dC.refl N)) λcr=>?_;refine br (kq ?_);refine br (hZ (a:=rj R ag A J N n) (fQ (g8 (tf R ag A J N n) ?step _ 0 _ _ _ ?fin (tf.k (dC.refl N) (by rw[bm,bn];exact⟨_,rfl,ch,ci,cl,⋯,⋯,⋯,⋯⟩) ⋯))) ?after)
 case after=>
  rintro h r V5 ⟨rfl,av,ev,p,w,z,F,rfl,as⟩;exact bp (c _ _ as av)
 case fin=>
  rintro h r V5 ⟨rfl,av,v,x,p,F,rfl,⟨b,rfl,k⟩,d⟩;have:=k.bX;have:=k.j8;lia
 case step=>
  rintro e h r V5 ⟨rfl,av,v,x,p,F,rfl,C,d⟩;refine br (hZ (a:=kO R ag A J N n e)
   (fQ (g8 (qT R ag A J N n e) ?go _ 0 _ _ _ ?gt (qT.k av C ⋯))) ?g1)
  case gt=>
   rintro h r V5 ⟨rfl,av,v,x,p,ac,T,rfl,C,d⟩;exact kO.b av C ⋯
  case go=>
   rintro l h r V5 ⟨rfl,av,v,x,p,ac,T,rfl,⟨b,rfl,k⟩,d⟩;have G:=k.bX;have cs:=k.j8;have B:=k.Aj;have H:=k.Bj;have bs:kindOf r=Wu:=av.k.trans dL;have L:v-1<A.length:=⋯
   have al:x-1<J.length:=⋯
   have dd:R (J.getD (x-1) 0)<R (A.getD (v-1) 0)->_:=λa1=>by
    have:=wG (v-1) ⋯ B k.perm k.aP k.cu (λe d l q=>by
     rw[lz G B,cP]at d;let⟨@i,am,a2,rfl⟩:=lX q;have:=pT k.cu (show i<=x-1 by lia) ⋯ ⋯;rw[d];lia)
    rw[lz G B]at this;exact this
   have dn:¬ R (J.getD (x-1) 0)<R (A.getD (v-1) 0)->_:=λa1=>by
    have:=AM (x-1) ⋯ H k.perm k.aP k.cu (λe d l q=>by
     rw[lz ⋯ H,cP]at d;let⟨@i,am,a2,rfl⟩:=lX q;have:=pT k.aP (show i<=v-1 by lia) ⋯ ⋯;rw[d];lia)
    rw[lz ⋯ H]at this;exact this
   refine br (gq al<|br<|gq L<|br<|sm bv (jN cd al) (jN ca L) bs ?_);refine lS (λa1=>?_) λa1=>?_
   ·have f:=dd ⇑a1;refine br (gq L (lV (λP=>bp (kO.a av (by rw[p7];exact so f.1 f.2.1 f.2.2 (.inl P)))) λP=>?_));have Q:h3 R ag A J ((b.reverse.map<|bq ag).toArray.push<|bq ag<|A.getD (v-1) 0) (v-1) x:=⟨_,p7 _ _,f.1,f.2.1,f.2.2,⋯,cs,⋯,H⟩;exact lS (λ_=>bp (kO.b av Q ⋯)) λ_=>bp (qT.k av Q ⋯)
   ·have f:=dn ⇑a1;refine br (gq al (lV (λP=>bp (kO.a av (by rw[p7];exact v8 f.1 f.2.1 f.2.2 P first))) λP=>?_));have Q:h3 R ag A J ((b.reverse.map<|bq ag).toArray.push<|bq ag<|J.getD (x-1) 0) v (x-1):=⟨_,p7 _ _,f.1,f.2.1,f.2.2,G,⋯,B,⋯⟩;exact lS (λ_=>bp (kO.b av Q ⋯)) λ_=>bp (qT.k av Q ⋯)
  case g1=>
   rintro h r V5 ⟨rfl,av,⟨ev,p,w,z,ac,T,rfl,as⟩|⟨v,x,p,ac,T,rfl,C,d⟩⟩
   ·exact bp (rj.a av as)
   ·refine br (oS<|iZ ?_);refine br (hZ (a:=jU R ag A J N n e)
     (fQ (g8 (q8 R ag A J N n e) ?g2 _ 0 _ _ _ ?fin2 (q8.k av C ⋯))) ?g3)
    case fin2=>
     rintro h r V5 ⟨rfl,av,v,x,p,F,ac,T,rfl,C,d⟩;exact jU.b av C ⋯
    case g3=>
     rintro h r V5 ⟨rfl,av,⟨ev,p,w,z,F,ac,T,rfl,as⟩|⟨v,x,p,F,ac,T,rfl,C,d⟩⟩
     ·exact bp (rj.a av as)
     ·refine br (k4 ?_);exact bp (tf.k ⟨av.k,av.a,av.p,av.f⟩ C ⋯)
    case g2=>
     rintro l h r V5 ⟨rfl,av,v,x,p,F,ac,T,rfl,⟨b,ex,k⟩,d⟩;have G:=k.bX;have cs:=k.j8;have B:=k.Aj;have H:=k.Bj;have al:x-1<J.length:=⋯
     dsimp only;revert F;refine GP (λF=>F-1) ?L ?_
     case L=>exact λF=>rfl
     intro F;refine br (IP (m:=N) ⟨av.k,av.a,av.p,av.f⟩ λjp S=>?_);have bs:=S.k.trans dL;refine br (gq al ?_);refine br (y3 bv (jN cd al) ca (Wh:=0) (k:=v) (b:=v-1) ⋯ ⋯ (λa i g f h=>pT k.aP f ⋯ ⋯) bs ?_);intro o kt fd he;dsimp only;generalize kw:v-o=lc;generalize bd:p=WN;generalize be:v=a;have Wd:WN=p/\a=v:=⟨bd.symm,be.symm⟩;clear bd be;revert WN a;refine vc (λWN a=>WN=p/\a=v) (λWN a=>h3 R ag A J WN a x/\a<=v/\∀i,i<a->R (A.getD i 0)<=R (J.getD (x-1) 0)) ?Wc ?f1 ?hf
     case f1=>
      rintro hm WN a ⟨rfl,rfl⟩;exact⟨⟨b,ex,k⟩,bh _,λi g=>fd i ⋯ ⋯⟩
     case hf=>
      rintro j _ WN a ⟨rfl,rfl⟩;try dsimp only
      have ap:=wG o ⋯ B k.perm k.aP k.cu (λe d l q=>by
       let⟨@i,hw,am,a2,rfl⟩:=DY d;let⟨@db,h0,W5,rfl⟩:=lX q;have:=he i ⋯ ⋯;have:=pT k.cu (show db<=x-1 by lia) ⋯ ⋯;lia)
      rw[ex,JM];refine lV (λP=>bp<|jU.a S<|so ap.1 ap.2.1 ap.2.2<|.inl P) λP=>?_;exact j _ _ ⟨⟨_,rfl,ap.1,ap.2.1,ap.2.2,⋯,cs,⋯,H⟩,⋯,λi g=>fd i ⋯ ⋯⟩
     case Wc=>
      rintro WN a ⟨⟨b,rfl,k⟩,le,ii⟩;have G:=k.bX;have B:=k.Aj;have L:a-1<A.length:=⋯
      try dsimp only
      refine br (gq al ?_);have W2:=AM (x-1) ⋯ H k.perm k.aP k.cu (λe d l q=>by
       rw[lz ⋯ H,cP]at d;let⟨@i,am,a2,rfl⟩:=lX q;rw[d];exact ii i am)
      rw[lz ⋯ H]at W2;rw[p7];refine lV (λfn=>bp<|jU.a S<|v8 W2.1 W2.2.1 W2.2.2 fn first) λfn=>?_;refine br (gq L ?_);refine br (xF bv (jN ca L) cd (Wh:=0) (k:=x-1) (b:=x-1-1) ⋯ ⋯ (λa i g f h=>pT W2.2.2 f ⋯ ⋯) bs ?_);intro WO lf fr im;dsimp only;generalize [J.getD (x-1) 0]++b=ds at *;generalize li:x-1=bi at *;generalize lm:bi-WO=gc;generalize bd:(List.map (bq ag) ds.reverse).toArray=WN;generalize be:bi=i;have Wd:WN=(List.map (bq ag) ds.reverse).toArray/\i=bi:=⟨bd.symm,be.symm⟩;clear bd be;revert WN i;refine vc (λWN i=>WN=(List.map (bq ag) ds.reverse).toArray/\i=bi) (λWN i=>h3 R ag A J WN a i/\i<=bi/\∀E,E<i->R (J.getD E 0)<R (A.getD (a-1) 0)) ?Ws ?f2 ?io
      case f2=>
       rintro hm WN i ⟨rfl,rfl⟩;exact⟨⟨_,rfl,W2.1,W2.2.1,W2.2.2,G,⋯,B,⋯⟩,bh _,λE g=>fr E ⋯ ⋯⟩
      case io=>
       rintro j _ WN i ⟨rfl,rfl⟩;try dsimp only
       have M:=AM WO ⋯ (show i<=J.length by lia) W2.1 W2.2.1 W2.2.2 (λe d l q=>by
        let⟨@E,hw,am,a2,rfl⟩:=DY d;let⟨@db,h0,W5,rfl⟩:=lX q;have:=im E ⋯ ⋯;have:=pT W2.2.1 (show db<=a-1 by lia) ⋯ ⋯;lia)
       rw[JM];refine lV (λf0=>bp<|jU.a S<|v8 M.1 M.2.1 M.2.2 f0 first) λf0=>?_;refine lV (λf4=>bp<|jU.a S<|so M.1 M.2.1 M.2.2<|.inr f4) λf4=>?_;exact j _ _ ⟨⟨_,rfl,M.1,M.2.1,M.2.2,G,⋯,B,⋯⟩,⋯,λE g=>fr E ⋯ ⋯⟩
      case Ws=>
       rintro WN i ⟨⟨b,rfl,k⟩,ln,it⟩;try dsimp only
       refine br (gq L ?_);have an:=wG (a-1) ⋯ B k.perm k.aP k.cu (λe d l q=>by
        rw[lz G B,cP]at d;let⟨@E,am,a2,rfl⟩:=lX q;have:=it E am;rw[d];lia)
       rw[lz G B]at an;rw[p7];refine lV (λf8=>bp<|jU.a S<|so an.1 an.2.1 an.2.2<|.inl f8) λf8=>?_;have Q:h3 R ag A J (([A.getD (a-1) 0]++b).reverse.map<|bq ag).toArray (a-1) i:=⟨_,rfl,an.1,an.2.1,an.2.2,⋯,k.j8,⋯,k.Bj⟩;exact lS (λ_=>bp (jU.b S Q ⋯)) λ_=>bp (q8.k S Q ⋯)
def U6{B:Type}{aw:gu}{y:PUnit->B->aq->Prop}{N a:B}{n:aq}(c:y ⟨⟩ a n):kasC aw O U (set a:StateT B dr PUnit) y N n:=by
 unfold kasC;rw[StateT.run_set];exact aL c
theorem xn{Wr:Type}:∀(H:List Wr) (b:List Wr) (r f i:Nat),r+H.length<=b.length->r=i+f->((H.zipIdx f).foldl (λ(g:Array Wr) (e:Wr×Nat)=>g.setIfInBounds (i+e.2) e.1) b.toArray)=(b.take r++H++b.drop (r+H.length)).toArray
 |[],b,r,f,i,c,d=>by simp
 |e::H,b,r,f,i,c,d=>by
  rw[dj]at c;rw[yn,i5];dsimp only;rw[<-d,H2,xn H (b.set r e) (r+1) (f+1) i (by rw[vA];lia) ⋯];congr 1;have h:(b.set r e).take (r+1)=b.take r++[e]:=by
   apply qm;intro a;rw[o8,List.getElem?_append,gf,o8,Hy];by_cases t:a<r
   ·rw[aM ⋯,aN ⋯,aM ⋯,aM t]
   ·by_cases C:a=r
    ·subst C;rw[aM ⋯,aM rfl,aM ⋯,aN ⋯];simp[show a-min a b.length=0 by lia]
    ·rw[aN ⋯,aN ⋯];rw[rY];rw[gI];lia
  have j:(b.set r e).drop (r+1+H.length)=b.drop (r+(H.length+1)):=by
   apply qm;intro a;rw[mY,mY,Hy,aN ⋯];congr 1;lia
  rw[h,j,dj,bC,bC,bC];rfl
def Gu{c d b:List Nat}{o k:Nat}(q:cy R c)(r:cy R d)(v:0<d.length)(w:0<c.length)(t:∀e∈c.take o,R e<=R (d.getD 0 0))(s:∀e∈d.drop k,R (c.getD (c.length-1) 0)<=R e)(m:b.Perm (c.drop o++d.take k))(Xm:cy R b):cy R (c.take o++b++d.drop k)/\(c.take o++b++d.drop k).Perm (c++d):=by
 have n:∀l∈d,R (d.getD 0 0)<=R l:=λl g=>by
  let⟨@i,W,p,rfl⟩:=kv (a:=0) (H:=d) (by rwa [lU]);exact oQ r (hj _) p
 have u:∀e∈c,R e<=R (c.getD (c.length-1) 0):=λe f=>by
  let⟨@i,W,p,rfl⟩:=kv (a:=0) (H:=c) (by rwa [lU]);exact oQ q (by omega) (by omega)
 have h:cy R (c.take o++c.drop o):=by rwa [ff]
 have j:cy R (d.take k++d.drop k):=by rwa [ff]
 have h:=fv.mp h;have j:=fv.mp j;refine⟨fv.mpr ⟨fv.mpr ⟨h.1,Xm,λe f l g=>?_⟩,j.2.1,λe f l g=>?_⟩,?_⟩
 ·rcases c5.mp (m.mem_iff.mp g) with g|g
  ·exact h.2.2 e f l g
  ·exact xv (t e f) (n l<|nH g)
 ·rcases c5.mp f with f|f
  ·exact xv (t e f) (n l<|mP g)
  ·rcases c5.mp (m.mem_iff.mp f) with f|f
   ·exact xv (u e<|mP f) (s l g)
   ·exact j.2.2 e f l g
 ·refine (e5 _<|d9 _ m).trans ?_;rw[<-bC,ff,bC,ff]
def Rp(S:fM u R (fe Wb D O Wu ag) n){j:List Nat}(F:∀e∈j,e<u){a aP v x bs f0:Nat}{N:bF}(B:PyProof.Rows.kindOf N=Wu)(f1:arrOf N=(j.map<|bq ag).toArray)(T:ih N=Y)(V0:(il N)[a]?=Z (aP,v,bs))(L:(il N)[a+1]?=Z (aP+v,x,f0))(f2:0<v)(bv:0<x)(g1:aP+v+x<=j.length)(C:cy R ((j.drop aP).take v))(E:cy R ((j.drop<|aP+v).take x)){y:Bool->bF->aq->Prop}(c:∀mid r,PyProof.Rows.kindOf r=Wu->ih r=Y->il r=((il N).setIfInBounds a (aP,v+x,bs)).eraseIdxIfInBounds (a+1)->mid.Perm ((j.drop aP).take<|v+x)->cy R mid->
   arrOf r=((j.take aP++mid++j.drop (aP+(v+x))).map<|bq ag).toArray->y X r n):
  kasC (aR Wb D) O U (vY a) y N n:=by
 have ca:((j.drop aP).take v).length=v:=by rw[gf,gH];lia
 have f4:((j.drop<|aP+v).take x).length=x:=by rw[gf,gH];lia
 have G:∀i,i<v->((j.drop aP).take v).getD i 0=j.getD (aP+i) 0:=λi L=>by simp[List.getD,o8,mY,L]
 have J:∀i,i<x->((j.drop<|aP+v).take x).getD i 0=j.getD (aP+v+i) 0:=λi L=>by simp[List.getD,o8,mY,L]
 have al:(j.drop aP).take v++(j.drop<|aP+v).take x=(j.drop aP).take (v+x):=by rw[<-o4,qH]
 have cd:j.take aP++(j.drop aP).take (v+x)++j.drop (aP+(v+x))=j:=by rw[qH,ff]
 have ce:∀a i,aP<=a->a<=i->i<aP+v->R (j.getD a 0)<=R (j.getD i 0):=λa i g f h=>by
  have:=oQ C (a:=a-aP) (i:=i-aP) ⋯ ⋯
  rwa [G _ ⋯,G _ ⋯,show aP+(a-aP)=a by lia,show aP+(i-aP)=i by lia]at this
 have ch:∀a i,aP+v<=a->a<=i->i<aP+v+x->R (j.getD a 0)<=R (j.getD i 0):=λa i g f h=>by
  have:=oQ E (a:=a-(aP+v)) (i:=i-(aP+v)) ⋯ ⋯
  rwa [J _ ⋯,J _ ⋯,show aP+v+(a-(aP+v))=a by lia,show aP+v+(i-(aP+v))=i by lia]at this
 have w:∀e∈(j.drop aP).take v,∃i,aP<=i/\i<aP+v/\e=j.getD i 0:=λe q=>by
  let⟨@i,M,z,rfl⟩:=qB q;exact⟨aP+i,⋯,⋯,rfl⟩
 have ci:∀e∈(j.drop<|aP+v).take x,∃i,aP+v<=i/\i<aP+v+x/\e=j.getD i 0:=λe q=>by
  let⟨@i,M,z,rfl⟩:=qB q;exact⟨aP+v+i,⋯,⋯,rfl⟩
 unfold vY;with_unfolding_all refine br (kq ?_);simp only[V0,L,f1];refine br (U6 ?_);refine br (gq (show aP+v<j.length by lia) ?_);refine br (y3 S (jN F (show aP+v<j.length by lia)) F (Wh:=aP) (k:=v) (b:=0) ⋯ f2 ce (by exact B) ?_);intro o cl co ga;dsimp only;by_cases cr:v-o=0
 ·rw[aM ⇑cr];refine bp (c _ _ (by exact B) (by exact T) rfl (List.Perm.refl _) ?_ ?_)
  ·rw[<-al];refine fv.mpr ⟨C,E,λe q l am=>?_⟩;let⟨@i,z,ge,rfl⟩:=w e q;let⟨@an,cs,ap,rfl⟩:=ci l am;have:=co i z ⋯;have:=ch (aP+v) an ⋯ cs ap;lia
  ·rw[cd]
 rw[aN ⇑cr];rw[show aP+o+(v-o)-1=aP+v-1 by lia];refine br (gq (show aP+v-1<j.length by lia) ?_);refine br (xF S (jN F (show aP+v-1<j.length by lia)) F (Wh:=aP+v) (k:=x) (b:=x-1) ⋯ ⋯ ch (by exact B) ?_);intro m as gl db;dsimp only;by_cases ds:m=0
 ·rw[aM ⇑ds];refine bp (c _ _ (by exact B) (by exact T) rfl (List.Perm.refl _) ?_ ?_)
  ·rw[<-al];refine fv.mpr ⟨C,E,λe q l am=>?_⟩;let⟨@i,z,ge,rfl⟩:=w e q;let⟨@an,cs,ap,rfl⟩:=ci l am;have:=db an ⋯ ap;have:=ce i (aP+v-1) z ⋯ ⋯;lia
  ·rw[cd]
 rw[aN ⇑ds];have go:(j.map<|bq ag).toArray.extract (aP+o) (aP+v)=((((j.drop aP).take v).drop o).map<|bq ag).toArray:=by
  apply kL;simp only[GD,List.extract_eq_drop_take,jM,jB];rw[rD,o4,show aP+v-(aP+o)=v-o by lia]
 have gt:(j.map<|bq ag).toArray.extract (aP+v) (aP+v+m)=((((j.drop<|aP+v).take x).take m).map<|bq ag).toArray:=by
  apply kL;simp only[GD,List.extract_eq_drop_take,jM,jB];rw[tN,pX as,show aP+v+m-(aP+v)=m by lia]
 rw[go,gt];have t:∀e∈((j.drop aP).take v).take o,R e<=R (((j.drop<|aP+v).take x).getD 0 0):=λe q=>by
  rw[J 0 bv];let⟨@i,M,z,rfl⟩:=lX q;rw[G i ⋯];exact co _ ⋯ ⋯
 have dL:∀e∈((j.drop<|aP+v).take x).drop m,R (((j.drop aP).take v).getD (((j.drop aP).take v).length-1) 0)<=R e:=λe q=>by
  rw[ca,G _ ⋯];let⟨@i,M,z,rfl⟩:=kv q;rw[J i ⋯,show aP+(v-1)=aP+v-1 by lia];exact db _ ⋯ ⋯
 have eq:∀e∈((j.drop aP).take v).drop o,R ((((j.drop<|aP+v).take x).take m).getD 0 0)<=R e:=λe q=>by
  rw[show (((j.drop<|aP+v).take x).take m).getD 0 0=((j.drop<|aP+v).take x).getD 0 0 by simp only[List.getD,o8,aM (show 0<m by lia)],J 0 bv];let⟨@i,M,z,rfl⟩:=kv q;rw[G i ⋯];have:=ga (aP+i) ⋯ ⋯;rw[Iq];lia
 have a1:(((j.drop aP).take v).drop o).length=v-o:=by rw[gH,ca]
 have ev:(((j.drop<|aP+v).take x).take m).length=m:=by rw[gf,f4];lia
 have ex:∀e∈((j.drop<|aP+v).take x).take m,R e<=R ((((j.drop aP).take v).drop o).getD ((((j.drop aP).take v).drop o).length-1) 0):=λe q=>by
  rw[a1,show (((j.drop aP).take v).drop o).getD (v-o-1) 0=((j.drop aP).take v).getD (v-1) 0 by simp only[List.getD,mY,show o+(v-o-1)=v-1 by lia],G _ ⋯,show aP+(v-1)=aP+v-1 by lia];let⟨@i,M,z,rfl⟩:=lX q;rw[J i ⋯];have:=gl (aP+v+i) ⋯ ⋯;lia
 have fd:∀e∈((j.drop aP).take v).drop o,e<u:=λe q=>F e (mP<|nH<|mP q);have fn:∀e∈((j.drop<|aP+v).take x).take m,e<u:=λe q=>F e (mP<|nH<|nH q);by_cases fr:v-o<=m
 ·rw[aM fr];refine br (UR S fd fn (C.sublist<|uC _ _) (E.sublist<|rO _ _) ⋯ ⋯ eq ex (by exact B) ?_);intro out r a2 A;let⟨@b,rfl,P,bd⟩:=a2;have Q:=Gu (R:=R) C E ⋯ ⋯ t dL P bd;refine br (k4 ?_);refine br (kq ?_);refine bp ?_;have d:ih r=Y:=A.f.trans T;show y (ih r).isNone _ n;rw[d];refine c (((j.drop aP).take v).take o++b++((j.drop<|aP+v).take x).drop m) _ (A.k.trans B) (by first|rfl|exact d) (by exact A.p) (by rw[<-al];exact Q.2) Q.1 ?_;have be:arrOf r=(j.map<|bq ag).toArray:=A.a;have bG:b.length=v-o+m:=by rw[P.length_eq,di,a1,ev]
  have bi:=xn (b.map<|bq ag) (j.map<|bq ag) (aP+o) 0 (aP+o) (by rw[ba,ba,bG];lia) rfl;show List.foldl (λg e=>g.setIfInBounds (aP+o+e.2) e.1) (arrOf r) (b.map<|bq ag).toArray.toList.zipIdx=_;rw[be];refine bi.trans ?_;rw[ba,bG,<-jB,<-jM,<-f_,<-f_];congr 2;have bm:j.take (aP+o)=j.take aP++((j.drop aP).take v).take o:=by
   rw[tN,pX cl,qH]
  have bn:j.drop (aP+o+(v-o+m))=((j.drop<|aP+v).take x).drop m++j.drop (aP+(v+x)):=by
   have:=yB (H:=j.drop (aP+v)) (a:=m) (i:=x) as (by rw[gH];lia);rw[o4,o4]at this;rw[show aP+o+(v-o+m)=aP+v+m by lia,this,show aP+v+x=aP+(v+x) by lia]
  rw[bm,bn];simp only[bC]
 ·rw[aN fr];refine br (UT S fd fn (C.sublist<|uC _ _) (E.sublist<|rO _ _) ⋯ ⋯ eq ex (by exact B) ?_);intro out r a2 A;let⟨@b,rfl,P,bd⟩:=a2;have Q:=Gu (R:=R) C E ⋯ ⋯ t dL P bd;refine br (k4 ?_);refine br (kq ?_);refine bp ?_;have d:ih r=Y:=A.f.trans T;show y (ih r).isNone _ n;rw[d];refine c (((j.drop aP).take v).take o++b++((j.drop<|aP+v).take x).drop m) _ (A.k.trans B) (by first|rfl|exact d) (by exact A.p) (by rw[<-al];exact Q.2) Q.1 ?_;have be:arrOf r=(j.map<|bq ag).toArray:=A.a;have bG:b.length=v-o+m:=by rw[P.length_eq,di,a1,ev]
  have bi:=xn (b.map<|bq ag) (j.map<|bq ag) (aP+o) 0 (aP+o) (by rw[ba,ba,bG];lia) rfl;show List.foldl (λg e=>g.setIfInBounds (aP+o+e.2) e.1) (arrOf r) (b.map<|bq ag).toArray.toList.zipIdx=_;rw[be];refine bi.trans ?_;rw[ba,bG,<-jB,<-jM,<-f_,<-f_];congr 2;have bm:j.take (aP+o)=j.take aP++((j.drop aP).take v).take o:=by
   rw[tN,pX cl,qH]
  have bn:j.drop (aP+o+(v-o+m))=((j.drop<|aP+v).take x).drop m++j.drop (aP+(v+x)):=by
   have:=yB (H:=j.drop (aP+v)) (a:=m) (i:=x) as (by rw[gH];lia);rw[o4,o4]at this;rw[show aP+o+(v-o+m)=aP+v+m by lia,this,show aP+v+x=aP+(v+x) by lia]
  rw[bm,bn];simp only[bC]
end
section
variable{Wb:bJ}{D:bl}{O:bD}{U:ae->aq->Prop}{Wu:gX}{ag:Array bo}{R:Nat->Int}{u:Nat}{n:aq}{w:Array (Nat×Nat×Nat)}
structure eg(Wu:gX)(ag:Array bo)(w:Array (Nat×Nat×Nat))(N:bF)(p:Array Nat):Prop where
 k:PyProof.Rows.kindOf N=Wu
 a:arrOf N=p.map (bq ag)
 p:il N=w
 f:ih N=Y
def td(f:fM u R (fe Wb D O Wu ag) n){s:Array Nat}(b:da u s){a i:Nat}(V0:a<u)(d:i<u){N:bF}(j:eg Wu ag w N s){y:Option Bool->bF->aq->Prop}(c:y (Z<|decide (bk R s a<bk R s i)) N n):
  kasC (aR Wb D) O U (nX a i) y N n:=by
 have e:∀a,a<u->(s.map<|bq ag)[a]?=Z (bq ag<|s.getD a 0):=λa V0=>by
  have:a<s.size:=by rw[b.size];exact V0
  simp[Array.getD,this]
 rw[ltAt'_eq];refine br (kq ?_);rw[j.a];dsimp only;rw[wg,wg,e a V0,e i d];refine br (bp ?_);refine br (bp ?_);exact sm f (b.lt V0) (b.lt d) j.k c
variable{s:Array Nat}{N:bF}
def uy(j:eg Wu ag w N s){a i:Nat}{y:Unit->bF->aq->Prop}(c:∀b,eg Wu ag w b (mQ s a i)->y () b n):kasC (aR Wb D) O U (tm a i) y N n:=by
 rw[reverseSlice'_eq];refine k4 (c _ ⟨j.k,?_,j.p,j.f⟩);show mirror (arrOf N) a i ((i-a)/2)=_;rw[j.a];exact F_ (bq ag) (λo=>a+o) (λo=>i-1-o) _ s
def L_(j:eg Wu ag w N s){a i:Nat}{y:Unit->bF->aq->Prop}(c:∀b,eg Wu ag w b (q3 s a<|a-i)->y () b n):kasC (aR Wb D) O U (moveDown' a i) y N n:=by
 rw[moveDown'_eq];refine k4 (c _ ⟨j.k,?_,j.p,j.f⟩);show q3 (arrOf N) a (a-i)=_;rw[j.a];exact F_ (bq ag) (λo=>a-o) (λo=>a-o-1) _ s
theorem sv{B W9:Type}{aw:gu}{I:Nat->W9->StateT B dr (ForInStep W9)}{y:W9->B->aq->Prop}(A:Nat->W9->B->aq->Prop)(W7:Nat)(step:∀e h N V5,e<W7->A e h N V5->kasC aw O U (I e h) (λm b f=>match m with | .yield a=>A (e+1) a b f | .done a=>y a b f) N V5):∀(k g:Nat) (h:W9) (N:B) (V5:aq),g+k<=W7->(∀h N V5,A (g+k) h N V5->y h N V5)->A g h N V5->
   kasC aw O U (forIn (range' g k) h I) y N V5
 |0,g,h,N,V5,j,i,c=>by
  show kasC aw O U (forIn ([]:List Nat) h I) y N V5;exact kasC_nil (i h N V5 c)
 |k+1,g,h,N,V5,j,i,c=>by
  show kasC aw O U (forIn (g::range' (g+1) k) h I) y N V5;refine kasC_cons (gR (step g h N V5 ⋯ c) (λm f T=>?_) λ_ W d=>d);let⟨m,b⟩:=m;cases m with
  |done a=>exact T
  |yield a=>exact sv A W7 step k (g+1) a b f ⋯ (λh N V5 V0=>i h N V5 (by rw[show g+(k+1)=g+1+k by lia];exact V0)) T
end
section
variable{Wb:bJ}{D:bl}{O:bD}{U:ae->aq->Prop}{Wu:gX}{ag:Array bo}{R:Nat->Int}{u:Nat}{n:aq}{w:Array (Nat×Nat×Nat)}
def iu(R:Nat->Int)(s:Array Nat)(S k:Nat):Prop:=(∀a i,S<=a->a<=i->i<S+k->bk R s a<=bk R s i)
def HX{s:Array Nat}{S k:Nat}(c:∀i,S+1<=i->i<S+k->bk R s (i-1)<=bk R s i):iu R s S k:=by
 intro a i V0 b d;obtain⟨q,rfl⟩:∃q,i=a+q:=⟨i-a,⋯⟩;clear b;induction q with
 |zero=>exact iY _
 |succ q e=>
  have g:=e ⋯;have f:=c (a+(q+1)) ⋯ d;rw[show a+(q+1)-1=a+q by lia]at f;lia
def MA(am:fM u R (fe Wb D O Wu ag) n){s:Array Nat}(an:da u s){S k p:Nat}(bi:S+k<=u)(t:1<=p)(bm:p<=k)(q:iu R s S p){N:bF}(j:eg Wu ag w N s){y:Bool->bF->aq->Prop}(c:∀A b,da u A->eg Wu ag w b A->(∀a,a<S->A[a]?=s[a]?)->iu R A S k->y X b n):
  kasC (aR Wb D) O U (binarySort' S k p) y N n:=by
 rw[binarySort'_eq];rw[show max p 1=p by lia];with_unfolding_all refine br (hZ (a:=λh b V5=>n=V5/\h=(Y,())/\∃r,da u r/\eg Wu ag w b r/\(∀a,a<S->r[a]?=s[a]?)/\iu R r S k)
  (fQ (sv (λe h b V5=>n=V5/\h=(Y,())/\1<=e/\∃r,da u r/\eg Wu ag w b r/\(∀a,a<S->r[a]?=s[a]?)/\iu R r S e) k ?step _ _ _ _ _ ⋯ ?fin ⟨rfl,rfl,t,s,an,j,λ_ W=>rfl,q⟩)) ?after)
 case after=>
  rintro h b V5 ⟨rfl,rfl,r,C,E,G,B⟩;exact bp (c r _ C E G B)
 case fin=>
  rintro h b V5 ⟨rfl,rfl,bn,r,C,E,G,B⟩;rw[show p+(k-p)=k by lia]at B;exact⟨rfl,rfl,r,C,E,G,B⟩
 case step=>
  rintro o h b V5 bs ⟨rfl,rfl,WG,r,I,V1,as,q⟩;dsimp only;have a1:∀a,S<=a->a<S+0->bk R r a<=bk R r (S+o):=λa g f=>⋯
  have a2:∀a,S+o<=a->a<S+o->bk R r (S+o)<=bk R r a:=λa g f=>⋯
  refine br (hZ (a:=λh v V5=>n=V5/\b=v/\∃H m,h=(Y,H,m)/\H<=o/\(∀a,S<=a->a<S+H->bk R r a<=bk R r (S+o))/\(∀a,S+H<=a->a<S+o->bk R r (S+o)<=bk R r a))
   (fQ (sv (λe h v V5=>n=V5/\b=v/\∃H m,h=(Y,H,m)/\H<=m/\m<=o/\m-H<=o-e/\(∀a,S<=a->a<S+H->bk R r a<=bk R r (S+o))/\(∀a,S+m<=a->a<S+o->bk R r (S+o)<=bk R r a)) o ?s2 _ _ _ _ _ ⋯ ?f2 ⟨rfl,rfl,0,o,rfl,⋯,⋯,⋯,a1,a2⟩)) ?W5)
  case f2=>
   rintro h v V5 ⟨rfl,rfl,H,m,rfl,dd,dn,lE,k1,x⟩;exact⟨rfl,rfl,H,m,rfl,⋯,k1,λa e l=>x a ⋯ l⟩
  case s2=>
   rintro e h v V5 bv ⟨rfl,rfl,H,m,rfl,dd,dn,lE,k1,x⟩;dsimp only;by_cases d:H >= m
   ·rw[aM d];exact bp ⟨rfl,rfl,H,m,rfl,⋯,k1,λa e l=>x a ⋯ l⟩
   rw[aN d];have J:H<=(H+m)/2:=⋯
   have bd:(H+m)/2<m:=⋯
   have L:(H+m)/2-H<=o-(e+1):=⋯
   have M:m-((H+m)/2+1)<=o-(e+1):=⋯
   generalize (H+m)/2=mid at J bd L M ⊢;refine br (td am I ⋯ ⋯ V1 ?_);dsimp only;by_cases P:bk R r (S+o)<bk R r (S+mid)
   ·rw[aM ⇑P];refine bp ⟨rfl,rfl,H,mid,rfl,J,⋯,L,k1,λa e l=>?_⟩;have:=q (S+mid) a ⋯ e l;lia
   ·rw[aN ⇑P];refine bp ⟨rfl,rfl,mid+1,m,rfl,⋯,dn,M,λa e l=>?_,x⟩;have:=q a (S+mid) e ⋯ ⋯;lia
  case W5=>
   rintro h v V5 ⟨rfl,rfl,H,m,rfl,dd,k1,x⟩;dsimp only;refine br (L_ V1 ?_);intro ca be;have F:∀a,(q3 r (S+o)<|S+o-(S+H))[a]?=if a=S+H then r[S+o]? else if S+H<a/\a<=S+o then r[a-1]? else r[a]?:=λa=>by
    have:=getElem?_bubble (xs:=r) (src:=S+o) (by rw[I.size];lia) (S+o-(S+H)) ⋯ a
    rwa [show S+o-(S+o-(S+H))=S+H by lia]at this
   have bf:∀a,bk R (q3 r (S+o)<|S+o-(S+H)) a=if a=S+H then bk R r (S+o) else if S+H<a/\a<=S+o then bk R r (a-1) else bk R r a:=λa=>by
    have F:=F a;by_cases d:a=S+H
    ·rw[aM d]at F ⊢;exact mq F
    ·rw[aN d]at F ⊢;by_cases Q:S+H<a/\a<=S+o
     ·rw[aM Q]at F ⊢;exact mq F
     ·rw[aN Q]at F ⊢;exact mq F
   refine bp ⟨rfl,rfl,⋯,_,I.Lv _ _,be,λa V0=>by rw[F,aN ⋯,aN ⋯];exact as a V0,HX λi e l=>?_⟩;rw[bf,bf];by_cases T:i-1=S+H
   ·rw[aM T,aN ⋯,aM ⋯];exact x (i-1) ⋯ ⋯
   ·rw[aN T];by_cases al:i=S+H
    ·rw[aM al,aN ⋯];exact k1 (i-1) ⋯ ⋯
    ·rw[aN al];by_cases ce:S+H<i-1
     ·rw[aM ⋯,aM ⋯];exact q _ _ ⋯ ⋯ ⋯
     ·rw[aN ⋯,aN ⋯];exact q _ _ ⋯ ⋯ ⋯
def eu(R:Nat->Int)(s:Array Nat):Nat->List (Nat×Nat×Nat)->Nat->Prop
 |g,[],f=>g=f
 |g,(e,H,_)::E,f=>e=g/\0<H/\iu R s e H/\eu R s (g+H) E f
variable{s:Array Nat}
theorem eu.le:∀{E:List (Nat×Nat×Nat)}{g f:Nat},eu R s g E f->g+E.length<=f
 |[],g,f,c=>by rw[show f=g from c.symm];exact bh _
 | (e,H,_)::E,g,f,c=>by
  have:=c.2.2.2.le;have:=c.2.1;rw[dj];lia
theorem eu.congr{r:Array Nat}:∀{E:List (Nat×Nat×Nat)}{g f:Nat},eu R s g E f->(∀a,g<=a->a<f->bk R r a=bk R s a)->eu R r g E f
 |[],g,f,c,_=>c
 | (e,H,_)::E,g,f,c,F=>by
  have:=c.2.2.2.le;let@⟨rfl,C,b,d⟩:=c;refine⟨rfl,C,λa i V0 h j=>?_,d.congr λa g f=>F a ⋯ f⟩;rw[F a V0 ⋯,F i ⋯ ⋯];exact b a i V0 h j
theorem eu.app{s:Array Nat}:∀{E L:List (Nat×Nat×Nat)}{g f:Nat},eu R s g (E++L) f↔∃h,eu R s g E h/\eu R s h L f
 |[],L,g,f=>⟨λc=>⟨g,rfl,c⟩,λ⟨h,d,c⟩=>by rw[show g=h from d];exact c⟩
 | (e,H,x)::E,L,g,f=>by
  show (e=g/\0<H/\iu R s e H/\eu R s (g+H) (E++L) f)↔_;rw[eu.app];constructor
  ·rintro⟨t,C,a,h,b,i⟩;exact⟨h,⟨t,C,a,b⟩,i⟩
  ·rintro⟨h,⟨t,C,a,b⟩,i⟩;exact⟨t,C,a,h,b,i⟩
def MQ{Wr:Type}{H:List Wr}{a:Nat}(c:a+1<H.length):∃b e l d,H=b++e::l::d/\b.length=a:=by
 refine⟨H.take a,H[a]'⋯,H[a+1],H.drop<|a+2,?_,by rw[gf];lia⟩;have f:=jA (l:=H) (i:=a) ⋯;have g:=jA (l:=H) (i:=a+1) c;rw[<-g,<-f,ff]
def t7(H:List Nat)(a:Nat):bk R H.toArray a=R (H.getD a 0):=by unfold bk;rw[mc]
def DH(P:fM u R (fe Wb D O Wu ag) n){s:Array Nat}(E:da u s){N:bF}(j:eg Wu ag w N s){S a:Nat}(V0:a+1<w.size)(V3:eu R s 0 w.toList S)(co:S<=u){y:Bool->bF->aq->Prop}(c:∀F q r,da u q->eg Wu ag F r q->F.size+1=w.size->eu R q 0 F.toList S->(∀a,S<=a->bk R q a=bk R s a)->y X r n):kasC (aR Wb D) O U (vY a) y N n:=by
 let⟨b,⟨aP,v,l⟩,⟨cu,x,z⟩,@m,d,rfl⟩:=MQ (H:=w.toList) (a:=a) ⇑V0;rw[d]at V3;let⟨@h,Q,rfl,T,al,rfl,am,an,bZ⟩:=eu.app.mp V3;have dn:=bZ.le;have A:w=(b++(aP,v,l)::(aP+v,x,z)::m).toArray:=by rw[<-d]
 have ap:s.size=u:=E.size;have as:∀e∈s.toList,e<u:=λe a1=>eV.mp (E.mem_iff.mp a1);have B:∀a,bk R s a=R (s.toList.getD a 0):=λa=>t7 s.toList a;have bG:s.toList.length=u:=by rw[dv,ap]
 have G:∀g k,g+k<=u->iu R s g k->cy R ((s.toList.drop g).take k):=λg k cr c=>by
  refine oW.mpr λa i V0 a2 cs=>?_;have bd:=V0;have be:=a2;rw[gf,gH,bG]at bd be;have:=c (g+a) (g+i) ⋯ ⋯ ⋯;rw[B,B]at this;rw[u0,pO,u0,pO];rw[cK,cK,dH ⋯,dH ⋯]at this;exact this
 refine Rp P (j:=s.toList) as (a:=b.length) (aP:=aP) (v:=v) (x:=x) (bs:=l) (f0:=z) j.k (by rw[j.a];apply kL;simp) j.f (by rw[j.p,A];simp) (by rw[j.p,A];simp) T am ⋯ (G _ _ ⋯ al) (G _ _ ⋯ an) ?_;intro mid r WG bi bm J bn bs;have bv:mid.length=v+x:=by rw[J.length_eq,gf,gH,bG];lia
 have ca:s.toList.take aP++(s.toList.drop aP).take (v+x)++s.toList.drop (aP+(v+x))=s.toList:=by rw[qH,ff]
 have cd:da u (s.toList.take aP++mid++s.toList.drop (aP+(v+x))).toArray:=by
  show (s.toList.take aP++mid++s.toList.drop (aP+(v+x))).Perm (range u);refine List.Perm.trans (e5 _<|d9 _ J) ?_;rw[ca];exact E
 have Xx:(s.toList.take aP).length=aP:=by rw[gf,bG];lia
 have ce:∀a,a<aP->bk R (s.toList.take aP++mid++s.toList.drop (aP+(v+x))).toArray a=bk R s a:=λa V0=>by
  rw[t7,B];congr 1;rw[cK,cK,bC,mj ⋯,o8,aM V0]
 have L:∀a,aP+(v+x)<=a->bk R (s.toList.take aP++mid++s.toList.drop (aP+(v+x))).toArray a=bk R s a:=λa V0=>by
  rw[t7,B];congr 1;rw[cK,cK,mf (by rw[di];lia),mY,di,Xx,bv];congr 2;lia
 have M:∀a,aP<=a->a<aP+(v+x)->bk R (s.toList.take aP++mid++s.toList.drop (aP+(v+x))).toArray a=R (mid.getD (a-aP) 0):=λa t C=>by
  rw[t7];congr 1;rw[cK,cK,bC,mf ⋯,Xx,mj ⋯]
 have ch:((b++(aP,v,l)::(aP+v,x,z)::m).toArray.setIfInBounds b.length (aP,v+x,l)).eraseIdxIfInBounds (b.length+1)=(b++(aP,v+x,l)::m).toArray:=by
  rw[H2,List.set_append_right _ _<|bh _,x_,List.set_cons_zero];rw[D9,List.eraseIdx_append_of_length_le ⋯,show b.length+1-b.length=1 by lia];rfl
 refine c ((b++(aP,v+x,l)::m).toArray) _ r cd ⟨WG,by rw[bs];apply kL;simp,by rw[bm,j.p,A,ch],bi⟩ (by rw[A];simp;lia) ?_ (λa V0=>L a ⋯);have ci:eu R s (aP+(v+x)) m S:=by rw[<-tc];exact bZ
 refine eu.app.mpr ⟨aP,Q.congr λa W f=>ce a f,rfl,⋯,λa i t C cl=>?_,ci.congr λa g f=>L a g⟩
 ·rw[M a t ⋯,M i ⋯ cl];exact oQ bn ⋯ ⋯
end
section
variable{Wb:bJ}{D:bl}{O:bD}{U:ae->aq->Prop}{Wu:gX}{ag:Array bo}{R:Nat->Int}{u:Nat}{n:aq}{w:Array (Nat×Nat×Nat)}
variable{r:Array Nat}
def vn(b:da u r){a i:Nat}(c:i<=u)(o:Nat):(mQ r a i)[o]?=if a<=o/\o<i then r[a+i-1-o]? else r[o]?:=by
 unfold mQ;rw[getElem?_mirror_all (by rw[b.size];lia)]
def Tt(b:da u r){a i:Nat}(e:i<=u)(d:∀o,a<=o->o<i->bk R r o=bk R r a)(o:Nat):bk R (mQ r a i) o=bk R r o:=by
 by_cases c:a<=o/\o<i
 ·rw[mq (show (mQ r a i)[o]?=r[a+i-1-o]? by rw[vn b e,aM c]),d _ ⋯ ⋯,d o c.1 c.2]
 ·exact mq (by rw[vn b e,aN c])
structure mW(R:Nat->Int)(u S:Nat)(s r:Array Nat):Prop where
 m1:da u r
 be:∀a,a<S->r[a]?=s[a]?
 bf:∀o,bk R r o=bk R s o
def mW.rev{S:Nat}{s:Array Nat}(J:mW R u S s r){a i:Nat}(V0:S<=a)(b:i<=u)(d:∀o,a<=o->o<i->bk R s o=bk R s a):mW R u S s (mQ r a i):=
 ⟨J.m1.rev a i,λo c=>by rw[vn J.m1 b,aN ⋯];exact J.be o c,λo=>by
  rw[Tt J.m1 b (λo g f=>by rw[J.bf,J.bf];exact d o g f)];exact J.bf o⟩
theorem Hx{I:Nat->Int}{g f:Nat}(c:∀i,g+1<=i->i<f->I i=I (i-1)):∀q,g+q<f->I (g+q)=I g
 |0,_=>rfl
 |q+1,hd=>(c (g+(q+1)) ⋯ hd).trans (Hx c q ⋯)
def I9(o:fM u R (fe Wb D O Wu ag) n){S a:Nat}(v:S+a<=u){r:Array Nat}{f:bF}{g:Nat}(p:da u r)(Wc:eg Wu ag w f r)(x:1<=g)(W5:g<=a)(q:∀i,S+1<=i->i<S+g->bk R r (i-1)<=bk R r i):
   kasC (aR Wb D) O U (forIn [g:a] ((Y:Option (Option Nat)),g) λe h=>nX (S+h.2) (S+h.2-1) >>= λm=>match m with
    |some s=>if s=X then pure (ForInStep.done (Y,h.2)) else pure (ForInStep.yield (Y,h.2+1))
    |e=>pure<|ForInStep.done (Z Y,h.2))
    (λh b V5=>n=V5/\f=b/\∃k,h=(Y,k)/\g<=k/\k<=a/\(∀i,S+1<=i->i<S+k->bk R r (i-1)<=bk R r i)/\(k=a\/bk R r (S+k)<bk R r (S+k-1))) f n:=by
 refine fQ (sv (λe h b V5=>n=V5/\f=b/\h=(Y,e)/\g<=e/\∀i,S+1<=i->i<S+e->bk R r (i-1)<=bk R r i) a ?_ _ _ _ _ _ ⋯ ?_ ⟨rfl,rfl,rfl,bh _,q⟩)
 ·rintro e h b V5 y ⟨rfl,rfl,rfl,l,c⟩;dsimp only;refine br (td o p ⋯ ⋯ Wc ?_);dsimp only;by_cases j:bk R r (S+e)<bk R r (S+e-1)
  ·rw[aM ⇑j];exact bp ⟨rfl,rfl,e,rfl,l,⋯,c,.inr j⟩
  ·rw[aN ⇑j];refine bp ⟨rfl,rfl,rfl,⋯,λi t z=>?_⟩;by_cases d:i=S+e
   ·subst d;lia
   ·exact c i t ⋯
 ·rintro h b V5 ⟨rfl,rfl,rfl,l,c⟩;rw[show g+(a-g)=a by lia]at c ⊢;exact⟨rfl,rfl,a,rfl,⋯,bh _,c,.inl rfl⟩
def tA(S a k:Nat): StateT bF dr (Option Nat):=(tm S (S+k) >>= λ_ => (forIn [k:a] ((Y:Option (Option Nat)),k) λe h => nX (S+h.2) (S+h.2-1) >>= λm => match m with
    |some b => if b=X then pure (ForInStep.done (Y,h.2)) else pure (ForInStep.yield (Y,h.2+1))
    |e => pure<|ForInStep.done (Z Y,h.2)) >>= λh => match h.1 with
    |some m => pure m
    |none => pure (Z h.2))
def Dd(S e:Nat)(h:Option (Option Nat)×Nat×Nat):StateT bF dr (ForInStep<|Option (Option Nat)×Nat×Nat):=(nX (S+h.2.1) (S+h.2.1-1) >>= λm=>match m with
 |some a=>if a=X then (if h.2.2>0 then tm (S+h.2.1-(h.2.2+1)) (S+h.2.1) >>= λ_=>pure (.yield (Y,h.2.1+1,0)) else pure (.yield (Y,h.2.1+1,0)))
  else nX (S+h.2.1-1) (S+h.2.1) >>= λm=>match m with
   |some b=>if b=X then pure (.done (Y,h.2.1,h.2.2)) else pure (.yield (Y,h.2.1+1,h.2.2+1))
   |e=>pure (.done (Z Y,h.2.1,h.2.2))
 |e=>pure (.done (Z Y,h.2.1,h.2.2)))
def uQ(S a k:Nat):StateT bF dr (Option Nat):=(liftM (PySem.rule "list.sort.descending-run") >>= λ_=>forIn [k+1:a] ((Y:Option (Option Nat)),k+1,0) (Dd S) >>= λh=>match h.1 with
 |some m=>pure m
 |none=>if h.2.2>0 then tm (S+h.2.1-(h.2.2+1)) (S+h.2.1) >>= λ_=>tA S a h.2.1 else tA S a h.2.1)
def HG(l:fM u R (fe Wb D O Wu ag) n){S d k:Nat}(m:S+d<=u){s r:Array Nat}{N:bF}(J:mW R u S s r)(j:eg Wu ag w N r)(o:1<=k)(p:k<=d)(q:∀i,S+1<=i->i<S+k->bk R s i<=bk R s (i-1)){y:Option Nat->bF->aq->Prop}(c:∀k b e,1<=k->k<=d->da u b->eg Wu ag w e b->(∀a,a<S->b[a]?=s[a]?)->(∀i,S+1<=i->i<S+k->bk R b (i-1)<=bk R b i)->y (Z k) e n):kasC (aR Wb D) O U (tA S d k) y N n:=by
 unfold tA;refine br (uy j λz Ws=>?_);have F:=vn J.m1 (a:=S) (i:=S+k) ⋯;have bf:∀a,S<=a->a<S+k->bk R (mQ r S<|S+k) a=bk R s (S+(S+k)-1-a):=λa g f=>(mq (by rw[F,aM ⟨g,f⟩])).trans (J.bf _);refine br (hZ (I9 l m (J.m1.rev S<|S+k) Ws o p λi A B=>?_) ?_)
 ·rw[bf _ ⋯ ⋯,bf _ ⋯ ⋯];have:=q (S+(S+k)-1-(i-1)) ⋯ ⋯;rw[show S+(S+k)-1-(i-1)-1=S+(S+k)-1-i by lia]at this;exact this
 ·rintro h e V5 ⟨rfl,rfl,t,rfl,C,v,x,E⟩;dsimp only;exact bp (c t _ _ ⋯ v (J.m1.rev S<|S+k) Ws (λa V0=>by rw[F,aN ⋯];exact J.be a V0) x)
def Ir(B:fM u R (fe Wb D O Wu ag) n){S p k:Nat}(F:S+p<=u){s r:Array Nat}{N:bF}(J:mW R u S s r)(j:eg Wu ag w N r)(am:1<=k)(an:k<p)(P:∀i,S+1<=i->i<S+(k+1)->bk R s i<=bk R s (i-1)){y:Option Nat->bF->aq->Prop}(c:∀k A t,1<=k->k<=p->da u A->eg Wu ag w t A->(∀a,a<S->A[a]?=s[a]?)->(∀i,S+1<=i->i<S+k->bk R A (i-1)<=bk R A i)->y (Z k) t n):kasC (aR Wb D) O U (uQ S p k) y N n:=by
 have aW:∀{e q:Nat},q+1<=e->(∀i,S+e-q<=i->i<S+e->bk R s i=bk R s (i-1))->∀o,S+e-(q+1)<=o->o<S+e->bk R s o=bk R s (S+e-(q+1)):=λ{e q} hd d o g f=>by
  have:=Hx (I:=bk R s) (g:=S+e-(q+1)) (f:=S+e) (λi e l=>d i ⋯ l) (o-(S+e-(q+1))) ⋯
  rwa [show S+e-(q+1)+(o-(S+e-(q+1)))=o by lia]at this
 unfold uQ;refine br (oS<|iZ ?_);refine br (hZ (a:=λh t V5=>n=V5/\∃m e q,h=(Y,e,q)/\eg Wu ag w t m/\mW R u S s m/\k+1<=e/\e<=p/\q+1<=e/\(∀i,S+1<=i->i<S+e->bk R s i<=bk R s (i-1))/\∀i,S+e-q<=i->i<S+e->bk R s i=bk R s (i-1))
  (fQ (sv (λe h t V5=>n=V5/\∃m q,h=(Y,e,q)/\eg Wu ag w t m/\mW R u S s m/\k+1<=e/\q+1<=e/\(∀i,S+1<=i->i<S+e->bk R s i<=bk R s (i-1))/\∀i,S+e-q<=i->i<S+e->bk R s i=bk R s (i-1)) p ?WY _ _ _ _ _ ⋯ ?WW ⟨rfl,r,0,rfl,j,J,bh _,⋯,P,λi g f=>⋯⟩)) ?Q)
 case WY=>
  rintro e h t V5 as ⟨rfl,m,q,rfl,V1,b,C,z,v,x⟩;unfold Dd;dsimp only;refine br (td B b.m1 ⋯ ⋯ V1 ?_);dsimp only;rw[b.bf,b.bf];by_cases G:bk R s (S+e)<bk R s (S+e-1)
  ·rw[aM ⇑G];have H:∀i,S+1<=i->i<S+(e+1)->bk R s i<=bk R s (i-1):=λi E T=>by
    by_cases d:i=S+e
    ·subst d;lia
    ·exact v i E ⋯
   by_cases hd:q>0
   ·rw[aM hd];refine br (uy V1 λal Ws=>?_);exact bp ⟨rfl,_,0,rfl,Ws,b.rev ⋯ ⋯<|aW z x,⋯,⋯,H,λi g f=>⋯⟩
   ·rw[aN hd];exact bp ⟨rfl,m,0,rfl,V1,b,⋯,⋯,H,λi g f=>⋯⟩
  ·rw[aN ⇑G];refine br (td B b.m1 ⋯ ⋯ V1 ?_);dsimp only;rw[b.bf,b.bf];by_cases L:bk R s (S+e-1)<bk R s (S+e)
   ·rw[aM ⇑L];exact bp ⟨rfl,m,e,q,rfl,V1,b,C,⋯,z,v,x⟩
   ·rw[aN ⇑L];refine bp ⟨rfl,m,q+1,rfl,V1,b,⋯,⋯,λi E T=>?_,λi g f=>?_⟩
    ·by_cases d:i=S+e
     ·subst d;lia
     ·exact v i E ⋯
    ·by_cases d:i=S+e
     ·subst d;lia
     ·exact x i ⋯ ⋯
 case WW=>
  rintro h t V5 ⟨rfl,m,q,rfl,V1,b,C,z,v,x⟩;rw[show k+1+(p-(k+1))=p by lia] at *;exact⟨rfl,m,p,q,rfl,V1,b,C,bh _,z,v,x⟩
 case Q=>
  rintro h t V5 ⟨rfl,m,e,q,rfl,V1,b,C,M,z,v,x⟩;dsimp only;by_cases hd:q>0
  ·rw[aM hd];refine br (uy V1 λal Ws=>?_);exact HG B F (b.rev ⋯ ⋯<|aW z x) Ws ⋯ M v c
  ·rw[aN hd];exact HG B F b V1 ⋯ M v c
def Jp(S a:Nat): StateT bF dr (Option Nat):=((forIn [1:a] ((Y:Option (Option Nat)),1) λe h => nX (S+h.2) (S+h.2-1) >>= λm => match m with
    |some b => if b=X then pure (ForInStep.done (Y,h.2)) else pure (ForInStep.yield (Y,h.2+1))
    |e => pure<|ForInStep.done (Z Y,h.2)) >>= λh => match h.1 with
    |some m => pure m
    |none => if (h.2==a)=X then pure (Z h.2) else if h.2>1 then nX S (S+h.2-1) >>= λm => match m with
      |some c => if c=X then pure (Z h.2) else tm S (S+h.2) >>= λ_ => uQ S a h.2
      |e => pure Y
      else uQ S a h.2)
def Kz(S a:Nat):countRun' S a=Jp S a:=by
 kernel_rfl
def Ln(m:fM u R (fe Wb D O Wu ag) n){s:Array Nat}(b:da u s){S e:Nat}(t:1<=e)(r:S+e<=u){N:bF}(j:eg Wu ag w N s){y:Option Nat->bF->aq->Prop}(c:∀k l v,1<=k->k<=e->da u l->eg Wu ag w v l->(∀a,a<S->l[a]?=s[a]?)->(∀i,S+1<=i->i<S+k->bk R l (i-1)<=bk R l i)->y (Z k) v n):
  kasC (aR Wb D) O U (countRun' S e) y N n:=by
 rw[Kz];unfold Jp;have B:mW R u S s s:=⟨b,λ_ W=>rfl,λ_=>rfl⟩;refine br (hZ (I9 m r b j (bh _) t λi g f=>⋯) ?_);rintro h v V5 ⟨rfl,rfl,k,rfl,x,C,p,F⟩;dsimp only;by_cases d:k=e
 ·rw[aM ⇑d];exact bp (c k s _ x C b j (λ_ W=>rfl) p)
 rw[aN ⇑d];have G:bk R s (S+k)<bk R s (S+k-1):=F.resolve_left d;by_cases E:k>1
 ·rw[aM E];refine br (td m b ⋯ ⋯ j ?_);dsimp only;by_cases V9:bk R s S<bk R s (S+k-1)
  ·rw[aM ⇑V9];exact bp (c k s _ x C b j (λ_ W=>rfl) p)
  ·rw[aN ⇑V9];have H:∀q,q<k->bk R s S<=bk R s (S+q)/\bk R s (S+q)<=bk R s (S+k-1):=by
    have I:∀q,q<k->bk R s S<=bk R s (S+q):=λq=>by
     induction q with
     |zero=>intro W;exact iY _
     |succ q z=>
      intro hd;have g:=p (S+(q+1)) ⋯ ⋯;rw[show S+(q+1)-1=S+q by lia]at g;have:=z ⋯;lia
    have J:∀q,q<k->bk R s (S+k-1-q)<=bk R s (S+k-1):=λq=>by
     induction q with
     |zero=>intro W;exact iY _
     |succ q z=>
      intro hd;have g:=p (S+k-1-q) ⋯ ⋯;rw[show S+k-1-q-1=S+k-1-(q+1) by lia]at g;have:=z ⋯;lia
    intro q hd;refine⟨I q hd,?_⟩;have:=J (k-1-q) ⋯
    rwa [show S+k-1-(k-1-q)=S+q by lia]at this
   have A:∀o,S<=o->o<S+k->bk R s o=bk R s S:=λo g f=>by
    have:=H (o-S) ⋯;rw[show S+(o-S)=o by lia]at this;lia
   refine br (uy j λP Ws=>?_);exact Ir (s:=s) m r (B.rev (bh _) ⋯ A) Ws x ⋯ (λi L M=>by
    by_cases d:i=S+k
    ·subst d;lia
    ·rw[A i ⋯ ⋯,A (i-1) ⋯ ⋯];exact iY _) c
 rw[aN E];obtain rfl:k=1:=⋯
 exact Ir (s:=s) m r B j (bh _) ⋯ (λi L M=>by
  obtain rfl:i=S+1:=⋯
  exact Int.le_of_lt G) c
end
section
variable{Wb:bJ}{D:bl}{O:bD}{U:ae->aq->Prop}{Wu:gX}{ag:Array bo}{R:Nat->Int}{u:Nat}{n:aq}{w:Array (Nat×Nat×Nat)}
variable{s:Array Nat}
theorem eu.same:∀{E L:List (Nat×Nat×Nat)}{g f:Nat},eu R s g E f->(E.map λe=>(e.1,e.2.1))=(L.map λe=>(e.1,e.2.1))->eu R s g L f
 |[],[],g,f,c,_=>c
 |[],_::_,g,f,c,d=>by cases d
 |_::_,[],g,f,c,d=>by cases d
 | (e,H,x)::E,(j,k,l)::L,g,f,c,d=>by
  rw[b2,b2]at d;injection d with h i;injection h with a b;dsimp only at a b;subst a;subst b;exact⟨c.1,c.2.1,c.2.2.1,c.2.2.2.same i⟩
def QY(z:Array (Nat×Nat×Nat))(a x:Nat):(z.toList.map λe=>(e.1,e.2.1))=((z.modify a λe=>(e.1,e.2.1,x)).toList.map λe=>(e.1,e.2.1)):=by
 apply qm;intro i;rw[eB,eB,eQ,eQ,Array.getElem?_modify];split
 ·rw[Option.map_map];rfl
 ·rfl
def iu.congr{r:Array Nat}{S k:Nat}(c:iu R s S k)(F:∀a,S<=a->bk R r a=bk R s a):iu R r S k:=λa i g f h=>by
 rw[F a g,F i ⋯];exact c a i g f h
def LA{aw:gu}{O:bD}{U:ae->aq->Prop}{B Wr:Type}{h:Nat->Prop}{d:∀k,Decidable (h k)}{b Xh:Nat->StateT B dr Wr}{y:Wr->B->aq->Prop}{n:aq}(Wd:Nat->B->Prop)(j:∀k N,Wd k N->kasC aw O U (Xh k) y N n)(a:(∀k N,Wd k N->kasC aw O U (Xh k) y N n)->∀k N,h k->Wd k N->kasC aw O U (b k) y N n):∀k N,Wd k N->kasC aw O U (if h k then b k else Xh k) y N n:=λk N s=>
 if c:h k then by rw[aM c];exact a j k N c s else by rw[aN c];exact j k N s
variable{y:Unit->bF->aq->Prop}
def Rj(B:fM u R (fe Wb D O Wu ag) n)(C:2<=u)(a2:∀t b,da u t->iV R t u->arrOf b=t.map (bq ag)->ih b=Y->y () b n):kasC (aR Wb D) O U sortRuns' y (vO Wu ag (range u).toArray) n:=by
 rw[sortRuns'_eq];refine br (kq ?_);dsimp only;have bd:(arrOf<|vO Wu ag (range u).toArray).size=u:=by
  show ((range u).toArray.map<|bq ag).size=u;simp
 simp only[bd];refine br (hZ (a:=λh b V5=>n=V5/\h=(Y,u)/\∃w s,da u s/\eg Wu ag w b s/\eu R s 0 w.toList u)
  (fQ (g8 (λe h b V5=>n=V5/\∃S w s,h=(Y,S)/\e<=S/\S<=u/\da u s/\eg Wu ag w b s/\eu R s 0 w.toList S) ?step _ 0 _ _ _ ?fin ⟨rfl,0,#[],(range u).toArray,rfl,bh _,⋯,List.Perm.refl _,⟨rfl,rfl,rfl,rfl⟩,rfl⟩)) ?after)
 case fin=>
  rintro h b V5 ⟨rfl,S,w,s,rfl,g,f,q,d,I⟩;have:S=u:=⋯
  subst this;exact⟨rfl,rfl,w,s,q,d,I⟩
 case after=>
  rintro h b V5 ⟨rfl,rfl,w,s,m,j,V3⟩;dsimp only;refine br (hZ (a:=λh b V5=>n=V5/\h=(Y,())/\∃s,da u s/\iV R s u/\arrOf b=s.map (bq ag)/\ih b=Y)
   (fQ (g8 (λe h b V5=>n=V5/\h=(Y,())/\∃w s,da u s/\eg Wu ag w b s/\eu R s 0 w.toList u/\w.size+e<=u) ?E _ 0 _ _ _ ?f2 ⟨rfl,rfl,w,s,m,j,V3,by have:=V3.le;rw[dv]at this;lia⟩)) ?W5)
  case W5=>
   rintro h b V5 ⟨rfl,rfl,s,g,f,h,q⟩;exact bp (a2 s _ g f h q)
  case f2=>
   rintro h b V5 ⟨rfl,rfl,w,s,m,j,V3,be⟩;have d:w.toList=[]:=oC (by rw[dv];lia);rw[d]at V3;have:0=u:=V3;lia
  case E=>
   rintro e h b V5 ⟨rfl,rfl,w,s,m,j,V3,be⟩;refine br (kq ?_);by_cases d:(il b).size<=1
   ·rw[aM d];refine bp ⟨rfl,rfl,s,m,?_,j.a,j.f⟩;rw[j.p]at d;have bi:w.toList.length<=1:=by rw[dv];exact d
    match al:w.toList,bi with
    |[],_=>
     rw[al]at V3;have:0=u:=V3;lia
    |[(e,H,x)],_=>
     rw[al]at V3;let@⟨rfl,_,bm,bn⟩:=V3;have:0+H=u:=bn;exact λa i bs co=>bm a i (hj _) bs ⋯
    |_::_::_,c=>exact absurd c ↥0
   ·rw[aN d];rw[j.p]at d;have bv:∀N,N+1<w.size->kasC (aR Wb D) O U (vY N) (λf v E=>f=X/\n=E/\∃w s,da u s/\eg Wu ag w v s/\eu R s 0 w.toList u/\w.size+(e+1)<=u) b n:=λN ca=>
     DH B m j ca V3 (bh _) λP t cd g f h q am=>⟨rfl,rfl,P,t,g,f,q,⋯⟩;refine br (hZ (bv _ ?_) ?_)
    ·rw[j.p];have:∀(h:Prop) [Decidable h],(if h then w.size-2-1 else w.size-2)+1<w.size:=λh W=>by split<;>lia
     exact this _
    ·rintro f v E ⟨rfl,rfl,ce⟩;rw[aN ∅];exact bp ⟨rfl,rfl,ce⟩
 case step=>
  rintro e h b V5 ⟨rfl,S,w,s,rfl,cr,cs,m,j,V3⟩;dsimp only;by_cases an:S >= u
  ·rw[aM an];have:S=u:=⋯
   subst this;exact bp ⟨rfl,rfl,w,s,m,j,V3⟩
  rw[aN an];refine br (Ln B m ⋯ ⋯ j ?_);intro k ap A z F G Wc as J;have r:k<=u-S/\1<=k/\∃s,da u s/\eg Wu ag w A s/\eu R s 0 w.toList S/\iu R s S k:=⟨F,z,ap,G,Wc,V3.congr λa W f=>mq<|as a f,HX J⟩;dsimp only;clear J as Wc G z F;revert k A;refine LA (λk A=>k<=u-S/\1<=k/\∃s,da u s/\eg Wu ag w A s/\eu R s 0 w.toList S/\iu R s S k) ?_ ?_
  ·intro k v r;let@⟨F,z,⟨@W2,L,Ws,bZ,M⟩⟩:=r;refine br (kq ?_);rcases db:(il v).back? with _|⟨ds,dL,eq⟩
   ·dsimp only;refine br (k4 ?_);refine bp ⟨rfl,S+k,w.push (S,k,0),W2,rfl,⋯,⋯,L,⟨Ws.k,Ws.a,by show (il v).push _=_;rw[Ws.p],Ws.f⟩,?_⟩;rw[xk];exact eu.app.mpr ⟨S,bZ,rfl,⋯,M,rfl⟩
   ·dsimp only;refine br (hZ (a:=λh b V5=>n=V5/\h=(Y,())/\∃w s,da u s/\eg Wu ag w b s/\eu R s 0 w.toList S/\iu R s S (k))
     (fQ<|g8 (λe h b V5=>n=V5/\h=(Y,())/\∃w s,da u s/\eg Wu ag w b s/\eu R s 0 w.toList S/\iu R s S (k)) ?_ _ 0 _ _ _ (λ_ W W x=>x) ⟨rfl,rfl,w,W2,L,Ws,bZ,M⟩) ?_)
    ·rintro l h b V5 ⟨rfl,rfl,w,s,m,j,V3,O⟩;refine br (kq ?_);by_cases d:(il b).size>1
     ·rw[aM d];rcases ev:(il b)[(il b).size-2]? with _|⟨g,f,ex⟩
      ·dsimp only;exact bp ⟨rfl,rfl,w,s,m,j,V3,O⟩
      ·dsimp only;split
       ·exact bp ⟨rfl,rfl,w,s,m,j,V3,O⟩
       ·refine br (DH B m j (by rw[j.p]at d ⊢;lia) V3 ⋯ ?_);intro P t cd g f h q am;rw[aN ∅];exact bp ⟨rfl,rfl,P,t,g,f,q,O.congr am⟩
     ·rw[aN d];dsimp only;exact bp ⟨rfl,rfl,w,s,m,j,V3,O⟩
    ·rintro h b V5 ⟨rfl,rfl,w,s,m,j,V3,O⟩;dsimp only;refine br (k4 ?_);refine br (k4 ?_);refine bp ⟨rfl,S+k,(w.modify (w.size-1) _).push (S,k,0),s,rfl,⋯,⋯,m,⟨j.k,j.a,by show ((il b).modify ((il b).size-1) _).push _=_;rw[j.p],j.f⟩,?_⟩;rw[xk];exact eu.app.mpr ⟨S,V3.same<|QY _ _ _,rfl,⋯,O,rfl⟩
  ·intro V6 k A fd r;let@⟨F,z,⟨@ap,G,Wc,ch,J⟩⟩:=r;refine br (oS<|iZ ?_);have Q:k<=min (u-S) (minRun' u u 0):=⋯
   have a1:min (u-S) (minRun' u u 0)<=u-S:=⋯
   generalize min (u-S) (minRun' u u 0)=ci at Q a1 ⊢;refine br (MA B G ⋯ z Q J Wc ?_);intro W2 v L Ws cl M;rw[aN ∅];exact V6 ci v ⟨a1,dx z Q,W2,L,Ws,ch.congr λa W f=>mq<|cl a f,M⟩
def PG(c:fM u R (fe Wb D O Wu ag) n)(C:2<=u)(e:u<1001\/∀i,1<=i->i<u->R (i-1)<=R i)(d:∀a b,da u a->iV R a u->arrOf b=a.map (bq ag)->ih b=Y->y () b n):kasC (aR Wb D) O U sortRuns' y (vO Wu ag (range u).toArray) n:=Rj c C d
end
end L2
namespace L2
open Spec PyProof.Rows
section
variable{b:aQ}{G:List (af×a9)}{B:bg}{j:aC}{n:aq}{T:aY}
variable{Xn:List af}{WE:Nat}
def aK.B1{V6:af}{z:List ao}(A:aK b G B j n)(a:∀f∈Xn,j3 b G j f)(o:∀f p,f∉Xn->n.heap.get? f=Z p->T.get? f=Z p)(i:n.heap.objs.size<=V6)(new:el b.prog b.w (upd j V6<|.tup z) T V6 (.tup z)):aK b G B (upd j V6<|.tup z) {n with heap:=T,toks:=WE}:=by
 have e:j V6=Y:=A.a5.fresh i;have s:∀f p,n.heap.get? f=Z p->f≠V6:=λf p d=>dg (eK (b4 d) i);have l:∀f L,j f=Z L->f∉Xn:=λf L d x=>by rw[(a f x).1]at d;cases d
 refine A.step (Xo:=n.gens) (W3:=n.drawn) (Xn:=Xn) (λf c=>⟨(a f c).2.2.2.1,(a f c).2.1,(a f c).2.2.2.2.1,(a f c).2.2.2.2.2⟩) (λf p W W h d W=>o f p h d) (λf p W W h d W=>⟨p.slots,o f p h d⟩)
  (λf p W d u=>by rw[dq (s f p d)];exact u) (λf p h d=>⟨p,o f p h d⟩) (λf Wm d=>by rw[dq (hF d e)];exact d) (λf p L d=>by rw[dq (hF d e)];exact d)
  (λf Wj d=>⟨#[],by rw[dq (hF d e),d];simp⟩) (λk t=>?_) (λg p d=>?_) A.bare
 ·let⟨p,Q,@Wt,v,m⟩:=t;exact⟨p,Q,Wt,o _ p (λx=>(a _ x).2.1 rfl) v,m⟩
 ·by_cases q:g=V6
  ·subst q;rw[fm]at d;cases d;exact new
  ·rw[dq q]at d;refine (A.a5 g p d).hb (λf L c r=>o f L ?_ r) (λf r=>by rw[dq (hF r e)];exact r) λf Wm r=>by rw[dq (hF r e)];exact r
   rcases c with x|x
   ·rw[x];exact l g p d
   ·exact l f _ x
def aK.GA(A:aK b G B j n)(a:∀f∈Xn,j3 b G j f)(o:∀f p,f∉Xn->n.heap.get? f=Z p->T.get? f=Z p):aK b G B j {n with heap:=T,toks:=WE}:=by
 have h:∀f L,j f=Z L->f∉Xn:=λf L d x=>by rw[(a f x).1]at d;cases d
 refine A.step (Xo:=n.gens) (W3:=n.drawn) (Xn:=Xn) (λf c=>⟨(a f c).2.2.2.1,(a f c).2.1,(a f c).2.2.2.2.1,(a f c).2.2.2.2.2⟩) (λf p W W e d W=>o f p e d) (λf p W W e d W=>⟨p.slots,o f p e d⟩)
  (λf p W W u=>u) (λf p e d=>⟨p,o f p e d⟩) (λf Wm d=>d) (λf p L d=>d) (λf Wj d=>⟨#[],by rw[d];simp⟩) (λk i=>?_) (λg p d=>?_) A.bare
 ·let⟨p,Q,@Wt,l,m⟩:=i;exact⟨p,Q,Wt,o _ p (λx=>(a _ x).2.1 rfl) l,m⟩
 ·refine (A.a5 g p d).hb (λf L c r=>o f L ?_ r) (λf r=>r) λf Wm r=>r;rcases c with x|x
  ·rw[x];exact h g p d
  ·exact h f _ x
end
section
variable{Wb:bJ}{D:bl}{O:bD}{U:ae->aq->Prop}{n:aq}
variable{a:Nat}{Wv:Array ae}{y:ae->aq->Prop}
def yg{ag E:af}{e:ae}(d:n.heap.IsTupleIter ag E a)(bT:n.heap.IsTuple E Wv)(f:Wv[a]?=Z e)(r:∀T,T.IsTupleIter ag E (a+1)->aY.SameBut ag n.heap T->y e {n with heap:=T}):wpAny (aR Wb D) O (a0.SmallTypes.nextOf<|.ref ag) y U n:=by
 let⟨@p,c,g,b⟩:=id d;let⟨@ol,g1,W,⟨@G,h⟩⟩:=bT;unfold a0.SmallTypes.nextOf;refine ar (kl (name:=aI.ofString "__next__") d.typeIs vV<|gd vV d.typeIs EH ?x<|En _)
 case x=>
  show wpAny _ _ (l2 (.ref ag) 0 >>= _) _ _ n;refine ar (fR c b (x:=.ref E) rfl ?_);show wpAny _ _ (if (ae.ref E==ae.none)=X then _ else _) _ _ n;rw[aN (show ¬ (ae.ref E==ae.none)=X by intro x;cases x)];show wpAny _ _ (l2 (.ref ag) 1 >>= _) _ _ n;refine ar (fR c b (x:=.int a 0) rfl ?_);show wpAny _ _ (m3 (.ref E) >>= _) _ _ n;refine ar (hT g1 h ?_);simp only[kb,f];refine ar (ny c b ↥0 (aL ⟨e,rfl,aL (r _ ⟨_,jK _ c<|xY<|qL b _,(AY ..).trans g,by rw[qL b];simp[dR]⟩<|hv ..)⟩))
def JV{ag E:af}(h:O.handled=Y)(b:n.heap.IsTupleIter ag E a)(bT:n.heap.IsTuple E Wv)(i:Wv[a]?=Y)(r:∀T d,aY.ExtBut ag n.heap T->(∃p,T.get? d=Z p/\p.cls=.type "StopIteration")->U (.ref d) {n with heap:=T}):wpAny (aR Wb D) O (a0.SmallTypes.nextOf<|.ref ag) y U n:=by
 let⟨@p,c,l,f⟩:=id b;let⟨@ol,g1,W,⟨@G,j⟩⟩:=bT;unfold a0.SmallTypes.nextOf;refine ar (kl (name:=aI.ofString "__next__") b.typeIs vV<|gd vV b.typeIs EH ?x<|En _)
 case x=>
  show wpAny _ _ (l2 (.ref ag) 0 >>= _) _ _ n;refine ar (fR c f (x:=.ref E) rfl ?_);show wpAny _ _ (if (ae.ref E==ae.none)=X then _ else _) _ _ n;rw[aN (show ¬ (ae.ref E==ae.none)=X by intro x;cases x)];show wpAny _ _ (l2 (.ref ag) 1 >>= _) _ _ n;refine ar (fR c f (x:=.int a 0) rfl ?_);show wpAny _ _ (m3 (.ref E) >>= _) _ _ n;refine ar (hT g1 j ?_);simp only[kb,i];refine ar (iZ (ar (ny c f ↥0 ?_)));show wpAny _ _ (nk (.type "StopIteration") [] >>= _) _ _ _;apply ar;simp only[nk,sa];refine ar (fu (ar (m:=nt _ _) (qi (a:=ae.none) (by first|rfl|(simp only[nt];rfl)) (fu ?_ (by size_fits)))) (by size_fits));simp only[raiseNew];apply ar;apply vx;rw[show O.in1.handled=Y from h];refine ar (m:=pure _) (aL<|ue ?_);exact r _ _ (((hv ..).extBut.push _).push _) ⟨_,c0 _ rfl,rfl⟩
end
section
variable{Wb:bJ}{D:bl}{O:bD}{U:ae->aq->Prop}{n:aq}
variable{c T:aY}{g:af}
def i2{E:af}{a:Nat}(e:c.IsTupleIter g E a)(o:∀p,c.get? g=Z p->T.get? g=Z p):T.IsTupleIter g E a:=let ⟨p,d,m⟩:=e;⟨p,o p d,m⟩
variable{z:Array ae}
def qf(e:c.IsTuple g z)(o:∀p,c.get? g=Z p->T.get? g=Z p):T.IsTuple g z:=let ⟨p,d,m⟩:=e;⟨p,o p d,m⟩
variable{g f:ae}{WG WO:Nat}{Wm:Array ae}
def NW{x c_ c2 b c o q:af}{e l:ae}{y:ae->aq->Prop}(w:uz x c_ c2 b c o q)(r:jJ n.heap x c_ c2 .none)(as:hc n.heap c_ (.ref b) (.ref c))(a1:hc n.heap c2 g f)(t:n.heap.IsTupleIter b o WG)(C:n.heap.IsTupleIter c q WO)(a2:n.heap.IsTuple o z)(bd:n.heap.IsTuple q Wm)(be:z[WG]?=Z e)(bi:Wm[WO]?=Z l)(bm:∀T,jJ T x c_ c2 (dR n.heap.objs.size)->hc T c2 e l->T.IsTupleIter b o (WG+1)->T.IsTupleIter c q (WO+1)->hc T n.heap.objs.size e l->
   (∀h p,h≠x->h≠c2->h≠b->h≠c->n.heap.get? h=Z p->T.get? h=Z p)->y (.ref n.heap.objs.size) {n with heap:=T}):
  wpAny (aR Wb D) O (a0.«zip.__next__» ⟨[.ref x],[]⟩) (λbn V5=>∃v,bn=.done (.ret v)/\y v V5) U n:=by
 show wpAny _ _ (l2 (.ref x) 2 >>= _) _ _ _;refine ar (fR r rfl (x:=.bool au) rfl ?_);show wpAny _ _ (l2 (.ref x) 3 >>= _) _ _ _;refine ar (fR r rfl (x:=.ref c_) rfl<|ar<|hT as rfl ?_);show wpAny _ _ (a0.SmallTypes.ownedTupleIsFree (.ref x) >>= _) _ _ _;apply ar;unfold a0.SmallTypes.ownedTupleIsFree;refine ar (fR r rfl (x:=.none) rfl<|aL ?_);simp only[gN];refine ar (iZ (ar (fR r rfl (x:=.ref c2) rfl (ar (jC r ↥0 λP G i=>?_)))));replace G:jJ P x c_ c2 .ellipsis:=G;apply ar;simp only[yn,GF,xK,Js];refine ar (ar<|uT ?_);show wpAny _ _ (a0.SmallTypes.nextOf (.ref b) >>= _) _ _ _;refine ar (yg (n:={n with heap:=P}) (i2 t λp d=>i.extBut _ p w.i1z d) (qf a2 λp d=>i.extBut _ p w.l1z d) be λH W5 k=>aL ?_);have WJ:hc H c2 g f:=k.extBut _ _ w.TOi1 (i.extBut _ _ w.TOz a1);refine ar (hT (s:={n with heap:=H}) WJ rfl<|ar<|Bm (s:={n with heap:=H}) WJ λQ I m=>?_);replace I:hc Q c2 e f:=I;refine ar (mC<|aL<|ar<|ar<|uT ?_);show wpAny _ _ (a0.SmallTypes.nextOf (.ref c) >>= _) _ _ _;refine ar (yg (n:={n with heap:=Q}) (i2 C λp d=>m.extBut _ p w.TOi2.symm<|k.extBut _ p w.i12.symm<|i.extBut _ p w.i2z d) (qf bd λp d=>m.extBut _ p w.l2TO<|k.extBut _ p w.l2i1<|i.extBut _ p w.l2z d) bi λJ bs s=>aL ?_);have W6:hc J c2 e f:=s.extBut _ _ w.TOi2 I;refine ar (hT (s:={n with heap:=J}) W6 rfl<|ar<|Bm (s:={n with heap:=J}) W6 λa WQ u=>?_);replace WQ:hc a c2 e l:=WQ;refine ar (mC<|aL<|aL<|ar<|hT (s:={n with heap:=a}) WQ rfl<|ar<|zA ?_);have R:a.objs.size=n.heap.objs.size:=by rw[u.1,s.1,m.1,k.1,i.1]
 have S:jJ a x c_ c2 .ellipsis:=u.extBut _ _ w.TOz.symm (s.extBut _ _ w.i2z.symm<|m.extBut _ _ w.TOz.symm<|k.extBut _ _ w.i1z.symm G);have bv:∀h p,h≠x->h≠c2->h≠b->h≠c->n.heap.get? h=Z p->a.get? h=Z p:=λh p j A L M d=>u.extBut _ _ A (s.extBut _ _ M<|m.extBut _ _ A<|k.extBut _ _ L<|i.extBut _ _ j d);have dd:a.IsTupleIter b o (WG+1):=i2 W5 λp d=>u.extBut _ p w.TOi1.symm (s.extBut _ p w.i12<|m.extBut _ p w.TOi1.symm d);have dn:a.IsTupleIter c q (WO+1):=i2 bs λp d=>u.extBut _ p w.TOi2.symm d;have al:x<a.objs.size:=b4 S;show wpAny _ _ (a0.SmallTypes.ownedTupleHandOut (.ref x) (.ref a.objs.size) >>= _) _ _ _;apply ar;unfold a0.SmallTypes.ownedTupleHandOut;have ca:jJ (a.push {cls:=.type "tuple",data:=.seq #[e,l]}) x c_ c2 .ellipsis:=b0 _ S;refine ar (jC ca ↥0 λcd N am=>?_);replace N:jJ cd x c_ c2 (dR a.objs.size):=N;refine jC N ↥0 λB E an=>?_;replace E:jJ B x c_ c2 (dR a.objs.size):=E;have F:∀h p,h≠x->a.get? h=Z p->B.get? h=Z p:=λh p j d=>an.extBut _ _ j (am.extBut _ _ j<|b0 _ d);have ap:hc B a.objs.size e l:=an.extBut _ _ (hk al) (am.extBut _ _ (hk al)<|c0 _ rfl);rw[R]at E ap;refine aL ⟨_,rfl,?_⟩;show y (.ref a.objs.size) _;rw[R];exact bm B E (F _ _ w.TOz WQ) (i2 dd λp d=>F _ p w.i1z d) (i2 dn λp d=>F _ p w.i2z d) ap λh p j A L M d=>F h p j (bv h p j A L M d)
def Pc{x c_ c2 k l v A:af}{y:PySem.Fin->aq->Prop}(L:O.handled=Y)(w:uz x c_ c2 k l v A)(m:jJ n.heap x c_ c2 .none)(al:hc n.heap c_ (.ref k) (.ref l))(am:hc n.heap c2 g f)(t:n.heap.IsTupleIter k v WG)(C:n.heap.IsTupleIter l A WO)(M:n.heap.IsTuple v z)(an:n.heap.IsTuple A Wm)(ap:z[WG]?=Y\/Wm[WO]?=Y)(N:∀T d,(∀h p,h≠x->h≠c2->h≠k->h≠l->n.heap.get? h=Z p->T.get? h=Z p)->(∃p,T.get? d=Z p/\p.cls=.type "StopIteration")->U (.ref d) {n with heap:=T}):
  wpAny (aR Wb D) O (a0.«zip.__next__» ⟨[.ref x],[]⟩) y U n:=by
 show wpAny _ _ (l2 (.ref x) 2 >>= _) _ _ _;refine ar (fR m rfl (x:=.bool au) rfl ?_);show wpAny _ _ (l2 (.ref x) 3 >>= _) _ _ _;refine ar (fR m rfl (x:=.ref c_) rfl<|ar<|hT al rfl ?_);show wpAny _ _ (a0.SmallTypes.ownedTupleIsFree (.ref x) >>= _) _ _ _;apply ar;unfold a0.SmallTypes.ownedTupleIsFree;refine ar (fR m rfl (x:=.none) rfl<|aL ?_);simp only[gN];refine ar (iZ (ar (fR m rfl (x:=.ref c2) rfl (ar (jC m ↥0 λB u a=>?_)))));replace u:jJ B x c_ c2 .ellipsis:=u;apply ar;simp only[yn,GF,xK,Js];refine ar (ar<|uT ?_);show wpAny _ _ (a0.SmallTypes.nextOf (.ref k) >>= _) _ _ _;cases E:z[WG]? with
 |none=>
  refine ar (JV (n:={n with heap:=B}) L (i2 t λp d=>a.extBut _ p w.i1z d) (qf M λp d=>a.extBut _ p w.l1z d) E λo d b F=>?_);let⟨@G,i,q⟩:=F;have P:jJ o x c_ c2 .ellipsis:=b _ _ w.i1z.symm u;have H:d≠x:=λr=>by subst r;rw[P]at i;cases i;simp at q
  refine jC P ↥0 λI W j=>N I d (λh p s W J W r=>j.extBut _ _ s<|b _ _ J<|a.extBut _ _ s r) ⟨G,j.extBut _ _ H i,q⟩
 |some e=>
  have as:Wm[WO]?=Y:=by
   rcases ap with c|c
   ·rw[E]at c;cases c
   ·exact c
  refine ar (yg (n:={n with heap:=B}) (i2 t λp d=>a.extBut _ p w.i1z d) (qf M λp d=>a.extBut _ p w.l1z d) E λo W5 b=>aL ?_);have WJ:hc o c2 g f:=b.extBut _ _ w.TOi1 (a.extBut _ _ w.TOz am);refine ar (hT (s:={n with heap:=o}) WJ rfl<|ar<|Bm (s:={n with heap:=o}) WJ λI bi j=>?_);refine ar (mC<|aL<|ar<|ar<|uT ?_);show wpAny _ _ (a0.SmallTypes.nextOf (.ref l) >>= _) _ _ _;refine ar (JV (n:={n with heap:=I}) L (i2 C λp d=>j.extBut _ p w.TOi2.symm<|b.extBut _ p w.i12.symm<|a.extBut _ p w.i2z d) (qf an λp d=>j.extBut _ p w.l2TO<|b.extBut _ p w.l2i1<|a.extBut _ p w.l2z d) as λa1 d Q F=>?_);let⟨@G,i,q⟩:=F;have R:jJ a1 x c_ c2 .ellipsis:=Q _ _ w.i2z.symm (j.extBut _ _ w.TOz.symm<|b.extBut _ _ w.i1z.symm u);have H:d≠x:=λr=>by subst r;rw[R]at i;cases i;simp at q
  refine jC R ↥0 λa2 W S=>N a2 d (λh p s bd J be r=>S.extBut _ _ s<|Q _ _ be<|j.extBut _ _ bd<|b.extBut _ _ J<|a.extBut _ _ s r) ⟨G,S.extBut _ _ H i,q⟩
end
variable{n:aq}{WV:bZ}{WD W8 WH:List Nat}{own Wj:List aI}{Xa WC h d f g:bu}{Xw:List cA}{U:oq}{N:cA}{Xy B:bg}{fd:gT}{e:aI}{u Xu:Nat}{V4 z:List ao}{J:List V}{aO W7 O V3 Wz Wo WL V7 P:List af}{y:cH}{m Q:List bu}{WE:er}{b:aQ}{Ws Wc V1 j:aC}{v:ao}{s Wk:Pos}{V2:Φ}
def kh(c:aY)(a b:af):aY:=(((((c.push {cls:=.type "tuple_iterator",data:=.fields #[.ref a,.int 0 0]}).push {cls:=.type "tuple_iterator",data:=.fields #[.ref b,.int 0 0]}).push
 {cls:=.type "tuple",data:=.seq #[.ref c.objs.size,.ref (c.push {cls:=.type "tuple_iterator",data:=.fields #[.ref a,.int 0 0]}).objs.size]}).push {cls:=.type "tuple",data:=.seq #[.none,.none]}))
def Ol(a b:af)(z Wm:Array ae):
    Meets (a0.«zip.__new__» ⟨[.type "zip", .ref a,.ref b],[]⟩) (λ_ V3 n => n.heap.IsTuple a z /\ n.heap.IsTuple b Wm /\
      V3 (.ok<|.ret<|.ref (kh n.heap a b).objs.size) {n with heap:=(kh n.heap a b).push {cls:=.type "zip", data:=.fields #[.none,.bool au,.bool au,.ref ((n.heap.push {cls:=.type "tuple_iterator", data:=.fields #[.ref a,.int 0 0]}).push {cls:=.type "tuple_iterator", data:=.fields #[.ref b,.int 0 0]}).objs.size,
        .ref (((n.heap.push {cls:=.type "tuple_iterator", data:=.fields #[.ref a,.int 0 0]}).push {cls:=.type "tuple_iterator", data:=.fields #[.ref b,.int 0 0]}).push
  {cls:=.type "tuple", data:=.seq #[.ref n.heap.objs.size,.ref (n.heap.push {cls:=.type "tuple_iterator", data:=.fields #[.ref a,.int 0 0]}).objs.size]}).objs.size]} }) :=
  .of_wp λWb D O V3 n c => by
    let⟨e,F,q,WK,Wn⟩:=n;let@⟨f,g,c⟩:=c;have j:=sub_zip;have h:aY.IsTuple (aq.heap ⟨e,F,q,WK,Wn⟩) a z:=f;have i:aY.IsTuple (aq.heap ⟨e.push {cls:=.type "tuple_iterator", data:=.fields #[.ref a,.int 0 0]}, F,q,WK,Wn⟩) b Wm:=qf g λp d => b0 _ d
    wp_walk using wpAny_pyIter_tuple h,wpAny_pyIter_tuple i
    exact ⟨_,rfl,c⟩
def t2(V2:Φ)(g f:af):iz:=(
 ⟨λa j=>∃z Wm e l,cz V2 j g z/\cz V2 j f Wm/\z[a]?=Z e/\Wm[a]?=Z l,
  λa j v V1=>∃V6 e l,j V6=Y/\v=.ref V6/\V1=upd j V6 (.tup [e,l])/\(∀z,cz V2 j g z->z[a]?=Z e)/\(∀Wm,cz V2 j f Wm->Wm[a]?=Z l),
  λa j=>∃z Wm,cz V2 j g z/\cz V2 j f Wm/\(z.length<=a\/Wm.length<=a)⟩)
def Cx(g f x c_ c2 b d:af)(a:Nat)(c:aY):Prop:=(jJ c x c_ c2 .none/\hc c c_ (.ref b) (.ref d)/\(∃s r,hc c c2 s r)/\c.IsTupleIter b g a/\c.IsTupleIter d f a)
theorem Kg{Wd:bJ}{D:bl}(g f x c_ c2 q u:af)(w:uz x c_ c2 q u g f):
  oG Wd D V2 (.Tuple Q Xu Wk) (t2 V2 g f) [x,c_,c2,q,u] x (Cx g f x c_ c2 q u) where
 mem:=by simp
 obj:=λa c N h i=>by
  let@⟨t,C,⟨s,@r,k⟩,⟨@W6,S,_,bs⟩,⟨@WQ,al,_,bv⟩⟩:=N;simp only[b8,qx,m6]at i;rcases i with rfl|rfl|rfl|rfl|rfl
  ·exact⟨_,t,λv d=>by cases d⟩
  ·exact⟨_,C,λv d=>by cases d⟩
  ·exact⟨_,k,λv d=>by cases d⟩
  ·exact⟨_,S,λv d=>by rw[bs]at d;cases d⟩
  ·exact⟨_,al,λv d=>by rw[bv]at d;cases d⟩
 keep:=λa c T N o=>by
  let@⟨t,C,⟨s,@r,k⟩,E,F⟩:=N;exact⟨o x ↥0 _ t,o c_ ↥0 _ C,⟨s,r,o c2 ↥0 _ k⟩,i2 E λp d=>o q ↥0 p d,i2 F λp d=>o u ↥0 p d⟩
 item:=by
  intro b am an ap i a G n B j U A J N as;subst am an ap;let⟨z,Wm,e,@l,M,P,be,bi⟩:=as;let⟨@Wg,a1,s,H⟩:=A.tuple M;let⟨@a2,bd,W2,ca⟩:=A.tuple P;let⟨@L,cd,ce⟩:=a1.get be;let⟨@bm,ch,ci⟩:=bd.get bi;have cl:=N;let@⟨t,C,⟨bX,@j8,k⟩,E,F⟩:=N;have I:n.TypeIs (.ref x) "zip" := ⟨_,t,rfl⟩;unfold fg;refine ar (mV (kl (name:=aI.ofString "__next__") I wb (gd wb I IX
   (NW (y:=λv V5=>wpAny (aR b.prog b.w) b.A (pure<|Z v) (λm co=>∃L,m=Z L/\wpAny (aR b.prog b.w) b.A (sD (.Tuple Q Xu Wk) (.ref x) L) (λ_ bn=>∃e V1,aK b G B V1 bn/\b5 e L/\(t2 b.K g f).rz a j e V1/\Cx g f x c_ c2 q u (a+1) bn.heap/\∀f∈[x,c_,c2,q,u],V1 f=Y) U co) U V5)
    w t C k E F (show n.heap.IsTuple g Wg.toArray from s) (show n.heap.IsTuple f a2.toArray from W2) (e:=L) (l:=bm) ⇑cd ⇑ch λT cr cs db ds dL R=>aL ⟨_,rfl,?_⟩) (JN _))));refine wpAny_letOwnedTupleGo_zip cr λeq ev cu=>?_;have lt:∀h∈[x,c_,c2,q,u],h<n.heap.objs.size:=λh i=>by
   let@⟨t,C,⟨s,@r,k⟩,⟨@W6,S,_⟩,⟨@WQ,al,_⟩⟩:=cl;simp only[b8,qx,m6]at i;rcases i with rfl|rfl|rfl|rfl|rfl
   ·exact b4 t
   ·exact b4 C
   ·exact b4 k
   ·exact b4 S
   ·exact b4 al
  have d6:∀h p,h∉[x,c_,c2,q,u]->n.heap.get? h=Z p->eq.get? h=Z p:=λh p i d=>by
   simp only[b8,qx,m6,not_or]at i;exact cu.extBut _ _ i.1 (R h p i.1 i.2.2.1 i.2.2.2.1 i.2.2.2.2 d)
  have ex:n.heap.objs.size≠x:=hk (lt x ↥0);have fd:j n.heap.objs.size=Y:=A.a5.fresh (bh _);refine⟨.ref n.heap.objs.size,upd j n.heap.objs.size<|.tup [e,l],A.B1 (WE:=n.toks) J d6 (bh _) ⟨by show 2<=sizeLine;decide,[L,bm],.cons ce<|.cons ci .nil,?_⟩,rfl,⟨_,e,l,fd,rfl,rfl,λW4 H=>?_,λW4 H=>?_⟩,?_,λh i=>?_⟩
  ·exact⟨_,cu.extBut _ _ ex dL,rfl,0,rfl⟩
  ·rw[A.ye H M];exact be
  ·rw[A.ye H P];exact bi
  ·exact⟨ev,cu.extBut _ _ w.TIz<|R _ _ w.TIz w.TITO w.TIi1 w.TIi2 C,⟨_,_,cu.extBut _ _ w.TOz cs⟩,i2 db λp d=>cu.extBut _ p w.i1z d,i2 ds λp d=>cu.extBut _ p w.i2z d⟩
  ·rw[dq (dg<|lt h i)];exact (J h i).1
 done:=by
  intro b am an ap i a G n B j U A J N as;subst am an ap;let⟨z,@Wm,M,P,fn⟩:=as;let⟨@Wg,a1,s,H⟩:=A.tuple M;let⟨@a2,bd,W2,ca⟩:=A.tuple P;let@⟨t,C,⟨bX,@j8,k⟩,E,F⟩:=N;have I:n.TypeIs (.ref x) "zip" := ⟨_,t,rfl⟩;have f1:=a1.length;have f2:=bd.length;unfold fg;refine ar (mV (kl (name:=aI.ofString "__next__") I wb (gd wb I IX
   (Pc (A.ok.hd i) w t C k E F (show n.heap.IsTuple g Wg.toArray from s) (show n.heap.IsTuple f a2.toArray from W2) (by
    rcases fn with c|c
    ·exact .inl (by simp;lia)
    ·exact .inr (by simp;lia)) λT d R ⟨p,fr,f0⟩=>?_) (JN _))))
  refine ar (pd (T := "StopIteration") (b:=X) ⟨p,fr,f0⟩ uv<|aL ⟨rfl,A.GA (WE:=n.toks) J λh p i d=>?_⟩);simp only[b8,qx,m6,not_or]at i;exact R h p i.1 i.2.2.1 i.2.2.2.1 i.2.2.2.2 d
 self:=λ_ W W W W N c=>JP N.1 c
section
variable{b:aQ}
def Mk(V2:Φ)(WZ:eZ):c_:=(λB j V3=>WZ B j λV4 Wc=>∃g f,V4=[.ref g,.ref f]/\(∃z,cz V2 Wc g z)/\(∃Wm,cz V2 Wc f Wm)/\V3 (t2 V2 g f) Wc)
def Kc{WZ:eZ}{Wj:Pos}(I:fc b "zip")(J:b.aJ "zip" = Y)(L:hR b [g,f] WZ)(av:bV [g,f] b.env=[(au,cb g b.env),(au,cb f b.env)]:=by rfl)(u:bV [f] b.env=[(au,cb f b.env)]:=by rfl):
  jX b (.Tuple Q Xu Wj) (.Call (.Name "zip" s) [g,f] [] Wk) (Mk b.K WZ):=by
 intro G n B j V3 A c;refine Call_ (nJ A I J boot_zip (vP (bU (L Wk G n B j _ A c) λWl a ⟨V4,Wc,k,M,N⟩=>?_) (by rw[av,u]) (by rw[u];rfl)));let⟨e,@i,d,⟨@z,O⟩,⟨@Wm,R⟩,r⟩:=N;subst d;cases M with
 |cons m q=>
  cases q with
  |cons WV q=>
   cases q;cases m;cases WV;let⟨@Wg,am,s,an⟩:=k.tuple O;let⟨@S,ap,W2,as⟩:=k.tuple R;have T:e<a.heap.objs.size:=by let⟨@p,d,P⟩:=s;exact b4 d
   have U:i<a.heap.objs.size:=by let⟨@p,d,P⟩:=W2;exact b4 d
   refine callType_new F.called_zip ∅ (F.typeCall_zip_2 _ _) (F.newCall_zip_2 _ _) (λal=>F.args_object_init_3 al _ _) F.entry_zip_new (Ol e i Wg.toArray S.toArray) ⟨s,W2,?_⟩;have t:(a.heap.push {cls:=.type "tuple_iterator",data:=.fields #[.ref e,.int 0 0]}).objs.size=a.heap.objs.size+1:=gZ ..;have l:((a.heap.push {cls:=.type "tuple_iterator",data:=.fields #[.ref e,.int 0 0]}).push {cls:=.type "tuple_iterator",data:=.fields #[.ref i,.int 0 0]}).objs.size=a.heap.objs.size+2:=by rw[gZ,t]
   have o:(((a.heap.push {cls:=.type "tuple_iterator",data:=.fields #[.ref e,.int 0 0]}).push {cls:=.type "tuple_iterator",data:=.fields #[.ref i,.int 0 0]}).push
    {cls:=.type "tuple",data:=.seq #[.ref a.heap.objs.size,.ref (a.heap.push {cls:=.type "tuple_iterator",data:=.fields #[.ref e,.int 0 0]}).objs.size]}).objs.size=a.heap.objs.size+3:=by rw[gZ,l]
   have v:(kh a.heap e i).objs.size=a.heap.objs.size+4:=by unfold kh;rw[gZ,o]
   show _/\_;refine⟨⟨_,c0 _ rfl,rfl⟩,JP (TI:=a.heap.objs.size+2) (TO:=a.heap.objs.size+3) (f0:=.none) ?_ ?_⟩
   ·rw[l,o];exact c0 _ rfl
   ·rw[l,o,v];have x:((kh a.heap e i).push {cls:=.type "zip",data:=.fields #[.none,.bool au,.bool au,.ref<|a.heap.objs.size+2,.ref<|a.heap.objs.size+3]}).get? (a.heap.objs.size+4)=Z {cls:=.type "zip",data:=.fields #[.none,.bool au,.bool au,.ref<|a.heap.objs.size+2,.ref<|a.heap.objs.size+3]}:=by rw[<-v];exact c0 _ rfl
    have y:((kh a.heap e i).push {cls:=.type "zip",data:=.fields #[.none,.bool au,.bool au,.ref<|a.heap.objs.size+2,.ref<|a.heap.objs.size+3]}).get? (a.heap.objs.size+3)=Z {cls:=.type "tuple",data:=.seq #[.none,.none]}:=by
     rw[<-o];exact b0 _ (c0 _ rfl)
    have C:((kh a.heap e i).push {cls:=.type "zip",data:=.fields #[.none,.bool au,.bool au,.ref<|a.heap.objs.size+2,.ref<|a.heap.objs.size+3]}).get? (a.heap.objs.size+2)=Z {cls:=.type "tuple",data:=.seq #[.ref a.heap.objs.size,.ref<|a.heap.objs.size+1]}:=by
     rw[<-l,<-t];exact b0 _ (b0 _<|c0 _ rfl)
    have D:((kh a.heap e i).push {cls:=.type "zip",data:=.fields #[.none,.bool au,.bool au,.ref<|a.heap.objs.size+2,.ref<|a.heap.objs.size+3]}).get? (a.heap.objs.size+1)=Z {cls:=.type "tuple_iterator",data:=.fields #[.ref i,.int 0 0]}:=by
     rw[<-t];exact b0 _ (b0 _<|b0 _<|c0 _ rfl)
    have E:((kh a.heap e i).push {cls:=.type "zip",data:=.fields #[.none,.bool au,.bool au,.ref<|a.heap.objs.size+2,.ref<|a.heap.objs.size+3]}).get? a.heap.objs.size=Z {cls:=.type "tuple_iterator",data:=.fields #[.ref e,.int 0 0]}:=
     b0 _ (b0 _<|b0 _<|b0 _<|c0 _ rfl);have d6:∀h p,a.heap.get? h=Z p->((kh a.heap e i).push {cls:=.type "zip",data:=.fields #[.none,.bool au,.bool au,.ref<|a.heap.objs.size+2,.ref<|a.heap.objs.size+3]}).get? h=Z p:=λh p d=>
     b0 _ (b0 _<|b0 _<|b0 _<|b0 _ d);generalize ((kh a.heap e i).push {cls:=.type "zip",data:=.fields #[.none,.bool au,.bool au,.ref<|a.heap.objs.size+2,.ref<|a.heap.objs.size+3]})=a1 at E D C y x d6 ⊢;have w:uz (a.heap.objs.size+4) (a.heap.objs.size+2) (a.heap.objs.size+3) a.heap.objs.size (a.heap.objs.size+1) e i:=PySem.W.ktu_apart _ _ _ T U;refine⟨_,_,_,_,Wc,rfl,k.kept (WE:=a.toks) d6,Kg e i _ _ _ _ _ w,⟨x,C,⟨_,_,y⟩,⟨_,E,rfl,rfl⟩,⟨_,D,rfl,rfl⟩⟩,λh H=>?_,r⟩;have:a.heap.objs.size<=h:=by
     simp only[b8,qx,m6]at H;rcases H with rfl|rfl|rfl|rfl|rfl
     ·exact nf _ _
     ·exact nf _ _
     ·exact nf _ _
     ·exact bh _
     ·exact nf _ _
    exact k.pW this (k.a5.fresh this)
end
def H5(V2:Φ)(j:aC)(e:ao)(V6:String)(f:Bool):Prop:=(
 (∃a,e=.int a/\((V6 = "int" /\ f=X)\/(V6 = "tuple" /\ f=au)\/(V6 = "str" /\ f=au)\/(V6 = "bool" /\ f=au)\/(V6 = "list" /\ f=au)))\/
 (∃a,e=.aB a/\((V6 = "bool" /\ f=X)\/(V6 = "int" /\ f=X)\/(V6 = "tuple" /\ f=au)\/(V6 = "str" /\ f=au)\/(V6 = "list" /\ f=au)))\/
 (∃a,e=.str a/\((V6 = "str" /\ f=X)\/(V6 = "int" /\ f=au)\/(V6 = "tuple" /\ f=au)\/(V6 = "bool" /\ f=au)\/(V6 = "list" /\ f=au)))\/
 (∃g z,e=.ref g/\cz V2 j g z/\((V6 = "tuple" /\ f=X)\/(V6 = "int" /\ f=au)\/(V6 = "str" /\ f=au)\/(V6 = "bool" /\ f=au)\/(V6 = "list" /\ f=au)))\/
 (∃g z,e=.ref g/\dE V2 j g z/\((V6 = "list" /\ f=X)\/(V6 = "int" /\ f=au)\/(V6 = "str" /\ f=au)\/(V6 = "bool" /\ f=au)\/(V6 = "tuple" /\ f=au))))
section
variable{b:aQ}
def O7:eO b (.builtin "isinstance") (λz j y=>∃e V6 f,z=[e,.ty V6]/\H5 b.K j e V6 f/\y (.aB f) j):=by
 intro G n B j z Wl y A m c;let⟨e,V6,@f,rfl,V0,r⟩:=c;cases m with
 |cons m k=>
  cases k with
  |cons WV k=>
   cases k;cases WV;have Xj:∀{f:Bool},y (.aB f) j->en b G B y (.bool f) n:=λ{f} r=>⟨.aB f,j,A,rfl,r⟩;have d:∀{f:Bool},y (.aB f) j->en b G B y (.bool f) {n with toks:=n.toks+1}:=λ{f} r=>⟨.aB f,j,A.tok _,rfl,r⟩;rcases V0 with ⟨a,rfl,V0⟩|⟨a,rfl,V0⟩|⟨a,rfl,V0⟩|⟨g,z,rfl,av,V0⟩|⟨g,z,rfl,av,V0⟩
   ·let⟨@E,rfl⟩:=m;rcases V0 with ⟨rfl,rfl⟩|⟨rfl,rfl⟩|⟨rfl,rfl⟩|⟨rfl,rfl⟩|⟨rfl,rfl⟩
    ·exact IsiPair.int_int (Xj r)
    ·exact IsiPair.int_tuple (d r)
    ·exact IsiPair.int_str (d r)
    ·exact IsiPair.int_bool (d r)
    ·exact IsiPair.int_list (d r)
   ·cases m;rcases V0 with ⟨rfl,rfl⟩|⟨rfl,rfl⟩|⟨rfl,rfl⟩|⟨rfl,rfl⟩|⟨rfl,rfl⟩
    ·exact IsiPair.bool_bool (Xj r)
    ·exact IsiPair.bool_int (Xj r)
    ·exact IsiPair.bool_tuple (d r)
    ·exact IsiPair.bool_str (d r)
    ·exact IsiPair.bool_list (d r)
   ·let⟨@E,rfl⟩:=m;rcases V0 with ⟨rfl,rfl⟩|⟨rfl,rfl⟩|⟨rfl,rfl⟩|⟨rfl,rfl⟩|⟨rfl,rfl⟩
    ·exact IsiPair.str_str (Xj r)
    ·exact IsiPair.str_int (d r)
    ·exact IsiPair.str_tuple (d r)
    ·exact IsiPair.str_bool (d r)
    ·exact IsiPair.str_list (d r)
   ·cases m;let⟨@Wg,l,⟨@p,h,i,W⟩,o⟩:=A.tuple av;rcases V0 with ⟨rfl,rfl⟩|⟨rfl,rfl⟩|⟨rfl,rfl⟩|⟨rfl,rfl⟩|⟨rfl,rfl⟩
    ·exact IsiPair.tuple_tuple h i (Xj r)
    ·exact IsiPair.tuple_int h i (d r)
    ·exact IsiPair.tuple_str h i (d r)
    ·exact IsiPair.tuple_bool h i (d r)
    ·exact IsiPair.tuple_list h i (d r)
   ·cases m;let⟨@Wg,l,s,o⟩:=A.list av;let⟨@p,h,i,W⟩:=s.isList;rcases V0 with ⟨rfl,rfl⟩|⟨rfl,rfl⟩|⟨rfl,rfl⟩|⟨rfl,rfl⟩|⟨rfl,rfl⟩
    ·exact IsiPair.list_list h i (Xj r)
    ·exact IsiPair.list_int h i (d r)
    ·exact IsiPair.list_str h i (d r)
    ·exact IsiPair.list_bool h i (d r)
    ·exact IsiPair.list_tuple h i (d r)
def Pg:∀{Wy:List Bool}{Wl:List ae},bY (Wy.map ao.aB) Wl->∀(a:Nat) (v:ae),Wl[a]?=Z v->∃f,Wy[a]?=Z f/\v=ae.bool f:=by
 intro Wy Wl m a v c;have b:=m.length;rw[ba]at b;have V0:a<Wy.length:=by rw[b];exact (fs.mp c).1
 let⟨@L,d,g⟩:=m.get (a:=a) (e:=ao.aB Wy[a]) (by simp[V0]);rw[c]at d;cases d;exact⟨Wy[a],by simp[V0],g⟩
def K4(i:b.calm=X):eO b (.builtin "all") (λz j y=>∃H Wy,z=[.ref H]/\j H=Z (.lst<|List.map ao.aB Wy)/\y (.aB<|Wy.all id) j):=by
 intro G n B j z Wl y A m c;let⟨H,@Wy,rfl,k,r⟩:=c;let⟨@L,rfl,l⟩:=ix m;cases l;let@⟨x,⟨Wg,@u,e,d⟩⟩:=A.a5 H _ k;have g:n.heap.IsList H Wg.toArray:=⟨_,d,rfl,u,rfl⟩;refine call_all_walk (tF g ⟨n.heap.objs.size,[n.heap.objs.size,H],[n.heap.objs.size],Wg.toArray.size,_,_,λa=>(Wy[a]?).getD X,rfl,jy.list (A:=b.A.in1) (A.ok.hd i) _ H (dg<|b4 d) Wg.toArray,
  ⟨⟨_,c0 _ rfl,rfl,rfl⟩,g.push _⟩,λa v V5 t w o h=>?_,λT WK p=>?_⟩)
 ·let⟨@f,q,rfl⟩:=Pg e a v ⇑o;simp only[q,xw]at h;exact mX h
 ·have s:Wg.toArray.size=Wy.length:=by
   have:=e.length;rw[ba]at this;rw[cR,this]
  rw[s,LSm.range_all];exact⟨.aB _,j,A.kept<|yt p,rfl,r⟩
def Oe:dU b (gh .Mult) (p6 IntMulOk λa i=>.int<|a*i):=uG λ_ W W W W W W c r=>mul_int r c
end
inductive ak where
 | im (q:V)
 | cO
 | dY (J:List V)
 | lst (J:List V)
 | dw (Wf:List (eG×V))
 | aF (Wf:List (List V×V))
 | jf (z:List ak)
 | ez (z:List ak)
 | fp (Wf:List (List V×V))
variable{WR:List ak->Option ak}{I:ak->ak->Option ak}{p:Option ak}{q:ak}
abbrev bb:=List (Option ak)
variable{R w:bb}{c:List ak->bb->Option bb}
abbrev ep{Wu:Type}(j:aC):List (Wu×V)->List (Wu×ao)->Prop:=ea λs r=>s.1=r.1/\cC j s.2 r.2
def ep.mono{Wu:Type}{H:List (Wu×V)}{k:List (Wu×ao)}(E:p9 j V1)(c:ep j H k):ep V1 H k:=ea.u4 c λ_ W x=>⟨x.1,x.2.mono E⟩
structure fU(j V1:aC):Prop where
 tup:p9 j V1
 cU:∀g p L,j g=Z (.cU p L)->V1 g=Z (.cU p L)
mutual
def cv(j:aC):ak->ao->List af->Prop
 |.im q,v,P=>cC j q v/\P=[]
 |.cO,_,P=>P=[]
 |.dY J,v,P=>∃g z p,v=.ref g/\j g=Z (.cU p<|.lst z)/\bM j J z/\P=[]
 |.lst J,v,P=>∃g z,v=.ref g/\j g=Z (.lst z)/\bM j J z/\P=[g]
 |.dw Wf,v,P=>∃g i,v=.ref g/\j g=Z (.dw i)/\ep j Wf i/\P=[g]
 |.aF Wf,v,P=>∃g i,v=.ref g/\j g=Z (.aF i)/\ep j Wf i/\P=[g]
 |.jf J,v,P=>∃g z V7,v=.ref g/\j g=Z (.lst z)/\d1 j J z V7/\P=g::V7
 |.ez J,v,P=>∃g z,v=.ref g/\j g=Z (.tup z)/\d1 j J z P
 |.fp Wf,v,P=>∃g i p,v=.ref g/\j g=Z (.cU p<|.aF i)/\ep j Wf i/\P=[]
def d1(j:aC):List ak->List ao->List af->Prop
 |[],V4,P=>V4=[]/\P=[]
 |q::J,V4,P=>∃v m Wo Wz,V4=v::m/\cv j q v Wo/\d1 j J m Wz/\P=Wo++Wz
end
mutual
theorem cv.mono{j V1:aC}(E:fU j V1):∀{q:ak}{v:ao}{P:List af},cv j q v P->(∀g∈P,∀p,j g=Z p->V1 g=Z p)->cv V1 q v P
 |.im q,v,P,c,_=>⟨c.1.mono E.tup,c.2⟩
 |.cO,v,P,c,_=>c
 |.dY J,v,P,c,_=>by
  let⟨g,z,@p,rfl,t,C,rfl⟩:=c;exact⟨g,z,p,rfl,E.cU _ _ _ t,C.mono E.tup,rfl⟩
 |.lst J,v,P,c,o=>by
  let⟨g,@z,rfl,t,C,rfl⟩:=c;exact⟨g,z,rfl,o g (.head _) _ t,C.mono E.tup,rfl⟩
 |.dw Wf,v,P,c,o=>by
  let⟨g,@z,rfl,t,C,rfl⟩:=c;exact⟨g,z,rfl,o g (.head _) _ t,C.mono E.tup,rfl⟩
 |.aF Wf,v,P,c,o=>by
  let⟨g,@z,rfl,t,C,rfl⟩:=c;exact⟨g,z,rfl,o g (.head _) _ t,C.mono E.tup,rfl⟩
 |.jf J,v,P,c,o=>by
  let⟨g,z,@V7,rfl,t,C,rfl⟩:=c;exact⟨g,z,V7,rfl,o g (.head _) _ t,d1.mono E C λf a=>o f<|.tail _ a,rfl⟩
 |.ez J,v,P,c,o=>by
  let⟨g,@z,rfl,t,C⟩:=c;exact⟨g,z,rfl,E.tup g z t,d1.mono E C o⟩
 |.fp Wf,v,P,c,_=>by
  let⟨g,z,@p,rfl,t,C,rfl⟩:=c;exact⟨g,z,p,rfl,E.cU _ _ _ t,C.mono E.tup,rfl⟩
theorem d1.mono{j V1:aC}(E:fU j V1):∀{J:List ak}{V4:List ao}{P:List af},d1 j J V4 P->(∀g∈P,∀p,j g=Z p->V1 g=Z p)->d1 V1 J V4 P
 |[],V4,P,c,_=>c
 |q::J,V4,P,c,o=>by
  let⟨v,m,Wo,@Wz,rfl,t,C,rfl⟩:=c;exact⟨v,m,Wo,Wz,rfl,cv.mono E t λg a=>o g<|gz _ a,d1.mono E C λg a=>o g<|eW _ a,rfl⟩
end
def gY(j:aC)(g:af):Prop:=(∃p,j g=Z p/\(∀z,p≠.tup z)/\∀s L,p≠.cU s L)
mutual
theorem cv.chg{j:aC}:∀{q:ak}{v:ao}{P:List af},cv j q v P->∀g∈P,gY j g
 |.im q,v,P,c,g,b=>by rw[c.2]at b;cases b
 |.cO,v,P,c,g,b=>by rw[show P=[] from c]at b;cases b
 |.dY J,v,P,c,f,a=>by
  let⟨g,z,@p,rfl,t,C,rfl⟩:=c;cases a
 |.lst J,v,P,c,f,a=>by
  let⟨g,@z,rfl,t,C,rfl⟩:=c;rw[cP.mp a];exact⟨_,t,(λ_ d=>by cases d),(λ_ W d=>by cases d)⟩
 |.dw Wf,v,P,c,f,a=>by
  let⟨g,@z,rfl,t,C,rfl⟩:=c;rw[cP.mp a];exact⟨_,t,(λ_ d=>by cases d),(λ_ W d=>by cases d)⟩
 |.aF Wf,v,P,c,f,a=>by
  let⟨g,@z,rfl,t,C,rfl⟩:=c;rw[cP.mp a];exact⟨_,t,(λ_ d=>by cases d),(λ_ W d=>by cases d)⟩
 |.jf J,v,P,c,f,a=>by
  let⟨g,z,@V7,rfl,t,C,rfl⟩:=c;rcases b8.mp a with rfl|a
  ·exact⟨_,t,(λ_ d=>by cases d),(λ_ W d=>by cases d)⟩
  ·exact d1.chg C f a
 |.ez J,v,P,c,f,a=>by
  let⟨g,@z,rfl,t,C⟩:=c;exact d1.chg C f a
 |.fp Wf,v,P,c,f,a=>by
  let⟨g,z,@p,rfl,t,C,rfl⟩:=c;cases a
theorem d1.chg{j:aC}:∀{J:List ak}{V4:List ao}{P:List af},d1 j J V4 P->∀g∈P,gY j g
 |[],V4,P,c,g,a=>by rw[c.2]at a;cases a
 |q::J,V4,P,c,g,a=>by
  let⟨v,m,Wo,@Wz,rfl,t,C,rfl⟩:=c;rcases c5.mp a with a|a
  ·exact cv.chg t g a
  ·exact d1.chg C g a
end
theorem d1.length:∀{J:List ak}{V4:List ao}{P:List af},d1 j J V4 P->J.length=V4.length
 |[],V4,P,c=>by rw[c.1];rfl
 |q::J,V4,P,c=>by
  let⟨v,m,Wo,@Wz,rfl,t,C,rfl⟩:=c;rw[dj,dj,C.length]
theorem bM.length:∀{J:List V}{V4:List ao},bM j J V4->J.length=V4.length
 |[],V4,c=>by rw[show V4=[] from c];rfl
 |q::J,V4,c=>by
  let⟨v,@m,rfl,t,C⟩:=c;rw[dj,dj,C.length]
def mK(j:aC):Option ak->Option ao->List af->Prop
 |none,_,P=>P=[]
 |some q,e,P=>∃v,e=Z v/\cv j q v P
def bE(j:aC):bb->bg->List af->Prop
 |[],B,P=>B=[]/\P=[]
 |p::w,B,P=>∃e m Wo Wz,B=e::m/\mK j p e Wo/\bE j w m Wz/\P=Wo++Wz
structure bt(j:aC)(P:List af)(V1:aC)(WL:List af):Prop where
 keep:∀g p,j g=Z p->g∉P->V1 g=Z p
 sub:∀g∈WL,g∈P\/j g=Y
 ah:WL.Nodup
 tup:fU j V1
 grow:∀g p,j g=Z p->∃WN,V1 g=Z WN
theorem mK.mono(E:fU j V1):∀{p:Option ak}{e:Option ao}{P:List af},mK j p e P->(∀g∈P,∀p,j g=Z p->V1 g=Z p)->mK V1 p e P
 |none,_,_,c,_=>c
 |some q,e,P,c,o=>by
  let⟨@v,rfl,c⟩:=c;exact⟨v,rfl,c.mono E o⟩
theorem bE.mono{j V1:aC}(E:fU j V1):∀{w:bb}{B:bg}{P:List af},bE j w B P->(∀g∈P,∀p,j g=Z p->V1 g=Z p)->bE V1 w B P
 |[],B,P,c,_=>c
 |p::w,B,P,c,o=>by
  let⟨e,m,Wo,@Wz,rfl,t,C,rfl⟩:=c;exact⟨e,m,Wo,Wz,rfl,t.mono E λg a=>o g<|gz _ a,bE.mono E C λg a=>o g<|eW _ a,rfl⟩
theorem mK.chg:∀{p:Option ak}{e:Option ao}{P:List af},mK j p e P->∀g∈P,gY j g
 |none,_,P,c,g,a=>by rw[show P=[] from c]at a;cases a
 |some q,e,P,c,g,a=>by
  let⟨@v,rfl,c⟩:=c;exact c.chg g a
theorem bE.chg{j:aC}:∀{w:bb}{B:bg}{P:List af},bE j w B P->∀g∈P,gY j g
 |[],B,P,c,g,a=>by rw[c.2]at a;cases a
 |p::w,B,P,c,g,a=>by
  let⟨e,m,Wo,@Wz,rfl,t,C,rfl⟩:=c;rcases c5.mp a with a|a
  ·exact t.chg g a
  ·exact bE.chg C g a
theorem bE.len{j:aC}:∀{w:bb}{B:bg}{P:List af},bE j w B P->w.length=B.length
 |[],B,P,c=>by rw[c.1];rfl
 |p::w,B,P,c=>by
  let⟨e,m,Wo,@Wz,rfl,t,C,rfl⟩:=c;rw[dj,dj,bE.len C]
def ak.cY:ak->Bool
 |.im _=>X
 |.dY _=>X
 |.fp _=>X
 |_=>au
def cv.cY(c:cv j q v P)(h:q.cY=X):P=[]:=by
 cases q with
 |im q=>exact c.2
 |dY J=>let⟨g,z,@p,rfl,t,C,rfl⟩:=c;rfl
 |fp J=>let⟨g,z,@p,rfl,t,C,rfl⟩:=c;rfl
 |_=>cases h
theorem bE.out{j:aC}:∀{w:bb}{B:bg}{P:List af}{a:Nat}{q:ak},bE j w B P->w[a]?=Z (Z q)->∃v Wo Wz,B[a]?=Z (Z v)/\cv j q v Wo/\bE j (w.set a<|Z .cO) B Wz/\(Wz++Wo).Perm P
 |[],B,P,a,q,c,d=>by simp at d
 |p::w,B,P,0,q,c,d=>by
  let⟨e,m,Wo,@Wz,rfl,t,C,rfl⟩:=c;simp at d;subst d;let⟨@v,rfl,t⟩:=t;exact⟨v,Wo,Wz,rfl,t,⟨Z v,m,[],Wz,rfl,⟨v,rfl,rfl⟩,C,rfl⟩,dm⟩
 |p::w,B,P,a+1,q,c,d=>by
  let⟨e,m,Wo,@Wz,rfl,t,C,rfl⟩:=c;let⟨v,f,@b,g,h,i,k⟩:=bE.out (a:=a) C ⇑d;refine⟨v,f,Wo++b,by simpa using g,h,⟨e,m,Wo,b,rfl,t,i,rfl⟩,?_⟩;rw[bC];exact d9 _ k
theorem bE.put{j:aC}:∀{w:bb}{B:bg}{P:List af}{a:Nat}{q:ak}{v:ao}{V7:List af},bE j w B P->cv j q v V7->a<w.length->∃Wo Wz,bE j (w.set a<|Z q) (B.set a<|Z v) Wo/\(Wo++Wz).Perm (P++V7)
 |[],B,P,a,q,v,V7,c,D,H=>by simp at H
 |p::w,B,P,0,q,v,V7,c,D,H=>by
  let⟨e,m,Wo,@Wz,rfl,t,C,rfl⟩:=c;refine⟨V7++Wz,Wo,⟨Z v,m,V7,Wz,rfl,⟨v,rfl,D⟩,C,rfl⟩,?_⟩;refine dm.trans ?_;rw[bC];exact d9 _ dm
 |p::w,B,P,a+1,q,v,V7,c,D,H=>by
  let⟨e,m,Wo,@Wz,rfl,t,C,rfl⟩:=c;let⟨b,@d,f,g⟩:=bE.put (a:=a) C D ⇑H;refine⟨Wo++b,d,⟨e,_,Wo,b,rfl,t,f,rfl⟩,?_⟩;rw[bC,bC];exact d9 _ g
def bE.cY{a:Nat}(c:bE j w B P)(d:w[a]?=Z (Z q))(h:q.cY=X):∃v,B[a]?=Z (Z v)/\cv j q v []:=by
 let⟨v,Wo,@Wz,e,b,W⟩:=c.out d;obtain rfl:=b.cY h;exact⟨v,e,b⟩
def S8{a:Nat}(c:B[a]?=Z (Z v)):B.set a (Z v)=B:=by
 refine qm λi=>?_;by_cases d:a=i
 ·subst d;rw[c,tG (fs.mp c).1]
 ·rw[oE d]
def bE.back{a:Nat}(c:bE j w B P)(D:cv j q v V7)(b:B[a]?=Z (Z v)):∃Wo Wz,bE j (w.set a<|Z q) B Wo/\(Wo++Wz).Perm (P++V7):=by
 have H:a<w.length:=by rw[c.len];exact (fs.mp b).1
 let⟨Wo,@Wz,t,C⟩:=c.put (a:=a) D H;rw[S8 b]at t;exact⟨Wo,Wz,t,C⟩
def fU.of(I:rE j V1)(F:∀g p L,j g=Z (.cU p L)->V1 g=Z (.cU p L)):fU j V1:=⟨⟨I,F⟩,F⟩
def Rq(j:aC):fU j j:=⟨⟨λ_ W d=>d,λ_ W W d=>d⟩,λ_ W W d=>d⟩
def fU.trans(g:fU j Wc)(f:fU Wc Ws):fU j Ws:=⟨⟨λe z d=>f.tup.t e z<|g.tup.t e z d,λe p L d=>f.cU e p L<|g.cU e p L d⟩,λe p L d=>f.cU e p L<|g.cU e p L d⟩
def bt.refl(c:WL.Nodup)(n:∀g∈WL,g∈P):bt j P j WL:=⟨λ_ W d W=>d,λg a=>.inl<|n g a,c,Rq j,λ_ p d=>⟨p,d⟩⟩
def bt.perm(c:P.Nodup)(s:WL.Perm P):bt j P j WL:=bt.refl ((s.nodup_iff).mpr c) λg a=>s.mem_iff.mp a
def bt.trans(g:bt j P Wc (Wo++V3))(f:bt Wc Wo Ws Wz)(h:∀e∈V3,gY Wc e):bt j P Ws (Wz++V3):=by
 have ah:=dJ.mp g.ah;have i:∀e∈Wz,e∉V3:=λe a V9=>by
  rcases f.sub e a with c|c
  ·exact ah.2.2 e c e V9 rfl
  ·let⟨@p,d,W⟩:=h e V9;rw[d]at c;cases c
 refine⟨λe p d a=>?_,λe a=>?_,dJ.mpr ⟨f.ah,ah.2.1,λe a l k d=>i e a<|d ▸ k⟩,g.tup.trans f.tup,λe p d=>let ⟨WN,b⟩:=g.grow e p d;f.grow e WN b⟩
 ·refine f.keep e p (g.keep e p d a) λt=>?_;rcases g.sub e (gz _ t) with c|c
  ·exact a c
  ·rw[d]at c;cases c
 ·rcases c5.mp a with a|a
  ·rcases f.sub e a with c|c
   ·exact g.sub e (gz _ c)
   ·refine .inr ?_;cases d:j e with
    |none=>rfl
    |some p=>
     let⟨@WN,b⟩:=g.grow e p d;rw[b]at c;cases c
  ·exact g.sub e (eW _ a)
def c9.tupS(n:c9 j V1):fU j V1:=⟨⟨λg z d=>n g _ d,λg p L d=>n g _ d⟩,λg p L d=>n g _ d⟩
def NX{g f:af}{p L:fO}(d:j f=Z p)(c:j g=Y):L2.upd j g L f=Z p:=by rw[dq (hF d c)];exact d
def c9.upd(n:c9 j V1){g:af}{p:fO}(c:V1 g=Y):c9 j (L2.upd V1 g p):=λf L d=>NX (n f L d) c
abbrev aw(Wr:Type):=bb->Option (Wr×bb)
variable{Xz:aw ak}{Xp o:aw Bool}
inductive bK where
 | a4 (a:Nat)
 | bW (q:ak)
variable{W_ Xe:aw bK}{F:aw (List bK)}
def dO(w:bb):bK->Option ak
 |.a4 a=>(w[a]?).getD Y
 |.bW q=>Z q
def iP(j:aC)(B:bg):bK->ao->List af->Prop
 |.a4 a,v,V3=>B[a]?=Z (Z v)/\V3=[]
 |.bW q,v,V3=>cv j q v V3
def mT(F:aw ak):b6:=(λB j y=>∃w P m R,bE j w B P/\P.Nodup/\F w=Z (m,R)/\∀v V1 WL V3,bE V1 R B WL->cv V1 m v V3->bt j P V1 (WL++V3)->y v V1)
def mE(F:aw bK):b6:=(λB j y=>∃w P m R,bE j w B P/\P.Nodup/\F w=Z (m,R)/\∀v V1 WL V3,bE V1 R B WL->iP V1 B m v V3->bt j P V1 (WL++V3)->y v V1)
def jP(F:aw Bool):er:=(λB j y=>∃w P f R,bE j w B P/\P.Nodup/\F w=Z (f,R)/\∀V1 WL,bE V1 R B WL->bt j P V1 WL->y f V1)
def cg(b:aQ)(d:bu)(F:aw ak):Prop:=(∀ ⦃s⦄,xC b d (mT F) s)
def dS(b:aQ)(d:bu)(F:aw bK):Prop:=(∀ ⦃s⦄,xC b d (mE F) s)
def iw(b:aQ)(d:bu)(F:aw Bool):Prop:=(∀ ⦃s⦄,FP b d (jP F) s)
def ey{E WE:b6}(c:bP b d E)(a:∀B j y,WE B j y->E B j y):bP b d WE:=λG n B j y A e=>c G n B j y A (a B j y e)
def tB{E:er}(c:hJ b d E)(a:∀B j y,WE B j y->E B j y):hJ b d WE:=λG n B j y A e=>c G n B j y A (a B j y e)
def iP.mono{m:bK}(c:iP j B m v V3)(E:fU j V1)(o:∀g∈V3,∀p,j g=Z p->V1 g=Z p):iP V1 B m v V3:=by
 cases m with
 |a4 a=>exact c
 |bW q=>exact cv.mono E c o
def iP.chg{m:bK}(c:iP j B m v V3):∀g∈V3,gY j g:=by
 cases m with
 |a4 a=>intro g b;rw[c.2]at b;cases b
 |bW q=>exact cv.chg c
def fl(j:aC)(q:ak)(v:ao):Prop:=(∃V3,cv j q v V3)
def iP.read{m:bK}(c:iP j B m v V3)(N:bE j w B P)(d:dO w m=Z q):fl j q v:=by
 cases m with
 |bW W3=>cases d;exact⟨V3,c⟩
 |a4 a=>
  have e:w[a]?=Z (Z q):=by
   have:(w[a]?).getD Y=Z q:=d;cases r:w[a]? with
   |none=>rw[r]at this;cases this
   |some p=>rw[r]at this;rw[show p=Z q from this]
  let⟨g,Wo,@Wz,b,f,W⟩:=N.out e;rw[c.1]at b;cases b;exact⟨Wo,f⟩
@[simp] def dG(a:Nat):aw ak:=λw=>match w[a]? with
 |some (Z q)=>if q.cY=X then Z (q,w) else Z (q,w.set a<|Z .cO)
 |_=>Y
def ay(q:V):aw ak:=(λw=>Z (.im q,w))
@[simp] def aj(a:Nat):aw bK:=λw=>match w[a]? with
 |some (Z _)=>Z (.a4 a,w)
 |_=>Y
@[simp] def ab(F:aw ak):aw bK:=λw=>(F w).map λs=>(.bW s.1,s.2)
section
variable{b:aQ}
variable{a:Nat}
def fi(c:bP b d (kk a)):cg b d (dG a):=by
 refine ey c λB j y f=>?_;let⟨w,P,m,@R,N,ah,e,r⟩:=f;unfold dG at e;split at e
 ·rename_i q hd;split at e
  ·rename_i g;cases e;let⟨@v,t,C⟩:=N.cY hd g;exact⟨v,t,r v j P [] N C (by rw[cF];exact bt.perm ah (List.Perm.refl _))⟩
  ·cases e;let⟨v,Wo,@Wz,t,C,h,i⟩:=N.out hd;exact⟨v,t,r v j Wz Wo h C<|bt.perm ah i⟩
 ·cases e
def QQ(c:bP b d (kk a)):dS b d (aj a):=by
 refine ey c λB j y f=>?_;let⟨w,P,m,@R,N,ah,e,r⟩:=f;unfold aj at e;split at e
 ·rename_i q hd;cases e;let⟨v,Wo,@Wz,t,C,g,h⟩:=N.out hd;exact⟨v,t,r v j P [] N ⟨t,rfl⟩ (by rw[cF];exact bt.perm ah (List.Perm.refl _))⟩
 ·cases e
def aX{F:aw ak}(c:cg b d F):dS b d (ab F):=by
 refine ey c λB j y e=>?_;let⟨w,P,m,@R,N,ah,a,r⟩:=e;unfold ab at a;let⟨@⟨WV,V_⟩,t,C⟩:=cm.mp a;cases C;exact⟨w,P,WV,_,N,ah,t,r⟩
def sN{q:V}(c:bP b d (oa v))(hd:∀j,cC j q v):cg b d (ay q):=by
 refine ey c λB j y a=>?_;let⟨w,P,m,@R,N,ah,e,r⟩:=a;cases e;exact r v j P [] N ⟨hd j,rfl⟩ (by rw[cF];exact bt.perm ah (List.Perm.refl _))
def h8{a:Int}{i Wk}:cg b (.Constant (.int a) i Wk) (ay<|.int a):=sN n6 λ_=>rfl
def js{f:Bool}{i Wk}:cg b (.Constant (.bool f) i Wk) (ay<|.aB f):=sN Py λ_=>rfl
def zN{i Wk}:cg b (.Constant .none i Wk) (ay .aV):=sN Nf λ_=>rfl
def two{V_ WB:bb}{e l:bK}{V2:ao->ao->aC->Prop}(N:bE j w B P)(ah:P.Nodup)(b:Xe w=Z (e,V_))(k:W_ V_=Z (l,WB))(o:∀v L V1 WL a bZ,bE V1 WB B WL->iP V1 B e v a->iP V1 B l L bZ->bt j P V1 ((WL++bZ)++a)->V2 v L V1):mE Xe B j λv Wc=>mE W_ B Wc λL Ws=>V2 v L Ws:=by
 refine⟨w,P,e,V_,N,ah,b,λv Wc Wo a m i f=>⟨V_,Wo,l,WB,m,(dJ.mp f.ah).1,k,λL Ws Wz bZ n WJ h=>?_⟩⟩;refine o v L Ws Wz a bZ n (i.mono h.tup λg b p d=>h.keep g p d λc=>?_) WJ (f.trans h i.chg);exact (dJ.mp f.ah).2.2 g c g b rfl
def bt.new{c:List af}(g:bt j P Wc (Wo++V3))(n:c9 Wc Ws)(ah:c.Nodup)(f:∀e∈c,Wc e=Y)(h:∀e∈Wo,gY Wc e):bt j P Ws (Wo++c):=by
 refine⟨λe p d a=>n _ _<|g.keep e p d a,λe a=>?_,dJ.mpr ⟨(dJ.mp g.ah).1,ah,λe a l i d=>?_⟩,g.tup.trans n.tupS,λe p d=>let ⟨WN,b⟩:=g.grow e p d;⟨WN,n _ _ b⟩⟩
 ·rcases c5.mp a with a|a
  ·exact g.sub e (gz _ a)
  ·refine .inr ?_;cases d:j e with
   |none=>rfl
   |some p=>
    let⟨@WN,b⟩:=g.grow e p d;rw[f e a]at b;cases b
 ·subst d;let⟨@p,d,W⟩:=h e a;rw[f e i]at d;cases d
def e_(b:aQ)(I:ae->ae->dr ae)(WR:ak->ak->Option ak):Prop:=(
 dU b I λe l j y=>∃WY WW q,fl j WY e/\fl j WW l/\WR WY WW=Z q/\∀v V1 V3,c9 j V1->cv V1 q v V3->V3.Nodup->(∀g∈V3,j g=Y)->y v V1)
@[simp] def aA(WR:ak->ak->Option ak)(Xe W_:aw bK):aw ak:=λw=>(Xe w).bind λs=>(W_ s.2).bind λr=>(dO r.2 s.1).bind λWY=>(dO r.2 r.1).bind λWW=>(WR WY WW).map λq=>(q,r.2)
def u7{WR:ak->ak->Option ak}(c:mT (aA WR Xe W_) B j y):
  mE Xe B j λe Wc=>mE W_ B Wc λl Ws=>∃WY WW q,fl Ws WY e/\fl Ws WW l/\WR WY WW=Z q/\∀v V1 V3,c9 Ws V1->cv V1 q v V3->V3.Nodup->(∀g∈V3,Ws g=Y)->y v V1:=by
 let⟨w,P,m,@R,N,ah,a,r⟩:=c;unfold aA at a;let⟨@⟨e,V_⟩,i,a⟩:=bN.mp a;let⟨@⟨l,WB⟩,k,a⟩:=bN.mp a;let⟨@WY,t,a⟩:=bN.mp a;let⟨@WW,C,a⟩:=bN.mp a;let⟨@q,n,a⟩:=cm.mp a;cases a;refine two N ah i k λv L Ws Wz z bZ b o WJ h=>⟨WY,WW,_,o.read b t,WJ.read b C,n,λD s V3 f Wx u x=>?_⟩;rw[bC]at h;exact r D s Wz V3 (b.mono f.tupS λg W p d=>f g p d) Wx (h.new f u x b.chg)
def kD{WR:pZ}(a:e_ b (gh WR) I)(d:dS b g Xe)(e:dS b f W_):cg b (.BinOp g WR f Wk) (aA I Xe W_):=
 ey (Sm a d e) λ_ W W c=>u7 c
variable{WR:kQ}
def oJ(a:e_ b (d3 WR) I)(d:dS b g Xe)(e:dS b f W_)(h:pq WR f=au):cg b (.Compare g [WR] [f] Wk) (aA I Xe W_):=
 ey (R9 a d e h) λ_ W W c=>u7 c
def Vh(a:i7 b (λe l j y=>∃WY WW q,fl j WY e/\fl j WW l/\I WY WW=Z q/\∀v V1 V3,c9 j V1->cv V1 q v V3->V3.Nodup->(∀g∈V3,j g=Y)->y v V1))(d:dS b g Xe)(h:dS b f W_)(av:sj f):cg b (.Subscript g f Wk) (aA I Xe W_):=
 ey (Cj a d h av) λ_ W W c=>u7 c
@[simp] def qS:ak->Option Bool
 |.im (.aB f)=>Z f
 |_=>Y
@[simp] def bO(F:aw ak):aw Bool:=λw=>(F w).bind λs=>(qS s.1).map λf=>(f,s.2)
def sW{f:Bool}(c:qS q=Z f):q=.im (.aB f):=by
 unfold qS at c;split at c
 ·cases c;rfl
 ·cases c
def eF(a:e_ b (d3 WR) I)(c:dS b g Xe)(d:dS b f W_)(e:pq WR f=au):iw b (.Compare g [WR] [f] Wk) (bO<|aA I Xe W_):=by
 refine tB (U3 a c d e) λB j y i=>?_;let⟨w,P,h,@R,N,ah,k,r⟩:=i;refine u7 ⟨w,P,.im<|.aB h,R,N,ah,?_,λv V1 WL V3 l Wx n=>⟨h,Wx.1,r V1 WL l (by rw[Wx.2,cF]at n;exact n)⟩⟩;let⟨@s,t,C⟩:=bN.mp k;let⟨@p,m,o⟩:=cm.mp C;cases o;rw[t,<-sW m]
@[simp] def gy(F:aw Bool):aw Bool:=λw=>(F w).map λs=>(!s.1,s.2)
variable{F:aw Bool}
def jH(c:iw b g F):iw b (.UnaryOp .Not g Wk) (gy F):=by
 refine tB (SP c) λB j y a=>?_;let⟨w,P,h,@R,N,ah,d,r⟩:=a;let⟨@s,t,C⟩:=cm.mp d;cases C;exact⟨w,P,s.1,_,N,ah,t,r⟩
@[simp] def fH(F c:aw Bool):aw Bool:=λw=>(F w).bind λs=>if s.1=X then c s.2 else Z (au,s.2)
@[simp] def jd(F c:aw Bool):aw Bool:=λw=>(F w).bind λs=>if s.1=X then Z (X,s.2) else c s.2
variable{y:Bool->aC->Prop}{c:aw Bool}
def FA(D:jP (fH F c) B j y):Ca (jP F) (jP c) B j y:=by
 let⟨w,P,h,@R,N,ah,d,r⟩:=D;let⟨@⟨f,V_⟩,t,C⟩:=bN.mp d;refine⟨w,P,f,V_,N,ah,t,λWc Wo b a=>?_⟩;cases f with
 |true=>
  rw[aM rfl];rw[aM rfl]at C;exact⟨V_,Wo,h,R,b,a.ah,C,λWs Wz g i=>r Ws Wz g (by
   have:=bt.trans (V3:=[]) (by rw[cF];exact a) i (λe k=>nomatch k)
   rwa [cF]at this)⟩
 |false=>
  rw[aN dc]at C ⊢;cases C;exact r Wc Wo b a
def Oa(D:jP (jd F c) B j y):JU (jP F) (jP c) B j y:=by
 let⟨w,P,h,@R,N,ah,d,r⟩:=D;let⟨@⟨f,V_⟩,t,C⟩:=bN.mp d;refine⟨w,P,f,V_,N,ah,t,λWc Wo b a=>?_⟩;cases f with
 |false=>
  rw[aN dc]at C ⊢;exact⟨V_,Wo,h,R,b,a.ah,C,λWs Wz g i=>r Ws Wz g (by
   have:=bt.trans (V3:=[]) (by rw[cF];exact a) i (λe k=>nomatch k)
   rwa [cF]at this)⟩
 |true=>
  rw[aM rfl]at C ⊢;cases C;exact r Wc Wo b a
def hM(b:aQ)(d:bu)(F:aw Bool):Prop:=(∀ ⦃s⦄,Ek b d (jP F) s)
def Hw{E:er}(c:j5 b d E)(a:∀B j y,WE B j y->E B j y):j5 b d WE:=λe G n B j y A f=>c e G n B j y A (a B j y f)
def UI(c:iw b g F):hM b (.BoolOp .And [g] Wk) F:=UE c
def nG(c:iw b g F):hM b (.BoolOp .Or [g] Wk) F:=N2 c
def yK(c:iw b g F)(a:hM b (.BoolOp .And (f::m) Wk) o):hM b (.BoolOp .And (g::f::m) Wk) (fH F o):=Hw (OG c a) λ_ W W D=>FA D
def m2(c:iw b g F)(a:hM b (.BoolOp .Or (f::m) Wk) o):hM b (.BoolOp .Or (g::f::m) Wk) (jd F o):=Hw (OB c a) λ_ W W D=>Oa D
def hM.mS(c:hM b d F):iw b d F:=j5.pt c
@[simp] def hB(F:aw Bool):aw ak:=λw=>(F w).map λs=>(.im<|.aB s.1,s.2)
def yR(c:cg b d (hB F)):bP b d λB j y=>jP F B j λf V1=>y (.aB f) V1:=by
 refine ey c λB j y a=>?_;let⟨w,P,h,@R,N,ah,e,r⟩:=a;refine⟨w,P,.im<|.aB h,R,N,ah,by unfold hB;rw[e];rfl,λv V1 WL V3 g Wx n=>?_⟩;rw[show v=.aB h from Wx.1];exact r V1 WL g (by rw[Wx.2,cF]at n;exact n)
def Jh(c:bP b d λB j y=>jP F B j λf V1=>y (.aB f) V1):cg b d (hB F):=by
 refine ey c λB j y a=>?_;let⟨w,P,m,@R,N,ah,e,r⟩:=a;let⟨@s,t,C⟩:=cm.mp e;cases C;exact⟨w,P,s.1,_,N,ah,t,λV1 WL g n=>r _ V1 WL [] g ⟨rfl,rfl⟩ (by rw[cF];exact n)⟩
def jG{F:aw ak}(c:cg b d F):cg b d (hB<|bO F):=by
 refine ey c λB j y a=>?_;let⟨w,P,m,@R,N,ah,e,r⟩:=a;let⟨@s,t,C⟩:=cm.mp e;let⟨@f,g,i⟩:=bN.mp t;let⟨@h,k,l⟩:=cm.mp i;cases l;cases C;exact⟨w,P,f.1,_,N,ah,g,by rw[sW k];exact r⟩
def Ob(c:cg b g (hB F)):cg b (.UnaryOp .Not g Wk) (hB<|gy F):=by
 refine Jh (ey (Tu<|yR c) λB j y a=>?_);let⟨w,P,h,@R,N,ah,d,r⟩:=a;let⟨@s,t,C⟩:=cm.mp d;cases C;exact⟨w,P,s.1,_,N,ah,t,λV1 WL e n=>⟨_,rfl,r V1 WL e n⟩⟩
def vm{WR}{F:aw ak}(c:cg b g F):cg b (.BoolOp WR [g] Wk) F:=K8 c
def n5(c:cg b g (hB F))(a:cg b (.BoolOp .And (f::m) Wk) (hB o)):cg b (.BoolOp .And (g::f::m) Wk) (hB<|fH F o):=by
 refine Jh (ey (UD (yR c)<|yR a) λB j y D=>?_);have:=FA D;let⟨w,P,h,@R,N,ah,d,r⟩:=this;exact⟨w,P,h,R,N,ah,d,λV1 WL e n=>⟨h,rfl,r V1 WL e n⟩⟩
@[simp] def ql(h:aw Bool)(g f:aw ak):aw ak:=λw=>(h w).bind λs=>if s.1=X then g s.2 else f s.2
def bt.seq(g:bt j P Wc Wo)(f:bt Wc Wo Ws Wz):bt j P Ws Wz:=by
 have:=bt.trans (V3:=[]) (by rw[cF];exact g) f (λe a=>nomatch a)
 rwa [cF]at this
def NL{Xe W_:aw ak}(i:iw b h Xp)(k:cg b g Xe)(l:cg b f W_):cg b (.IfExp h g f Wk) (ql Xp Xe W_):=by
 refine ey (P0 i k l) λB j y n=>?_;let⟨w,P,m,@R,N,ah,o,r⟩:=n;let⟨@⟨E,V_⟩,t,C⟩:=bN.mp o;refine⟨w,P,E,V_,N,ah,t,λWc Wo e a=>?_⟩;cases E with
 |true=>
  rw[aM rfl]at C ⊢;exact⟨V_,Wo,m,R,e,a.ah,C,λv Ws Wz V3 c Wx d=>r v Ws Wz V3 c Wx<|a.seq d⟩
 |false=>
  rw[aN dc]at C ⊢;exact⟨V_,Wo,m,R,e,a.ah,C,λv Ws Wz V3 c Wx d=>r v Ws Wz V3 c Wx<|a.seq d⟩
end
def kT(j:aC)(B:bg):List bK->List ao->List af->Prop
 |[],V4,V3=>V4=[]/\V3=[]
 |p::Wn,V4,V3=>∃v m a bZ,V4=v::m/\iP j B p v a/\kT j B Wn m bZ/\V3=a++bZ
def hx(F:aw (List bK)):eZ:=(λB j y=>∃w P m R,bE j w B P/\P.Nodup/\F w=Z (m,R)/\∀V4 V1 WL V3,bE V1 R B WL->kT V1 B m V4 V3->bt j P V1 (WL++V3)->y V4 V1)
def fE(b:aQ)(Q:List bu)(F:aw (List bK)):Prop:=(∀ ⦃s⦄,GQ b Q (hx F) s)
def Jl{E WE:eZ}(c:hR b Q E)(a:∀B j y,WE B j y->E B j y):hR b Q WE:=λWk G n B j y A d=>c Wk G n B j y A (a B j y d)
def aD:aw (List bK):=(λw=>Z ([],w))
@[simp] def ai(F:aw bK)(c:aw (List bK)):aw (List bK):=λw=>(F w).bind λs=>(c s.2).map λr=>(s.1::r.1,r.2)
def bt.kB(n:bt j P V1 O)(s:O.Perm W7):bt j P V1 W7:=⟨n.keep,λg a=>n.sub g<|s.mem_iff.mpr a,(s.nodup_iff).mp n.ah,n.tup,n.grow⟩
def bt.less(n:bt j P V1 O)(s:(W7++aO).Perm O):bt j P V1 W7:=
 ⟨n.keep,λg a=>n.sub g<|s.mem_iff.mp<|gz _ a,(dJ.mp<|(s.nodup_iff).mpr n.ah).1,n.tup,n.grow⟩
section
variable{b:aQ}
def uU:fE b [] aD:=by
 refine Jl Ex λB j y a=>?_;let⟨w,P,m,@R,N,ah,c,r⟩:=a;cases c;exact r [] j P [] N ⟨rfl,rfl⟩ (by rw[cF];exact bt.perm ah (List.Perm.refl _))
def nR{F:aw bK}{c:aw (List bK)}(k:dS b d F)(V9:fE b Q c)(av:bV (d::Q) b.env=(au,cb d b.env)::bV Q b.env:=by rfl):fE b (d::Q) (ai F c):=by
 refine Jl (xq k V9 av) λB j y l=>?_;let⟨w,P,m,@R,N,ah,n,r⟩:=l;let⟨@⟨e,V_⟩,t,C⟩:=bN.mp n;let⟨@⟨Wm,WB⟩,o,q⟩:=cm.mp C;cases q;refine⟨w,P,e,V_,N,ah,t,λv Wc Wo h s i a=>⟨V_,Wo,Wm,_,s,(dJ.mp a.ah).1,o,λV4 Ws Wz bZ u WJ f=>?_⟩⟩;refine r (v::V4) Ws Wz (h++bZ) u ⟨v,V4,h,bZ,rfl,i.mono f.tup λg x p d=>f.keep g p d λc=>?_,WJ,rfl⟩ ((a.trans f i.chg).kB ?_)
 ·exact (dJ.mp a.ah).2.2 g c g x rfl
 ·rw[bC];exact d9 _ dm
end
def ha(w:bb):List bK->Option (List ak)
 |[]=>Z []
 |p::Wn=>(dO w p).bind λq=>(ha w Wn).map λJ=>q::J
def nh(j:aC):List ak->List ao->Prop
 |[],V4=>V4=[]
 |q::J,V4=>∃v m,V4=v::m/\fl j q v/\nh j J m
theorem kT.read{j:aC}{w:bb}{B:bg}{P:List af}(N:bE j w B P):∀{Wn:List bK}{V4:List ao}{V3:List af}{J:List ak},kT j B Wn V4 V3->ha w Wn=Z J->nh j J V4
 |[],_,_,_,c,d=>by cases d;exact c.1
 |p::Wn,_,_,_,c,d=>by
  let⟨v,m,g,@bZ,rfl,t,C,rfl⟩:=c;let⟨@q,a,b⟩:=bN.mp d;let⟨@J,e,f⟩:=cm.mp b;cases f;exact⟨v,m,rfl,t.read N a,kT.read N C e⟩
def eJ:List bK->bb->Option (List ak×bb)
 |[],w=>Z ([],w)
 |.bW q::Wn,w=>(eJ Wn w).map λs=>(q::s.1,s.2)
 |.a4 a::Wn,w=>(dG a w).bind λs=>(eJ Wn s.2).map λr=>(s.1::r.1,r.2)
def B9{a:Nat}(N:bE j w B P)(c:dG a w=Z (q,R)):∃v Wo V3,B[a]?=Z (Z v)/\cv j q v V3/\bE j R B Wo/\(Wo++V3).Perm P:=by
 unfold dG at c;split at c
 ·rename_i d hd;split at c
  ·rename_i b;cases c;let⟨@v,t,C⟩:=N.cY hd b;exact⟨v,P,[],t,C,N,by rw[cF]⟩
  ·cases c;let⟨v,Wo,@Wz,t,C,e,f⟩:=N.out hd;exact⟨v,Wz,Wo,t,C,e,f⟩
 ·cases c
def kP:(O++(W7++aO)).Perm (W7++(O++aO)):=by
 rw[<-bC,<-bC];exact e5 _ dm
theorem oA{j:aC}{B:bg}:∀{Wn:List bK}{V4:List ao}{V3 P:List af}{w R:bb}{J:List ak},bE j w B P->kT j B Wn V4 V3->eJ Wn w=Z (J,R)->∃Wo b,bE j R B Wo/\d1 j J V4 b/\(Wo++b).Perm (P++V3)
 |[],_,_,P,_,_,_,N,c,d=>by
  cases d;exact⟨P,[],N,⟨c.1,rfl⟩,by rw[c.2]⟩
 |.bW q::Wn,_,_,P,w,_,_,N,c,d=>by
  let⟨v,m,b,@bZ,rfl,t,C,rfl⟩:=c;rw[eJ]at d;let⟨@s,g,h⟩:=cm.mp d;cases h;let⟨Wo,@e,f,i,k⟩:=oA (R:=s.2) (J:=s.1) N C g;exact⟨Wo,b++e,f,⟨v,m,b,e,rfl,t,i,rfl⟩,kP.trans<|(d9 _ k).trans kP⟩
 |.a4 a::Wn,_,_,P,w,_,_,N,c,d=>by
  let⟨v,m,b,@bZ,rfl,@⟨t,rfl⟩,C,rfl⟩:=c;rw[eJ]at d;let⟨@⟨q,V_⟩,n,o⟩:=bN.mp d;let⟨@s,g,h⟩:=cm.mp o;cases h;let⟨u,Wo,@e,f,i,k,p⟩:=B9 N n;rw[t]at f;cases f;let⟨Wz,@l,WG,WO,r⟩:=oA (R:=s.2) (J:=s.1) k C g;refine⟨Wz,e++l,WG,⟨v,m,e,l,rfl,i,WO,rfl⟩,kP.trans<|(d9 _ r).trans ?_⟩;rw[<-bC];exact e5 _ (dm.trans p)
@[simp] def jm:List bK->List ak->bb->bb
 |.a4 a::Wn,q::J,w=>jm Wn J (match w[a]? with|some (Z .cO)=>w.set a (Z q)|_=>w)
 |.bW _::Wn,_::J,w=>jm Wn J w
 |_,_,w=>w
theorem vL{j k:aC}{B:bg}:∀{Wn:List bK}{J:List ak}{V4:List ao}{V3 P We:List af}{w:bb},bE j w B P->kT k B Wn V4 We->d1 j J V4 V3->∃Wo b,bE j (jm Wn J w) B Wo/\(Wo++b).Perm (P++V3)
 |[],J,_,V3,P,_,w,N,_,_=>⟨P,V3,by unfold jm;exact N,List.Perm.refl _⟩
 |.bW _::Wn,[],_,V3,P,_,w,N,_,_=>⟨P,V3,by unfold jm;exact N,List.Perm.refl _⟩
 |.a4 _::Wn,[],_,V3,P,_,w,N,_,_=>⟨P,V3,by unfold jm;exact N,List.Perm.refl _⟩
 |.bW _::Wn,q::J,_,V3,P,_,w,N,c,D=>by
  let⟨v,m,l,@n,rfl,t,C,rfl⟩:=c;let⟨o,WV,b,@bZ,d,i,h,rfl⟩:=D;cases d;let⟨Wo,@e,f,g⟩:=vL (w:=w) N C h;refine⟨Wo,b++e,by rw[jm];exact f,kP.trans<|(d9 _ g).trans kP⟩
 |.a4 a::Wn,q::J,_,V3,P,_,w,N,c,D=>by
  let⟨v,m,l,@n,rfl,@⟨t,W⟩,C,rfl⟩:=c;let⟨o,WV,b,@bZ,d,i,h,rfl⟩:=D;cases d;rw[jm];split
  ·let⟨Wo,@V7,f,g⟩:=N.back i t;let⟨Wz,@e,WG,WO⟩:=vL f C h;refine⟨Wz,e++V7,WG,?_⟩;rw[<-bC,<-bC];refine (e5 _ WO).trans ?_;rw[bC];refine (d9 _ dm).trans ?_;rw[<-bC];exact e5 _ g
  ·let⟨Wo,@e,f,g⟩:=vL N C h;exact⟨Wo,b++e,f,kP.trans<|(d9 _ g).trans kP⟩
def hP:List ak->Option (List V)
 |[]=>Z []
 |.im q::J=>(hP J).map λm=>q::m
 |_::_=>Y
@[simp] def rK(J:List ak):ak:=match hP J with
 |some is=>.im (.tup is)
 |none=>.ez J
@[simp] def rT(J:List ak):ak:=match hP J with
 |some is=>.lst is
 |none=>.jf J
theorem A2{j:aC}:∀{J:List ak}{V4:List ao}{V3:List af}{is:List V},d1 j J V4 V3->hP J=Z is->bM j is V4/\V3=[]
 |[],_,_,_,c,d=>by cases d;exact c
 |.im q::J,_,_,_,c,d=>by
  let⟨v,m,f,@bZ,rfl,@⟨t,rfl⟩,C,rfl⟩:=c;rw[hP]at d;let⟨@s,a,b⟩:=cm.mp d;cases b;let@⟨e,rfl⟩:=A2 C a;exact⟨⟨v,m,rfl,t,e⟩,rfl⟩
 |.cO::_,_,_,_,_,d=>by rw[hP]at d;cases d;all_goals (intro W x;cases x)
 |.dY _::_,_,_,_,_,d=>by rw[hP]at d;cases d;all_goals (intro W x;cases x)
 |.lst _::_,_,_,_,_,d=>by rw[hP]at d;cases d;all_goals (intro W x;cases x)
 |.dw _::_,_,_,_,_,d=>by rw[hP]at d;cases d;all_goals (intro W x;cases x)
 |.aF _::_,_,_,_,_,d=>by rw[hP]at d;cases d;all_goals (intro W x;cases x)
 |.jf _::_,_,_,_,_,d=>by rw[hP]at d;cases d;all_goals (intro W x;cases x)
 |.ez _::_,_,_,_,_,d=>by rw[hP]at d;cases d;all_goals (intro W x;cases x)
 |.fp _::_,_,_,_,_,d=>by rw[hP]at d;cases d;all_goals (intro W x;cases x)
@[simp] def cV(F:aw (List bK)):aw ak:=λw=>(F w).bind λs=>(eJ s.1 s.2).bind λr=>if r.1.length<=100000 then Z (rK r.1,r.2) else Y
@[simp] def gr(F:aw (List bK)):aw ak:=λw=>(F w).bind λs=>(eJ s.1 s.2).bind λr=>if r.1.length<=100000 then Z (rT r.1,r.2) else Y
def NJ{J:List ak}{s:af}(n:c9 j V1)(c:d1 j J V4 V3)(d:V1 s=Z (.tup V4)):∃a,cv V1 (rK J) (.ref s) a/\a=V3:=by
 unfold rK;split
 ·rename_i is V0;let@⟨b,rfl⟩:=A2 c V0;exact⟨[],⟨⟨s,V4,rfl,d,b.mono n.tupS.tup⟩,rfl⟩,rfl⟩
 ·exact⟨V3,⟨s,V4,rfl,d,c.mono n.tupS λg W p r=>n g p r⟩,rfl⟩
def MH{J:List ak}{s:af}(n:c9 j V1)(c:d1 j J V4 V3)(d:V1 s=Z (.lst V4)):cv V1 (rT J) (.ref s) (s::V3):=by
 unfold rT;split
 ·rename_i is V0;let@⟨a,rfl⟩:=A2 c V0;exact⟨s,V4,rfl,d,a.mono n.tupS.tup,rfl⟩
 ·exact⟨s,V4,V3,rfl,d,c.mono n.tupS λg W p r=>n g p r,rfl⟩
def ow(c:u<=100000):u<=sizeLine:=dx c ∅
def bt.add{s:af}{p:fO}(g:bt j P Wc O)(a:Wc s=Y)(h:∀e∈O,gY Wc e):bt j P (upd Wc s p) (O++[s]):=by
 have n:c9 Wc (upd Wc s p):=(c9.refl Wc).upd a;have:=bt.new (V3:=[]) (c:=[s]) (by rw[cF];exact g) n (fC _ _) (λe b=>by rw[cP.mp b];exact a) h;exact this
def bt.same(g:bt j P Wc O)(n:c9 Wc Ws):bt j P Ws O:=
 ⟨λe p d a=>n _ _<|g.keep e p d a,g.sub,g.ah,g.tup.trans n.tupS,λe p d=>let ⟨WN,b⟩:=g.grow e p d;⟨WN,n _ _ b⟩⟩
section
variable{b:aQ}
def gw{e}(c:fE b Q F):cg b (.Tuple Q e Wk) (cV F):=by
 refine ey (LU c) λB j y f=>?_;let⟨w,P,m,@R,N,ah,h,r⟩:=f;let⟨@⟨Wn,V_⟩,t,C⟩:=bN.mp h;let⟨@⟨J,WB⟩,i,a⟩:=bN.mp C;refine⟨w,P,Wn,V_,N,ah,t,λV4 Wc Wo D k l o=>?_⟩;let⟨Wz,@bZ,q,Wx,WT⟩:=oA k l i;split at a
 ·rename_i u;cases a;have v:V4.length<=100000:=by rw[<-Wx.length];exact u
  refine⟨ow v,λs x=>?_⟩;have n:c9 Wc (upd Wc s<|.tup V4):=(c9.refl Wc).upd x;let⟨@z,A,rfl⟩:=NJ n Wx fm;exact r _ _ Wz z (q.mono n.tupS λg W p d=>n g p d) A ((o.kB WT.symm).same n)
 ·cases a
def mi(c:fE b Q F):cg b (.List Q Wk) (gr F):=by
 refine ey (Qp c) λB j y k=>?_;let⟨w,P,m,@R,N,ah,l,r⟩:=k;let⟨@⟨Wn,V_⟩,t,C⟩:=bN.mp l;let⟨@⟨J,WB⟩,o,f⟩:=bN.mp C;refine⟨w,P,Wn,V_,N,ah,t,λV4 Wc Wo D q u v=>?_⟩;let⟨Wz,@bZ,h,Wx,WT⟩:=oA q u o;split at f
 ·rename_i x;cases f;have z:V4.length<=100000:=by rw[<-Wx.length];exact x
  refine⟨ow z,λs i=>?_⟩;have n:c9 Wc (upd Wc s<|.lst V4):=(c9.refl Wc).upd i;have A:=MH n Wx (s:=s) fm;refine r _ _ Wz (s::bZ) (h.mono n.tupS λg W p d=>n g p d) A (((v.kB WT.symm).add i λe a=>?_).kB ?_)
  ·rcases c5.mp a with a|a
   ·exact h.chg e a
   ·exact Wx.chg e a
  ·rw[bC];exact d9 _ dm
 ·cases f
def hI(b:aQ)(I:ae)(WR:List ak->Option ak):Prop:=(
 eO b I λz j y=>∃J q,nh j J z/\WR J=Z q/\∀v V1 V3,c9 j V1->cv V1 q v V3->V3.Nodup->(∀g∈V3,j g=Y)->y v V1)
@[simp] def b7(WR:List ak->Option ak)(F:aw (List bK)):aw ak:=λw=>(F w).bind λs=>(ha s.2 s.1).bind λJ=>(WR J).map λq=>(q,s.2)
def By(c:mT (b7 WR F) B j y):
  hx F B j λz Wc=>∃J q,nh Wc J z/\WR J=Z q/\∀v V1 V3,c9 Wc V1->cv V1 q v V3->V3.Nodup->(∀g∈V3,Wc g=Y)->y v V1:=by
 let⟨w,P,m,@R,N,ah,e,r⟩:=c;let⟨@⟨Wn,V_⟩,t,C⟩:=bN.mp e;let⟨@J,f,h⟩:=bN.mp C;let⟨@q,i,k⟩:=cm.mp h;cases k;refine⟨w,P,Wn,V_,N,ah,t,λV4 Wc Wo u a l n=>⟨J,_,l.read a f,i,λv Ws V3 b Wx o s=>?_⟩⟩;exact r v Ws Wo V3 (a.mono b.tupS λg W p d=>b g p d) Wx (n.new b o s a.chg)
def Pu{id:String}(a:hI b (.builtin id) WR)(f:fc b e)(g:b.aJ e=Y)(h:fk e=Z (.builtin id))(i:fE b (d::Q) F)(j:e ≠ "__name__" := by decide)(k:(e==("__debug__" : aI))=au:=by decide)(l:bV (d::Q) b.env=(au,cb d b.env)::bV Q b.env:=by rfl)(m:(fI Wk<|bV Q b.env).any (·.1)=au:=by rfl):
  cg b (.Call (.Name e s) (d::Q) [] Wk) (b7 WR F):=ey (EE a f g h i j k l m) λ_ W W c=>By c
def gA{V6:String}(a:hI b (.type V6) WR)(f:fc b e)(g:b.aJ e=Y)(h:fk e=Z (.type V6))(i:fE b (d::Q) F)(j:e ≠ "__name__" := by decide)(k:(e==("__debug__" : aI))=au:=by decide)(l:bV (d::Q) b.env=(au,cb d b.env)::bV Q b.env:=by rfl)(m:(fI Wk<|bV Q b.env).any (·.1)=au:=by rfl):
  cg b (.Call (.Name e s) (d::Q) [] Wk) (b7 WR F):=ey (KZ a f g h i j k l m) λ_ W W c=>By c
abbrev c6:=List ak->Option (ak×List ak)
def j4(u:Nat)(V7:c6):kj:=(λV4 j y W=>V4.length=u/\∃J P m E,d1 j J V4 P/\P.Nodup/\V7 J=Z (m,E)/\∀v V1 V3 a,cv V1 m v V3->d1 V1 E V4 a->bt j P V1 (V3++a)->y v V1)
@[simp] def bc(u:Nat)(V7:c6)(F:aw (List bK)):aw ak:=λw=>(F w).bind λs=>if s.1.length=u then (eJ s.1 s.2).bind λr=>(V7 r.1).map λm=>(m.1,jm s.1 m.2 r.2) else Y
theorem kT.length{j:aC}{B:bg}:∀{Wn:List bK}{V4:List ao}{V3:List af},kT j B Wn V4 V3->Wn.length=V4.length
 |[],_,_,c=>by rw[c.1];rfl
 |p::Wn,_,_,c=>by
  let⟨v,m,a,@bZ,rfl,t,C,rfl⟩:=c;rw[dj,dj,kT.length C]
def FJ{V7:c6}{U:gv}(c:mT (bc u V7 F) B j y):yA (j4 u V7) [] U (hx F) B j y:=by
 let⟨w,P,m,@R,N,ah,k,r⟩:=c;let⟨@⟨Wn,V_⟩,t,C⟩:=bN.mp k;split at C
 ·rename_i l;let⟨@⟨J,WB⟩,n,o⟩:=bN.mp C;let⟨@⟨WV,E⟩,q,s⟩:=cm.mp o;cases s;refine⟨w,P,Wn,V_,N,ah,t,λV4 Wc Wo T x a z=>?_⟩;let⟨Wz,bZ,h,Wx,WT⟩:=oA x a n;have b:=z.kB (WT.symm.trans dm);rw[cF];refine⟨by rw[<-a.length];exact l,J,bZ,_,E,Wx,(dJ.mp b.ah).1,q,λv i V3 al A D e=>?_⟩;have G:=b.trans e h.chg;have H:∀g∈Wz,g∉bZ:=λg f I=>(dJ.mp b.ah).2.2 g I g f rfl;have L:bE i WB B Wz:=h.mono e.tup λg f p d=>e.keep g p d (H g f);let⟨M,@O,Q,S⟩:=vL L a D;refine r v i M V3 Q A (G.less (aO:=O) ?_);refine List.Perm.trans ?_ dm;rw[bC];refine (d9 _ dm).trans ?_;rw[<-bC];refine (e5 _ S).trans ?_;rw[bC];exact d9 _ dm
 ·cases C
variable{o:Nat}
def Qa{V7:c6}{I:af}(P:h6 b.prog b.w b.K b.aJ b.base ik o I fd Wj (j4 u V7))(V9:eP o b.A)(a:fc b e)(f:b.aJ e=Z (.ref I))(g:Θ b.K (.ref I)=X)(h:iD b.K fd Wj [])(i:fE b (d::Q) F)(j:(e==("__debug__" : aI))=au:=by decide)(k:bV (d::Q) b.env=(au,cb d b.env)::bV Q b.env:=by rfl)(l:(fI Wk<|bV Q b.env).any (·.1)=au:=by rfl):
  cg b (.Call (.Name e s) (d::Q) [] Wk) (bc u V7 F):=ey (LV P V9 a f g h .nil HM i j k l) λ_ U U c=>FJ c
inductive d_ where
 | bB|a_ (q:ak)|gc|cq
abbrev bL:=bb->Option (d_×bb)
def dI(WH:List Nat)(B b:bg):Prop:=(b.length=B.length/\∀a∈WH,b[a]?=B[a]?)
def dI.refl:dI WH B B:=⟨rfl,λ_ W=>rfl⟩
def dI.trans{b:bg}(g:dI WH B Xy)(f:dI WH Xy b):dI WH B b:=⟨f.1.trans g.1,λa V0=>(f.2 a V0).trans<|g.2 a V0⟩
def dI.set{i:Nat}{v:Option ao}(c:i∉WH):dI WH B (B.set i v):=⟨vA,λa V0=>oE λd=>c (by rw[d];exact V0)⟩
def sM(WH:List Nat)(U:oq)(B:bg)(j:aC)(P:List af)(R:bb):d_->Prop
 |.bB=>∀a V1 WL,dI WH B a->bE V1 R a WL->bt j P V1 WL->U.bB a V1
 |.gc=>∀a V1 WL,dI WH B a->bE V1 R a WL->bt j P V1 WL->U.gc a V1
 |.cq=>∀a V1 WL,dI WH B a->bE V1 R a WL->bt j P V1 WL->U.cq a V1
 |.a_ q=>∀v a V1 WL V3,dI WH B a->bE V1 R a WL->cv V1 q v V3->bt j P V1 (WL++V3)->U.a_ v V1
def pK(WH:List Nat)(F:bL):fa:=(λU B j=>∃w P aW R,bE j w B P/\P.Nodup/\F w=Z (aW,R)/\sM WH U B j P R aW)
def iy(b:aQ)(WH:List Nat)(N:cA)(F:bL):Prop:=(∀ ⦃s⦄,Fd b N (pK WH F) s)
def jI(b:aQ)(WH:List Nat)(a:List cA)(F:bL):Prop:=(∀ ⦃s⦄,FI b a (pK WH F) s)
variable{WE:fa}
def k3{E:fa}(c:hU b N E)(a:∀U B j,WE U B j->E U B j):hU b N WE:=λG n B j w A d=>c G n B j w A (a w B j d)
def HU{N:List cA}{E:fa}(c:h9 b N E)(a:∀U B j,WE U B j->E U B j):h9 b N WE:=λG n B j w A d=>c G n B j w A (a w B j d)
def sM.on{aW:d_}(c:sM WH U B j P R aW)(W8:dI WH B Xy)(n:bt j P Wc Wo):sM WH U Xy Wc Wo R aW:=by
 cases aW with
 |bB=>exact λa V1 WL I N V5=>c a V1 WL (W8.trans I) N (n.seq V5)
 |gc=>exact λa V1 WL I N V5=>c a V1 WL (W8.trans I) N (n.seq V5)
 |cq=>exact λa V1 WL I N V5=>c a V1 WL (W8.trans I) N (n.seq V5)
 |a_ q=>exact λv a V1 WL V3 I N Wx V5=>c v a V1 WL V3 (W8.trans I) N Wx (n.seq V5)
def ei:bL:=(λw=>Z (.bB,w))
@[simp] def bx(F c:bL):bL:=λw=>(F w).bind λs=>match s.1 with
 |.bB=>c s.2
 |aW=>Z (aW,s.2)
def fD:jI b WH [] ei:=by
 refine HU T5 λU B j a=>?_;let⟨w,P,aW,@R,N,ah,c,r⟩:=a;cases c;exact r B j P dI.refl N (bt.perm ah<|List.Perm.refl _)
variable{F:bL}
def cf(c:iy b WH N F):jI b WH [N] F:=S6 c
def Qx{c:bL}(D:pK WH (bx F c) U B j):Jd (pK WH F) (pK WH c) U B j:=by
 let⟨w,P,aW,@R,N,ah,a,r⟩:=D;let⟨@⟨b,V_⟩,t,C⟩:=bN.mp a;cases b with
 |bB=>exact⟨w,P,.bB,V_,N,ah,t,λe V1 WL W8 d n=>⟨V_,WL,aW,R,d,n.ah,C,r.on W8 n⟩⟩
 |gc=>cases C;exact⟨w,P,.gc,V_,N,ah,t,r⟩
 |cq=>cases C;exact⟨w,P,.cq,V_,N,ah,t,r⟩
 |a_ q=>cases C;exact⟨w,P,.a_ q,V_,N,ah,t,r⟩
def bQ{a:List cA}{c:bL}(t:iy b WH N F)(C:jI b WH a c):jI b WH (N::a) (bx F c):=HU (Tv t C) λ_ W W D=>Qx D
@[simp] def jr(F:aw ak):bL:=λw=>(F w).map λs=>(.bB,s.2)
variable{F:aw ak}
def oL(c:cg b d F)(av:oR d Y Wk.line b.env=pure au:=by rfl):iy b WH (.Expr d Wk) (jr F):=by
 refine k3 (R4 c av) λU B j a=>?_;let⟨w,P,aW,@R,N,ah,e,r⟩:=a;let⟨@⟨m,V_⟩,t,C⟩:=cm.mp e;cases C;exact⟨w,P,m,_,N,ah,t,λv V1 WL V3 f Wx n=>r B V1 WL dI.refl f<|n.less<|List.Perm.refl _⟩
@[simp] def cM(F:aw ak):bL:=λw=>(F w).map λs=>(.a_ s.1,s.2)
def c7(c:cg b d F):iy b WH (.Return (Z d) Wk) (cM F):=by
 refine k3 (Qf c) λU B j a=>?_;let⟨w,P,aW,@R,N,ah,e,r⟩:=a;let⟨@⟨m,V_⟩,t,C⟩:=cm.mp e;cases C;exact⟨w,P,m,_,N,ah,t,λv V1 WL V3 f Wx n=>r v B V1 WL V3 dI.refl f Wx n⟩
@[simp] def dK(h:aw Bool)(g f:bL):bL:=λw=>(h w).bind λs=>if s.1=X then g s.2 else f s.2
variable{W_:bL}
def fz{g f:List cA}{Xe:bL}(d:iw b h Xp)(e:jI b WH g Xe)(i:jI b WH f W_):iy b WH (.If h g f Wk) (dK Xp Xe W_):=by
 refine k3 (KI d e i) λU B j k=>?_;let⟨w,P,aW,@R,N,ah,l,r⟩:=k;let⟨@⟨E,V_⟩,t,C⟩:=bN.mp l;refine⟨w,P,E,V_,N,ah,t,λWc Wo c a=>?_⟩;cases E with
 |true=>
  rw[aM rfl]at C ⊢;exact⟨V_,Wo,aW,R,c,a.ah,C,r.on dI.refl a⟩
 |false=>
  rw[aN dc]at C ⊢;exact⟨V_,Wo,aW,R,c,a.ah,C,r.on dI.refl a⟩
@[simp] def cj(a:Nat)(F:aw ak):bL:=λw=>(F w).bind λs=>if a<s.2.length then Z (.bB,s.2.set a<|Z s.1) else Y
variable{a:Nat}
def mb{Xt:Pos}(c:b.N.Nodup)(V0:b.N[a]?=Z e)(f:hy b.env.scope e)(g:cg b d F)(h:a∉WH)(av:oR d (Z<|.Name e Xt) Wk.line b.env=pure au:=by rfl)(i:b.fn e=X\/b.env.scope.names.lookup e=Z .local:=by first|exact .inl rfl|exact .inr rfl|assumption):iy b WH (.Assign [.Name e Xt] d Wk) (cj a F):=by
 refine k3 (Ka c V0 f g av i) λU B j k=>?_;let⟨w,P,aW,@R,N,ah,l,r⟩:=k;let⟨@⟨m,V_⟩,t,C⟩:=bN.mp l;split at C
 ·rename_i n;cases C;refine⟨w,P,m,_,N,ah,t,λv Wc Wo V3 o Wx p=>?_⟩;let⟨Wz,@bZ,q,WT⟩:=o.put (a:=a) Wx n;exact r _ Wc Wz (dI.set h) q (p.less WT)
 ·cases C
abbrev fo:=ak->bb->Option bb
def zM(WH:List Nat)(F:fo):gW:=(λv B j y=>∃w P q V3 R,bE j w B P/\cv j q v V3/\(P++V3).Nodup/\F q w=Z R/\∀a V1 WL,dI WH B a->bE V1 R a WL->bt j (P++V3) V1 WL->y a V1)
def iq(b:aQ)(WH:List Nat)(d:bu)(F:fo):Prop:=(∀ ⦃s⦄,GU b d (zM WH F) s)
def x1{E WE:gW}(c:kd b d E)(a:∀v B j y,WE v B j y->E v B j y):kd b d WE:=λG n B j e v y A m f=>c G n B j e v y A m (a e B j y f)
@[simp] def bj(a:Nat):fo:=λq w=>if a<w.length then Z (w.set a<|Z q) else Y
def zD(d:b.N.Nodup)(V0:b.N[a]?=Z e)(f:hy b.env.scope e)(g:a∉WH)(h:b.fn e=X\/b.env.scope.names.lookup e=Z .local:=by first|exact .inl rfl|exact .inr rfl|assumption):iq b WH (.Name e Wk) (bj a):=by
 refine x1 (yf d V0 f h) λv B j y i=>?_;let⟨w,P,q,V3,@R,N,Wx,ah,c,r⟩:=i;unfold bj at c;split at c
 ·rename_i k;cases c;let⟨Wz,@bZ,l,WT⟩:=N.put (a:=a) Wx k;exact r _ j Wz (dI.set g) l ((bt.perm ah<|List.Perm.refl _).less WT)
 ·cases c
def UA(WH:List Nat)(F:List ak->bb->Option bb):k5:=(λV4 B j y=>∃w P J V3 R,bE j w B P/\d1 j J V4 V3/\(P++V3).Nodup/\F J w=Z R/\∀a V1 WL,dI WH B a->bE V1 R a WL->bt j (P++V3) V1 WL->y a V1)
def vr(b:aQ)(WH:List Nat)(Q:List bu)(F:List ak->bb->Option bb):Prop:=(∀ ⦃s⦄,Eg b Q (UA WH F) s)
@[simp] def gF:List ak->bb->Option bb
 |[],w=>Z w
 |_,_=>Y
@[simp] def dT(F:fo)(c:List ak->bb->Option bb):List ak->bb->Option bb
 |q::J,w=>(F q w).bind (c J)
 |_,_=>Y
def CH{E WE:k5}(c:oy b Q E)(a:∀v B j y,WE v B j y->E v B j y):oy b Q WE:=λG n B j z V4 y A m d=>c G n B j z V4 y A m (a z B j y d)
def Ko:vr b WH [] gF:=by
 refine CH JQ λV4 B j y c=>?_;let⟨w,P,J,V3,@R,N,Wx,ah,a,r⟩:=c;cases J with
 |cons q J=>cases a
 |nil=>
  cases a;exact⟨Wx.1,r B j P dI.refl N<|(bt.perm ah<|List.Perm.refl _).less<|List.Perm.refl _⟩
def JR{F:fo}(t:iq b WH d F)(C:vr b WH Q c)(av:(fx (d::Q) b.env).map (·.2)=hS d b.env::(fx Q b.env).map (·.2):=by rfl):vr b WH (d::Q) (dT F c):=by
 refine CH (zi t C av) λV4 B j y u=>?_;let⟨w,P,J,V3,@R,N,Wx,ah,l,r⟩:=u;cases J with
 |nil=>cases l
 |cons q J=>
  let⟨v,m,h,@bZ,rfl,x,n,rfl⟩:=Wx;let⟨@V_,z,A⟩:=bN.mp (show (F q w).bind (c J)=Z R from l);have k:((P++h)++bZ).Nodup:=by rw[bC];exact ah
  refine⟨v,m,rfl,w,P,q,h,V_,N,x,(dJ.mp k).1,z,λXy Wc Wo W8 D e=>?_⟩;have o:∀g∈bZ,g∉P++h:=λg a i=>(dJ.mp k).2.2 g i g a rfl;have E:d1 Wc J m bZ:=n.mono e.tup λg a p d=>e.keep g p d (o g a);have s:bt j (P++(h++bZ)) Wc (Wo++bZ):=by
   refine⟨λg p d a=>e.keep g p d λc=>a ?_,λg a=>?_,dJ.mpr ⟨e.ah,(dJ.mp k).2.1,λg a f i d=>?_⟩,e.tup,e.grow⟩
   ·rw[<-bC];exact gz _ c
   ·rcases c5.mp a with a|a
    ·rcases e.sub g a with c|c
     ·left;rw[<-bC];exact gz _ c
     ·exact .inr c
    ·left;rw[<-bC];exact eW _ a
   ·subst d;rcases e.sub g a with c|c
    ·exact o g i c
    ·let⟨@p,d,W⟩:=n.chg g i;rw[d]at c;cases c
  exact⟨V_,Wo,J,bZ,R,D,E,s.ah,A,λG Ws Wz H I L=>r G Ws Wz (W8.trans H) I<|s.seq L⟩
@[simp] def gj(u:Nat)(c:List ak->bb->Option bb):fo:=λq w=>match q with
 |.im (.tup is)=>if is.length=u then c (is.map .im) w else Y
 |.ez J=>if J.length=u then c J w else Y
 |_=>Y
theorem H4{j:aC}:∀{is:List V}{V4:List ao},bM j is V4->d1 j (is.map .im) V4 []
 |[],V4,c=>⟨c,rfl⟩
 |q::is,V4,c=>by
  let⟨v,@m,rfl,t,C⟩:=c;exact⟨v,m,[],[],rfl,⟨t,rfl⟩,H4 C,rfl⟩
def NG(e:b.calm=X)(av:vr b WH Q c)(f:(fx Q b.env).length=u:=by rfl)(h:(fx Q b.env).findIdx? (·.1)=Y:=by rfl):iq b WH (.Tuple Q o Wk) (gj u c):=by
 refine x1 (Rb e av f h) λv B j y i=>?_;let⟨w,P,q,V3,@R,N,Wx,ah,a,r⟩:=i;unfold gj at a;split at a
 ·rename_i is;split at a
  ·rename_i d;let@⟨⟨g,@z,rfl,t,C⟩,rfl⟩:=Wx;exact⟨g,z,rfl,cz.of t,by rw[<-C.length];exact d,w,P,_,[],R,N,H4 C,ah,a,r⟩
  ·cases a
 ·rename_i J;split at a
  ·rename_i d;let⟨g,@z,rfl,t,C⟩:=Wx;exact⟨g,z,rfl,cz.of t,by rw[<-C.length];exact d,w,P,_,V3,R,N,C,ah,a,r⟩
  ·cases a
 ·cases a
@[simp] def e6(F:aw ak)(c:fo):bL:=λw=>(F w).bind λs=>(c s.1 s.2).map λR=>(.bB,R)
def iH{c:fo}(e:cg b d F)(f:iq b WH WC c)(av:vd [WC] d Wk.line b.env=pure au:=by rfl)(g:tu [WC] d b.env=pure Y:=by rfl)(t:(fx [WC] b.env).map (·.2)=[hS WC b.env]:=by rfl):iy b WH (.Assign [WC] d Wk) (e6 F c):=by
 refine k3 (UJ e f av g t) λU B j h=>?_;let⟨w,P,aW,@R,N,ah,i,r⟩:=h;let⟨@⟨m,V_⟩,g1,g2⟩:=bN.mp i;let⟨@WB,k,l⟩:=cm.mp g2;cases l;exact⟨w,P,m,V_,N,ah,g1,λv Wc Wo V3 n Wx a=>⟨V_,Wo,m,V3,_,n,Wx,a.ah,k,λo V1 WL W8 p q=>r o V1 WL W8 p<|a.seq q⟩⟩
@[simp] def kM(a i:Nat)(F:aw (List bK)):bL:=λw=>(F w).bind λs=>(eJ s.1 s.2).bind λr=>match r.1 with
 |[WY,WW]=>if a<r.2.length/\i<r.2.length then Z (.bB,(r.2.set a<|Z WY).set i<|Z WW) else Y
 |_=>Y
def fF(h:aw Bool)(f:bL):Nat->bL
 |0=>λ_=>Y
 |u+1=>λw=>(h w).bind λs=>if s.1=X then (f s.2).bind λr=>match r.1 with
  |.bB=>fF h f u r.2
  |.cq=>fF h f u r.2
  |.gc=>Z (.bB,r.2)
  |.a_ q=>Z (.a_ q,r.2) else Z (.bB,s.2)
def um(u:Nat)(o:sZ (aR b.prog b.w) b.A b.env b.cJ)(p:iw b h Xp)(s:jI b WH Xw W_):iy b WH (.While h Xw [] Wk) (fF Xp W_ u):=by
 refine k3 (Su o p s) λU B j t=>?_;let⟨w,P,aW,@R,N,ah,x,r⟩:=t;refine⟨λk a V1=>∃g WL,bE V1 g a WL/\dI WH B a/\bt j P V1 WL/\fF Xp W_ k g=Z (aW,R),⟨u,w,P,N,dI.refl,bt.perm ah<|List.Perm.refl _,x⟩,?_⟩;rintro k Xy Wc ⟨V_,Wo,y,i,e,D⟩;cases k with
 |zero=>cases D
 |succ k=>
  rw[fF]at D;let⟨@⟨E,WB⟩,z,l⟩:=bN.mp D;refine⟨V_,Wo,E,WB,y,e.ah,z,λWs Wz n f=>?_⟩;cases E with
  |false=>
   rw[aN dc]at l ⊢;cases l;exact r Xy Ws Wz i n (e.seq f)
  |true=>
   rw[aM rfl]at l ⊢;let⟨@⟨I,A⟩,C,m⟩:=bN.mp l;refine⟨λa V1=>∃g WL,bE V1 g a WL/\dI WH B a/\bt j P V1 WL/\fF Xp W_ k g=Z (aW,R),λa V1 c=>⟨k,lY k,c⟩,WB,Wz,I,A,n,f.ah,C,?_⟩;cases I with
   |bB=>exact λa V1 WL W8 d V5=>⟨A,WL,d,i.trans W8,(e.seq f).seq V5,m⟩
   |cq=>exact λa V1 WL W8 d V5=>⟨A,WL,d,i.trans W8,(e.seq f).seq V5,m⟩
   |gc=>
    cases m;exact λa V1 WL W8 d V5=>r a V1 WL (i.trans W8) d ((e.seq f).seq V5)
   |a_ q=>
    cases m;exact λv a V1 WL V3 W8 d Wx V5=>r v a V1 WL V3 (i.trans W8) d Wx ((e.seq f).seq V5)
structure lq(Xh:iz)(j:aC)(V3:List af)(J:List V):Prop where
 go:∀V1,fU j V1->(∀g∈V3,∀p,j g=Z p->V1 g=Z p)->∀(a:Nat) (q:V),J[a]?=Z q->Xh.go a V1/\∀e zh,Xh.rz a V1 e zh->c9 V1 zh/\cC zh q e
 stop:∀V1,fU j V1->(∀g∈V3,∀p,j g=Z p->V1 g=Z p)->Xh.stop J.length V1
def rX(j:aC)(B:bg)(V3:List af):Option (Nat×ak)->Prop
 |none=>True
 |some (a,q)=>∃v,B[a]?=Z (Z v)/\cv j q v V3
def Bd(F:aw (List V×Option (Nat×ak))):c_:=(λB j a=>∃w P m R,bE j w B P/\P.Nodup/\F w=Z (m,R)/\∀Xh V1 WL V3,bE V1 R B WL->lq Xh V1 V3 m.1->rX V1 B V3 m.2->(∀g∈V3,gY V1 g)->bt j P V1 (WL++V3)->a Xh V1)
def kW(b:aQ)(WC Xa:bu)(F:aw (List V×Option (Nat×ak))):Prop:=(∀ ⦃s⦄,Ic b WC Xa (Bd F) s)
def sg{E WE:c_}(c:jX b WC Xa E)(a:∀B j V3,WE B j V3->E B j V3):jX b WC Xa WE:=λG n B j V3 A d=>c G n B j V3 A (a B j V3 d)
def ew(WC:fo)(f:bL):List V->bL
 |[]=>λw=>Z (.bB,w)
 |e::m=>λw=>(WC (.im e) w).bind λV_=>(f V_).bind λr=>match r.1 with
  |.bB=>ew WC f m r.2
  |.cq=>ew WC f m r.2
  |.gc=>Z (.bB,r.2)
  |.a_ q=>Z (.a_ q,r.2)
@[simp] def lH:Option (Nat×ak)->bb->bb
 |none,w=>w
 |some (a,q),w=>match w[a]? with
  |some (Z .cO)=>w.set a (Z q)
  |_=>w
@[simp] def hC(F:aw (List V×Option (Nat×ak)))(WC:fo)(f:bL):bL:=λw=>(F w).bind λs=>(ew WC f s.1.1 s.2).map λr=>(r.1,lH s.1.2 r.2)
def z1{p:Option (Nat×ak)}(N:bE j w B P)(c:rX j B V3 p):∃Wo V7,bE j (lH p w) B Wo/\(Wo++V7).Perm (P++V3):=by
 cases p with
 |none=>exact⟨P,V3,N,List.Perm.refl _⟩
 |some s=>
  let⟨a,q⟩:=s;let⟨@v,t,C⟩:=c;unfold lH;dsimp only;split
  ·exact N.back C t
  ·exact⟨P,V3,N,List.Perm.refl _⟩
def oZ(W8:List Nat):Option (Nat×ak)->Prop
 |none=>True
 |some (a,_)=>a∈W8
def Um{F:aw (List V×Option (Nat×ak))}{l:fo}(g3:sZ (aR b.prog b.w) b.A b.env b.cJ)(hd:b.calm=X)(V0:kW b WC Xa F)(he:iq b W8 WC l)(hf:jI b W8 Xw W_)(co:∀a∈WH,a∈W8)(av:∀w m R,F w=Z (m,R)->oZ W8 m.2)(cr:hU b (.For WC Xa Xw [] Wk) (Ja (Bd F) (zM W8 l)<|pK W8 W_)):iy b WH (.For WC Xa Xw [] Wk) (hC F l W_):=by
 refine k3 cr λU B j cs=>?_;let⟨w,P,aW,@R,N,ah,db,r⟩:=cs;let⟨@⟨⟨J,p⟩,V_⟩,t,C⟩:=bN.mp db;let⟨@⟨I,WB⟩,ds,dL⟩:=cm.mp C;cases dL;refine⟨w,P,(J,p),V_,N,ah,t,λXh Wc Wo V3 eq ag gP bd al=>?_⟩;have ev:oZ W8 p:=av w _ _ t;have be:=dJ.mp al.ah;have am:∀{Ws:aC}{Wz:List af},bt Wc Wo Ws Wz->∀g∈V3,∀L,Wc g=Z L->Ws g=Z L:=λn g ex L d=>n.keep g L d λc=>be.2.2 g c g ex rfl;have bi:∀{Ws:aC}{Wz:List af}{f:bg},bt Wc Wo Ws Wz->dI W8 B f->rX Ws f V3 p:=λ{Ws Wz f} n I=>by
  cases p with
  |none=>trivial
  |some s=>
   let⟨a,q⟩:=s;let⟨@v,fd,fn⟩:=gP;exact⟨v,(I.2 a ev).trans fd,fn.mono n.tup<|am n⟩
 have bm:∀{f:bg},dI W8 B f->dI WH B f:=λI=>⟨I.1,λa V0=>I.2 a<|co a V0⟩;have bn:∀{f:bg}{Ws:aC}{Wz:List af}{WB:bb},sM WH U B j P (lH p WB) .bB->dI W8 B f->bE Ws WB f Wz->bt Wc Wo Ws Wz->U.bB f Ws:=λ{f Ws Wz WB} r I an x=>by
  let⟨G,@V7,ap,WT⟩:=z1 an (bi x I);exact r f Ws G (bm I) ap ((al.trans x bd).less WT)
 refine⟨λa k as V1=>k+a=J.length/\∃h WL,dI W8 B as/\bE V1 h as WL/\bt Wc Wo V1 WL/\ew l W_ (J.drop a) h=Z (I,WB),⟨J.length,rfl,V_,Wo,dI.refl,eq,bt.perm be.1<|List.Perm.refl _,ds⟩,?_⟩;rintro a k as V1 ⟨hm,h,WL,y,bs,V5,H⟩;by_cases bv:a<J.length
 ·let@⟨fr,f0⟩:=ag.go V1 V5.tup (am V5) a J[a] (by simp[bv]);rw[jA bv,ew]at H;let⟨@A,f1,f2⟩:=bN.mp H;let⟨@⟨ca,a1⟩,f4,M⟩:=bN.mp f2;refine .inr ⟨fr,λf Ws=>(k-1)+(a+1)=J.length/\∃h WL,dI W8 B f/\bE Ws h f WL/\bt Wc Wo Ws WL/\ew l W_ (J.drop<|a+1) h=Z (I,WB),λf Ws c=>⟨k-1,⋯,c⟩,λe Ws f8=>?_⟩;let@⟨a2,ga⟩:=f0 e Ws f8;have an:=bs.mono a2.tupS λg W p d=>a2 g p d;have x:=V5.same a2;refine⟨h,WL,.im J[a],[],A,an,⟨ga,rfl⟩,by rw[cF];exact x.ah,f1,λhw ge G Q ap cd=>?_⟩;have z:bt Wc Wo ge G:=x.seq (by rw[cF]at cd;exact cd);refine⟨A,G,ca,a1,ap,z.ah,f4,?_⟩;cases ca with
  |bB=>exact λS T E i o u=>⟨⋯,a1,E,(y.trans Q).trans i,o,z.seq u,M⟩
  |cq=>exact λS T E i o u=>⟨⋯,a1,E,(y.trans Q).trans i,o,z.seq u,M⟩
  |gc=>
   cases M;exact λS T E i o u=>bn r ((y.trans Q).trans i) o (z.seq u)
  |a_ q=>
   cases M;intro v S T E ce i o gl u;have ch:=z.seq u;have ci:=(y.trans Q).trans i;let⟨cl,@gt,g1,g2⟩:=z1 (V3:=V3) o (bi ch ci);refine r v S T cl ce (bm ci) g1 gl ((al.trans ch bd).less (aO:=gt) ?_);rw[bC];refine (d9 cl dm).trans ?_;rw[<-bC];refine (e5 ce g2).trans ?_;rw[bC,bC];exact d9 _ dm
 ·have V0:a=J.length:=⋯
  subst V0;refine .inl ⟨ag.stop V1 V5.tup<|am V5,?_⟩;rw[oY (bh _)]at H;cases H;exact bn r y bs V5
end
section
variable{b:aQ}
variable{l:fo}
def l9{F:aw (List V×Option (Nat×ak))}{W_:bL}(c:sZ (aR b.prog b.w) b.A b.env b.cJ)(d:b.calm=X)(V0:kW b WC Xa F)(f:iq b W8 WC l)(g:jI b W8 Xw W_)(h:∀a∈WH,a∈W8)(av:∀w m R,F w=Z (m,R)->oZ W8 m.2)(i:∀e,mI Xa b.env e=pure e:=by intro W;rfl):iy b WH (.For WC Xa Xw [] Wk) (hC F l W_):=
 Um c d V0 f g h av (QX c d V0 f g i)
def Nc(V2:Φ)(Xx:b6):c_:=(λB j V3=>Xx B j λe Wc=>∃g,e=.ref g/\(((∃z,dE V2 Wc g z)/\V3 (sP V2 g) Wc)\/((∃z,cz V2 Wc g z)/\V3 (uS V2 g) Wc)))
variable{H:bu}
def T9{Xx:b6}(l:bP b H Xx):jX b WC H (Nc b.K Xx):=by
 intro G n B j V3 A c;refine bU (l G n B j _ A c) λv a m=>?_;let⟨e,@Wc,h,o,q⟩:=m;let⟨@g,d,r⟩:=q;subst d;cases o;rcases r with ⟨⟨z,i⟩,r⟩|⟨⟨z,i⟩,r⟩
 ·let⟨@Wg,t,s,u⟩:=h.list i;refine tF s.isList ?_;refine⟨a.heap.objs.size,[a.heap.objs.size],_,_,Wc,rfl,h.kept (WE:=a.toks) λf p d=>b0 _ d,LS g _,⟨_,c0 _ rfl,rfl,rfl⟩,λf k=>?_,r⟩;have d:f=a.heap.objs.size:=by simpa using k
  subst d;exact h.pW (bh _) (h.a5.fresh<|bh _)
 ·let⟨@Wg,t,s,u⟩:=h.tuple i;refine wpAny_pyIter_tuple (show a.heap.IsTuple g Wg.toArray from s) ?_;refine⟨a.heap.objs.size,[a.heap.objs.size],_,_,Wc,rfl,h.kept (WE:=a.toks) λf p d=>b0 _ d,KS g _,⟨_,c0 _ rfl,rfl,rfl⟩,λf k=>?_,r⟩;have d:f=a.heap.objs.size:=by simpa using k
  subst d;exact h.pW (bh _) (h.a5.fresh<|bh _)
theorem bM.get{j:aC}:∀{J:List V}{V4:List ao}{a:Nat}{q:V},bM j J V4->J[a]?=Z q->∃v,V4[a]?=Z v/\cC j q v
 |[],_,_,_,_,d=>by simp at d
 |q::J,_,0,_,c,d=>by
  let⟨v,@m,rfl,t,C⟩:=c;simp at d;subst d;exact⟨v,rfl,t⟩
 |q::J,_,a+1,_,c,d=>by
  let⟨v,@m,rfl,t,C⟩:=c;let⟨@L,b,e⟩:=bM.get (a:=a) C ⇑d;exact⟨L,by simpa using b,e⟩
variable{g:af}
theorem Qe(c:j g=Z (.lst z))(hd:bM j J z):lq (sP V2 g) j [g] J where
 go:=λV1 E o a q d=>by
  let⟨@v,b,f⟩:=hd.get d;have T:=dE.of (V2:=V2) (o g (.head _) _ c);refine⟨⟨z,v,T,b⟩,λe k ⟨h,i⟩=>?_⟩;subst h;rw[i z T]at b;cases b;exact⟨c9.refl _,f.mono E.tup⟩
 stop:=λV1 E o=>⟨z,dE.of<|o g (.head _) _ c,by rw[<-hd.length];exact bh _⟩
theorem RB{p:a9}(c:j g=Z (.cU p<|.lst z))(hd:bM j J z):lq (sP V2 g) j [] J where
 go:=λV1 E o a q d=>by
  let⟨@v,b,f⟩:=hd.get d;have T:dE V2 V1 g z:=.inl (.inr ⟨p,E.cU _ _ _ c⟩);refine⟨⟨z,v,T,b⟩,λe k ⟨h,i⟩=>?_⟩;subst h;rw[i z T]at b;cases b;exact⟨c9.refl _,f.mono E.tup⟩
 stop:=λV1 E o=>⟨z,.inl<|.inr ⟨p,E.cU _ _ _ c⟩,by rw[<-hd.length];exact bh _⟩
theorem T_(c:j g=Z (.tup z))(hd:bM j J z):lq (uS V2 g) j [] J where
 go:=λV1 E o a q d=>by
  let⟨@v,b,f⟩:=hd.get d;have T:=cz.of (V2:=V2) (E.tup g _ c);refine⟨⟨z,v,T,b⟩,λe k ⟨h,i⟩=>?_⟩;subst h;rw[i z T]at b;cases b;exact⟨c9.refl _,f.mono E.tup⟩
 stop:=λV1 E o=>⟨z,cz.of<|E.tup g _ c,by rw[<-hd.length];exact bh _⟩
abbrev i9:=aw (List V×Option (Nat×ak))
@[simp] def nj(q:ak):Option (List V):=match q with
 |.im (.tup J)=>Z J
 |.lst J=>Z J
 |.dY J=>Z J
 |_=>Y
@[simp] def ct(F:aw bK):i9:=λw=>(F w).bind λs=>match s.1 with
 |.bW q=>(nj q).map λJ=>((J,Y),s.2)
 |.a4 a=>(dG a s.2).bind λr=>(nj r.1).map λJ=>((J,if r.1.cY=X then Y else Z (a,r.1)),r.2)
def DG(D:cv j q v V3)(d:nj q=Z J):
  ∃g,v=.ref g/\(((∃z,dE V2 j g z)/\lq (sP V2 g) j V3 J)\/((∃z,cz V2 j g z)/\lq (uS V2 g) j V3 J)):=by
 unfold nj at d;split at d
 ·cases d;let@⟨⟨g,@z,rfl,t,C⟩,rfl⟩:=D;exact⟨g,rfl,.inr ⟨⟨z,cz.of t⟩,T_ t C⟩⟩
 ·cases d;let⟨g,@z,rfl,t,C,rfl⟩:=D;exact⟨g,rfl,.inl ⟨⟨z,dE.of t⟩,Qe t C⟩⟩
 ·cases d;let⟨g,z,@p,rfl,t,C,rfl⟩:=D;exact⟨g,rfl,.inl ⟨⟨z,.inl<|.inr ⟨p,t⟩⟩,RB t C⟩⟩
 ·cases d
def eN{F:aw bK}(c:dS b H F):kW b WC H (ct F):=by
 refine sg (T9 c) λB j E x=>?_;let⟨w,P,m,@R,N,ah,y,r⟩:=x;let⟨@⟨e,V_⟩,t,C⟩:=bN.mp y;refine⟨w,P,e,V_,N,ah,t,λv Wc Wo V3 k d h=>?_⟩;cases e with
 |bW q=>
  let⟨@J,l,n⟩:=cm.mp C;cases n;let⟨@g,rfl,o⟩:=DG (V2:=b.K) d l;refine⟨g,rfl,?_⟩;rcases o with ⟨f,ag⟩|⟨f,ag⟩
  ·exact .inl ⟨f,r _ Wc Wo V3 k ag trivial (cv.chg d) h⟩
  ·exact .inr ⟨f,r _ Wc Wo V3 k ag trivial (cv.chg d) h⟩
 |a4 a=>
  let⟨@⟨q,WB⟩,l,n⟩:=bN.mp C;let⟨@J,z,A⟩:=cm.mp n;cases A;let⟨G,Wz,@bZ,p,i,s,D⟩:=B9 k l;let@⟨d,rfl⟩:=d;rw[d]at p;cases p;rw[cF]at h;have u:=h.kB D.symm;let⟨@g,rfl,o⟩:=DG (V2:=b.K) i z;have gP:rX Wc B bZ (if q.cY=X then Y else Z (a,q)):=by
   split
   ·trivial
   ·exact⟨_,d,i⟩
  refine⟨g,rfl,?_⟩;rcases o with ⟨f,ag⟩|⟨f,ag⟩
  ·exact .inl ⟨f,r _ Wc Wz bZ s ag gP i.chg u⟩
  ·exact .inr ⟨f,r _ Wc Wz bZ s ag gP i.chg u⟩
def rf{F:aw ak}:∀w m R,ct (ab F) w=Z (m,R)->oZ W8 m.2:=by
 intro w m R c;let⟨@⟨e,V_⟩,t,C⟩:=bN.mp c;unfold ab at t;let⟨@s,d,a⟩:=cm.mp t;cases a;let⟨@J,f,b⟩:=cm.mp C;cases b
 trivial
variable{a:Nat}
def DZ(V0:a∈W8):∀w m R,ct (aj a) w=Z (m,R)->oZ W8 m.2:=by
 intro w m R c;let⟨@⟨e,V_⟩,t,C⟩:=bN.mp c;unfold aj at t;split at t
 ·cases t;let⟨@⟨q,WB⟩,f,b⟩:=bN.mp C;let⟨@J,g,d⟩:=cm.mp b;cases d;show oZ W8 (if q.cY=X then Y else Z (a,q));split
  ·trivial
  ·exact V0
 ·cases t
def iT(S:Int)(u:Nat):List V:=((range u).map λ(o:Nat)=>V.int (S+(o:Int)))
theorem Vm{S:Int}:lq (vU S u) j [] (iT S u) where
 go:=λV1 E o a q d=>by
  have V0:a<u:=by
   have:=(fs.mp d).1
   rwa [iT,ba,hA]at this
  refine⟨V0,λe f ⟨b,c⟩=>?_⟩;subst b;rw[iT,eB,List.getElem?_range V0]at d;cases d;exact⟨c9.refl _,c⟩
 stop:=λV1 E o=>by
  show u<=_;rw[iT,ba,hA];exact bh _
def qN(a:Int):Prop :=( -1000000<=a/\a<=1000000)
noncomputable instance (a:Int):Decidable (qN a):=inferInstanceAs (Decidable<|_/\_)
@[simp] def iB(F:aw (List bK)):i9:=λw=>(F w).bind λs=>(ha s.2 s.1).bind λJ=>match J with
 |[.im (.int i)]=>if qN i then Z ((iT 0 i.toNat,Y),s.2) else Y
 |_=>Y
def A9{q:V}(c:nh j [.im q] V4):∃v,V4=[v]/\cC j q v:=by
 let⟨v,@m,rfl,⟨@V3,t,W⟩,C⟩:=c;cases (show m=[] from C);exact⟨v,rfl,t⟩
def x7{q d:V}(c:nh j [.im q,.im d] V4):∃v L,V4=[v,L]/\cC j q v/\cC j d L:=by
 let⟨v,@m,rfl,⟨@V3,t,W⟩,C⟩:=c;let⟨@L,rfl,a⟩:=A9 C;exact⟨v,L,rfl,t,a⟩
def v7{g:bu}(h:fc b "range")(k:b.aJ "range" = Y)(c:fE b [g] F)(av:bV [g] b.env=[(au,cb g b.env)]:=by rfl):kW b WC (.Call (.Name "range" s) [g] [] Wk) (iB F):=by
 refine sg (Vp h k c av) λB j x l=>?_;let⟨w,P,m,@R,N,ah,n,r⟩:=l;let⟨@⟨Wn,V_⟩,t,C⟩:=bN.mp n;let⟨@J,o,a⟩:=bN.mp C;refine⟨w,P,Wn,V_,N,ah,t,λV4 Wc Wo y e p q=>?_⟩;have u:=p.read e o;split at a
 ·rename_i i;split at a
  ·rename_i f;cases a;let⟨@v,rfl,d⟩:=A9 u;cases (show v=.int i from d);exact⟨i,rfl,by have:=f.1;lia,by have:=f.2;lia,r _ Wc Wo [] e Vm trivial (λg c=>nomatch c) (by rw[cF];exact q.less (List.Perm.refl _))⟩
  ·cases a
 ·cases a
def Gx:∀w m R,iB F w=Z (m,R)->oZ W8 m.2:=by
 intro w m R c;let⟨@⟨Wn,V_⟩,t,C⟩:=bN.mp c;let⟨@J,b,a⟩:=bN.mp C;split at a
 ·split at a
  ·cases a;trivial
  ·cases a
 ·cases a
def tr(b:aQ)(Xq:List bu)(F:aw Bool):Prop:=(∀ ⦃s⦄,Fo b Xq (jP F) s)
def c3:aw Bool:=(λw=>Z (X,w))
def wi:tr b [] c3:=by
 intro G n B j y A a;let⟨w,P,f,@R,N,ah,c,r⟩:=a;cases c;exact Ku G n B j y A (r j P N<|bt.perm ah<|List.Perm.refl _)
def px{F:aw Bool}(c:iw b h F):tr b [h] F:=KA c
@[simp] def j2(WD:List Nat)(w:bb):bb:=WD.map λa=>w.getD a Y
def k2:List Nat->bb->bb
 |[],w=>w
 |a::m,w=>k2 m (match w[a]? with|some (Z _)=>w.set a (Z .cO)|_=>w)
@[simp] def iC:List Nat->bb->bb->bb
 |a::m,p::aO,w=>iC m aO (w.set a p)
 |_,_,w=>w
def fA(own:Nat)(WC:fo)(h:aw Bool)(d:aw ak): List V -> List V -> bb -> Option (List V × bb)
  |[],WA,aO => Z (WA,aO)
  |e :: m,WA,aO => (WC (.im e)<|List.replicate own Y ++ aO).bind λV_ => (h V_).bind λs => if s.1=X then (d s.2).bind λr => match r.1 with
      |.im q => if WA.length<100000 then fA own WC h d m (WA ++ [q]) (r.2.drop own) else Y
      |_ => Y
    else fA own WC h d m WA (s.2.drop own)
@[simp] def ck(own:Nat)(WD:List Nat)(D:i9)(WC:fo)(h:aw Bool)(d:aw ak):aw ak:=λw=>(D w).bind λs=>(fA own WC h d s.1.1 []<|j2 WD s.2).map λr=>(.lst r.1,lH s.1.2<|iC WD r.2 s.2)
def qO(own u:Nat):List Nat:=((range u).map (·+own))
def Tr(c:w[a]?=Z p):w.getD a Y=p:=by rw[cK,c];rfl
def bE.void(N:bE j w B P)(a:Nat):∃Wo Wz,bE j (match w[a]? with|some (Z _)=>w.set a (Z .cO)|_=>w) B Wo/\mK j (w.getD a Y) (B.getD a Y) Wz/\(Wo++Wz).Perm P:=by
 split
 ·rename_i q hd;let⟨v,Wo,@Wz,t,C,b,c⟩:=N.out hd;refine⟨Wz,Wo,b,?_,c⟩;rw[Tr hd,cK,t];exact⟨v,rfl,C⟩
 ·rename_i e;refine⟨P,[],N,?_,by rw[cF]⟩;have:w.getD a Y=Y:=by
   rw[cK];cases d:w[a]? with
   |none=>rfl
   |some p=>
    cases p with
    |none=>rfl
    |some q=>exact absurd d (e q)
  rw[this];exact rfl
theorem DP{j:aC}{B:bg}:∀{WD:List Nat}{w:bb}{P:List af},WD.Nodup->bE j w B P->∃Wo Wz,bE j (k2 WD w) B Wo/\bE j (j2 WD w) (WD.map λa=>B.getD a Y) Wz/\(Wo++Wz).Perm P
 |[],w,P,_,N=>⟨P,[],N,⟨rfl,rfl⟩,by rw[cF]⟩
 |a::m,w,P,ah,N=>by
  let⟨Wo,@Wz,t,C,f⟩:=N.void a;have b:=gb.mp ah;let⟨g,@c,h,e,k⟩:=DP (WD:=m) b.2 t;refine⟨g,Wz++c,h,⟨_,_,Wz,c,rfl,C,?_,rfl⟩,kP.trans<|(d9 _ k).trans<|dm.trans f⟩;have d:j2 m (match w[a]? with|some (Z _)=>w.set a (Z .cO)|_=>w)=j2 m w:=by
   unfold j2;refine rL λi l=>?_;split
   ·rw[cK,cK,oE];rintro rfl;exact b.1 l
   ·rfl
  rw[d]at e;exact e
def bE.Ui(N:bE j w B P)(c:mK j p (B.getD a Y) V7):∃Wo Wz,bE j (w.set a p) B Wo/\(Wo++Wz).Perm (P++V7):=by
 cases p with
 |some q=>
  let⟨@v,d,D⟩:=c;refine N.back D ?_;rw[cK]at d;cases r:B[a]? with
  |none=>rw[r]at d;cases d
  |some e=>rw[r]at d;rw[show e=Z v from d]
 |none=>
  cases (show V7=[] from c);rw[cF];by_cases V0:a<w.length
  ·cases r:w[a]? with
   |none=>exact absurd (List.getElem?_eq_none_iff.mp r) ⋯
   |some e=>
    cases e with
    |none=>
     refine⟨P,[],?_,by rw[cF]⟩;have:w.set a Y=w:=by
      refine qm λi=>?_;by_cases d:a=i
      ·subst d;rw[r,tG V0]
      ·rw[oE d]
     rw[this];exact N
    |some q=>
     let⟨v,Wo,@Wz,t,C,l,n⟩:=N.out r;have gen:∀{w:bb}{B:bg}{P:List af}{a:Nat},bE j w B P->∃Wo Wz,bE j (w.set a Y) B Wo/\(Wo++Wz).Perm P:=by
      intro w;induction w with
      |nil=>intro B P a N;exact⟨P,[],by simpa using N,by rw[cF]⟩
      |cons p w f=>
       intro B P a N;let⟨e,m,O,@W7,rfl,g,b,rfl⟩:=N;cases a with
       |zero=>exact⟨W7,O,⟨e,m,[],W7,rfl,rfl,b,rfl⟩,dm⟩
       |succ a=>
        let⟨aO,@U,h,k⟩:=f (a:=a) b;refine⟨O++aO,U,⟨e,m,O,aO,rfl,g,h,rfl⟩,?_⟩;rw[bC];exact d9 _ k
     exact gen N
  ·refine⟨P,[],?_,by rw[cF]⟩;rw[List.set_eq_of_length_le ⋯];exact N
theorem Gh{j:aC}{B:bg}:∀{WD:List Nat}{aO w:bb}{P V7:List af},bE j w B P->bE j aO (WD.map λa=>B.getD a Y) V7->∃Wo Wz,bE j (iC WD aO w) B Wo/\(Wo++Wz).Perm (P++V7)
 |[],aO,w,P,V7,N,_=>⟨P,V7,by cases aO<;>exact N,List.Perm.refl _⟩
 |a::m,[],w,P,V7,N,c=>⟨P,V7,N,List.Perm.refl _⟩
 |a::m,p::aO,w,P,V7,N,c=>by
  let⟨e,E,g,@h,d,t,C,rfl⟩:=c;cases d;let⟨Wo,@O,b,f⟩:=N.Ui t;let⟨Wz,@W7,WG,WO⟩:=Gh (WD:=m) (aO:=aO) b C;refine⟨Wz,W7++O,WG,?_⟩;rw[<-bC,<-bC];refine (e5 O WO).trans ?_;rw[bC];refine (d9 Wo dm).trans ?_;rw[<-bC];exact e5 _ f
def Rn:∀{WD:List Nat}{aO w:bb},WD.length=aO.length->WD.Nodup->iC WD aO (k2 WD w)=iC WD aO w:=by
 have l:∀{m:List Nat}{aO w:bb}{a:Nat}{p:Option ak},a∉m->iC m aO (w.set a p)=(iC m aO w).set a p:=by
  intro m;induction m with
  |nil=>intro aO w a p W;cases aO<;>rfl
  |cons i m b=>
   intro aO w a p c;cases aO with
   |nil=>rfl
   |cons h aO=>
    have f:a≠i:=λd=>c (by rw[d];exact .head _);show iC m aO ((w.set a p).set i h)=(iC m aO<|w.set i h).set a p;rw[EM _ _ f,b λx=>c<|.tail _ x]
 have g:∀{m:List Nat}{w:bb}{a:Nat}{p:Option ak},a∉m->k2 m (w.set a p)=(k2 m w).set a p:=by
  intro m;induction m with
  |nil=>intro w a p W;rfl
  |cons i m b=>
   intro w a p c;have f:a≠i:=λd=>c (by rw[d];exact .head _);show k2 m (match (w.set a p)[i]? with|some (Z _)=>(w.set a p).set i (Z .cO)|_=>w.set a p)=(k2 m (match w[i]? with|some (Z _)=>w.set i (Z .cO)|_=>w)).set a p;rw[oE f];cases w[i]? with
   |none=>exact b λx=>c (.tail _ x)
   |some r=>
    cases r with
    |none=>exact b λx=>c (.tail _ x)
    |some q=>
     show k2 m ((w.set a p).set i<|Z .cO)=_;rw[EM _ _ f];exact b λx=>c (.tail _ x)
 intro WD;induction WD with
 |nil=>intro aO w W W;cases aO<;>rfl
 |cons a m b=>
  intro aO w j ah;have e:=gb.mp ah;cases aO with
  |nil=>cases j
  |cons h aO=>
   have k:m.length=aO.length:=by simpa using j
   show iC m aO ((k2 m (match w[a]? with|some (Z _)=>w.set a (Z .cO)|_=>w)).set a h)=iC m aO (w.set a h);split
   ·rw[g e.1,u2,<-g e.1,b k e.2]
   ·rw[<-g e.1,b k e.2]
theorem BM{j:aC}{w:bb}{m:bg}{P:List af}(c:bE j w m P):∀{own:List aI},bE j (List.replicate own.length Y++w) (own.map (λ_=>Y)++m) P
 |[]=>c
 |e::own=>⟨Y,_,[],P,rfl,rfl,BM c (own:=own),rfl⟩
theorem yq{j:aC}:∀{u:Nat}{w:bb}{B:bg}{P:List af},bE j w B P->∃Wo Wz,bE j (w.drop u) (B.drop u) Wo/\(Wo++Wz).Perm P
 |0,w,B,P,c=>⟨P,[],c,by rw[cF]⟩
 |u+1,[],B,P,c=>by
  cases c.1;exact⟨[],P,⟨rfl,rfl⟩,List.Perm.refl _⟩
 |u+1,p::w,B,P,c=>by
  let⟨e,m,O,@W7,rfl,t,C,rfl⟩:=c;let⟨Wo,@Wz,a,b⟩:=yq (u:=u) C;exact⟨Wo,Wz++O,a,by rw[<-bC];exact (e5 O b).trans dm⟩
def bt.both(g:bt j P Wc (Wo++V3)):bt j P Wc Wo:=g.less (List.Perm.refl _)
theorem bM.snoc:∀{J:List V}{V4:List ao}{q:V}{v:ao},bM j J V4->cC j q v->bM j (J++[q]) (V4++[v])
 |[],V4,q,v,c,D=>by cases (show V4=[] from c);exact⟨v,[],rfl,D,rfl⟩
 |d::J,V4,q,v,c,D=>by
  let⟨L,@m,rfl,t,C⟩:=c;exact⟨L,m++[v],rfl,t,C.snoc D⟩
variable{D:i9}
def H9(ah:WD.Nodup)(c:mT (ck own.length WD D l Xp Xz) B j y):
  ua own WD (Bd D) (λ_=>zM (qO own.length WD.length) l) (λ_=>jP Xp) (λ_=>mT Xz) B j y:=by
 let⟨w,P,m,@R,N,f0,f1,r⟩:=c;let⟨@⟨⟨z,p⟩,V_⟩,t,C⟩:=bN.mp f1;let⟨@⟨J,bs⟩,f2,f4⟩:=cm.mp C;cases f4;refine⟨w,P,(z,p),V_,N,f0,t,λXh Wc Wo V3 f8 ag gP ga ge lm=>?_⟩;let⟨hp,@I,bv,E,WT⟩:=DP ah f8;have ca:bt j P Wc (I++(hp++V3)):=ge.kB (by
  refine (e5 V3 WT.symm).trans ?_;rw[bC];exact kP)
 have cd:=dJ.mp ca.ah;have gl:∀e∈hp++V3,gY Wc e:=λe G=>by
  rcases c5.mp G with G|G
  ·exact bv.chg e G
  ·exact ga e G
 have U:∀{Ws:aC}{Wz:List af},bt Wc I Ws Wz->∀g∈hp++V3,∀L,Wc g=Z L->Ws g=Z L:=λn g b L d=>n.keep g L d λc=>cd.2.2 g c g b rfl;refine⟨λa k Wm V1=>k+a=z.length/\∃WA aO H,bE V1 aO (WD.map λa=>B.getD a Y) H/\aO.length=WD.length/\bt Wc I V1 H/\bM V1 WA Wm/\fA own.length l Xp Xz (z.drop a) WA aO=Z (J,bs),
  ⟨z.length,rfl,[],j2 WD V_,I,E,by rw[j2,ba],bt.perm cd.1<|List.Perm.refl _,rfl,f2⟩,?_⟩;rintro a k Wm V1 ⟨al,WA,aO,H,ce,gt,V5,ch,am⟩;by_cases ci:a<z.length
 ·let@⟨g1,g2⟩:=ag.go V1 V5.tup (λg b=>U V5 g<|eW _ b) a z[a] (by simp[ci]);rw[jA ci,fA]at am;let⟨@A,g3,hd⟩:=bN.mp am;let⟨@⟨f,as⟩,he,Q⟩:=bN.mp hd;refine .inr ⟨g1,λcl Ws=>(k-1)+(a+1)=z.length/\∃WA aO H,bE Ws aO (WD.map λa=>B.getD a Y) H/\aO.length=WD.length/\bt Wc I Ws H/\bM Ws WA cl/\fA own.length l Xp Xz (z.drop<|a+1) WA aO=Z (J,bs),λcl Ws c=>⟨k-1,⋯,c⟩,λe Ws G=>?_⟩;let@⟨o,hf⟩:=g2 e Ws G;have hm:=ce.mono o.tupS λg W p d=>o g p d;have co:=V5.same o;have an:=ch.mono o.tupS.tup;refine⟨List.replicate own.length Y++aO,H,.im z[a],[],A,BM hm,⟨hf,rfl⟩,by rw[cF];exact co.ah,g3,λa1 hw cr ap cs a2=>⟨λi v h=>?_,?_⟩⟩
  ·
   have ln:own.length<=i:=by
    by_cases h0:i<own.length
    ·rw[ko,mj ⇑h0,eB]at h;cases d:own[i]? with
     |none=>rw[d]at h;cases h
     |some x=>rw[d]at h;cases h
    ·lia
   have ls:i<own.length+WD.length:=by
    have:=(fs.mp h).1
    rwa [ko,di,ba,ba]at this
   have al:i∈qO own.length WD.length:=cG.mpr ⟨i-own.length,eV.mpr ⋯,⋯⟩;exact (ap.2 i al).trans h
  ·have db:bt Wc I hw cr:=co.seq (by rw[cF]at a2;exact a2);have an:=an.mono a2.tup.tup;have ds:a1.drop own.length=WD.map λa=>B.getD a Y:=by
    have lv:=cs.len;refine qm λi=>?_;by_cases h:i<WD.length
    ·have al:i+own.length∈qO own.length WD.length:=cG.mpr ⟨i,eV.mpr h,rfl⟩;have:=ap.2 _ al;rw[mY,Fi,this,ko,mf ↥0,ba,IC]
    ·have lw:a1.length<=own.length+WD.length:=by
      rw[ap.1,ko,di,ba,ba];exact bh _
     rw[rY (by rw[gH];lia),rY (by rw[ba];lia)]
   have dL:a1.length=own.length+WD.length:=by rw[ap.1,ko,di,ba,ba]
   refine⟨A,cr,f,as,cs,db.ah,he,λmo bd M be=>?_⟩;have S:=db.seq be;dsimp only at Q ⊢;cases f with
   |false=>
    rw[aN dc]at Q ⊢;let⟨T,@eq,F,bi⟩:=yq (u:=own.length) M;rw[ds]at F;exact⟨⋯,WA,as.drop own.length,T,F,by rw[gH,M.len,dL];lia,S.less bi,an.mono be.tup.tup,Q⟩
   |true=>
    rw[aM rfl]at Q ⊢;let⟨@⟨v,ev⟩,ii,O⟩:=bN.mp Q;dsimp only at O;split at O
    ·rename_i q;split at O
     ·rename_i ms;refine⟨as,bd,.im q,ev,M,S.ah,ii,λL m0 T na F Wx bm=>?_⟩;let@⟨io,rfl⟩:=Wx;rw[cF]at bm;have ex:=(an.mono be.tup.tup).mono bm.tup.tup;refine⟨wA (show Wm.length<=100000 by rw[<-ex.length];lia) ∅,?_⟩;let⟨it,@nb,fd,jp⟩:=yq (u:=own.length) F;rw[ds]at fd;exact⟨⋯,WA++[q],ev.drop own.length,it,fd,by rw[gH,F.len,dL];lia,(S.seq bm).less jp,ex.snoc io,O⟩
     ·cases O
    ·cases O
 ·have V0:a=z.length:=⋯
  subst V0;refine .inl ⟨ag.stop V1 V5.tup<|λg b=>U V5 g<|eW _ b,λbn fn=>?_⟩;rw[oY (bh _),fA]at am;cases am;have kt:bE V1 (k2 WD V_) B hp:=bv.mono V5.tup λg b=>U V5 g (gz _ b);let⟨bd,@fr,M,kw⟩:=Gh kt ce;rw[Rn (by rw[gt]) ah]at M;have lc:rX V1 B V3 p:=by
   cases p with
   |none=>trivial
   |some s=>
    let⟨a,q⟩:=s;let⟨@v,lf,li⟩:=gP;exact⟨v,lf,li.mono V5.tup λg b=>U V5 g<|eW _ b⟩
  let⟨T,@eq,F,bi⟩:=z1 (V3:=V3) M lc;have o:c9 V1 (upd V1 bn<|.lst Wm):=(c9.refl V1).upd fn;have S:bt j P V1 T:=(ca.trans V5 gl).less (aO:=eq++fr) (by
   rw[<-bC];refine (e5 fr bi).trans ?_;rw[bC];refine (d9 bd dm).trans ?_;rw[<-bC];refine (e5 V3 kw).trans ?_;rw[bC];exact kP)
  exact r _ _ T [bn] (F.mono o.tupS λg W p d=>o g p d) ⟨bn,Wm,rfl,fm,ch.mono o.tupS.tup,rfl⟩ (S.add fn F.chg)
def n8{Xs:bu}{Xq:List bu}{Wq:g_}(d:b.calm=X)(We:h4 b Wq own WD)(ah:WD.Nodup)(V0:kW b WC Xa D)(f:∀a,iq (b.fT (fY b own WD) Wq a) (qO own.length WD.length) WC l)(bT:∀a,tr (b.fT (fY b own WD) Wq a) Xq Xp)(g:∀a,cg (b.fT (fY b own WD) Wq a) Xs Xz)(av:∀e,mI Xa b.env e=pure e:=by intro W;rfl):cg b (.ListComp Xs [⟨WC,Xa,Xq,0⟩] Wq Wk) (ck own.length WD D l Xp Xz):=
 ey (Rf d We V0 f bT g av) λB j y c=>H9 ah c
end
@[simp] def jk(WH:List Nat):List ak->bb->Nat->List ak
 |q::J,p::w,i=>(if q.cY=X then q else if i∈WH then p.getD .cO else .cO)::jk WH J w (i+1)
 |q::J,[],i=>(if q.cY=X then q else .cO)::jk WH J [] (i+1)
 |[],_,_=>[]
@[simp] def dk(u k:Nat)(WH:List Nat)(F:bL):c6:=λJ=>if J.length=u then match F (J.map Z++List.replicate (k-u) Y) with
 |some (.a_ m,w)=>Z (m,jk WH J w 0)
 |some (.bB,w)=>Z (.im .aV,jk WH J w 0)
 |_=>Y else Y
theorem B8{j:aC}:∀{J:List ak}{V4:List ao}{P:List af}{k:Nat},d1 j J V4 P->bE j (J.map Z++List.replicate k Y) (V4.map Z++List.replicate k Y) P
 |[],V4,P,k,c=>by
  let@⟨rfl,rfl⟩:=c;show bE j (List.replicate k Y) (List.replicate k Y) [];induction k with
  |zero=>exact⟨rfl,rfl⟩
  |succ k a=>exact⟨Y,_,[],[],rfl,rfl,a,rfl⟩
 |q::J,V4,P,k,c=>by
  let⟨v,m,Wo,@Wz,rfl,t,C,rfl⟩:=c;exact⟨Z v,_,Wo,Wz,rfl,⟨v,rfl,t⟩,B8 C,rfl⟩
theorem Bi{j V1:aC}{WH:List Nat}(E:fU j V1):∀{J:List ak}{V4:List ao}{l:List af}{w:bb}{B:bg}{P:List af}{a:Nat},d1 j J V4 l->bE V1 w B P->(∀(i:Nat) (v:ao),(a+i)∈WH->V4[i]?=Z v->B[i]?=Z (Z v))->
  ∃V3 V7,d1 V1 (jk WH J w a) V4 V3/\(V3++V7).Perm P
 |[],V4,l,w,B,P,a,c,N,_=>⟨[],P,by unfold jk;exact⟨c.1,rfl⟩,List.Perm.refl _⟩
 |q::J,V4,l,[],B,P,a,c,N,o=>by
  let⟨v,m,O,@W7,rfl,t,C,rfl⟩:=c;let@⟨rfl,rfl⟩:=N;let⟨V3,@V7,b,f⟩:=Bi (w:=[]) (B:=[]) (P:=[]) (a:=a+1) E C ⟨rfl,rfl⟩ λi v r s=>by
   have:=o (i+1) v (by rw[show a+(i+1)=a+1+i by lia];exact r) ⇑s;simp at this
  rw[jk];refine⟨V3,V7,⟨v,m,[],V3,rfl,?_,b,rfl⟩,f⟩;split
  ·rename_i h;have:=t.mono E λg k=>by rw[t.cY h]at k;cases k
   rw[t.cY h]at this;exact this
  ·exact rfl
 |q::J,V4,l,p::w,B,P,a,c,N,o=>by
  let⟨v,m,O,@W7,rfl,t,C,rfl⟩:=c;let⟨e,n,aO,@U,rfl,x,y,rfl⟩:=N;let⟨V3,@V7,b,f⟩:=Bi (w:=w) (B:=n) (a:=a+1) E C y λi v r s=>by
   have:=o (i+1) v (by rw[show a+(i+1)=a+1+i by lia];exact r) ⇑s;simpa using this
  rw[jk];split
  ·rename_i h;have u:=t.mono E λg k=>by rw[t.cY h]at k;cases k
   rw[t.cY h]at u;refine⟨V3,V7++aO,⟨v,m,[],V3,rfl,u,b,rfl⟩,?_⟩;rw[<-bC];exact (e5 aO f).trans dm
  ·split
   ·rename_i z;have A:e=Z v:=by
     have:=o 0 v z rfl;simpa using this
    subst A;cases p with
    |none=>
     refine⟨V3,V7++aO,⟨v,m,[],V3,rfl,rfl,b,rfl⟩,?_⟩;rw[<-bC];exact (e5 aO f).trans dm
    |some d=>
     let⟨@G,F,D⟩:=x;cases F;refine⟨aO++V3,V7,⟨v,m,aO,V3,rfl,D,b,rfl⟩,?_⟩;rw[bC];exact d9 _ f
   ·refine⟨V3,V7++aO,⟨v,m,[],V3,rfl,rfl,b,rfl⟩,?_⟩;rw[<-bC];exact (e5 aO f).trans dm
section
variable{Wd:bJ}{D:bl}{V2:Φ}{aJ:aI->Option ae}{Wh:aY}
def PU{Xc:aI}{I:af}{Ww:List aI}{o:Nat}{F:bL}(P:gU V2 e Xc N I fd)(We:o6 Ww Wj (d2 N))(z:Wj.length=u)(H:∀a∈WH,a<u)(A:∀(x:ae) (O:bD) (W0:List eT) (n:aq) (j:aC) (U:gv),eP o (O.deeper<|jQ Xc (d2 N) n.heap.objs.size I x)->jI (lR ik Wd D V2 aJ Wh Ww Xc (d2 N) I x O W0 n j U).od WH (hh N) F):
  h6 Wd D V2 aJ Wh ik (o+1) I fd Wj (j4 u<|dk u Ww.length WH F):=by
 refine P.ok We (λV4 j y U c=>c.1.trans z.symm) (λx O W0 n j V4 y U V9 c=>⟨_,A x O W0 n j U V9,?_⟩);let@⟨p,⟨J,h,m,@E,Wx,ah,b,r⟩⟩:=c;have B:J.length=u:=Wx.length.trans p;unfold dk at b;rw[aM B]at b;have N:=B8 (k:=Ww.length-u) Wx;have Q:start Ww V4=V4.map Z++List.replicate (Ww.length-u) Y:=by unfold start;rw[p]
 rw[Q];have q:∀{f:bg}{V1:aC}{WL:List af}{R:bb}{v:ao}{V3:List af},jk WH J R 0=E->dI WH (V4.map Z++List.replicate (Ww.length-u) Y) f->bE V1 R f WL->cv V1 m v V3->bt j h V1 (WL++V3)->y v V1:=λ{f V1 WL R v V3} C W8 g l V5=>by
  let⟨bZ,@V7,s,G⟩:=Bi (WH:=WH) (a:=0) V5.tup Wx g λi v t w=>by
   rw[Fj]at t;rw[W8.2 i t,mj (by rw[ba];exact (fs.mp w).1),eB,w];rfl
  rw[C]at s;refine r v V1 V3 bZ l s (V5.less (aO:=V7) ?_);rw[bC];exact (d9 V3 G).trans dm
 split at b
 ·rename_i WV R d;cases b;exact⟨_,h,.a_ m,R,N,ah,d,λv f V1 WL V3 W8 g l V5=>q rfl W8 g l V5⟩
 ·rename_i R d;cases b;exact⟨_,h,.bB,R,N,ah,d,λf V1 WL W8 g V5=>q rfl W8 g ⟨rfl,rfl⟩ (by rw[cF];exact V5)⟩
 ·cases b
end
def cc(j:aC)(q:ak)(y:cH):Prop:=(∀v V1 V3,c9 j V1->cv V1 q v V3->V3.Nodup->(∀g∈V3,j g=Y)->y v V1)
def cc.Fc{q:V}(r:cc j (.im q) y)(n:c9 j V1)(c:cC V1 q v):y v V1:=r v V1 [] n ⟨c,rfl⟩ hu (λg a=>nomatch a)
def cc.i{j:aC}{q:V}{y:cH}{v:ao}(r:cc j (.im q) y)(c:cC j q v):y v j:=r.Fc (c9.refl j) c
def cc.l{s:af}(r:cc j (.lst J) y)(a:j s=Y)(c:bM j J z):y (.ref s) (upd j s<|.lst z):=by
 have n:c9 j (upd j s<|.lst z):=(c9.refl j).upd a;exact r _ _ [s] n ⟨s,z,rfl,fm,c.mono n.tupS.tup,rfl⟩ (fC _ _) λg b=>by rw[cP.mp b];exact a
def cc.t{j:aC}{J:List V}{z:List ao}{y:cH}{s:af}(r:cc j (.im<|.tup J) y)(a:j s=Y)(c:bM j J z):y (.ref s) (upd j s<|.tup z):=by
 have n:c9 j (upd j s<|.tup z):=(c9.refl j).upd a;exact r.Fc n ⟨s,z,rfl,fm,c.mono n.tupS.tup⟩
section
variable{b:aQ}
def dU.imp{I:ae->ae->dr ae}{m:bZ}(c:dU b I m)(a:∀e l j y,WV e l j y->m e l j y):dU b I WV:=λG n B j e l v L y A d f g=>c G n B j e l v L y A d f (a e l j y g)
def eO.imp{I:ae}{m WV:List ao->aC->cH->Prop}(c:eO b I m)(a:∀z j y,WV z j y->m z j y):eO b I WV:=λG n B j z Wl y A d e=>c G n B j z Wl y A d (a z j y e)
def i7.imp{m:bZ}(c:i7 b m)(a:∀e l j y,WV e l j y->m e l j y):i7 b WV:=λd f G n B j e l v L y A g h i=>c d f G n B j e l v L y A g h (a e l j y i)
def fl.i{j:aC}{q:V}{v:ao}(c:fl j (.im q) v):cC j q v:=c.elim λ_ D=>D.1
end
abbrev gs:=ak->ak->Option ak
@[simp] def i4(aO:Int->Int->Bool)(F:Int->Int->V):gs:=λg f=>match g,f with
 |.im (.int a),.im (.int i)=>if aO a i=X then Z (.im<|F a i) else Y
 |_,_=>Y
def JO{aO:Int->Int->Bool}{F:Int->Int->V}{g f:ak}(c:i4 aO F g f=Z q):∃a i,g=.im (.int a)/\f=.im (.int i)/\aO a i=X/\q=.im (F a i):=by
 unfold i4 at c;split at c
 ·rename_i a i;split at c
  ·rename_i b;cases c;exact⟨a,i,rfl,rfl,b,rfl⟩
  ·cases c
 ·cases c
section
variable{b:aQ}
variable{I:ae->ae->dr ae}{F:Int->Int->ao}{c:Int->Int->V}
def uZ{aO:Int->Int->Prop}{W7:Int->Int->Bool}(p:dU b I (p6 aO F))(f:∀a i,W7 a i=X->aO a i)(g:∀j a i,cC j (c a i)<|F a i):e_ b I (i4 W7 c):=
 p.imp λe l j y ⟨WY,WW,q,h,k,d,r⟩=>by
  let⟨a,@i,rfl,rfl,m,rfl⟩:=JO d;exact⟨a,i,h.i,k.i,f a i m,cc.i r<|g j a i⟩
def sI(p:dU b I (l5 F))(f:∀j a i,cC j (c a i)<|F a i):e_ b I (i4 (λ_ W=>X) c):=
 p.imp λe l j y ⟨WY,WW,q,g,h,d,r⟩=>by
  let⟨a,@i,rfl,rfl,k,rfl⟩:=JO d;exact⟨a,i,g.i,h.i,cc.i r<|f j a i⟩
@[simp] def gV:gs:=i4 (λ_ W=>X) λa i=>.int (a-i)
def hs(a i:Int):Bool:=(!(decide (a0.Int.intBits a>vM)&&decide (a0.Int.intBits i>vM)&&a0.Int.intTooBig (a0.Int.intBits a+a0.Int.intBits i)))
@[simp] def eR:gs:=i4 hs λa i=>.int (a*i)
@[simp] def mA:gs:=i4 (λ_ i=>decide (0<i/\i<1073741824)) λa i=>.int (a/i)
@[simp] def f3:gs:=i4 (λ_ i=>decide (0<i)) λa i=>.int (a%i)
@[simp] def m9:gs:=i4 (λa i=>decide (0<=i/\i<=1000000/\a.natAbs<2^64)) λa i=>.int (a^i.toNat)
@[simp] def hH:gs:=i4 (λ_ W=>X) λa i=>.aB (decide (a<i))
@[simp] def ek:gs:=i4 (λ_ W=>X) λa i=>.aB (decide (a<=i))
@[simp] def oK:gs:=i4 (λ_ W=>X) λa i=>.aB (decide (i<a))
@[simp] def HS:gs:=i4 (λ_ W=>X) λa i=>.aB (decide (i<=a))
def kZ:e_ b (gh .Sub) gV:=sI Sp λ_ W W=>rfl
def kp:e_ b (gh .Mult) eR:=uZ Oe (λa i c=>by unfold hs at c;unfold IntMulOk;rw[l1]at c;rw[c];exact dc) λ_ W W=>rfl
def zQ:e_ b (gh .FloorDiv) mA:=uZ Kn (λa i c=>show 0<i/\i<1073741824 from hz c) λ_ W W=>rfl
def m8:e_ b (gh .Mod) f3:=uZ Lo (λa i c=>hz c) λ_ W W=>rfl
def tR:e_ b (gh .Pow) m9:=uZ US (λa i c=>show 0<=i/\i<=1000000/\a.natAbs<2^64 from hz c) λ_ W W=>rfl
def ph:e_ b (d3 .Lt) hH:=sI RP λ_ W W=>rfl
def lg:e_ b (d3 .LtE) ek:=sI Uo λ_ W W=>rfl
def Dh:e_ b (d3 .Gt) oK:=sI KQ λ_ W W=>rfl
def O2:e_ b (d3 .GtE) HS:=sI T4 λ_ W W=>rfl
def LJ:dU b (gh .Add) (λe l j y=>∃g f Wm,e=.ref g/\l=.ref f/\cz b.K j g []/\cz b.K j f Wm/\y (.ref f) j):=by
 intro G n B j e l v L y A o p c;let⟨g,f,@Wm,rfl,rfl,q,s,r⟩:=c;cases o;cases p;let⟨@Wg,t,w,W⟩:=A.tuple q;let⟨@D,E,W2,W⟩:=A.tuple s;have d:Wg=[]:=t.wx.mpr rfl;subst d;let⟨@⟨cls,x,data,a4⟩,a,h,⟨@u,hd⟩⟩:=id w;let⟨@⟨F,z,data2,C⟩,i,k,⟨@Xk,m⟩⟩:=id W2;simp only at h hd k m;subst h hd k m;exact zg ⟨_,a,rfl⟩ ⟨_,i,rfl⟩ w3 yP xG xA (zZ _ _) (tuple_addW0 g f _ _ u Xk x z a4 C rfl) ⟨a,i,.ref f,j,A,rfl,r⟩
@[simp] def cD:gs:=λg f=>match g,f with
 |.im (.int a),.im (.int i)=>Z (.im<|.int<|a+i)
 |.im (.tup e),.im (.tup l)=>if e.length+l.length<=100000 then Z (.im<|.tup<|e++l) else Y
 |.lst e,.lst l=>if e.length+l.length<=100000 then Z (.lst<|e++l) else Y
 |.im (.str e),.im (.str l)=>if e.length+l.length<=100000 then Z (.im<|.str<|e++l) else Y
 |_,_=>Y
theorem bM.app:∀{g f:List V}{e l:List ao},bM j g e->bM j f l->bM j (g++f) (e++l)
 |[],f,e,l,c,o=>by cases (show e=[] from c);exact o
 |q::g,f,e,l,c,o=>by
  let⟨v,@m,rfl,t,C⟩:=c;exact⟨v,m++l,rfl,t,C.app o⟩
def bM.nil{j:aC}{g:List V}(c:bM j g []):g=[]:=by
 cases g with
 |nil=>rfl
 |cons q g=>let⟨W,@W,d,W⟩:=c;cases d
def e7:e_ b (gh .Add) cD:=by
 refine (RW.or<|LJ.or<|NA.or<|Uw.or La).imp λe l j y x=>?_;let⟨WY,WW,@q,n,o,d,r⟩:=x;unfold cD at d;split at d
 ·cases d;exact .inl ⟨_,_,n.i,o.i,cc.i r rfl⟩
 ·rename_i g f;split at d
  ·rename_i h;cases d;let⟨s,@z,rfl,t,C⟩:=n.i;let⟨k,@Wm,rfl,m,c⟩:=o.i;refine .inr ?_;by_cases v:z=[]
   ·subst v;cases C.nil;exact .inl ⟨s,k,Wm,rfl,rfl,cz.of t,cz.of m,cc.i r ⟨k,Wm,rfl,m,c⟩⟩
   ·refine .inr (.inl ⟨s,k,z,Wm,rfl,rfl,cz.of t,cz.of m,v,ow (by rw[<-C.length,<-c.length];exact h),λw=>?_,λw u p=>cc.t r p<|C.app c⟩);subst w;cases c.nil;rw[cF]at r;exact cc.i r ⟨s,z,rfl,t,C⟩
  ·cases d
 ·rename_i g f;split at d
  ·rename_i h;cases d;let⟨W,s,@z,rfl,t,C,W⟩:=n;let⟨W,k,@Wm,rfl,m,c,W⟩:=o;exact .inr (.inr (.inr (.inl ⟨s,k,z,Wm,rfl,rfl,t,m,ow (by rw[<-C.length,<-c.length];exact h),λu p=>cc.l r p<|C.app c⟩)))
  ·cases d
 ·rename_i g f;split at d
  ·rename_i h;cases d;exact .inr (.inr<|.inr<|.inr ⟨g,f,n.i,o.i,ow h,cc.i r rfl⟩)
  ·cases d
 ·cases d
def Sx(u:Nat){O:bD}{e l:V}{L v:ae}(m:V.bG u e=X)(bf:V.bG u l=X)(T:O.units+u+2<bS)(o:dp n.heap e L)(b:dp n.heap l v):SeqAt.RcAt O n L v (cL e l):=by
 cases e with
 |aV=>
  cases (show L=.none from o);cases l with
  |aV=>cases (show v=.none from b);exact MU
  |aB f=>cases (show v=.bool f from b);exact Ot f
  |int i=>let⟨@E,rfl⟩:=b;exact Mi i E
  |str x=>let⟨@E,rfl⟩:=b;exact K1 x E
  |tup J=>let⟨g,p,Wv,@k,rfl,t,C,j,W⟩:=b;exact Mv ⟨p,t,C,k,j⟩ ⋯
  |fn g=>cases u<;>cases bf
  |aW g=>cases u<;>cases bf
  |fd=>cases u<;>cases bf
 |aB f=>
  cases (show L=.bool f from o);cases l with
  |aV=>cases (show v=.none from b);exact Sv f
  |aB h=>cases (show v=.bool h from b);exact UK f h
  |int i=>let⟨@E,rfl⟩:=b;exact Mj f i E
  |str x=>let⟨@E,rfl⟩:=b;exact UQ f x E
  |tup J=>let⟨g,p,Wv,@k,rfl,t,C,j,W⟩:=b;exact Lb f ⟨p,t,C,k,j⟩ ⋯
  |fn g=>cases u<;>cases bf
  |aW g=>cases u<;>cases bf
  |fd=>cases u<;>cases bf
 |int a=>
  let⟨@c,rfl⟩:=o;cases l with
  |aV=>cases (show v=.none from b);exact Kv a c
  |aB h=>cases (show v=.bool h from b);exact N1 a c h
  |int i=>let⟨@E,rfl⟩:=b;exact NQ a c i E
  |str x=>let⟨@E,rfl⟩:=b;exact PB a c x E
  |tup J=>let⟨g,p,Wv,@k,rfl,t,C,j,W⟩:=b;exact N9 a c ⟨p,t,C,k,j⟩ ⋯
  |fn g=>cases u<;>cases bf
  |aW g=>cases u<;>cases bf
  |fd=>cases u<;>cases bf
 |str a=>
  let⟨@c,rfl⟩:=o;cases l with
  |aV=>cases (show v=.none from b);exact J6 a c
  |aB h=>cases (show v=.bool h from b);exact P4 a c h
  |int i=>let⟨@E,rfl⟩:=b;exact KX a c i E
  |str x=>let⟨@E,rfl⟩:=b;exact MF a c x E
  |tup J=>let⟨g,p,Wv,@k,rfl,t,C,j,W⟩:=b;exact OM a c ⟨p,t,C,k,j⟩ ⋯
  |fn g=>cases u<;>cases bf
  |aW g=>cases u<;>cases bf
  |fd=>cases u<;>cases bf
 |fn g=>cases u<;>cases m
 |aW g=>cases u<;>cases m
 |fd=>cases u<;>cases m
 |tup J=>
  cases u with
  |zero=>cases m
  |succ u=>
  let⟨g,p,Wv,@k,rfl,t,C,j,s⟩:=o;have WZ:n.heap.IsTuple g Wv:=⟨p,t,C,k,j⟩;cases l with
  |aV=>cases (show v=.none from b);exact M9 WZ ⋯
  |aB h=>cases (show v=.bool h from b);exact UW h WZ ⋯
  |int i=>let⟨@E,rfl⟩:=b;exact Q6 i E WZ ⋯
  |str x=>let⟨@E,rfl⟩:=b;exact SX x E WZ ⋯
  |fn g=>cases bf
  |aW g=>cases bf
  |fd=>cases bf
  |tup Q=>
   let⟨f,WN,q,@D,rfl,F,G,H,w⟩:=b;have Xi:n.heap.IsTuple f q:=⟨WN,F,G,D,H⟩;have y:=s.length;have z:=w.length;have I:Wv.toList.length=Wv.size:=by simp
   have M:q.toList.length=q.size:=by simp
   rw[I]at y;rw[M]at z;have r:=I2 (A:=O) (e:=λi=>cL (J.getD i .aV)<|Q.getD i .aV) WZ Xi ⋯ λi N P=>by
    let⟨@WY,A,R⟩:=s.get (i:=i) (v:=Wv[i]) (by rw[eQ];simp[N]);let⟨@WW,B,S⟩:=w.get (i:=i) (v:=q[i]) (by rw[eQ];simp[P]);rw[cK,A,cK,B];exact jh u (kf m A) (kf bf B) (by show O.units+1+u+1<bS;lia) R S
   rw[<-y,<-z,rM (J:=J) (Q:=Q) (λi e l g f=>by rw[cK,g,cK,f];rfl)]at r;rw[cL];exact r
@[simp] def hL:gs:=λg f=>match g,f with
 |.im e,.im l=>if (V.bG 8 e&&V.bG 8 l)=X then Z (.im<|.aB<|cL e l) else Y
 |.lst e,.lst l=>if (V.dy 8 e&&V.dy 8 l)=X then Z (.im<|.aB<|fG e l) else Y
 |_,_=>Y
theorem yL:∀{e l:List V},e.length≠l.length->fG e l=au
 |[],[],c=>absurd rfl c
 |[],_::_,_=>rfl
 |_::_,[],_=>rfl
 |g::e,f::l,c=>by
  rw[fG,yL (λd=>c (by rw[dj,dj,d])),Bool.and_false]
def pN{G:List (af×a9)}(A:aK b G B j n){g:af}{z:List ao}{J:List V}(t:j g=Z (.lst z))(C:bM j J z):∃Wg:List ae,n.heap.IsList g Wg.toArray/\dP n.heap J Wg/\Wg.length=J.length:=by
 let@⟨x,⟨Wg,@u,a,d⟩⟩:=A.a5 g _ t;have:=C.eY A.a5 a;exact⟨Wg,⟨_,d,rfl,u,rfl⟩,this,this.length.symm⟩
def pw(an:b.A.units+20<bS):e_ b (d3 .Eq) hL:=by
 intro G n B j e l v L y A p u P;let⟨WY,WW,@q,h,k,d,r⟩:=P;unfold hL at d;split at d
 ·rename_i g f;split at d
  ·rename_i c;cases d;rw[cN]at c;exact Sx 8 c.1 c.2 ⋯ (h.i.eY A.a5 p) (k.i.eY A.a5 u) b.prog b.w _ _ ⟨.aB _,j,A,rfl,cc.i r rfl⟩
  ·cases d
 ·rename_i g f;split at d
  ·rename_i c;cases d;rw[cN]at c;let⟨W,s,@z,rfl,t,C,W⟩:=h;let⟨W,ap,@Wm,rfl,R,S,W⟩:=k;cases p;cases u;let⟨@T,x,U,o⟩:=pN A t C;let⟨@al,E,am,Xk⟩:=pN A R S;by_cases m:g.length=f.length
   ·have:=SM (A:=b.A) (e:=λi=>cL (g.getD i .aV)<|f.getD i .aV) x E (by rw[cR,cR,o,Xk];exact m) ⋯ λi F H=>by
     let⟨@WY,I,h⟩:=U.get (i:=i) (v:=T.toArray[i]) (by simp at F;simp[F]);let⟨@WW,M,k⟩:=am.get (i:=i) (v:=al.toArray[i]) (by simp at H;simp[H]);rw[cK,I,cK,M];exact jh 8 (kf c.1 I) (kf c.2 M) (by show b.A.units+1+8+1<bS;lia) h k
    refine this b.prog b.w _ _ ⟨.aB _,j,A,rfl,?_⟩;have N:=rM (J:=g) (Q:=f) (d:=λi=>cL (g.getD i .aV)<|f.getD i .aV) (λi e l g f=>by rw[cK,g,cK,f];rfl);rw[<-m,GH,ig,BX]at N;rw[cR,o,N];exact cc.i r rfl
   ·refine SQ (A:=b.A) x E (by rw[cR,cR,o,Xk];simpa using m) ⋯ b.prog b.w _ _ ⟨.aB _,j,A,rfl,?_⟩;rw[yL m]at r;exact cc.i r rfl
  ·cases d
 ·cases d
end
section
variable{b:aQ}
def K9(u:Nat){O:bD}{e l:V}{L v:ae}(m:V.bG u e=X)(bf:V.bG u l=X)(T:O.units+u+2<bS)(o:dp n.heap e L)(b:dp n.heap l v):SeqAt.RcNeAt O n L v (!cL e l):=by
 cases e with
 |aV=>
  cases (show L=.none from o);cases l with
  |aV=>cases (show v=.none from b);exact Rg
  |aB f=>cases (show v=.bool f from b);exact Oz f
  |int i=>let⟨@E,rfl⟩:=b;exact TF i E
  |str x=>let⟨@E,rfl⟩:=b;exact N4 x E
  |tup J=>let⟨g,p,Wv,@k,rfl,t,C,j,W⟩:=b;exact R0 ⟨p,t,C,k,j⟩ ⋯
  |fn g=>cases u<;>cases bf
  |aW g=>cases u<;>cases bf
  |fd=>cases u<;>cases bf
 |aB f=>
  cases (show L=.bool f from o);cases l with
  |aV=>cases (show v=.none from b);exact KC f
  |aB h=>cases (show v=.bool h from b);exact UG f h
  |int i=>let⟨@E,rfl⟩:=b;exact Nj f i E
  |str x=>let⟨@E,rfl⟩:=b;exact RZ f x E
  |tup J=>let⟨g,p,Wv,@k,rfl,t,C,j,W⟩:=b;exact UL f ⟨p,t,C,k,j⟩ ⋯
  |fn g=>cases u<;>cases bf
  |aW g=>cases u<;>cases bf
  |fd=>cases u<;>cases bf
 |int a=>
  let⟨@c,rfl⟩:=o;cases l with
  |aV=>cases (show v=.none from b);exact Px a c
  |aB h=>cases (show v=.bool h from b);exact O5 a c h
  |int i=>let⟨@E,rfl⟩:=b;exact O1 a c i E
  |str x=>let⟨@E,rfl⟩:=b;exact LD a c x E
  |tup J=>let⟨g,p,Wv,@k,rfl,t,C,j,W⟩:=b;exact Rl a c ⟨p,t,C,k,j⟩ ⋯
  |fn g=>cases u<;>cases bf
  |aW g=>cases u<;>cases bf
  |fd=>cases u<;>cases bf
 |str a=>
  let⟨@c,rfl⟩:=o;cases l with
  |aV=>cases (show v=.none from b);exact Kl a c
  |aB h=>cases (show v=.bool h from b);exact OA a c h
  |int i=>let⟨@E,rfl⟩:=b;exact Oo a c i E
  |str x=>let⟨@E,rfl⟩:=b;exact NN a c x E
  |tup J=>let⟨g,p,Wv,@k,rfl,t,C,j,W⟩:=b;exact J2 a c ⟨p,t,C,k,j⟩ ⋯
  |fn g=>cases u<;>cases bf
  |aW g=>cases u<;>cases bf
  |fd=>cases u<;>cases bf
 |fn g=>cases u<;>cases m
 |aW g=>cases u<;>cases m
 |fd=>cases u<;>cases m
 |tup J=>
  cases u with
  |zero=>cases m
  |succ u=>
  let⟨g,p,Wv,@k,rfl,t,C,j,s⟩:=o;have WZ:n.heap.IsTuple g Wv:=⟨p,t,C,k,j⟩;cases l with
  |aV=>cases (show v=.none from b);exact TJ WZ ⋯
  |aB h=>cases (show v=.bool h from b);exact Kh h WZ ⋯
  |int i=>let⟨@E,rfl⟩:=b;exact SA i E WZ ⋯
  |str x=>let⟨@E,rfl⟩:=b;exact S3 x E WZ ⋯
  |fn g=>cases bf
  |aW g=>cases bf
  |fd=>cases bf
  |tup Q=>
   let⟨f,WN,q,@D,rfl,F,G,H,w⟩:=b;have Xi:n.heap.IsTuple f q:=⟨WN,F,G,D,H⟩;have y:=s.length;have z:=w.length;have I:Wv.toList.length=Wv.size:=by simp
   have M:q.toList.length=q.size:=by simp
   rw[I]at y;rw[M]at z;have r:=J3 (A:=O) (e:=λi=>cL (J.getD i .aV)<|Q.getD i .aV) WZ Xi ⋯ λi N P=>by
    let⟨@WY,A,R⟩:=s.get (i:=i) (v:=Wv[i]) (by rw[eQ];simp[N]);let⟨@WW,B,S⟩:=w.get (i:=i) (v:=q[i]) (by rw[eQ];simp[P]);rw[cK,A,cK,B];exact jh u (kf m A) (kf bf B) (by show O.units+1+u+1<bS;lia) R S
   rw[<-y,<-z,rM (J:=J) (Q:=Q) (λi e l g f=>by rw[cK,g,cK,f];rfl)]at r;rw[cL];exact r
@[simp] def lj:gs:=λg f=>match g,f with
 |.im e,.im l=>if (V.bG 8 e&&V.bG 8 l)=X then Z (.im<|.aB<|!cL e l) else Y
 |.lst e,.lst l=>if (V.dy 8 e&&V.dy 8 l)=X then Z (.im<|.aB<|!fG e l) else Y
 |_,_=>Y
def w0(an:b.A.units+20<bS):e_ b (d3 .NotEq) lj:=by
 intro G n B j e l v L y A p u P;let⟨WY,WW,@q,h,k,d,r⟩:=P;unfold lj at d;split at d
 ·rename_i g f;split at d
  ·rename_i c;cases d;rw[cN]at c;exact K9 8 c.1 c.2 ⋯ (h.i.eY A.a5 p) (k.i.eY A.a5 u) b.prog b.w _ _ ⟨.aB _,j,A,rfl,cc.i r rfl⟩
  ·cases d
 ·rename_i g f;split at d
  ·rename_i c;cases d;rw[cN]at c;let⟨W,s,@z,rfl,t,C,W⟩:=h;let⟨W,ap,@Wm,rfl,R,S,W⟩:=k;cases p;cases u;let⟨@T,x,U,o⟩:=pN A t C;let⟨@al,E,am,Xk⟩:=pN A R S;by_cases m:g.length=f.length
   ·have:=S9 (A:=b.A) (e:=λi=>cL (g.getD i .aV)<|f.getD i .aV) x E (by rw[cR,cR,o,Xk];exact m) ⋯ λi F H=>by
     let⟨@WY,I,h⟩:=U.get (i:=i) (v:=T.toArray[i]) (by simp at F;simp[F]);let⟨@WW,M,k⟩:=am.get (i:=i) (v:=al.toArray[i]) (by simp at H;simp[H]);rw[cK,I,cK,M];exact jh 8 (kf c.1 I) (kf c.2 M) (by show b.A.units+1+8+1<bS;lia) h k
    refine this b.prog b.w _ _ ⟨.aB _,j,A,rfl,?_⟩;have N:=rM (J:=g) (Q:=f) (d:=λi=>cL (g.getD i .aV)<|f.getD i .aV) (λi e l g f=>by rw[cK,g,cK,f];rfl);rw[<-m,GH,ig,BX]at N;rw[cR,o,N];exact cc.i r rfl
   ·refine Us (A:=b.A) x E (by rw[cR,cR,o,Xk];simpa using m) ⋯ b.prog b.w _ _ ⟨.aB _,j,A,rfl,?_⟩;rw[yL m]at r;exact cc.i r rfl
  ·cases d
 ·cases d
@[simp] def nL(u:Bool):gs:=λg f=>match g,f with
 |.im e,.im .aV=>Z (.im<|.aB<|u != decide (e=.aV))
 |.im (.aB e),.im (.aB l)=>Z (.im<|.aB<|u != (e==l))
 |_,_=>Y
def Cd{q:V}(c:cC j q v):decide (v=.aV)=decide (q=.aV):=by
 cases q with
 |aV=>cases (show v=.aV from c);rfl
 |aB f=>cases (show v=.aB f from c);rfl
 |int f=>cases (show v=.int f from c);rfl
 |str f=>cases (show v=.str f from c);rfl
 |fn f=>cases (show v=.ref f from c);rfl
 |tup J=>let⟨g,@z,rfl,W⟩:=c;rfl
 |aW J=>let⟨g,z,@p,rfl,W⟩:=c;rfl
 |fd=>let⟨g,@p,rfl,W⟩:=c;rfl
def Ux:dU b (d3 .Is) (λe l j y=>∃g f,e=.aB g/\l=.aB f/\y (.aB<|g==f) j):=by
 intro G n B j e l v L y A a c d;let⟨g,@f,h,i,r⟩:=d;subst h i;cases a;cases c;refine wpAny_is_plain (by cases g<;>cases f<;>rfl) ⟨.aB<|g==f,j,A,?_,r⟩;cases g<;>cases f<;>rfl
def N5:dU b (d3 .IsNot) (λe l j y=>∃g f,e=.aB g/\l=.aB f/\y (.aB<|!(g==f)) j):=by
 intro G n B j e l v L y A a c d;let⟨g,@f,h,i,r⟩:=d;subst h i;cases a;cases c;refine wpAny_isNot_plain (by cases g<;>cases f<;>rfl) ⟨.aB<|!(g==f),j,A,?_,r⟩;cases g<;>cases f<;>rfl
def QH:e_ b (d3 .Is) (nL au):=by
 refine (Mg.or Ux).imp λe l j y h=>?_;let⟨WY,WW,@q,c,f,d,r⟩:=h;unfold nL at d;split at d
 ·rename_i g;cases d;refine .inl ⟨f.i,?_⟩;rw[Cd c.i];refine cc.i r ?_;show _=_;rw[DO]
 ·cases d;refine .inr ⟨_,_,c.i,f.i,cc.i r ?_⟩;show _=_;rw[DO]
 ·cases d
def FW:e_ b (d3 .IsNot) (nL X):=by
 refine (NC.or N5).imp λe l j y h=>?_;let⟨WY,WW,@q,c,f,d,r⟩:=h;unfold nL at d;split at d
 ·rename_i g;cases d;refine .inl ⟨f.i,?_⟩;rw[Cd c.i];refine cc.i r ?_;show _=_;rw[Ec]
 ·cases d;refine .inr ⟨_,_,c.i,f.i,cc.i r ?_⟩;show _=_;rw[Ec]
 ·cases d
def d8{Wu:Type}[DecidableEq Wu](Wf:List (Wu×V))(o:Wu):Option V:=((Wf.find? λs=>decide (s.1=o)).map (·.2))
theorem m4{Wu:Type}[DecidableEq Wu]{j:aC}{o:Wu}:∀{Wf:List (Wu×V)}{i:List (Wu×ao)},ep j Wf i->(∀q,d8 Wf o=Z q->∃v,hO i o=Z v/\cC j q v)/\(d8 Wf o=Y->hO i o=Y)
 |_,_,.nil=>⟨(λq d=>by cases d),(λ_=>rfl)⟩
 |_,_,.cons (a:=s) (b:=r) c E=>by
  let@⟨t,C⟩:=m4 (o:=o) E;by_cases d:s.1=o
  ·have a:r.1=o:=c.1.symm.trans d;refine⟨λq hd=>?_,λb=>?_⟩
   ·have:∀m,d8 (s::m) o=Z s.2:=λm=>by simp[d8,lx,d]
    rw[this]at hd;cases hd;exact⟨r.2,vR a,c.2⟩
   ·have:∀m,d8 (s::m) o=Z s.2:=λm=>by simp[d8,lx,d]
    rw[this]at b;cases b
  ·have a:¬ r.1=o:=λx=>d (c.1.trans x);have:∀m,d8 (s::m) o=d8 m o:=λm=>by simp[d8,lx,d]
   rw[this,vj a];exact⟨t,C⟩
@[simp] def bA:gs:=λg f=>match g,f with
 |.im (.tup J),.im (.int a)=>(fy J a).map .im
 |.lst J,.im (.int a)=>(fy J a).map .im
 |.dY J,.im (.int a)=>(fy J a).map .im
 |.aF Wf,.im (.tup o)=>if V.keys 7 o=X then (d8 Wf o).map .im else Y
 |.dw Wf,.im (.int a)=>(d8 Wf<|.inl a).map .im
 |.dw Wf,.im (.str a)=>(d8 Wf<|.inr a).map .im
 |.fp Wf,.im (.tup o)=>if V.keys 7 o=X then (d8 Wf o).map .im else Y
 |_,_=>Y
def PE(a:b.A.units+20<bS):i7 b (λe l j y=>∃g v,e=.ref g/\f9 j g l (Z v)/\y v j):=by
 intro k m G n B j e l v L y A c f ⟨g,x,d,F,r⟩ av;subst d;cases c;exact tail_any (PJ A F) PySem.F.slot_dict_getitem.lookup (UP a A F f λo p h i=>⟨x,j,h,i,r⟩) av
def yp{a:Int}{q:V}(c:bM j J z)(d:fy J a=Z q):∃v,fy z a=Z v/\cC j q v:=by
 unfold fy at d ⊢;rw[<-c.length];let⟨@i,b,e⟩:=bN.mp d;let⟨@v,f,g⟩:=c.get e;exact⟨v,by rw[b];exact f,g⟩
def Qw(B:b.A.units+20<bS):i7 b (λe l j y=>∃WY WW q,fl j WY e/\fl j WW l/\bA WY WW=Z q/\∀v V1 V3,c9 j V1->cv V1 q v V3->V3.Nodup->(∀g∈V3,j g=Y)->y v V1):=by
 refine (T2.or<|G6.or<|PE B).imp λe l j y D=>?_;let⟨WY,WW,@q,u,w,d,r⟩:=D;unfold bA at d;split at d
 ·let⟨@W3,c,h⟩:=cm.mp d;cases h;let⟨s,@z,rfl,t,C⟩:=u.i;let⟨@v,m,n⟩:=yp C c;exact .inr (.inl ⟨s,z,_,v,rfl,w.i,cz.of t,m,cc.i r n⟩)
 ·let⟨@W3,c,h⟩:=cm.mp d;cases h;let⟨W,s,@z,rfl,t,C,W⟩:=u;let⟨@v,m,n⟩:=yp C c;exact .inl ⟨s,z,_,v,rfl,w.i,dE.of t,m,cc.i r n⟩
 ·let⟨@W3,c,h⟩:=cm.mp d;cases h;let⟨W,s,z,@p,rfl,t,C,W⟩:=u;let⟨@v,m,n⟩:=yp C c;exact .inl ⟨s,z,_,v,rfl,w.i,.inl<|.inr ⟨p,t⟩,m,cc.i r n⟩
 ·rename_i Wf o;split at d
  ·rename_i x;let⟨@W3,c,h⟩:=cm.mp d;cases h;let⟨W,s,@i,rfl,t,C,W⟩:=u;let⟨@v,m,n⟩:=(m4 C).1 W3 c;let⟨f,@z,rfl,WG,WO⟩:=w.i;exact .inr (.inr ⟨s,v,rfl,by rw[<-m];exact f9.t t ⟨x,f,z,rfl,WG,WO⟩,cc.i r n⟩)
  ·cases d
 ·rename_i Wf a;let⟨@W3,c,h⟩:=cm.mp d;cases h;let⟨W,s,@i,rfl,t,C,W⟩:=u;let⟨@v,m,n⟩:=(m4 C).1 W3 c;refine .inr (.inr ⟨s,v,rfl,?_,cc.i r n⟩);rw[show l=cB (.inl a) from w.i,<-m];exact f9.k t
 ·rename_i Wf a;let⟨@W3,c,h⟩:=cm.mp d;cases h;let⟨W,s,@i,rfl,t,C,W⟩:=u;let⟨@v,m,n⟩:=(m4 C).1 W3 c;refine .inr (.inr ⟨s,v,rfl,?_,cc.i r n⟩);rw[show l=cB (.inr a) from w.i,<-m];exact f9.k t
 ·rename_i Wf o;split at d
  ·rename_i x;let⟨@W3,c,h⟩:=cm.mp d;cases h;let⟨W,s,i,@WI,rfl,t,C,W⟩:=u;let⟨@v,m,n⟩:=(m4 C).1 W3 c;let⟨f,@z,rfl,WG,WO⟩:=w.i;exact .inr (.inr ⟨s,v,rfl,.inr ⟨i,o,f,.inr ⟨WI,t⟩,rfl,⟨x,f,z,rfl,WG,WO⟩,m.symm⟩,cc.i r n⟩)
  ·cases d
 ·cases d
end
end L2
namespace dt
open Spec PyProof.Rows
section
variable{Wb:bJ}{D:bl}{O:bD}{U:ae->aq->Prop}{n:aq}
def Ki{E a4:af}{Wg:Array ae}{bW l:ae}{S V0:Option Int}{y:ae->aq->Prop}(s:nK n.heap E Wg)(av:n.heap.IsSliceOf a4 bW l .none)(bG:k9 bW S)(a:k9 l V0)(b:cn Wg.size 0 S=0)(t:cn Wg.size Wg.size V0=Wg.size)(r:y (.ref E) n):wpAny (aR Wb D) O (nA (.ref E)<|.ref a4) y U n:=by
 let⟨@Wn,c,d,hd⟩:=id av;have ty:n.TypeIs (.ref a4) "slice" := ⟨Wn,c,d⟩;unfold nA;try with_reducible refine f6 ?_
 first|refine ar (aL ?_)|skip
 refine ar (GZ s.typeIs ∅ ?_);refine ar (kl (name:=aI.ofString "__getitem__") s.typeIs pl<|gd pl s.typeIs Il ?_<|Dn _ _);show wpAny _ _ (a0.Tuple.tupleItemsOf (.ref E) >>= _) _ _ n;refine ar (Hb s ?_);refine ar (o7 ty ?_);rw[aM ∅];refine ar (EF av bG a ?_);rw[b,t];show wpAny _ _ (if (((0:Nat):Int)==0&&(1:Int)==1&&(Wg.size-0)==Wg.size)=X then _ else _) _ _ n;rw[aM ↥0];refine ar (m:=a0.Tuple.tupleIsExact _) (ar<|o7 s.typeIs<|aL ?_);show wpAny _ _ (if (ae.type "tuple" == ae.type "tuple")=X then _ else _) _ _ n;rw[aM ∅];exact ar (iZ<|aL ⟨_,rfl,aL r⟩)
end
end dt
namespace L2
open Spec PyProof.Rows
section
variable{b:aQ}
@[simp] def jb(F:aw ak):aw ak:=λw=>(F w).bind λs=>match s.1 with
 |.im (.int a)=>Z (.im<|.int<|-a,s.2)
 |_=>Y
variable{F:aw ak}{Wk:Pos}
def qJ{g:bu}(c:cg b g F):cg b (.UnaryOp .USub g Wk) (jb F):=by
 refine ey (QF QG c) λB j y d=>?_;let⟨w,P,m,@R,N,ah,f,r⟩:=d;let⟨@⟨e,V_⟩,t,C⟩:=bN.mp f;refine⟨w,P,e,V_,N,ah,t,λv Wc Wo V3 h Wx i=>?_⟩;dsimp only at C;split at C
 ·rename_i a;cases C;exact⟨a,Wx.1,r _ Wc Wo [] h ⟨rfl,rfl⟩ (by rw[cF];exact i.both)⟩
 ·cases C
def KH(F:aw (Option Int)):c2:=(λB j y=>∃w P H R,bE j w B P/\P.Nodup/\F w=Z (H,R)/\∀V1 WL,bE V1 R B WL->bt j P V1 WL->y H V1)
def vw(b:aQ)(d:Option bu)(F:aw (Option Int)):Prop:=(∀ ⦃s⦄,DD b d (KH F) s)
def I0{d:Option bu}{E WE:c2}(c:pB b d E)(a:∀B j y,WE B j y->E B j y):pB b d WE:=λG n B j y A e=>c G n B j y A (a B j y e)
def jE:aw (Option Int):=(λw=>Z (Y,w))
@[simp] def ki(F:aw ak):aw (Option Int):=λw=>(F w).bind λs=>match s.1 with
 |.im (.int a)=>Z (Z a,s.2)
 |_=>Y
def wK:vw b Y jE:=by
 refine I0 Nb λB j y a=>?_;let⟨w,P,m,@R,N,ah,c,r⟩:=a;cases c;exact r j P N (bt.perm ah<|List.Perm.refl _)
variable{d:bu}
def tY(c:cg b d F):vw b (Z d) (ki F):=by
 refine I0 (J9 c) λB j y f=>?_;let⟨w,P,m,@R,N,ah,g,r⟩:=f;let⟨@⟨e,V_⟩,t,C⟩:=bN.mp g;refine⟨w,P,e,V_,N,ah,t,λv Wc Wo V3 h Wx i=>?_⟩;dsimp only at C;split at C
 ·rename_i a;cases C;exact⟨a,Wx.1,r Wc Wo h i.both⟩
 ·cases C
def hq{Wr:Type}(z:List Wr)(S V0:Option Int):List Wr:=((z.drop<|dt.cn z.length 0 S).take (dt.cn z.length z.length V0-dt.cn z.length 0 S))
variable{j:aC}
theorem bM.drop:∀{J:List V}{z:List ao} (u:Nat),bM j J z->bM j (J.drop u) (z.drop u)
 |J,z,0,c=>c
 |[],z,u+1,c=>by cases (show z=[] from c);exact rfl
 |q::J,z,u+1,c=>by
  let⟨v,@m,rfl,t,C⟩:=c;exact C.drop u
theorem bM.take:∀{J:List V}{z:List ao} (u:Nat),bM j J z->bM j (J.take u) (z.take u)
 |J,z,0,c=>rfl
 |[],z,u+1,c=>by cases (show z=[] from c);exact rfl
 |q::J,z,u+1,c=>by
  let⟨v,@m,rfl,t,C⟩:=c;exact⟨v,_,rfl,t,C.take u⟩
def bM.cut{J:List V}{z:List ao}(S V0:Option Int)(c:bM j J z):bM j (hq J S V0) (m7 z S V0):=by
 unfold hq m7;rw[c.length];exact (c.drop _).take _
@[simp] def mx(q:ak)(S V0:Option Int):Option ak:=match q with
 |.im (.tup J)=>Z (.im<|.tup<|hq J S V0)
 |.lst J=>Z (.lst<|hq J S V0)
 |.dY J=>Z (.lst<|hq J S V0)
 |_=>Y
def KW(V2:Φ):ao->Option Int->Option Int->aC->cH->Prop:=(λe S V0 j y=>∃g z,e=.ref g/\cz V2 j g z/\dt.cn z.length 0 S=0/\dt.cn z.length z.length V0=z.length/\y (.ref g) j)
def MY:sh b (λe S V0 j y=>∃q m,fl j q e/\mx q S V0=Z m/\cc j m y):=by
 have all:sh b (KW b.K):=by
  intro G n B j e v bW l S V0 a4 y A f av bG h c;let⟨g,@z,rfl,D,F,t,r⟩:=c;cases f;let⟨@Wg,m,bT,L⟩:=A.tuple D;have x:Wg.toArray.size=z.length:=by rw[cR];exact m.length.symm
  exact⟨"tuple",_,pl.lookup,bT.typeIs,dt.Ki bT av bG h (by rw[x];exact F) (by rw[x];exact t) ⟨.ref g,j,A,rfl,r⟩⟩
 intro G n B j e v bW l S V0 a4 y A f av bG h I;let⟨q,@m,w,d,r⟩:=I;unfold mx at d;split at d
 ·rename_i J;cases d;let⟨s,@z,rfl,t,C⟩:=w.i;by_cases k:dt.cn z.length 0 S=0/\dt.cn z.length z.length V0=z.length
  ·refine all G n B j _ v bW l S V0 a4 y A f av bG h ⟨s,z,rfl,cz.of t,k.1,k.2,cc.i r ⟨s,z,rfl,t,?_⟩⟩;have:hq J S V0=J:=by
    unfold hq;rw[C.length,k.1,k.2,lU,zH,<-C.length,oz]
   rw[this];exact C
  ·exact QV G n B j _ v bW l S V0 a4 y A f av bG h ⟨s,z,rfl,cz.of t,k,λu o=>cc.t r o<|C.cut S V0⟩
 ·cases d;let⟨W,s,@z,rfl,t,C,W⟩:=w;exact GN G n B j _ v bW l S V0 a4 y A f av bG h ⟨s,z,rfl,dE.of t,λu o=>cc.l r o<|C.cut S V0⟩
 ·cases d;let⟨W,s,z,@p,rfl,t,C,W⟩:=w;exact GN G n B j _ v bW l S V0 a4 y A f av bG h ⟨s,z,rfl,.inl<|.inr ⟨p,t⟩,λu o=>cc.l r o<|C.cut S V0⟩
 ·cases d
@[simp] def iW(F:aw bK)(H c:aw (Option Int)):aw ak:=λw=>(F w).bind λs=>(H s.2).bind λr=>(c r.2).bind λm=>(dO m.2 s.1).bind λq=>(mx q r.1 m.1).map λW3=>(W3,m.2)
def tC{S V0:Option bu}{F:aw bK}{k l:aw (Option Int)}{W2:Pos}(s:dS b d F)(u:vw b S k)(x:vw b V0 l):cg b (.Subscript d (.Slice S V0 Y W2) Wk) (iW F k l):=by
 refine ey (Qq MY s u x) λB j y z=>?_;let⟨w,P,m,@R,N,ah,E,r⟩:=z;let⟨@⟨e,V_⟩,t,C⟩:=bN.mp E;let⟨@⟨H,WB⟩,G,I⟩:=bN.mp C;let⟨@⟨L,A⟩,J,M⟩:=bN.mp I;let⟨@q,O,Q⟩:=bN.mp M;let⟨@W3,T,U⟩:=cm.mp Q;cases U;refine⟨w,P,e,V_,N,ah,t,λv Wc Wo V3 al n a=>⟨V_,Wo,H,WB,al,(dJ.mp a.ah).1,G,λWs Wz am o=>⟨WB,Wz,L,A,am,o.ah,J,λan ap f as=>?_⟩⟩⟩;have h:=o.seq as;have a1:iP an B e v V3:=n.mono h.tup λg a2 p d=>h.keep g p d λc=>(dJ.mp a.ah).2.2 g c g a2 rfl;have bd:=a.trans h n.chg;exact⟨q,_,a1.read f O,T,λD be bi i Wx bm bn=>r D be ap bi (f.mono i.tupS λg W p d=>i g p d) Wx<|bd.new i bm bn f.chg⟩
abbrev i1:=List ak->Option ak
@[simp] def eS:i1:=λJ=>match J with
 |[.im (.tup e)]=>Z (.im<|.int e.length)
 |[.lst e]=>Z (.im<|.int e.length)
 |[.dY e]=>Z (.im<|.int e.length)
 |[.jf e]=>Z (.im<|.int e.length)
 |[.dw e]=>Z (.im<|.int e.length)
 |[.im (.str e)]=>if e.length<=100000 then Z (.im<|.int e.length) else Y
 |_=>Y
variable{V4:List ao}
def g4{q:ak}(c:nh j [q] V4):∃v,V4=[v]/\fl j q v:=by
 let⟨v,@m,rfl,t,C⟩:=c;cases (show m=[] from C);exact⟨v,rfl,t⟩
def I1{q d:ak}(c:nh j [q,d] V4):∃v L,V4=[v,L]/\fl j q v/\fl j d L:=by
 let⟨v,@m,rfl,t,C⟩:=c;let⟨@L,rfl,a⟩:=g4 C;exact⟨v,L,rfl,t,a⟩
def ep.length{Wu:Type}{H:List (Wu×V)}{k:List (Wu×ao)}(c:ep j H k):H.length=k.length:=ea.length c
def ks:hI b (.builtin "len") eS:=by
 refine (P_.or<|L1.or Ub).imp λz j y f=>?_;let⟨J,@q,e,d,r⟩:=f;unfold eS at d;split at d
 ·cases d;let⟨@v,rfl,c⟩:=g4 e;let⟨s,@z,rfl,t,C⟩:=c.i;exact .inl ⟨s,z,rfl,.inr<|cz.of t,by rw[<-C.length];exact cc.i r rfl⟩
 ·cases d;let⟨@v,rfl,⟨W,s,@z,rfl,t,C,W⟩⟩:=g4 e;exact .inl ⟨s,z,rfl,.inl<|dE.of t,by rw[<-C.length];exact cc.i r rfl⟩
 ·cases d;let⟨@v,rfl,⟨W,s,z,@p,rfl,t,C,W⟩⟩:=g4 e;exact .inl ⟨s,z,rfl,.inl<|.inl<|.inr ⟨p,t⟩,by rw[<-C.length];exact cc.i r rfl⟩
 ·cases d;let⟨@v,rfl,⟨W,s,z,@V7,rfl,t,C,W⟩⟩:=g4 e;exact .inl ⟨s,z,rfl,.inl<|dE.of t,by rw[<-C.length];exact cc.i r rfl⟩
 ·cases d;let⟨@v,rfl,⟨W,s,@i,rfl,t,C,W⟩⟩:=g4 e;exact .inr (.inr ⟨s,i,rfl,t,by rw[<-C.length];exact cc.i r rfl⟩)
 ·split at d
  ·rename_i g;cases d;let⟨@v,rfl,c⟩:=g4 e;cases (show v=_ from c.i);exact .inr (.inl ⟨_,rfl,ow g,cc.i r rfl⟩)
  ·cases d
 ·cases d
@[simp] def gK:i1:=λJ=>match J with
 |[q]=>(nj q).map λe=>.im (.tup e)
 |_=>Y
@[simp] def r2:i1:=λJ=>match J with
 |[q]=>(nj q).map .lst
 |_=>Y
def ij:hI b (.type "tuple") gK:=by
 refine Oi.imp λz j y h=>?_;let⟨J,@q,k,d,r⟩:=h;unfold gK at d;split at d
 ·let⟨@e,f,l⟩:=cm.mp d;cases l;let⟨@v,rfl,c⟩:=g4 k;unfold nj at f;split at f
  ·cases f;let⟨s,@z,rfl,t,C⟩:=c.i;exact⟨s,z,rfl,.inr ⟨cz.of t,cc.i r ⟨s,z,rfl,t,C⟩⟩⟩
  ·cases f;let⟨W,s,@z,rfl,t,C,W⟩:=c;exact⟨s,z,rfl,.inl ⟨dE.of t,λH g=>cc.t r g C⟩⟩
  ·cases f;let⟨W,s,z,@p,rfl,t,C,W⟩:=c;exact⟨s,z,rfl,.inl ⟨.inl<|.inr ⟨p,t⟩,λH g=>cc.t r g C⟩⟩
  ·cases f
 ·cases d
def xx:hI b (.type "list") r2:=by
 refine Sh.imp λz j y h=>?_;let⟨J,@q,k,d,r⟩:=h;unfold r2 at d;split at d
 ·let⟨@e,f,m⟩:=cm.mp d;cases m;let⟨@v,rfl,c⟩:=g4 k;unfold nj at f;split at f
  ·cases f;let⟨s,@z,rfl,t,C⟩:=c.i;exact⟨s,z,rfl,.inr<|cz.of t,λH g=>cc.l r g C⟩
  ·cases f;let⟨W,s,@z,rfl,t,C,W⟩:=c;exact⟨s,z,rfl,.inl<|dE.of t,λH g=>cc.l r g C⟩
  ·cases f;let⟨W,s,z,@p,rfl,t,C,W⟩:=c;exact⟨s,z,rfl,.inl<|.inl<|.inr ⟨p,t⟩,λH g=>cc.l r g C⟩
  ·cases f
 ·cases d
@[simp] def vInt:i1:=λJ=>match J with
 |[.im (.int a)]=>Z (.im<|.int a)
 |[.im (.aB f)]=>Z (.im<|.int<|if f then 1 else 0)
 |_=>Y
def Sq:hI b (.type "int") vInt:=by
 refine Mb.imp λz j y f=>?_;let⟨J,@q,e,d,r⟩:=f;unfold vInt at d;split at d
 ·cases d;let⟨@v,rfl,c⟩:=g4 e;cases (show v=_ from c.i);exact .inl ⟨_,rfl,cc.i r rfl⟩
 ·cases d;let⟨@v,rfl,c⟩:=g4 e;cases (show v=_ from c.i);exact .inr ⟨_,rfl,cc.i r rfl⟩
 ·cases d
@[simp] def w8:i1:=λJ=>match J with
 |[.im (.int a),.im<|.int i]=>Z (.im<|.int<|if i>a then i else a)
 |_=>Y
@[simp] def zE:i1:=λJ=>match J with
 |[.im (.int a),.im<|.int i]=>Z (.im<|.int<|if i<a then i else a)
 |_=>Y
def Kt(e:b.calm=X):hI b (.builtin "max") w8:=by
 refine (O0 e).imp λz j y f=>?_;let⟨J,@q,g,d,r⟩:=f;unfold w8 at d;split at d
 ·cases d;let⟨v,@L,rfl,c,o⟩:=I1 g;cases (show v=_ from c.i);cases (show L=_ from o.i);exact⟨_,_,rfl,cc.i r rfl⟩
 ·cases d
def My(e:b.calm=X):hI b (.builtin "min") zE:=by
 refine (Pt e).imp λz j y f=>?_;let⟨J,@q,g,d,r⟩:=f;unfold zE at d;split at d
 ·cases d;let⟨v,@L,rfl,c,o⟩:=I1 g;cases (show v=_ from c.i);cases (show L=_ from o.i);exact⟨_,_,rfl,cc.i r rfl⟩
 ·cases d
@[simp] def nY:List V->Option (List Bool)
 |[]=>Z []
 |.aB f::J=>(nY J).map λm=>f::m
 |_::_=>Y
theorem FF{j:aC}:∀{J:List V}{z:List ao}{Wy:List Bool},bM j J z->nY J=Z Wy->z=Wy.map ao.aB
 |[],z,Wy,c,d=>by cases d;exact c
 |.aB f::J,z,Wy,c,d=>by
  let⟨v,@m,rfl,t,C⟩:=c;rw[nY]at d;let⟨@s,a,b⟩:=cm.mp d;cases b;cases (show v=.aB f from t);rw[FF C a];rfl
 |.aV::_,_,_,_,d=>by cases d
 |.int _::_,_,_,_,d=>by cases d
 |.str _::_,_,_,_,d=>by cases d
 |.tup _::_,_,_,_,d=>by cases d
 |.fn _::_,_,_,_,d=>by cases d
 |.aW _::_,_,_,_,d=>by cases d
 |.fd::_,_,_,_,d=>by cases d
@[simp] def kr:i1:=λJ=>match J with
 |[.lst e]=>(nY e).map λWy=>.im (.aB<|Wy.all id)
 |_=>Y
def oF(c:b.calm=X):hI b (.builtin "all") kr:=by
 refine (K4 c).imp λz j y f=>?_;let⟨J,@q,g,d,r⟩:=f;unfold kr at d;split at d
 ·let⟨@e,h,k⟩:=cm.mp d;cases k;let⟨@v,rfl,⟨W,s,@z,rfl,t,C,W⟩⟩:=g4 g;rw[FF C h]at t;exact⟨s,e,rfl,t,cc.i r rfl⟩
 ·cases d
end
section
variable{b:aQ}
def w6:ak->Option Nat
 |.im (.int _)=>Z 0
 |.im (.aB _)=>Z 1
 |.im (.str _)=>Z 2
 |.im (.tup _)=>Z 3
 |.im .aV=>Z 4
 |.lst _=>Z 4
 |.im (.aW _)=>Z 4
 |.im .fd=>Z 4
 |.aF _=>Z 4
 |.dw _=>Z 4
 |_=>Y
@[simp] def yY(V6:String)(q:ak):Option Bool:=
 (w6 q).bind λo=>if V6 = "int" then Z (o==0 || o==1) else if V6 = "bool" then Z (o==1) else if V6 = "str" then Z (o==2) else if V6 = "tuple" then Z (o==3) else Y
variable{V6:String}{f:Bool}
def Pz{q:ak}(c:yY V6 q=Z f):∃o,w6 q=Z o/\((V6 = "int" /\ f=(o==0 || o==1))\/(V6 = "bool" /\ f=(o==1))\/(V6 = "str" /\ f=(o==2))\/(V6 = "tuple" /\ f=(o==3))):=by
 let⟨@o,d,c⟩:=bN.mp c;refine⟨o,d,?_⟩;by_cases t:V6 = "int"
 ·rw[aM t]at c;cases c;exact .inl ⟨t,rfl⟩
 rw[aN t]at c;by_cases C:V6 = "bool"
 ·rw[aM C]at c;cases c;exact .inr (.inl ⟨C,rfl⟩)
 rw[aN C]at c;by_cases a:V6 = "str"
 ·rw[aM a]at c;cases c;exact .inr (.inr<|.inl ⟨a,rfl⟩)
 rw[aN a]at c;by_cases b:V6 = "tuple"
 ·rw[aM b]at c;cases c;exact .inr (.inr<|.inr ⟨b,rfl⟩)
 rw[aN b]at c;cases c
def nO{O W7 aO w Wd:Prop}(c:O\/W7\/aO\/w)(g:O->Wd)(f:W7->Wd)(h:aO->Wd)(q:w->Wd):Wd:=c.elim g λc=>c.elim f λc=>c.elim h q
variable{G:List (af×a9)}{j:aC}{n:aq}
def CM{B:bg}(A:aK b G B j n){g:af}(c:(∃o,j g=Z (.aF o))\/∃o,j g=Z (.dw o)):∃p,n.heap.get? g=Z p/\p.cls=.type "dict" := by
 rcases c with ⟨o,c⟩|⟨o,c⟩
 ·let@⟨_,_,⟨@z,_,⟨p,Q,@Wt,t,C,_⟩⟩⟩:=(show el b.prog b.w j n.heap g (.aF o) from A.a5 g _ c);exact⟨p,t,C.1⟩
 ·let@⟨_,_,⟨@V4,_,⟨p,Q,@Wt,t,C,_⟩⟩⟩:=(show el b.prog b.w j n.heap g (.dw o) from A.a5 g _ c);exact⟨p,t,C.1⟩
def QT{B:bg}(A:aK b G B j n){g:af}{s:a9}(c:j g=Z (.cU s<|.aF [])):∃p,n.heap.get? g=Z p/\p.cls=.type "dict" := by
 let@⟨_,_,_,⟨@z,_,⟨p,Q,@Wt,t,C,_⟩⟩⟩:=(show el b.prog b.w j n.heap g (.cU s<|.aF []) from A.a5 g _ c);exact⟨p,t,C.1⟩
def TA:eO b (.builtin "isinstance") (λz j y=>∃e V6 q f,z=[e,.ty V6]/\fl j q e/\yY V6 q=Z f/\y (.aB f) j):=by
 intro G n B j z Wl y A m c;let⟨e,V6,q,@f,rfl,k,V0,r⟩:=c;have M:=m;cases m with
 |cons m F=>
  cases F with
  |cons WV F=>
   cases F;cases WV;have l:∀{f:Bool},y (.aB f) j->en b G B y (.bool f) {n with toks:=n.toks+1}:=λ{f} r=>⟨.aB f,j,A.tok _,rfl,r⟩;let⟨@o,h,u⟩:=Pz V0;have s:f=au->y (.aB au) j:=λd=>d ▸ r;have H:∀{g:af},o=4->(∃p,n.heap.get? g=Z p/\p.cls=.type "dict")->wpAny (aR b.prog b.w) b.A (call (.builtin "isinstance") [.ref g,.type V6]) (en b G B y) b.cJ n:=by
    rintro g rfl ⟨p,v,E⟩;refine nO u (λ⟨d,I⟩=>d ▸ IsiPair.dict_int v E (l<|s I)) (λ⟨d,I⟩=>d ▸ IsiPair.dict_bool v E (l<|s I)) (λ⟨d,I⟩=>d ▸ IsiPair.dict_str v E (l<|s I)) λJ=>?_;let@⟨d,I⟩:=J;exact d ▸ IsiPair.dict_tuple v E (l<|s I)
   have kK:H5 b.K j e V6 f->wpAny (aR b.prog b.w) b.A (call (.builtin "isinstance") [_,.type V6]) (en b G B y) b.cJ n:=λN=>O7 G n B j _ _ y A M ⟨e,V6,f,rfl,N,r⟩;have L:∀{g:af}{z:List ao},o=4->e=.ref g->dE b.K j g z->wpAny (aR b.prog b.w) b.A (call (.builtin "isinstance") [_,.type V6]) (en b G B y) b.cJ n:=λ{g z} h d x=>by
    subst h;exact kK (.inr<|.inr<|.inr<|.inr ⟨g,z,d,x,nO u (λc=>.inr<|.inl c) (λc=>.inr<|.inr<|.inr<|.inl c) (λc=>.inr<|.inr<|.inl c) λc=>.inr<|.inr<|.inr<|.inr c⟩)
   unfold w6 at h;split at h
   ·cases h;exact kK (.inl ⟨_,k.i,nO u .inl (λc=>.inr<|.inr<|.inr<|.inl c) (λc=>.inr<|.inr<|.inl c) λc=>.inr<|.inl c⟩)
   ·cases h;exact kK (.inr<|.inl ⟨_,k.i,nO u (λc=>.inr<|.inl c) .inl (λc=>.inr<|.inr<|.inr<|.inl c) λc=>.inr<|.inr<|.inl c⟩)
   ·cases h;exact kK (.inr<|.inr<|.inl ⟨_,k.i,nO u (λc=>.inr<|.inl c) (λc=>.inr<|.inr<|.inr<|.inl c) .inl λc=>.inr<|.inr<|.inl c⟩)
   ·cases h;let⟨g,@z,d,t,C⟩:=k.i;exact kK (.inr<|.inr<|.inr<|.inl ⟨g,z,d,cz.of t,nO u (λc=>.inr<|.inl c) (λc=>.inr<|.inr<|.inr<|.inl c) (λc=>.inr<|.inr<|.inl c) .inl⟩)
   ·cases h;cases (show e=.aV from k.i);cases m;refine nO u (λ⟨d,I⟩=>d ▸ IsiPair.NoneType_int (l<|s I)) (λ⟨d,I⟩=>d ▸ IsiPair.NoneType_bool (l<|s I)) (λ⟨d,I⟩=>d ▸ IsiPair.NoneType_str (l<|s I)) λJ=>?_;let@⟨d,I⟩:=J;exact d ▸ IsiPair.NoneType_tuple (l<|s I)
   ·cases h;let⟨W,g,@z,d,t,C,W⟩:=k;exact L rfl d (dE.of t)
   ·cases h;let⟨g,z,@p,d,t,C⟩:=k.i;exact L rfl d (.inl<|.inr ⟨p,t⟩)
   ·cases h;let⟨g,@p,rfl,t⟩:=k.i;cases m;exact H rfl (QT A t)
   ·cases h;let⟨W,g,@z,rfl,t,C,W⟩:=k;cases m;exact H rfl (CM A<|.inl ⟨_,t⟩)
   ·cases h;let⟨W,g,@z,rfl,t,C,W⟩:=k;cases m;exact H rfl (CM A<|.inr ⟨_,t⟩)
   ·cases h
@[simp] def nr(V6:String)(F:aw bK):aw ak:=λw=>(F w).bind λs=>(dO s.2 s.1).bind λq=>(yY V6 q).map λf=>(.im<|.aB f,s.2)
variable{e:aI}{d:bu}{F:aw bK}{Wk:Pos}
def oc{s W2:Pos}(h:fc b "isinstance")(i:b.aJ "isinstance" = Y)(k:fk "isinstance" = Z (.builtin "isinstance"))(l:fc b e)(n:b.aJ e=Y)(o:fk e=Z (.type V6))(c:dS b d F)(u:e ≠ "__name__" := by decide)(hd:(e==("__debug__" : aI))=au:=by decide)(a:bV [d,.Name e W2] b.env=(au,cb d b.env)::bV [.Name e W2] b.env:=by rfl)(x:bV [.Name e W2] b.env=(au,cb (.Name e W2) b.env)::bV [] b.env:=by rfl)(z:(fI Wk<|bV [.Name e W2] b.env).any (·.1)=au:=by rfl):cg b (.Call (.Name "isinstance" s) [d,.Name e W2] [] Wk) (nr V6 F):=by
 refine ey (EE TA h i k (xq c (xq (UY (v:=.ty V6) l n o rfl u hd) Ex x) a) ∅ ∅ a z) λB j y A=>?_;let⟨w,P,m,@R,N,ah,D,r⟩:=A;let⟨@⟨p,V_⟩,t,C⟩:=bN.mp D;let⟨@q,E,G⟩:=bN.mp C;let⟨@f,H,I⟩:=cm.mp G;cases I;exact⟨w,P,p,V_,N,ah,t,λv Wc Wo V3 g J L=>⟨v,V6,q,f,rfl,J.read g E,H,r _ Wc Wo [] g ⟨rfl,rfl⟩ (by rw[cF];exact L.both)⟩⟩
@[simp] def pL:ak->Option Bool
 |.im .aV=>Z au
 |.im (.aB f)=>Z f
 |.im (.int a)=>Z (a != 0)
 |.im (.str e)=>if e.length<=100000 then Z ((e.length:Int) != 0) else Y
 |.im (.tup J)=>Z (!J.isEmpty)
 |.lst J=>Z (!J.isEmpty)
 |.dY J=>Z (!J.isEmpty)
 |.dw Wf=>Z (!Wf.isEmpty)
 |_=>Y
def bM.emp{J:List V}{z:List ao}(c:bM j J z):(!z.isEmpty)=!J.isEmpty:=by
 cases J with
 |nil=>cases (show z=[] from c);rfl
 |cons q J=>let⟨v,@m,rfl,W⟩:=c;rfl
def Sl{q:ak}{v:ao}(c:fl j q v)(d:pL q=Z f):xJ b.K v j f:=by
 unfold pL at d;split at d
 ·cases d;cases (show v=_ from c.i);rfl
 ·cases d;cases (show v=_ from c.i);rfl
 ·cases d;cases (show v=_ from c.i);rfl
 ·split at d
  ·rename_i e;cases d;cases (show v=_ from c.i);exact⟨ow e,rfl⟩
  ·cases d
 ·cases d;let⟨s,@z,rfl,t,C⟩:=c.i;exact .inr (.inl ⟨z,cz.of t,C.emp.symm⟩)
 ·cases d;let⟨W,s,@z,rfl,t,C,W⟩:=c;exact .inl ⟨z,dE.of t,C.emp.symm⟩
 ·cases d;let⟨W,s,z,@p,rfl,t,C,W⟩:=c;exact .inl ⟨z,.inl<|.inr ⟨p,t⟩,C.emp.symm⟩
 ·cases d;let⟨W,s,@i,rfl,t,C,W⟩:=c;refine .inr (.inr ⟨i,t,?_⟩);cases C<;>rfl
 ·cases d
@[simp] def hG(F:aw bK):aw Bool:=λw=>(F w).bind λs=>(dO s.2 s.1).bind λq=>(pL q).map λf=>(f,s.2)
def jv(c:dS b d F)(g:∀a,q2 d b.env a=(do let v <-a;standAt d.pos;holding [v] (truthy v)):=by intro W;rfl):iw b d (hG F):=by
 refine tB (QM c g) λB j y h=>?_;let⟨w,P,f,@R,N,ah,i,r⟩:=h;let⟨@⟨p,V_⟩,t,C⟩:=bN.mp i;let⟨@q,k,l⟩:=bN.mp C;let⟨@u,m,n⟩:=cm.mp l;cases n;exact⟨w,P,p,V_,N,ah,t,λv Wc Wo V3 e o s=>⟨_,Sl (o.read e k) m,r Wc Wo e s.both⟩⟩
def sE{a:aI}{E:iL}(c:fc b e)(d:b.aJ e=Z (.str a E))(hd:(e==("__debug__" : aI))=au:=by decide):cg b (.Name e Wk) (ay<|.str a):=sN (Cw (v:=.str a) c d ⟨E,rfl⟩ hd) λ_=>rfl
def CG{I:af}(a:fc b e)(c:b.aJ e=Z (.ref I))(hd:(e==("__debug__" : aI))=au:=by decide):cg b (.Name e Wk) (ay<|.fn I):=sN (Cw (v:=.ref I) a c rfl hd) λ_=>rfl
end
variable{WH:List Nat}{H Xr Wk:Pos}{p d:bu}{id V6:String}{name:aI}{F:aw (List bK)}{a:Nat}{ty:ak->Bool}{V2:Φ}{WN:fO}{g:af}{j:aC}
def bt.chg{P Wo:List af}(b:g∈P)(h:gY j g)(ah:Wo.Nodup)(cu:∀e∈Wo,e∈P):bt j P (upd j g WN) Wo:=by
 let⟨@p,d,bT,c⟩:=h;refine⟨λe L WM a=>?_,λe a=>.inl<|cu e a,ah,fU.of (λe z WM=>?_)<|λe s L WM=>?_,λe L WM=>?_⟩
 ·rw[dq (λx=>a (by rw[x];exact b))];exact WM
 ·rw[dq]
  ·exact WM
  ·rintro rfl;rw[d]at WM;exact bT z (Option.some.inj WM)
 ·rw[dq]
  ·exact WM
  ·rintro rfl;rw[d]at WM;exact c s L (Option.some.inj WM)
 ·by_cases a:e=g
  ·subst a;exact⟨WN,fm⟩
  ·exact⟨L,(dq a).trans WM⟩
theorem cC.ox(h:gY j g):p9 j (upd j g WN):=(bt.chg (P:=[g]) (Wo:=[]) (.head _) h hu<|λe a=>nomatch a).tup.tup
def te(b:aQ)(id:String)(bw:ak->List ak->Option (ak×ak)):Prop:=(
 wC b id λe V4 j y=>∃h J m a V3 We,cv j h e V3/\d1 j J V4 We/\(V3++We).Nodup/\bw h J=Z (m,a)/\∀v V1 c bZ,cv V1 m v c->cv V1 a e bZ->bt j (V3++We) V1 (c++bZ)->y v V1)
@[simp] def j_:ak->Bool
 |.lst _=>X
 |.jf _=>X
 |_=>au
@[simp] def vX:ak->Bool
 |.dw _=>X
 |.aF _=>X
 |_=>au
@[simp] def hi(ty:ak->Bool)(a:Nat)(bw:ak->List ak->Option (ak×ak))(F:aw (List bK)):aw ak:=λw=>match w[a]? with
 |some (Z b)=>if ty b=X then (F w).bind λs=>(eJ s.1 s.2).bind λr=>match r.2[a]? with
   |some (Z h)=>(bw h r.1).map λm=>(m.1,r.2.set a<|Z m.2)
   |_=>Y
  else Y
 |_=>Y
def Ci{bw:ak->List ak->Option (ak×ak)}{B:bg}{y:cH}(D:∀j h e V3,cv j h e V3->ty h=X->lG V2 V6 e j)(c:mT (hi ty a bw F) B j y):∃e,B[a]?=Z (Z e)/\lG V2 V6 e j/\hx F B j λV4 Ws=>∃h J m f V3 We,cv Ws h e V3/\d1 Ws J V4 We/\(V3++We).Nodup/\bw h J=Z (m,f)/\∀v V1 k bZ,cv V1 m v k->cv V1 f e bZ->bt Ws (V3++We) V1 (k++bZ)->y v V1:=by
 let⟨w,P,m,@R,N,ah,b,r⟩:=c;unfold hi at b;split at b
 ·rename_i E G;split at b
  ·rename_i bT;let⟨e,bd,@be,l,H,W,W⟩:=N.out G;refine⟨e,l,D j E e _ H bT,?_⟩;let⟨@⟨Wn,V_⟩,t,C⟩:=bN.mp b;let⟨@⟨J,WB⟩,I,i⟩:=bN.mp C;refine⟨w,P,Wn,V_,N,ah,t,λV4 Wc Wo k L M Q=>?_⟩;let⟨Wz,@We,S,Wx,WT⟩:=oA L M I;dsimp only at i;split at i
   ·rename_i h T;let⟨@⟨WV,f⟩,U,al⟩:=cm.mp i;cases al;let⟨bi,V3,@o,q,am,s,an⟩:=S.out T;rw[l]at q;cases q;have u:bt j P Wc ((V3++We)++o):=Q.kB (WT.symm.trans ((e5 We an.symm).trans (by
     rw[bC];exact dm)))
    have x:=dJ.mp u.ah;refine⟨h,J,_,f,V3,We,am,Wx,x.1,U,λv V1 O W7 ap jm n=>?_⟩;have as:bE V1 (WB.set a<|Z .cO) B o:=s.mono n.tup λg a1 p d=>n.keep g p d λc=>x.2.2 g c g a1 rfl;let⟨z,@V7,A,a2⟩:=as.back jm l;rw[u2]at A;refine r v V1 z O A ap ((u.trans n s.chg).less (aO:=V7) ?_);rw[bC];refine (d9 z dm).trans ?_;rw[<-bC];refine (e5 O a2).trans ?_;rw[bC];refine dm.trans ?_;rw[bC];refine dm.trans ?_;rw[bC,bC];refine (d9 O ?_);exact dm
   ·cases i
  ·cases b
 ·cases b
section
variable{b:aQ}
def qa:∀(j:aC) (h:ak) (e:ao) (V3:List af),cv j h e V3->j_ h=X->lG V2 "list" e j:=by
 intro j h e V3 c d;cases h with
 |lst J=>let⟨g,@z,rfl,t,W⟩:=c;exact .inl ⟨rfl,z,dE.of t⟩
 |jf J=>let⟨g,z,@V7,rfl,t,W⟩:=c;exact .inl ⟨rfl,z,dE.of t⟩
 |_=>cases d
def NK:∀(j:aC) (h:ak) (e:ao) (V3:List af),cv j h e V3->vX h=X->lG V2 "dict" e j:=by
 intro j h e V3 c d;cases h with
 |dw J=>let⟨g,@z,rfl,t,W⟩:=c;exact .inr (.inr<|.inl ⟨rfl,.inl ⟨z,t⟩⟩)
 |aF J=>let⟨g,@z,rfl,t,W⟩:=c;exact .inr (.inr<|.inl ⟨rfl,.inr ⟨z,t⟩⟩)
 |_=>cases d
def qw{bw:ak->List ak->Option (ak×ak)}{Q:List bu}(f:∀j h e V3,cv j h e V3->ty h=X->lG b.K V6 e j)(bX:t4 V6)(Xl:Slot V6 name id)(bT:q9 (.builtin id)=pure (.type "method_descriptor"))(g:te b id bw)(i:bP b p (kk a))(k:fE b (d::Q) F)(l:n2 p name b.env (cb p b.env)=cb p b.env:=by rfl)(m:((fI H<|bV (d::Q) b.env).all (λe=>!e.1)&&(AU H<|yX [] b.env).all (λe=>e.1.isSome)
   && decide ((d::Q).length+([]:List og).length+(if ([]:List og).isEmpty then 0 else 1)<30))=X:=by rfl)(n:(Xr.endLine==H.line)=X:=by rfl)(av:bV (d::Q) b.env=(au,cb d b.env)::bV Q b.env:=by rfl)(o:(fI H<|bV Q b.env).any (·.1)=au:=by rfl):
  cg b (.Call (.Attribute p name Xr) (d::Q) [] H) (hi ty a bw F):=
 ey (Km bX Xl bT g i k l m n av o) λB j y c=>by
  let⟨@e,q,t,C⟩:=Ci f c;exact⟨e,q,t,C⟩
def UZ{bw:ak->List ak->Option (ak×ak)}(d:∀j h e V3,cv j h e V3->ty h=X->lG b.K V6 e j)(bX:t4 V6)(Xl:Slot V6 name id)(bT:q9 (.builtin id)=pure (.type "method_descriptor"))(f:te b id bw)(g:bP b p (kk a))(i:n2 p name b.env (cb p b.env)=cb p b.env:=by rfl)(k:(Xr.endLine==H.line)=X:=by rfl):
  cg b (.Call (.Attribute p name Xr) [] [] H) (hi ty a bw aD):=
 ey (Rw bX Xl bT f g i k) λB j y c=>by
  let⟨@e,l,t,C⟩:=Ci d c;refine⟨e,l,t,?_⟩;let⟨w,P,m,@R,N,ah,n,r⟩:=C;cases n;exact r [] j P [] N ⟨rfl,rfl⟩ (by rw[cF];exact bt.perm ah (List.Perm.refl _))
@[simp] def iS:ak->List ak->Option (ak×ak):=λh J=>match h,J with
 |.lst z,[.im q]=>if z.length<100000 then Z (.im .aV,.lst<|z++[q]) else Y
 |_,_=>Y
def x5{u:Nat}(c:u<100000):u<sizeLine:=eK c ∅
def rk:te b "list.append" iS:=by
 intro G n B j e V4 v Wl y A a c f;let⟨h,J,m,q,V3,@We,i,dh,ah,d,r⟩:=f;unfold iS at d;split at d
 ·split at d
  ·rename_i k;cases d;let⟨g,@Wm,rfl,t,C,rfl⟩:=i;let⟨l,E,s,@u,rfl,@⟨o,rfl⟩,@⟨rfl,rfl⟩,rfl⟩:=dh;have h:gY j g:=⟨_,t,(λ_ d=>by cases d),(λ_ W d=>by cases d)⟩;refine Vl G n B j _ _ v Wl y A a c ⟨g,Wm,l,rfl,rfl,t,x5 (by rw[<-C.length];exact k),r .aV _ [] [g] ⟨rfl,rfl⟩ ?_ (bt.chg (.head _) h (fC _ _) λe p=>by simpa using p)⟩;exact⟨g,_,rfl,fm,(C.snoc o).mono<|cC.ox h,rfl⟩
  ·cases d
 ·cases d
@[simp] def wj:ak->List ak->Option (ak×ak):=λh J=>match h,J with
 |.lst z,[]=>(z.getLast?).map λq=>(.im q,.lst z.dropLast)
 |_,_=>Y
def bM.last{J:List V}{z:List ao}{q:V}(c:bM j J z)(d:J.getLast?=Z q):∃v,z[z.length-1]?=Z v/\cC j q v/\bM j J.dropLast z.dropLast:=by
 rw[CB]at d;let⟨@v,a,b⟩:=c.get d;refine⟨v,by rw[<-c.length];exact a,b,?_⟩;rw[HB,HB,<-c.length];exact c.take _
def Vr:te b "list.pop" wj:=by
 intro G n B j e V4 v Wl y A a c f;let⟨h,J,m,x,V3,@We,i,dh,ah,d,r⟩:=f;unfold wj at d;split at d
 ·let⟨@q,k,o⟩:=cm.mp d;cases o;let⟨g,@Wm,rfl,t,C,rfl⟩:=i;let@⟨rfl,rfl⟩:=dh;let⟨@l,p,s,u⟩:=C.last k;have h:gY j g:=⟨_,t,(λ_ d=>by cases d),(λ_ W d=>by cases d)⟩;refine QL G n B j _ _ v Wl y A a c ⟨g,Wm,l,rfl,rfl,t,p,r l _ [] [g] ⟨s.mono<|cC.ox h,rfl⟩ ?_ (bt.chg (.head _) h (fC _ _) λe w=>by simpa using w)⟩;exact⟨g,_,rfl,fm,u.mono<|cC.ox h,rfl⟩
 ·cases d
@[simp] def SJ:ak->List ak->Option (ak×ak):=λh J=>match h,J with
 |.lst z,[.im (.int a)]=>if 0<=a/\a<z.length then (z[a.toNat]?).map λq=>(.im q,.lst<|z.eraseIdx a.toNat) else Y
 |_,_=>Y
def t5(b:aQ)(x:ak->ak->ak->Option ak):Prop:=(
 zk b λp a v j y=>∃h o q c V3 We,cv j h p V3/\cv j o a []/\cv j q v We/\(V3++We).Nodup/\x h o q=Z c/\∀V1 d,cv V1 c p d->bt j (V3++We) V1 d->y V1)
@[simp] def l7(h o q:ak):Option ak:=match h,o,q with
 |.lst z,.im<|.int a,.im q=>(j1 z.length a).map λi=>.lst (z.set i q)
 |_,_,_=>Y
theorem bM.set{j:aC}{q:V}{v:ao}(D:cC j q v):∀{J:List V}{z:List ao} (u:Nat),bM j J z->bM j (J.set u q) (z.set u v)
 |[],z,u,c=>by cases (show z=[] from c);exact rfl
 |d::J,z,0,c=>by let⟨L,@m,rfl,t,C⟩:=c;exact⟨v,m,rfl,D,C⟩
 |d::J,z,u+1,c=>by let⟨L,@m,rfl,t,C⟩:=c;exact⟨L,_,rfl,t,bM.set D u C⟩
def F7:t5 b l7:=by
 intro G n B j p a v c f L y A k l m s;let⟨h,o,q,E,V3,@We,u,w,dh,ah,d,r⟩:=s;unfold l7 at d;split at d
 ·let⟨@i,x,z⟩:=cm.mp d;cases z;let⟨g,@Wm,rfl,t,C,rfl⟩:=u;let@⟨hd,rfl⟩:=dh;have h:gY j g:=⟨_,t,(λ_ d=>by cases d),(λ_ W d=>by cases d)⟩;refine RE G n B j _ _ _ c f L y A k l m ⟨g,Wm,_,i,rfl,w.1,t,by rw[<-C.length];exact x,r _ [g] ?_ (bt.chg (.head _) h (fC _ _) λe D=>by simpa using D)⟩;exact⟨g,_,rfl,fm,(bM.set hd i C).mono<|cC.ox h,rfl⟩
 ·cases d
@[simp] def hn(a:Nat)(b:aw ak)(x:ak->ak->ak->Option ak):fo:=λq w=>match w[a]? with
 |some (Z _)=>(b w).bind λs=>if s.1.cY=X then match s.2[a]? with
   |some (Z h)=>(x h s.1 q).map λc=>s.2.set a (Z c)
   |_=>Y
  else Y
 |_=>Y
def lM{o:bu}{z:aw ak}{x:ak->ak->ak->Option ak}(L:bP b p (kk a))(M:cg b o z)(O:t5 b x)(f:∀v,hS (.Subscript p o Wk) b.env v=(do
   let k <-holding [v] (cb p b.env)
   let n <-holding [v,k] (cb o b.env)
   standAt Wk
   holding [v,k,n] (uJ k n v)
   release [v,k,n] []):=by intro W;rfl):iq b WH (.Subscript p o Wk) (hn a z x):=by
 refine x1 (QZ L M O f) λv B j y Q=>?_;let⟨w,P,q,V3,@R,N,Wx,ah,l,r⟩:=Q;unfold hn at l;split at l
 ·rename_i bv S;let⟨e,ca,@cd,s,ce,W,W⟩:=N.out S;let⟨@⟨i,V_⟩,t,C⟩:=bN.mp l;split at C
  ·rename_i T;refine⟨e,s,w,P,i,V_,N,(dJ.mp ah).1,t,λch Wc Wo ci U A m=>?_⟩;obtain rfl:=A.cY T;rw[cF]at m;have al:=dJ.mp ah;dsimp only at C;split at C
   ·rename_i h am;let⟨@an,ap,as⟩:=cm.mp C;cases as;let⟨cl,D,@E,F,a1,G,a2⟩:=U.out am;rw[s]at F;cases F;have bd:cv Wc q v V3:=Wx.mono m.tup λg f p d=>m.keep g p d λc=>al.2.2 g c g f rfl;have H:bt j (P++V3) Wc ((D++V3)++E):=by
     have be:bt j (P++V3) j (P++V3):=bt.perm ah (List.Perm.refl _);have:=bt.trans (Wo:=P) (V3:=V3) be m Wx.chg;refine this.kB ((e5 V3 a2.symm).trans ?_);rw[bC];exact dm
    have I:=dJ.mp H.ah;refine⟨h,i,q,an,D,V3,a1,A,bd,I.1,ap,λV1 co bi u=>?_⟩;have bm:bE V1 (V_.set a<|Z .cO) B E:=G.mono u.tup λg f p d=>u.keep g p d λc=>I.2.2 g c g f rfl;let⟨bn,@V7,J,bs⟩:=bm.back bi s;rw[u2]at J;exact r B V1 bn dI.refl J ((H.trans u G.chg).less<|bs.trans dm)
   ·cases C
  ·cases C
 ·cases l
@[simp] def zz(a:Nat)(I:Int->Int->Int)(F:aw ak):bL:=λw=>match w[a]? with
 |some (Z<|.im<|.int e)=>(F w).bind λs=>match s.1 with
   |.im (.int l)=>if a<s.2.length then Z (.bB,s.2.set a<|Z<|.im<|.int<|I e l) else Y
   |_=>Y
 |_=>Y
def T8{e:aI}{F:aw ak}{WR:pZ}{I:Int->Int->Int}{Xt:Pos}(g:b.N.Nodup)(V0:b.N[a]?=Z e)(h:hy b.env.scope e)(i:cg b d F)(k:A1 b WR (Hz I))(n:a∉WH)(o:b.fn e=X\/b.env.scope.names.lookup e=Z .local:=by first|exact .inl rfl|exact .inr rfl|assumption):iy b WH (.AugAssign (.Name e Xt) WR d Wk) (zz a I F):=by
 refine k3 (QA g V0 h i k o) λU B j p=>?_;let⟨w,P,aW,@R,N,ah,f,r⟩:=p;unfold zz at f;split at f
 ·rename_i l s;let⟨@v,t,C⟩:=N.cY s rfl;cases (show v=.int l from C.1);let⟨@⟨m,V_⟩,u,c⟩:=bN.mp f;dsimp only at c;split at c
  ·rename_i x;split at c
   ·rename_i y;cases c;refine⟨_,t,w,P,.im<|.int x,V_,N,ah,u,λL Wc Wo V3 z Wx A=>⟨l,x,rfl,Wx.1,?_⟩⟩;let⟨Wz,@bZ,D,WT⟩:=z.put (a:=a) (q:=.im (.int<|I l x)) (v:=.int (I l x)) ⟨rfl,rfl⟩ y;rw[cF]at WT;exact r _ Wc Wz (dI.set n) D (A.both.less WT)
   ·cases c
  ·cases c
 ·cases f
end
end L2
namespace L2
open Spec PyProof.Rows PySem.W
variable{Wi:List Int}{s:Array Nat}{Wr:Type}
def Ng(H:List Wr)(q:Wr):(range H.length).map (λa=>H.getD a q)=H:=by
 apply z5
 ·simp
 ·intro a t C;simp[List.getD,C]
def wU{H:List Wr}{q:Wr}(c:da H.length s):(s.toList.map λa=>H.getD a q).Perm H:=by
 have:=List.Perm.map (λa=>H.getD a q) c;rw[Ng]at this;exact this
theorem ur{Wr W9:Type}{P:Wr->W9->Prop}:∀{b:List Wr}{d:List W9},b.length=d.length->(∀(a:Nat) g f,b[a]?=Z g->d[a]?=Z f->P g f)->ea P b d
 |[],[],_,_=>.nil
 |g::H,f::k,c,I=>.cons (I 0 g f rfl rfl) (ur ⇑c λa e l t C=>I (a+1) e l ⇑t ⇑C)
 |[],_::_,c,_=>by simp at c
 |_::_,[],c,_=>by simp at c
section
variable{Wb:bJ}{D:bl}{O:bD}{U:ae->aq->Prop}{n:aq}{V4:List ae}
def zB{W7:af}{Xv:Nat}{Wd:PySem.Fin->aq->Prop}(R:Nat->Int)(Wu:gX)(e:n.heap.get? W7=Z (fB "list" V4.toArray Xv))(B:2<=V4.length->∀b:aY,(∀f p,f≠W7->n.heap.get? f=Z p->b.get? f=Z p)->∀y:gX->aq->Prop,y Wu {n with heap:=b}->wpAny (aR Wb D) O (w7 V4.toArray) y U {n with heap:=b})(E:∀b:aY,(∀f p,f≠W7->n.heap.get? f=Z p->b.get? f=Z p)->fM V4.length R (fe Wb D O Wu<|V4.toArray.zip V4.toArray) {n with heap:=b})(F:V4.length<1001\/∀i,1<=i->i<V4.length->R (i-1)<=R i)(G:V4.length<=1000)(c:∀(s:Array Nat) (T:aY),da V4.length s->iV R s V4.length->(∀f p,f≠W7->n.heap.get? f=Z p->T.get? f=Z p)->(∃d,T.get? W7=Z (fB "list" (s.toList.map λa=>V4.getD a ae.none).toArray d))->
   Wd (.done<|.ret .none) {n with heap:=T}):wpAny (aR Wb D) O (a0.«list.sort» ⟨[.ref W7],[]⟩) Wd U n:=by
 have w:V4.length<=sizeLine:=dx G ∅;rw[list_sort_plain];have Q:W7<n.heap.objs.size:=b4 e;refine ar (listItems_at e rfl (ar (Jm e rfl ?_ (hsz:=by rw[cR];exact w) (hsz2:=by show 0<=_;exact hj _))));have o:=G3 e (λ_=>#[]);generalize S:(if (#[]:Array ae).size==V4.toArray.size then Xv else Xv+1)=x at o;refine ar (seqEpoch_at o rfl (ar (zA (ar<|wu<|f6 ?_) ⇑w)));have j:∀f p,f≠W7->n.heap.get? f=Z p->(((n.heap.update W7<|a9.mapSeq λ_=>#[]).push<|fB "tuple" V4.toArray.toList.toArray 0).push<|fB "list" ([]:List ae).toArray 0).get? f=Z p:=λf p k d=>
  b0 _ (b0 _<|(iE _ _<|Ne.symm k).trans d);have WX:(((n.heap.update W7<|a9.mapSeq λ_=>#[]).push<|fB "tuple" V4.toArray.toList.toArray 0).push<|fB "list" ([]:List ae).toArray 0).get? W7=Z (fB "list" #[] x):=
  b0 _ (b0 _ o);show wpAny (aR Wb D) O _ Wd U {n with heap:=((n.heap.update W7<|a9.mapSeq λ_=>#[]).push<|fB "tuple" V4.toArray.toList.toArray 0).push (fB "list" ([]:List ae).toArray 0)};generalize ((n.heap.update W7<|a9.mapSeq λ_=>#[]).push<|fB "tuple" V4.toArray.toList.toArray 0).push (fB "list" ([]:List ae).toArray 0)=b at j WX ⊢;have z:∀(N:bF) (s:Array Nat),da V4.length s->iV R s V4.length->arrOf N=s.map (bq<|V4.toArray.zip V4.toArray)->ih N=Y->
   wpAny (aR Wb D) O (do
    let J:=(<-seqEpoch W7) != x
    a0.List.listUpdate (.ref W7) λ_=>(arrOf N).map (·.2)
    if let Z d:=ih N then rule "list.sort.comparison-raised";throw d
    if J then rule "list.sort.modified";raiseError "ValueError" "list modified during sort"
    ret .none) Wd U {n with heap:=b}:=λN s l r t u=>by
  have out:=kat_snds (ks:=V4) (vs:=V4) rfl t;rw[out,u];refine ar (seqEpoch_at (s:={n with heap:=b}) WX rfl (ar (Jm (s:={n with heap:=b}) WX rfl ?_ (hsz:=hj _) (hsz2:=by
   show (List.toArray<|s.toList.map λa=>V4.getD a ae.none).size<=_;rw[cR,ba,dv,l.size];lia))))
  simp only[bne_self_eq_false,g0,e9];refine aL (c s _ l r (λf p k d=>(iE _ _<|Ne.symm k).trans<|j f p k d) ⟨_,G3 WX λ_=>_⟩)
 dsimp only;by_cases C:V4.toArray.size<2
 ·rw[aM C,aM C];refine ar (aL ?_);rw[StateT.run_pure];apply ar;apply aL;have v:V4.length<2:=by simpa using C
  refine z (bF.mk' general' (V4.toArray.zip V4.toArray) #[] 7 Y) (range V4.length).toArray (List.Perm.refl _) (λa i al am=>?_) ?_ rfl
  ·have:a=i:=⋯
   subst this;exact iY _
  ·have:=kas_range (V4.toArray.zip V4.toArray);rw[show (V4.toArray.zip V4.toArray).size=V4.length by simp]at this;exact this.symm
 ·rw[aN C,aN C];have v:2<=V4.length:=by simpa using C
  refine ar (B v b j _ ?_)
  ·have me:=E b j;have A:=kas_range (V4.toArray.zip V4.toArray);rw[show (V4.toArray.zip V4.toArray).size=V4.length by simp]at A;have run:=PG (U:=U) (y:=λ_ N V5=>V5={n with heap:=b}/\∃s,da V4.length s/\iV R s V4.length/\arrOf N=s.map (bq<|V4.toArray.zip V4.toArray)/\ih N=Y) me
    v F λP an g f h q=>⟨rfl,P,g,f,h,q⟩;unfold vO at run;rw[A]at run;refine ar (gR run (λm V5 V9=>?_) λ_ W d=>d);let⟨L,N⟩:=m;let@⟨rfl,⟨@s,l,r,t,u⟩⟩:=V9;exact z N s l r t u
end
section
variable{b:aQ}{G:List (af×a9)}{B:L2.bg}{j:aC}{n:aq}
def Cn(bn:b.calm=X){g:af}{Wm:List ao}{Wg:List ae}{u:Nat}{V6:String}{p:a9}{y:cH}(R:Nat->Int)(Wu:gX)(A:aK b G B j n)(I:bY Wm Wg)(S:V6 = "list" \/ V6 = "tuple")(d:n.heap.get? g=Z p)(ay:p.cls=.type V6)(al:p.data=.seq Wg.toArray u)(bs:Wm.length<=1000)(am:2<=Wg.length->∀(c:aY) (WK:Nat),(∀f p,n.heap.get? f=Z p->c.get? f=Z p)->∀(O:bD) (U:ae->aq->Prop) (y:gX->aq->Prop),y Wu {n with heap:=c,toks:=WK}->wpAny (aR b.prog b.w) O (w7 Wg.toArray) y U {n with heap:=c,toks:=WK})(an:∀(c:aY) (WK:Nat),(∀f p,n.heap.get? f=Z p->c.get? f=Z p)->fM Wg.length R (fe b.prog b.w b.A.in1.in1 Wu<|Wg.toArray.zip Wg.toArray) {n with heap:=c,toks:=WK})(ap:Wg.length<1001\/∀i,1<=i->i<Wg.length->R (i-1)<=R i)(r:∀(s:Array Nat) H,da Wg.length s->iV R s Wg.length->j H=Y->y (.ref H) (upd j H<|.lst<|s.toList.map λa=>Wm.getD a .aV)):
  wpAny (aR b.prog b.w) b.A (call (.builtin "sorted") [.ref g]) (en b G B y) b.cJ n:=by
 have bv:Wm.length=Wg.length:=I.length;have J:Wg.length<=sizeLine:=dx ⋯ (show 1000<=sizeLine by decide);refine Ab Ad A8 yx (zF _) ?x
 case x=>
  unfold a0.«sorted»;refine ar (m:=yy "sorted" 1 1 _) (aL (ar (wpAny_collect_seq g S d ay al (λT q=>?_) (by rw[cR];exact J))));show wpAny _ _ (qt Wg >>= _) _ _ _;refine ar (wu ?_ J);have M:(T.push<|fB "list" Wg.toArray 0).get? T.objs.size=Z (fB "list" Wg.toArray 0):=c0 _ rfl;have bO:∀f p,n.heap.get? f=Z p->(T.push<|fB "list" Wg.toArray 0).get? f=Z p:=λf p d=>b0 _ (q f p d);have N:aK b G B j {n with heap:=T}:=A.kept (WE:=n.toks) q;have P:∀f p,n.heap.get? f=Z p->f≠T.objs.size:=λf p d=>dg (b4<|q f p d);refine ar (f6<|gd y4 ⟨_,M,rfl⟩ zx ?l<|AZ _)
  case l=>
   refine zB (n:={n with heap:=T.push (fB "list" Wg.toArray 0)}) R Wu M (λC c z y as=>am C c n.toks (λf p h=>z f p (P f p h)<|bO f p h) _ _ y as) (λc z=>an c n.toks λf p h=>z f p (P f p h)<|bO f p h) ap ⋯ λs C E a1 WO ⟨a2,bd⟩=>⟨_,rfl,aL ⟨_,rfl,?_⟩⟩;have be:j T.objs.size=Y:=N.a5.fresh (bh _);have bi:∀f p,T.get? f=Z p->f≠T.objs.size:=λf p d=>dg (b4 d);refine⟨.ref T.objs.size,upd j T.objs.size<|.lst<|s.toList.map λa=>Wm.getD a .aV,?_,rfl,r s _ E a1 be⟩;refine N.laid (WE:=n.toks) (λf L d=>WO f L (bi f L d)<|b0 _ d) (bh _) ⟨?_,_,a2,?_,bd⟩
   ·rw[ba,dv,E.size];lia
   ·refine ur ↥0 λa v L t C=>?_;rw[eB]at t C;cases F:s.toList[a]? with
    |none=>rw[F]at t;cases t
    |some o=>
     rw[F]at t C;cases t;cases C;have Q:o<Wg.length:=eV.mp (E.mem_iff.mp<|gO F);let⟨@L,m,bm⟩:=I.get (a:=o) (e:=Wm[o]'⋯) (by simp[show o<Wm.length by lia]);rw[dH Q]at m;have m:=Option.some.inj m;simp only[List.getD,dH Q,dH (show o<Wm.length by lia),xw];rw[m];exact bm
end
def pe(Wi:List Int)(a:Nat):Int:=(Wi.getD a 0)
def R1(ah:Wi.Nodup):∀a i,a<Wi.length->i<Wi.length->pe Wi a=pe Wi i->a=i:=λa i V0 b d=>by
 unfold pe at d;rw[cK,cK,dH V0,dH b]at d;have e:Wi[a]=Wi[i]:=d;rcases rS a i with c|c|c
 ·exact absurd e ((oW.mp ah) a i V0 b c)
 ·exact c
 ·exact absurd e.symm ((oW.mp ah) i a b V0 c)
def Nh(b:da Wi.length s)(f:iV (pe Wi) s Wi.length)(ah:Wi.Nodup):(s.toList.map λa=>Wi.getD a 0).Pairwise (· < ·):=by
 rw[oW];intro a i V0 c g;have av:=b.size;have j:a<Wi.length:=by simpa [av] using V0
 have d:i<Wi.length:=by simpa [av] using c
 have ne:=b.ne (R1 ah) g d;have le:=f a i ⋯ d;have F:∀o (e:o<(s.toList.map λa=>Wi.getD a 0).length),(s.toList.map λa=>Wi.getD a 0)[o]=bk (pe Wi) s o:=λo e=>by
  have h:o<s.size:=by simpa using e
  rw[tq,G_];show _=Wi.getD (s.getD o 0) 0;simp[Array.getD,h]
 rw[F a V0,F i c];lia
section
variable{b:aQ}
theorem vo{j:aC}:∀{Wi:List Int}{Wg:List ae},bY (Wi.map ao.int) Wg->∀(a:Nat),a<Wi.length->∃E,Wg[a]?=Z (.int (Wi.getD a 0) E)
 |u::m,_,.cons g f,0,c=>by let⟨@E,rfl⟩:=g;exact⟨E,rfl⟩
 |u::m,_,.cons g f,a+1,c=>by
  let⟨@E,d⟩:=vo (j:=j) f a ⇑c;exact⟨E,by simpa using d⟩
def N0(p:b.calm=X):eO b (.builtin "sorted") (λz j y=>∃(g:af) (Wi:List Int),z=[.ref g]/\j g=Z (.lst<|Wi.map ao.int)/\Wi.Nodup/\Wi.length<=1000/\
  ∀H (h:List Int),j H=Y->h.Perm Wi->h.Pairwise (· < ·)->y (.ref H) (upd j H<|.lst<|h.map ao.int)):=by
 intro G n B j z Wl y A m c;let⟨g,@Wi,rfl,q,ah,w,r⟩:=c;let⟨@L,rfl,D⟩:=ix m;cases D;let@⟨x,⟨Wg,@u,e,d⟩⟩:=A.a5 g _ q;have k:Wg.length=Wi.length:=by rw[<-e.length,ba]
 refine Cn p (pe Wi) oneType' A e (.inl rfl) d rfl rfl (by rw[ba];exact w) (λC F WK o O U y I=>?_) (λF WK o=>?_) (.inl ⋯) λs H f l aW=>?_
 ·refine kas_kind (T:=ae.type "int") C (λv J=>?_) ∅ ∅ I;let⟨@a,V0⟩:=wJ J;let⟨@E,bT⟩:=vo (j:=j) e a (by rw[<-k];exact (fs.mp V0).1);rw[V0]at bT;cases bT;exact AR rfl
 ·intro a i aO V0 Q r;let⟨@E,t⟩:=vo (j:=j) e a ⋯;let⟨@L,C⟩:=vo (j:=j) e i ⋯;unfold fe;rw[vp rfl,vp rfl,cK,cK,t,C];show wpAny _ _ (keyLt' oneType' (.int _ E)<|.int _ L) _ _ _;rw[keyLt'_oneType];exact oneLt_int r
 ·rw[k]at f l;have M:(s.toList.map λa=>(Wi.map ao.int).getD a .aV)=(s.toList.map λa=>Wi.getD a 0).map ao.int:=by
   rw[eU];refine rL λo N=>?_;have P:o<Wi.length:=eV.mp (f.mem_iff.mp N);show (Wi.map ao.int).getD o .aV=ao.int (Wi.getD o 0);simp[List.getD,P]
  rw[M];exact r H _ aW (wU f) (Nh f l ah)
end
end L2
namespace L2
open Spec PyProof.Rows
section
variable{b:aQ}
def g9:List V->List V->List V
 |e::z,l::Wm=>.tup [e,l]::g9 z Wm
 |_,_=>[]
theorem Fw:∀(z Wm:List V),(g9 z Wm).length=min z.length Wm.length
 |[],Wm=>by simp[g9]
 |e::z,[]=>by simp[g9]
 |e::z,l::Wm=>by simp[g9,Fw z Wm]
theorem Ck:∀(z Wm:List V) (a:Nat) (q:V),(g9 z Wm)[a]?=Z q->∃e l,z[a]?=Z e/\Wm[a]?=Z l/\q=.tup [e,l]
 |[],Wm,a,q,c=>by simp[g9]at c
 |e::z,[],a,q,c=>by simp[g9]at c
 |e::z,l::Wm,0,q,c=>by simp[g9]at c;exact⟨e,l,rfl,rfl,c.symm⟩
 |e::z,l::Wm,a+1,q,c=>by
  let⟨g,f,t,C,b⟩:=Ck z Wm a q (by simpa [g9] using c);exact⟨g,f,by simpa using t,by simpa using C,b⟩
@[simp] def oh(F:aw (List bK)):i9:=λw=>(F w).bind λs=>(ha s.2 s.1).bind λJ=>match J with
 |[.im (.tup e),.im<|.tup l]=>Z ((g9 e l,Y),s.2)
 |_=>Y
theorem K0{V2:Φ}{j:aC}{g f:af}{z Wm:List ao}{J Q:List V}(c:j g=Z (.tup z))(hd:bM j J z)(T:j f=Z (.tup Wm))(b:bM j Q Wm):lq (t2 V2 g f) j [] (g9 J Q) where
 go:=λV1 E o a q d=>by
  let⟨e,l,r,s,rfl⟩:=Ck J Q a q d;let⟨v,h,t⟩:=hd.get r;let⟨L,WG,WO⟩:=b.get s;have i:=cz.of (V2:=V2) (E.tup g _ c);have k:=cz.of (V2:=V2) (E.tup f _ T);refine⟨⟨z,Wm,v,L,i,k,h,WG⟩,λx B ⟨V6,C,D,I,u,w,y,A⟩=>?_⟩;subst u w;have m:=y z i;have p:=A Wm k;rw[h]at m;rw[WG]at p;cases m;cases p;have n:c9 V1 (upd V1 V6<|.tup [v,L]):=(c9.refl V1).upd I;exact⟨n,V6,[v,L],rfl,fm,⟨v,[L],rfl,(t.mono E.tup).mono n.tupS.tup,L,[],rfl,(WO.mono E.tup).mono n.tupS.tup,rfl⟩⟩
 stop:=λV1 E o=>⟨z,Wm,cz.of<|E.tup g _ c,cz.of<|E.tup f _ T,by rw[Fw,<-hd.length,<-b.length];lia⟩
def Eu{g f:bu}{F:aw (List bK)}{s Wk:Pos}{Q:List bu}{Xu:Nat}{Wj:Pos}(i:fc b "zip")(k:b.aJ "zip" = Y)(a:fE b [g,f] F)(av:bV [g,f] b.env=[(au,cb g b.env),(au,cb f b.env)]:=by rfl)(l:bV [f] b.env=[(au,cb f b.env)]:=by rfl):
  kW b (.Tuple Q Xu Wj) (.Call (.Name "zip" s) [g,f] [] Wk) (oh F):=by
 refine sg (Kc i k a av l) λB j A ⟨w,P,m,R,N,ah,n,r⟩=>?_;let⟨⟨Wn,V_⟩,t,C⟩:=bN.mp n;let⟨J,o,c⟩:=bN.mp C;refine⟨w,P,Wn,V_,N,ah,t,λV4 Wc Wo D e p q=>?_⟩;have u:=p.read e o;split at c
 ·cases c;let⟨v,L,rfl,d,x⟩:=x7 u;let⟨g,z,rfl,WG,WO⟩:=d;let⟨f,Wm,rfl,h,y⟩:=x;exact⟨g,f,rfl,⟨z,cz.of WG⟩,⟨Wm,cz.of h⟩,r _ Wc Wo [] e (K0 WG WO h y) trivial (λg a=>nomatch a) (by rw[cF];exact q.both)⟩
 ·cases c
@[simp] def VA:i1:=λJ=>match J with
 |[.im (.int a),.im<|.int i,.im<|.int o]=>Z (.im<|.int<|min (min a i) o)
 |_=>Y
def kU(lt:V->V->Bool)(e:V):List V->List V
 |[]=>[e]
 |l::m=>if lt e l=X then e::l::m else l::kU lt e m
def e0(lt:V->V->Bool):List V->List V
 |[]=>[]
 |e::m=>kU lt e (e0 lt m)
def tM:V->V->Bool
 |.int a,.int i=>decide (a<i)
 |_,_=>au
def j6:List V->Option (List Int)
 |[]=>Z []
 |.int a::m=>(j6 m).map λn=>a::n
 |_::_=>Y
@[simp] def z3:i1:=λJ=>match J with
 |[.lst e]=>(j6 e).bind λWi=>if Wi.Nodup/\Wi.length<=1000 then Z (.lst<|e0 tM e) else Y
 |_=>Y
def Jq(Wi:List Int):j6 (Wi.map .int)=Z Wi:=by
 induction Wi with
 |nil=>rfl
 |cons u m a=>rw[b2,j6,a];rfl
def mR(e:Int):List Int->List Int
 |[]=>[e]
 |l::m=>if e<l then e::l::m else l::mR e m
def pA:List Int->List Int
 |[]=>[]
 |e::m=>mR e (pA m)
theorem Ft(e:Int):∀H:List Int,kU tM (.int e) (H.map .int)=(mR e H).map .int
 |[]=>rfl
 |l::m=>by
  rw[b2,kU,mR,tM];by_cases c:e<l
  ·rw[aM ⇑c,aM c];rfl
  ·rw[aN ⇑c,aN c,Ft e m];rfl
theorem BJ:∀H:List Int,e0 tM (H.map .int)=(pA H).map .int
 |[]=>rfl
 |e::m=>by rw[b2,e0,BJ m,Ft];rfl
theorem zL(e:Int):∀H:List Int,(mR e H).Perm (e::H)
 |[]=>List.Perm.refl _
 |l::m=>by
  rw[mR];split
  ·exact List.Perm.refl _
  ·exact ((zL e m).cons l).trans (List.Perm.swap e l m)
theorem xa:∀H:List Int,(pA H).Perm H
 |[]=>List.Perm.refl _
 |e::m=>(zL e _).trans ((xa m).cons e)
theorem Fz(e:Int):∀H:List Int,H.Pairwise (·<=·)->(mR e H).Pairwise (·<=·)
 |[],_=>fC _ _
 |l::m,c=>by
  let⟨t,C⟩:=e8.mp c;rw[mR];split
  ·rename_i b;refine e8.mpr ⟨λx a=>?_,c⟩;rcases b8.mp a with rfl|a
   ·lia
   ·have:=t x a;lia
  ·rename_i b;refine e8.mpr ⟨λx a=>?_,Fz e m C⟩;rcases b8.mp ((zL e m).mem_iff.mp a) with rfl|a
   ·lia
   ·exact t x a
theorem Bv:∀H:List Int,(pA H).Pairwise (·<=·)
 |[]=>List.Pairwise.nil
 |e::m=>Fz e _ (Bv m)
def Vo{H:List Int}(c:H.Nodup):(pA H).Pairwise (· < ·):=by
 have t:=Bv H;have C:(pA H).Nodup:=(xa H).nodup_iff.mpr c;exact Lf (λg f e l=>⋯) t C
theorem Fl:∀{H k:List Int},H.Perm k->H.Pairwise (· < ·)->k.Pairwise (· < ·)->H=k
 |[],k,c,_,_=>c.nil_eq
 |g::H,[],c,_,_=>absurd c.length_eq ↥0
 |g::H,f::k,c,e,h=>by
  have a:=e8.mp e;have b:=e8.mp h;have d:g=f:=by
   rcases b8.mp (c.mem_iff.mp<|.head _) with x|x
   ·exact x
   ·rcases b8.mp (c.mem_iff.mpr<|.head _) with l|l
    ·exact l.symm
    ·have t:=a.1 f l;have C:=b.1 g x;omega
  subst d;rw[Fl c.cons_inv a.2 b.2]
theorem uK:∀{e:List V}{Wi:List Int},j6 e=Z Wi->e=Wi.map .int
 |[],Wi,c=>by cases c;rfl
 |.int a::m,Wi,c=>by
  rw[j6]at c;let⟨n,t,rfl⟩:=cm.mp c;rw[uK t];rfl
 |.aV::_,_,c=>by cases c
 |.aB _::_,_,c=>by cases c
 |.str _::_,_,c=>by cases c
 |.tup _::_,_,c=>by cases c
 |.fn _::_,_,c=>by cases c
 |.aW _::_,_,c=>by cases c
 |.fd::_,_,c=>by cases c
theorem uI{j:aC}:∀{Wi:List Int}{V4:List ao},bM j (Wi.map .int) V4->V4=Wi.map ao.int
 |[],V4,c=>c
 |u::m,V4,c=>by
  let⟨v,E,rfl,t,C⟩:=c;cases (show v=.int u from t);rw[uI C];rfl
theorem CR{j:aC}:∀Wi:List Int,bM j (Wi.map .int) (Wi.map ao.int)
 |[]=>rfl
 |u::m=>⟨.int u,_,rfl,rfl,CR m⟩
def M5(f:b.calm=X)(k:b.A.units+20<bS):hI b (.builtin "sorted") z3:=by
 refine (N0 f).imp λz j y ⟨J,q,g,d,r⟩=>?_;unfold z3 at d;split at d
 ·rename_i e;let⟨Wi,h,a⟩:=bN.mp d;split at a
  ·rename_i c;cases a;let⟨v,rfl,W,s,z,rfl,t,C,W⟩:=g4 g;cases uK h;cases uI C;refine⟨s,Wi,rfl,t,c.1,c.2,λH m aW WT i=>?_⟩;rw[BJ]at r;rw[Fl (WT.trans (xa Wi).symm) i (Vo c.1)];exact cc.l r aW (CR _)
  ·cases a
 ·cases d
def zV(a:b.A.units+20<bS):t5 b l7:=F7
end
end L2
namespace L2
variable{g c F f:bL}{d:aw ak}{own k u:Nat}{J:List ak}{WH:List Nat}{p:Option (Nat×ak)}{z:List V}{q:ak}{V_ w:bb}{h:aw Bool}{WC:fo}{Wr:Type}{i a:Int}
@[simp] theorem VP(q:V)(w:bb):ay q w=Z (.im q,w):=rfl
@[simp] theorem VO(w:bb):aD w=Z ([],w):=rfl
@[simp] theorem Vz(w:bb):ei w=Z (.bB,w):=rfl
@[simp] theorem VF(w:bb):jE w=Z (Y,w):=rfl
@[simp] theorem VC(w:bb):c3 w=Z (X,w):=rfl
@[simp] theorem VK(q:V):(ak.im q).cY=X:=rfl
@[simp] theorem VT(q:List V):(ak.dY q).cY=X:=rfl
@[simp] theorem Vv(q:List V):(ak.lst q).cY=au:=rfl
@[simp] theorem VN(q:List (List V×V)):(ak.aF q).cY=au:=rfl
@[simp] theorem VB(q:List (eG×V)):(ak.dw q).cY=au:=rfl
@[simp] theorem VI(w:bb)(q:ak):dO w (.bW q)=Z q:=rfl
@[simp] theorem VY(w:bb)(a:Nat):dO w (.a4 a)=(w[a]?).getD Y:=rfl
@[simp] theorem VQ(w:bb):ha w []=Z []:=rfl
@[simp] theorem Vx(w:bb)(p:bK)(Wn:List bK):ha w (p::Wn)=(dO w p).bind λq=>(ha w Wn).map λJ=>q::J:=rfl
@[simp] theorem VR(w:bb):eJ [] w=Z ([],w):=rfl
@[simp] theorem KE(q:ak)(Wn:List bK)(w:bb):eJ (.bW q::Wn) w=(eJ Wn w).map λs=>(q::s.1,s.2):=rfl
@[simp] theorem VE(a:Nat)(Wn:List bK)(w:bb):eJ (.a4 a::Wn) w=(dG a w).bind λs=>(eJ Wn s.2).map λr=>(s.1::r.1,r.2):=rfl
@[simp] theorem VS:hP []=Z []:=rfl
@[simp] theorem VD(q:V)(J:List ak):hP (.im q::J)=(hP J).map λm=>q::m:=rfl
@[simp] theorem VW(f:Bool):qS (.im<|.aB f)=Z f:=rfl
def pG(t : -(2^64)<i)(C:i<2^64):hs a i=X:=by
 have:a0.Int.intBits i<=64:=BB t C;have T:¬ (a0.Int.intBits i>vM):=qV.mpr this;unfold hs;rw[dQ T];simp
def zb(t : -(2^64)<a)(C:a<2^64):hs a i=X:=by
 have:a0.Int.intBits a<=64:=BB t C;have T:¬ (a0.Int.intBits a>vM):=qV.mpr this;unfold hs;rw[dQ T];simp
def E1{z:List Wr}(c:z.length<=u):z.take u=z:=Ah c
def Jo(z:List Wr)(o:Nat):hq z (Z (o:Int)) Y=z.drop o:=by
 unfold hq;rw[dt.E6,dt.DF];by_cases c:o<=z.length
 ·rw[pX c,E1 (by rw[gH];lia)]
 ·rw[Ce ⋯,x_,vy,oY ⋯]
def TL(z:List Wr)(o:Nat):hq z Y (Z (o:Int))=z.take o:=by
 unfold hq;rw[dt.E6,dt.DF,lU,zH];by_cases c:o<=z.length
 ·rw[pX c]
 ·rw[Ce ⋯,oz,E1 ⋯]
def JJ{z:List Wr}{q:Wr}(b:0<=a)(c:z[a.toNat]?=Z q):fy z a=Z q:=by
 unfold fy j1;have V0:a.toNat<z.length:=(fs.mp c).1;rw[aM b,aM ⋯];exact c
def UH{z:List Wr}{q:Wr}(c:z.getLast?=Z q):fy z (-1)=Z q:=by
 rw[CB]at c;have V0:z.length-1<z.length:=(fs.mp c).1;unfold fy j1;rw[aN ∅,aM ⋯];show z[(-1+(z.length:Int)).toNat]?=Z q;rw[show (-1+(z.length:Int)).toNat=z.length-1 by lia];exact c
def OQ(A:Nat->bb->Prop)(V3:ak->bb->Prop):∀{z:List V}{w:bb},A 0 w->
  (∀(a:Nat) (e:V) (w:bb),z[a]?=Z e->A a w->∃V_ aW WB,WC (.im e) w=Z V_/\f V_=Z (aW,WB)/\(((aW=.bB\/aW=.cq)/\A (a+1) WB)\/∃q,aW=.a_ q/\V3 q WB))->
  (∃R,ew WC f z w=Z (.bB,R)/\A z.length R)\/∃q R,ew WC f z w=Z (.a_ q,R)/\V3 q R:=by
 intro z;induction z generalizing A with
 |nil=>intro w b W;exact .inl ⟨w,rfl,b⟩
 |cons e m g=>
  intro w b c;let⟨V_,aW,@WB,t,C,h⟩:=c 0 e w rfl b;rcases h with ⟨i,eE⟩|⟨q,rfl,j⟩
  ·have:=g (λa=>A<|a+1) (w:=WB) eE λa l R k n=>c (a+1) l R ⇑k n;have d:ew WC f (e::m) w=ew WC f m WB:=by
    rw[ew];dsimp only;rw[t];show (f V_).bind _=_;rw[C];rcases i with rfl|rfl<;>rfl
   rw[d];exact this
  ·refine .inr ⟨q,WB,?_,j⟩;rw[ew];dsimp only;rw[t];show (f V_).bind _=_;rw[C];rfl
def JH(A:Nat->bb->Prop){z:List V}{w:bb}(b:A 0 w)(c:∀(a:Nat) (e:V) (w:bb),z[a]?=Z e->A a w->∃V_ aW WB,WC (.im e) w=Z V_/\f V_=Z (aW,WB)/\(aW=.bB\/aW=.cq)/\A (a+1) WB):
  ∃R,ew WC f z w=Z (.bB,R)/\A z.length R:=by
 rcases OQ A (λ_ W=>False) b (λa e w d eE=>by
  let⟨V_,aW,@WB,t,C,g,h⟩:=c a e w d eE;exact⟨V_,aW,WB,t,C,.inl ⟨g,h⟩⟩) with c|⟨_,_,_,c⟩
 ·exact c
 ·exact c.elim
def L5(A:Nat->bb->Prop)(b:bb->Prop)(step:∀k w,A k w->∃E V_,h w=Z (E,V_)/\(E=X->∃aW WB,f V_=Z (aW,WB)/\(aW=.bB\/aW=.cq)/\∃a,a<k/\A a WB)/\(E=au->b V_)):
  ∀(u k:Nat) (w:bb),A k w->k<u->∃R,fF h f u w=Z (.bB,R)/\b R:=by
 intro u;induction u with
 |zero=>intro k w W c;lia
 |succ u d=>
  intro k w eE m;let⟨E,@V_,t,C,e⟩:=step k w eE;rw[fF];dsimp only;rw[t];cases E with
  |false=>exact⟨V_,rfl,e rfl⟩
  |true=>
   let⟨aW,@WB,g,hf,⟨@a,n,i⟩⟩:=C rfl;let⟨@R,j,l⟩:=d a WB i ⋯;refine⟨R,?_,l⟩;simp only[Option.bind_some,gN,g];rcases hf with rfl|rfl<;>exact j
def M7(z:List Wr):z.filter (λ_=>X)=z:=List.filter_eq_self.mpr λ_ W=>rfl
def oe(d:F w=Z (.bB,V_)):bx F c w=c V_:=by unfold bx;rw[d];rfl
def mn(d:F w=Z (.a_ q,V_)):bx F c w=Z (.a_ q,V_):=by unfold bx;rw[d];rfl
def J5{F:i9}{WB:bb}{aW:d_}(d:F w=Z ((z,p),V_))(c:ew WC f z V_=Z (aW,WB)):hC F WC f w=Z (aW,lH p WB):=by
 unfold hC;rw[d];show (ew WC f z V_).map _=_;rw[c];rfl
def U1{m:ak}(a:J.length=u)(d:F (J.map Z++List.replicate (k-u) Y)=Z (.a_ m,w)):dk u k WH F J=Z (m,jk WH J w 0):=by
 unfold dk;rw[aM a,d]
def Kk{WD:List Nat}{D:i9}{a:bb}{J:List V}(t:D w=Z ((z,p),V_))(C:fA own WC h d z [] (j2 WD V_)=Z (J,a)):ck own WD D WC h d w=Z (.lst J,lH p<|iC WD a V_):=by
 unfold ck;rw[t];show (fA own WC h d z []<|j2 WD V_).map _=_;rw[C];rfl
def fh{F:aw ak}(d:F w=Z (q,V_)):cM F w=Z (.a_ q,V_):=by unfold cM;rw[d];rfl
def G9{a:Nat}{F:aw ak}(d:F w=Z (q,V_))(c:a<V_.length):cj a F w=Z (.bB,V_.set a<|Z q):=by unfold cj;rw[d];show (if a<V_.length then _ else _)=_;rw[aM c]
def x9(d:h w=Z (X,V_)):dK h g f w=g V_:=by unfold dK;rw[d];rfl
def z9(d:h w=Z (au,V_)):dK h g f w=f V_:=by unfold dK;rw[d];rfl
def ri(w:bb){m:ak}{E:List ak}(a:J.length=u)(d:F (J.map Z++List.replicate (k-u) Y)=Z (.a_ m,w))(b:jk WH J w 0=E):dk u k WH F J=Z (m,E):=by
 rw[U1 a d,b]
theorem mM{Wr:Type}{own:Nat}{WC:fo}{h:aw Bool}{d:aw ak}{aO:bb}(WS:Wr->V)(s:Wr->Bool)(I:Wr->V):∀(z:List Wr) (WA:List V),(∀e∈z,∃V_ WB,WC (.im<|WS e) (List.replicate own Y++aO)=Z V_/\h V_=Z (s e,WB)/\(s e=au->WB.drop own=aO)/\(s e=X->∃A,d WB=Z (.im<|I e,A)/\A.drop own=aO))->
  WA.length+z.length<=100000->fA own WC h d (z.map WS) WA aO=Z (WA++(z.filter s).map I,aO)
 |[],WA,_,_=>by simp[fA]
 |e::m,WA,c,f=>by
  let⟨V_,@WB,t,C,g,i⟩:=c e (.head _);rw[dj]at f;rw[b2,fA,t];show (h V_).bind _=_;rw[C];show (if s e=X then _ else _)=_;cases a:s e with
  |false=>
   rw[aN dc];show fA own WC h d (m.map WS) WA (WB.drop own)=_;rw[g a,mM WS s I m WA (λl b=>c l<|.tail _ b) ⋯,I7,a];rfl
  |true=>
   let⟨@A,j,k⟩:=i a;rw[aM rfl];show (d WB).bind _=_;rw[j];show (if WA.length<100000 then fA own WC h d (m.map WS) (WA++[I e]) (A.drop own) else Y)=_;rw[aM ⋯,k,mM WS s I m (WA++[I e]) (λl b=>c l<|.tail _ b) (by rw[di,gI];lia),I7,a];simp
def gL{aO:bb}(WS:Wr->V)(I:Wr->V)(z:List Wr)(c:∀e∈z,∃V_ WB A,WC (.im<|WS e) (List.replicate own Y++aO)=Z V_/\h V_=Z (X,WB)/\d WB=Z (.im<|I e,A)/\A.drop own=aO)(g:z.length<=100000):fA own WC h d (z.map WS) [] aO=Z (z.map I,aO):=by
 have:=mM (own:=own) (WC:=WC) (h:=h) (d:=d) (aO:=aO) WS (λ_=>X) I z [] (λe a=>by
  let⟨V_,WB,@A,t,C,b,f⟩:=c e a;exact⟨V_,WB,t,C,(λx=>by cases x),(λ_=>⟨A,b,f⟩)⟩) (by rw[iv];lia)
 rw[M7]at this;exact this
theorem Di{Wr W9:Type}(WS:Wr->V)(a:W9->V):∀(z:List Wr) (Wm:List W9),g9 (z.map WS) (Wm.map a)=(z.zip Wm).map λs=>.tup [WS s.1,a s.2]
 |[],Wm=>by simp[g9]
 |e::z,[]=>by simp[g9]
 |e::z,l::Wm=>by simp[g9,Di WS a z Wm]
def xy{W9:Type}(I:Wr->W9)(z:List Wr)(S V0:Option Int):hq (z.map I) S V0=(hq z S V0).map I:=by
 unfold hq;rw[ba,jB,jM]
end L2
namespace G
open L2
abbrev az(a:Int):ak:=.im (.int a)
end G
namespace L2
open Spec PyProof.Rows
section
variable{b:aQ}
def q1:V->Option eG
 |.int a=>Z (.inl a)
 |.str e=>Z (.inr e)
 |_=>Y
@[simp] theorem VV(a:Int):q1 (.int a)=Z (.inl a):=rfl
@[simp] theorem VU(e:aI):q1 (.str e)=Z (.inr e):=rfl
def IL:eG->V
 |.inl a=>.int a
 |.inr e=>.str e
@[simp] theorem VX(a:Int):IL (.inl a)=.int a:=rfl
@[simp] theorem Vu(e:aI):IL (.inr e)=.str e:=rfl
def Bt{j:aC}{q:V}{v:ao}{o:eG}(c:cC j q v)(d:q1 q=Z o):v=cB o:=by
 cases q with
 |int a=>cases d;exact c
 |str e=>cases d;exact c
 |_=>cases d
def jq{Wu:Type}[DecidableEq Wu](Wf:List (Wu×V))(o:Wu)(q:V):List (Wu×V):=(
 if (Wf.any λa=>decide (a.1=o))=X then Wf.map (λa=>if a.1=o then (a.1,q) else a) else Wf++[(o,q)])
variable{Wu:Type}
def ep.any[DecidableEq Wu]{j:aC}{o:Wu}{H:List (Wu×V)}{k:List (Wu×ao)}(c:ep j H k):(H.any λa=>decide (a.1=o))=(k.any λa=>decide (a.1=o)):=by
 unfold ep at c;induction c with
 |nil=>rfl
 |cons m _ b=>rw[oD,oD,b,m.1]
def ep.upd[DecidableEq Wu]{j:aC}{o:Wu}{q:V}{v:ao}(D:cC j q v){H:List (Wu×V)}{k:List (Wu×ao)}(c:ep j H k):ep j (H.map λa=>if a.1=o then (a.1,q) else a) (k.map λa=>if a.1=o then (a.1,v) else a):=by
 unfold ep at c;induction c with
 |nil=>exact .nil
 |@cons s r _ _ m _ e=>
  rw[b2,b2];refine .cons ?_ e;by_cases d:s.1=o
  ·have b:r.1=o:=m.1.symm.trans d;rw[aM d,aM b];exact⟨m.1,D⟩
  ·have b:¬ r.1=o:=λx=>d (m.1.trans x);rw[aN d,aN b];exact m
def ML{Wr W9:Type}{P:Wr->W9->Prop}{H:List Wr}{k:List W9}{g:Wr}{f:W9}(c:ea P H k)(e:P g f):ea P (H++[g]) (k++[f]):=by
 induction c with
 |nil=>exact .cons e .nil
 |cons m _ a=>exact .cons m a
def ep.put[DecidableEq Wu]{j:aC}{o:Wu}{q:V}{v:ao}(D:cC j q v){H:List (Wu×V)}{k:List (Wu×ao)}(c:ep j H k):ep j (jq H o q) (fX k o v):=by
 unfold jq fX;rw[c.any];split
 ·exact c.upd D
 ·exact ML c ⟨rfl,D⟩
@[simp] def nx:aw ak:=λw=>Z (.aF [],w)
def nS{Wk:Pos}:cg b (.Dict [] [] Wk) nx:=by
 refine ey U0 λB j y ⟨w,P,m,R,N,ah,c,r⟩ s a=>?_;cases c;have n:c9 j (L2.upd j s<|.aF []):=(c9.refl j).upd a;have e:bt j P j (P++[]):=by rw[cF];exact bt.perm ah (List.Perm.refl _)
 exact r _ _ P [s] (N.mono n.tupS λg W p d=>n g p d) ⟨s,[],rfl,fm,.nil,rfl⟩ (e.new n (fC _ _) (λg f=>by rw[cP.mp f];exact a) N.chg)
@[simp] def VG(a b:aw ak):aw ak:=λw=>(a w).bind λs=>(b s.2).bind λr=>match s.1,r.1 with
 |.im o,.im q=>(q1 o).map λc=>(.dw [(c,q)],r.2)
 |_,_=>Y
@[simp] def gJ(h o q:ak):Option ak:=match h,o,q with
 |.lst z,.im<|.int a,.im q=>(j1 z.length a).map λi=>.lst (z.set i q)
 |.dw Wf,.im o,.im q=>(q1 o).bind λb=>if Wf.length<100000 then Z (.dw<|jq Wf b q) else Y
 |.aF Wf,.im<|.tup o,.im q=>if V.keys 7 o=X/\Wf.length<100000 then Z (.aF<|jq Wf o q) else Y
 |_,_,_=>Y
def qU(D:b.A.units+20<bS):t5 b gJ:=by
 intro G n B j p a v F H L y A k i l I;let⟨h,o,q,J,V3,@We,m,s,dh,ah,d,r⟩:=I;unfold gJ at d;split at d
 ·exact F7 G n B j p a v F H L y A k i l ⟨_,_,_,J,V3,We,m,s,dh,ah,d,r⟩
 ·let⟨@P,M,u⟩:=bN.mp d;split at u
  ·rename_i c;cases u;let⟨g,@Wm,rfl,t,C,rfl⟩:=m;let@⟨hd,rfl⟩:=dh;have h:gY j g:=⟨_,t,(λ_ d=>by cases d),(λ_ W d=>by cases d)⟩;cases k;have N:=Bt s.1 M;subst N;refine D1 D A (nI.k t (by rw[<-C.length];exact x5 c)) i l λV5 w=>⟨_,w,r _ [g] ?_ (bt.chg (.head _) h (fC _ _) λe x=>by simpa using x)⟩;exact⟨g,_,rfl,fm,(ep.put hd C).mono<|cC.ox h,rfl⟩
  ·cases u
 ·split at d
  ·rename_i c;cases d;let⟨g,@Wm,rfl,t,C,rfl⟩:=m;let@⟨hd,rfl⟩:=dh;have h:gY j g:=⟨_,t,(λ_ d=>by cases d),(λ_ W d=>by cases d)⟩;cases k;let⟨f,@z,rfl,WG,WO⟩:=s.1;refine D1 D A (nI.t t ⟨c.1,f,z,rfl,WG,WO⟩ (by rw[<-C.length];exact x5 c.2)) i l λV5 w=>⟨_,w,r _ [g] ?_ (bt.chg (.head _) h (fC _ _) λe x=>by simpa using x)⟩;exact⟨g,_,rfl,fm,(ep.put hd C).mono<|cC.ox h,rfl⟩
  ·cases d
 ·cases d
def Oj{j:aC}{h:ak}{e:ao}{V3:List af}(c:cv j h e V3)(d:vX h=X):∃g,e=.ref g/\A6 j g:=by
 cases h with
 |dw J=>let⟨g,@z,rfl,t,W⟩:=c;exact⟨g,rfl,.inl ⟨z,.inl t⟩⟩
 |aF J=>let⟨g,@z,rfl,t,W⟩:=c;exact⟨g,rfl,.inr ⟨z,.inl t⟩⟩
 |_=>cases d
def C7[DecidableEq Wu]{j:aC}{o:Wu}{Wf:List (Wu×V)}{i:List (Wu×ao)}{q:V}{v:ao}(c:ep j Wf i)(D:cC j q v):cC j ((d8 Wf o).getD q) ((hO i o).getD v):=by
 let@⟨t,C⟩:=m4 (o:=o) c;cases d:d8 Wf o with
 |none=>rw[C d];exact D
 |some e=>let⟨@L,a,b⟩:=t e d;rw[a];exact b
theorem rb{Wr W9:Type}{P:Wr->W9->Prop}:∀{b:List Wr}{d:List W9},ea P b d->∀(a:Nat),a<b.length->∃g f,b[a]?=Z g/\d[a]?=Z f/\P g f
 |_,_,.nil,a,c=>by simp at c
 |_,_,.cons m E,0,c=>⟨_,_,rfl,rfl,m⟩
 |_,_,.cons m E,a+1,c=>by
  let⟨g,@f,e,l,x⟩:=rb E a ⇑c;exact⟨g,f,by simpa using e,by simpa using l,x⟩
end
section
variable{b:aQ}
def DI:bK->ak->Option (Nat×ak)
 |.a4 a,q=>Z (a,q)
 |.bW _,_=>Y
@[simp] theorem VL(a:Nat)(q:ak):DI (.a4 a) q=Z (a,q):=rfl
@[simp] theorem VH(h q:ak):DI (.bW h) q=Y:=rfl
variable{Wi:List Int}
def wa{Wl:List ae}(m:bY (Wi.map ao.int) Wl)(a:Nat)(v:ae)(c:Wl[a]?=Z v):∃E,v=.int ((Wi[a]?).getD 0) E:=by
 have b:=m.length;rw[ba]at b;have V0:a<Wi.length:=by rw[b];exact (fs.mp c).1
 let⟨@L,f,⟨@E,d⟩⟩:=m.get (a:=a) (e:=ao.int Wi[a]) (by simp[V0]);rw[c]at f;cases f;exact⟨E,by rw[d];simp[V0]⟩
theorem B4(I:Nat->Int):∀u,iM (λa i=>decide (I a>I i)) u<=u/\∀i,i<=u->I i<=I (iM (λa i=>decide (I a>I i)) u)
 |0=>⟨bh _,λi b=>by rw[D8.mp b];exact iY _⟩
 |u+1=>by
  let@⟨t,C⟩:=B4 I u;unfold iM;by_cases d:I (u+1)>I (iM (λa i=>decide (I a>I i)) u)
  ·rw[aM ⇑d];refine⟨bh _,λi b=>?_⟩;rcases e4 i (u+1) with c|c
   ·have:=C i ⋯;lia
   ·rw[show i=u+1 by lia];exact iY _
  ·rw[aN ⇑d];refine⟨⋯,λi b=>?_⟩;rcases e4 i (u+1) with c|c
   ·exact C i ⋯
   ·rw[show i=u+1 by lia];lia
def L4(l:b.calm=X):eO b (.builtin "max") (λz j y=>∃H Wi,z=[.ref H]/\j H=Z (.lst<|List.map ao.int Wi)/\Wi≠[]/\∀aw,aw∈Wi->(∀g∈Wi,g<=aw)->y (.int aw) j):=by
 intro G n B j z Wl y A m c;let⟨H,@Wi,rfl,o,p,r⟩:=c;let⟨@L,rfl,q⟩:=ix m;cases q;let@⟨x,⟨Wg,@u,h,d⟩⟩:=A.a5 H _ o;have k:n.heap.IsList H Wg.toArray:=⟨_,d,rfl,u,rfl⟩;have I:Wg.length=Wi.length:=by rw[<-h.length,ba]
 have J:0<Wi.length:=rH.mpr p;refine call_max_walk (tF k ⟨n.heap.objs.size,[n.heap.objs.size,H],[n.heap.objs.size],Wg.toArray.size,_,_,_,rfl,jy.list (A:=b.A.in1) (A.ok.hd l) _ H (dg<|b4 d) Wg.toArray,
  ⟨⟨_,c0 _ rfl,rfl,rfl⟩,k.push _⟩,?_,by rw[cR];omega,CmpOf.ints_gt (λa=>(Wi[a]?).getD 0) (λa v s=>wa h a v ⇑s),λv T WK t w=>?_⟩)
 ·intro f e;show f<(n.heap.push _).objs.size;rw[gZ];rcases b8.mp e with rfl|e
  ·exact lY _
  ·rw[cP.mp e];exact zU (b4 d)
 ·let⟨@E,rfl⟩:=wa h _ v ⇑t;let@⟨dd,dn⟩:=B4 (λa=>(Wi[a]?).getD 0) (Wg.toArray.size-1);rw[cR]at dd dn;refine⟨.int _,j,A.kept<|yt w,⟨E,rfl⟩,r _ ?_ λg C=>?_⟩
  ·have e:iM (λa i=>decide ((Wi[a]?).getD 0>(Wi[i]?).getD 0)) (Wg.length-1)<Wi.length:=by omega
   have D:(Wi[iM (λa i=>decide ((Wi[a]?).getD 0>(Wi[i]?).getD 0)) (Wg.length-1)]?).getD 0=Wi[iM (λa i=>decide ((Wi[a]?).getD 0>(Wi[i]?).getD 0)) (Wg.length-1)]:=by rw[dH e];rfl
   exact D ▸ pv _
  ·let⟨i,F,rfl⟩:=kA.mp C;have:=dn i (by omega);rw[dH F]at this;exact this
def tL:List Int->Option Int
 |[]=>Y
 |e::m=>Z (m.foldl max e)
theorem F8:∀(m:List Int) (e:Int),e<=m.foldl max e/\(∀g∈m,g<=m.foldl max e)/\(m.foldl max e=e\/m.foldl max e∈m)
 |[],e=>⟨iY _,(λg c=>nomatch c),.inl rfl⟩
 |l::m,e=>by
  let@⟨t,C,a⟩:=F8 m (max e l);rw[i5];refine⟨⋯,λg b=>?_,?_⟩
  ·rcases b8.mp b with rfl|b
   ·lia
   ·exact C g b
  ·rcases a with a|a
   ·rw[a];by_cases c:e<=l
    ·rw[show max e l=l by lia];exact .inr (.head _)
    ·rw[show max e l=e by lia];exact .inl rfl
   ·exact .inr (.tail _ a)
def DE{k:Int}(c:tL Wi=Z k):Wi≠[]/\k∈Wi/\∀g∈Wi,g<=k:=by
 cases Wi with
 |nil=>cases c
 |cons e m=>
  cases c;let@⟨t,C,a⟩:=F8 m e;refine⟨by simp,?_,λg b=>?_⟩
  ·rcases a with a|a
   ·rw[a];exact .head _
   ·exact .tail _ a
  ·rcases b8.mp b with rfl|b
   ·exact t
   ·exact C g b
@[simp] def r5:i1:=λJ=>match J with
 |[.lst e]=>(j6 e).bind λWi=>(tL Wi).map λk=>.im (.int k)
 |_=>Y
def MX(c:b.calm=X)(w:b.A.units+20<bS):hI b (.builtin "max") r5:=by
 refine (L4 c).imp λz j y f=>?_;let⟨J,@q,g,d,r⟩:=f;unfold r5 at d;split at d
 ·rename_i e;let⟨@Wi,h,l⟩:=bN.mp d;let⟨@k,m,n⟩:=cm.mp l;cases n;let⟨@v,rfl,⟨W,s,@z,rfl,t,C,W⟩⟩:=g4 g;cases uK h;cases uI C;let@⟨Xv,o,Xk⟩:=DE m;refine⟨s,Wi,rfl,t,Xv,λaw p u=>?_⟩;have:=Xk aw p;have:=u k o;rw[show aw=k by lia];exact cc.i r rfl
 ·cases d
end
section
variable{Wb:bJ}{D:bl}{O:bD}{U:ae->aq->Prop}{n:aq}
def M0{aw:gu}{g:af}{y:Option a9->aq->Prop}(c:y (n.heap.get? g) n):wpAny aw O (loadIfAlive g) y U n:=λa s b=>by
 show dr.wp aw a (.loadIfAlive g .pure) _ _ s n;rw[dr.wp,dr.wp];exact c
end
section
variable{b:aQ}
def Qj{l:Nat}{a:aI}{Xt m:Pos}{WC Xa Xs:bu}{Xq:List bu}{Wq:g_}{Wk:Pos}{own:List aI}{WD:List Nat}{J:c_}{F:j0->gW}{XA:j0->er}{Xg:j0->b6}(t:b.N.Nodup)(u:b.N[l]?=Z a)(y:hy b.env.scope a)(z:b.calm=X)(We:h4 b Wq own WD)(V0:jX b WC Xa J)(C:∀h,kd (b.fT (fY b own WD) Wq h) WC<|F h)(bT:∀h,sk (b.fT (fY b own WD) Wq h) Xq<|XA h)(D:∀h,bP (b.fT (fY b own WD) Wq h) Xs<|Xg h)(av:∀e,mI Xa b.env e=pure e:=by intro W;rfl)(E:oR (.ListComp Xs [⟨WC,Xa,Xq,0⟩] Wq Wk) (Z<|.Name a Xt) m.line b.env=pure X:=by rfl)(H:b.fn a=X\/b.env.scope.names.lookup a=Z .local:=by first|exact .inl rfl|exact .inr rfl|assumption):
  hU b (.Assign [.Name a Xt] (.ListComp Xs [⟨WC,Xa,Xq,0⟩] Wq Wk) m) (Aq (ua own WD J F XA Xg)<|zy l):=by
 intro G n B j L A c;rw[exec_Assign_Name_used _ _ _ _ E];refine ar (w_<|ar ?_);show wpAny _ b.A (do let _ <-w9 (.ListComp Xs [⟨WC,Xa,Xq,0⟩] Wq Wk) Wq b.env _ (qt []) au (cb Xa b.env) (Z<|hS (.Name a Xt) b.env)) _ _ n;refine ar (gR (EI (use:=Z (hS (.Name a Xt) b.env)) (f0:=λ_ V5=>o5 b G L .next V5) z We V0 C bT D av A c λw aO a2 M k P Q I o q x s r=>?_) (λ_ V5 R=>aL<|aL R) λ_ W d=>d);show wpAny _ b.A (hS (.Name a Xt) b.env<|.ref w) _ _ M;refine Dr (CK P t u y (v:=.ref w) rfl (λU al am=>?_) H);let⟨@g,an,i⟩:=am;have ap:aO≠g:=by
  rcases i with rfl|i
  ·exact Ne.symm o
  ·exact Ne.symm (q _ _ i)
 exact⟨k,Q.sameBut an ap,λT cu=>⟨_,_,al.turned (ag:=aO) (WE:=U.toks) (λf p as d=>(cu.2 f as).trans d) I (Ne.symm o) (.inr x) q s,r⟩⟩
def Bh{WH:List Nat}{a:Nat}{c:aI}{Xt f:Pos}{WC Xa Xs:bu}{Xq:List bu}{Wq:g_}{Wk:Pos}{own:List aI}{WD:List Nat}{D:i9}{l:fo}{Xp:aw Bool}{Xz:aw ak}(g:b.N.Nodup)(h:b.N[a]?=Z c)(i:hy b.env.scope c)(k:b.calm=X)(We:h4 b Wq own WD)(ah:WD.Nodup)(V0:kW b WC Xa D)(n:∀d,iq (b.fT (fY b own WD) Wq d) (qO own.length WD.length) WC l)(bT:∀d,tr (b.fT (fY b own WD) Wq d) Xq Xp)(o:∀d,cg (b.fT (fY b own WD) Wq d) Xs Xz)(p:a∉WH)(av:∀e,mI Xa b.env e=pure e:=by intro W;rfl)(q:oR (.ListComp Xs [⟨WC,Xa,Xq,0⟩] Wq Wk) (Z<|.Name c Xt) f.line b.env=pure X:=by rfl)(s:b.fn c=X\/b.env.scope.names.lookup c=Z .local:=by first|exact .inl rfl|exact .inr rfl|assumption):
  iy b WH (.Assign [.Name c Xt] (.ListComp Xs [⟨WC,Xa,Xq,0⟩] Wq Wk) f) (cj a<|ck own.length WD D l Xp Xz):=by
 refine k3 (Qj g h i k We V0 n bT o av q s) λU B j u=>?_;let⟨w,P,aW,@R,N,x,y,r⟩:=u;let⟨@⟨m,V_⟩,t,C⟩:=bN.mp y;split at C
 ·rename_i z;cases C;refine H9 ah ⟨w,P,m,_,N,x,t,λv Wc Wo V3 A Wx E=>?_⟩;let⟨Wz,@bZ,F,WT⟩:=A.put (a:=a) Wx z;exact r _ Wc Wz (dI.set p) F (E.less WT)
 ·cases C
def vH:ak->ak
 |.lst e=>.im (.aW e)
 |.aF []=>.im .fd
 |q=>q
@[simp] theorem Vw(e:List V):vH (.lst e)=.im (.aW e):=rfl
@[simp] theorem Vy(q:V):vH (.im q)=.im q:=rfl
@[simp] def vk(F:aw ak):aw ak:=λw=>(F w).map λs=>(vH s.1,s.2)
variable{g:af}{WI:a9}
def Dt{j:aC}{L:fO}(WG:j g=Z L)(a:∀z,L≠.tup z)(Xk:∀s v,L≠.cU s v):fU j (upd j g<|.cU WI L):=fU.of (λf z d=>by
  have:f≠g:=λx=>by subst x;rw[WG]at d;cases d;exact a _ rfl
  rw[dq this];exact d) λf p L d=>by
  have:f≠g:=λx=>by subst x;rw[WG]at d;cases d;exact Xk _ _ rfl
  rw[dq this];exact d
def yU{G:List (af×a9)}{B:bg}{j Wc:aC}{h:aq}{y:cH}{P Wo V3:List af}{V_:bb}{L:fO}{q:ak}(l:bE Wc V_ B Wo)(a:bt j P Wc (Wo++V3))(WG:Wc g=Z L)(m:∀z,L≠.tup z)(Xk:∀s D,L≠.cU s D)(n:V3=[g])(o:aK b G B (upd Wc g<|.cU WI L) h)(hd:fU Wc (upd Wc g<|.cU WI L)->cv (upd Wc g<|.cU WI L) q (.ref g) [])(r:∀v V1 WL i,bE V1 V_ B WL->cv V1 q v i->bt j P V1 (WL++i)->y v V1):en b G B y (.ref g) h:=by
 subst n;have k:=dJ.mp a.ah;have t:g∉Wo:=λx=>k.2.2 g x g (.head _) rfl;have hb:=Dt (WI:=WI) WG m Xk;refine⟨.ref g,_,o,rfl,r _ _ Wo [] (l.mono hb λf e p d=>by
   have ne:f≠g:=λx=>by subst x;exact t e
   rw[dq ne];exact d) (hd hb) ?_⟩
 rw[cF];refine⟨λf p d e=>?_,λf e=>a.sub f<|gz _ e,k.1,a.tup.trans hb,λf p d=>?_⟩
 ·have:f≠g:=λx=>by
   subst x;rcases a.sub f (eW _<|.head _) with c|c
   ·exact e c
   ·rw[d]at c;cases c
  rw[dq this];exact a.keep f p d e
 ·by_cases x:f=g
  ·exact⟨_,by rw[x];exact fm⟩
  ·let⟨@WN,u⟩:=a.grow f p d;exact⟨WN,by rw[dq x];exact u⟩
variable{d:bu}
def TB{F:aw ak}(c:cg b d F):cg b d (vk F):=by
 intro G n B j y A H;let⟨w,P,m,@R,N,ah,O,r⟩:=H;let⟨@⟨I,V_⟩,t,C⟩:=cm.mp O;cases C;refine bU (@c G n B j (λv Wc=>∃Wo V3,bE Wc V_ B Wo/\cv Wc I v V3/\bt j P Wc (Wo++V3)) A ⟨w,P,I,V_,N,ah,t,λv Wc Wo V3 g f h=>⟨Wo,V3,g,f,h⟩⟩) λL l H=>?_;let⟨v,@Wc,k,s,⟨Wo,@V3,D,Wx,E⟩⟩:=H;cases I with
 |lst e=>
  let⟨g,@z,rfl,WG,WO,J⟩:=Wx;cases s;let@⟨x,⟨Wg,@u,M,a⟩⟩:=k.a5 g _ WG;exact yU (q:=.im (.aW e)) D E WG (λ_ d=>by cases d) (λ_ W d=>by cases d) J (k.write (T:=l.heap) (WE:=l.toks) (d:=g) (by rw[WG];trivial) (.inl rfl) (λf L W d=>d) ⟨_,a⟩ ⟨a,x,Wg,u,M,a⟩) (λhb=>⟨⟨g,z,_,rfl,fm,WO.mono hb.tup⟩,rfl⟩) r
 |aF Wf=>
  cases Wf with
  |nil=>
   let⟨g,@i,rfl,WG,WO,J⟩:=Wx;cases WO;cases s;let@⟨x,S,⟨@z,M,⟨p,Q,@Wt,a,U,al,am,an⟩⟩⟩:=k.a5 g _ WG;cases M;exact yU (q:=.im .fd) D E WG (λ_ d=>by cases d) (λ_ W d=>by cases d) J (k.write (T:=l.heap) (WE:=l.toks) (d:=g) (by rw[WG];trivial) (.inl rfl) (λf L W d=>d) ⟨_,a⟩ ⟨a,x,S,[],.nil,p,Q,Wt,a,U,al,am,an⟩) (λ_=>⟨⟨g,_,rfl,fm⟩,rfl⟩) r
  |cons o m=>exact⟨v,Wc,k,s,r v Wc Wo V3 D Wx E⟩
 |_=>exact⟨v,Wc,k,s,r v Wc Wo V3 D Wx E⟩
variable{o:Nat}{I:af}{fd:gT}{Wj:List aI}{e:aI}{s Wk:Pos}{Q:List bu}
def RM{R:ke}{Xm:kj}{U:gv}{t:b6}{E:eZ}{J:List ae}{i:List ao}(P:h6 b.prog b.w b.K b.aJ b.base R o I fd Wj Xm)(V9:eP o b.A)(g:bP b (.Name e s) t)(h:Θ b.K (.ref I)=X)(k:iD b.K fd Wj J)(hd:bY i J)(p:uN R b U)(q:hR b (d::Q) E)(u:bV (d::Q) b.env=(au,cb d b.env)::bV Q b.env:=by rfl)(x:(fI Wk<|bV Q b.env).any (·.1)=au:=by rfl):
  bP b (.Call (.Name e s) (d::Q) [] Wk) (λB j y=>t B j λv Wc=>v=.ref I/\yA Xm i U E B Wc y):=by
 intro G n B j y A c;refine rx (bU (g G n B j _ A c) λv z C=>?_);let⟨l,@Wc,a,F,H,L⟩:=C;subst H;cases F;refine E4 (h₀:=b.base) a.ok.mod.w1 h (bU (q Wk G z B Wc _ a L) λWl N ⟨V4,Ws,f,m,r⟩=>⟨f.oI,?_⟩) u x;exact Fh P V9 k hd p f m r
@[simp] def r4(a:Nat)(I:af)(u:Nat)(V7:c6)(F:aw (List bK)):aw ak:=λw=>match w[a]? with
 |some (Z<|.im<|.fn g)=>if g=I then bc u V7 F w else Y
 |_=>Y
def Nm{a u:Nat}{V7:c6}{F:aw (List bK)}(P:h6 b.prog b.w b.K b.aJ b.base ik o I fd Wj (j4 u V7))(V9:eP o b.A)(h:bP b (.Name e s) (kk a))(i:Θ b.K (.ref I)=X)(k:iD b.K fd Wj [])(f:fE b (d::Q) F)(l:bV (d::Q) b.env=(au,cb d b.env)::bV Q b.env:=by rfl)(n:(fI Wk<|bV Q b.env).any (·.1)=au:=by rfl):
  cg b (.Call (.Name e s) (d::Q) [] Wk) (r4 a I u V7 F):=by
 refine ey (RM P V9 h i k .nil HM f l n) λB j y p=>?_;let⟨w,q,m,@R,N,ah,c,r⟩:=p;unfold r4 at c;split at c
 ·rename_i g hd;split at c
  ·rename_i f;subst f;let⟨v,Wo,@Wz,t,C,x,z⟩:=N.out hd;exact⟨v,t,C.1,FJ ⟨w,q,m,R,N,ah,c,r⟩⟩
  ·cases c
 ·cases c
end
end L2
namespace dt
open Spec PyProof.Rows
end dt
namespace L2
open Spec PyProof.Rows
variable{O:bD}{Xp W_ Xe:aw bK}{S I:gs}{y:ae->aq->Prop}{f:Bool}{WW:ak}{L v:ae}{l:ao}{n:aq}{j:aC}{B:bg}{G:List (af×a9)}{e q:V}
theorem IS{c:aY}:∀(u:Nat) {e l:V}{v:ae},V.bG u e=X->V.bG u l=X->dp c e v->dp c l v->e=l
 |u,.aV,l,v,_,bf,j,b=>by
  cases (show v=.none from j);cases l with
  |aV=>rfl
  |aB f=>cases b
  |int i=>let⟨@L,d⟩:=b;cases d
  |str x=>let⟨@L,d⟩:=b;cases d
  |tup J=>let⟨W,W,W,@W,d,W⟩:=b;cases d
  |fn g=>cases u<;>cases bf
  |aW g=>cases u<;>cases bf
  |fd=>cases u<;>cases bf
 |u,.aB f,l,v,_,bf,j,b=>by
  cases (show v=.bool f from j);cases l with
  |aV=>cases b
  |aB h=>cases b;rfl
  |int i=>let⟨@L,d⟩:=b;cases d
  |str x=>let⟨@L,d⟩:=b;cases d
  |tup J=>let⟨W,W,W,@W,d,W⟩:=b;cases d
  |fn g=>cases u<;>cases bf
  |aW g=>cases u<;>cases bf
  |fd=>cases u<;>cases bf
 |u,.int a,l,v,_,bf,j,b=>by
  let⟨@E,rfl⟩:=j;cases l with
  |aV=>cases b
  |aB h=>cases b
  |int i=>let⟨@L,d⟩:=b;injection d with d;rw[d]
  |str x=>let⟨@L,d⟩:=b;cases d
  |tup J=>let⟨W,W,W,@W,d,W⟩:=b;cases d
  |fn g=>cases u<;>cases bf
  |aW g=>cases u<;>cases bf
  |fd=>cases u<;>cases bf
 |u,.str a,l,v,_,bf,j,b=>by
  let⟨@E,rfl⟩:=j;cases l with
  |aV=>cases b
  |aB h=>cases b
  |int i=>let⟨@L,d⟩:=b;cases d
  |str x=>let⟨@L,d⟩:=b;injection d with d;rw[d]
  |tup J=>let⟨W,W,W,@W,d,W⟩:=b;cases d
  |fn g=>cases u<;>cases bf
  |aW g=>cases u<;>cases bf
  |fd=>cases u<;>cases bf
 |u+1,.tup J,l,v,w,bf,j,b=>by
  let⟨g,p,Wv,@k,rfl,t,C,y,z⟩:=j;cases l with
  |aV=>cases b
  |aB h=>cases b
  |int i=>let⟨@L,d⟩:=b;cases d
  |str x=>let⟨@L,d⟩:=b;cases d
  |fn g=>cases bf
  |aW g=>cases bf
  |fd=>cases bf
  |tup Q=>
   let⟨F,WN,G,@H,d,s,I,n,A⟩:=b;cases d;rw[t]at s;cases s;rw[y]at n;injection n with n _;subst n;have all:∀(J Q:List V) (V4:List ae),V.dy u J=X->V.dy u Q=X->dP c J V4->dP c Q V4->J=Q:=by
    intro J;induction J with
    |nil=>
     intro Q V4 W W g f;cases Q with
     |nil=>rfl
     |cons d Q=>let⟨W,@W,r,W⟩:=f;rw[show V4=[] from g]at r;cases r
    |cons q J B=>
     intro Q V4 WG WO g f;let⟨v,@m,rfl,D,W5⟩:=g;cases Q with
     |nil=>cases (show v::m=[] from f)
     |cons d Q=>
      let⟨M,@WV,r,dd,dn⟩:=f;cases r;rw[V.dy,cN]at WG WO;rw[IS u WG.1 WO.1 D dd,B Q m WG.2 WO.2 W5 dn]
   rw[all J Q _ w bf z A]
 |0,.tup _,_,_,o,_,_,_=>by cases o
 |u,.fn _,_,_,o,_,_,_=>by cases u<;>cases o
 |u,.aW _,_,_,o,_,_,_=>by cases u<;>cases o
 |u,.fd,_,_,o,_,_,_=>by cases u<;>cases o
open Classical in
def oi(c:aY)(q:V)(v:ae):Bool:=(if x:∃e,V.bG 8 e=X/\dp c e v then cL x.choose q else au)
def rR{c:aY}(o:V.bG 8 e=X)(a:dp c e v):oi c q v=cL e q:=by
 unfold oi;have x:∃e,V.bG 8 e=X/\dp c e v:=⟨e,o,a⟩;rw[dif_pos x,IS 8 x.choose_spec.1 o x.choose_spec.2 a]
theorem ra{c:aY}{q:V}:∀{J:List V}{V4:List ae},V.dy 8 J=X->dP c J V4->V4.any (oi c q)=J.any λe=>cL e q
 |[],V4,_,d=>by rw[show V4=[] from d];rfl
 |e::J,V4,o,d=>by
  let⟨v,@m,rfl,t,C⟩:=d;rw[V.dy,cN]at o;rw[oD,oD,rR o.1 t,ra o.2 C]
theorem s8{c:aY}:∀{J:List V}{V4:List ae}{v:ae},V.dy 8 J=X->dP c J V4->v∈V4->∃e,V.bG 8 e=X/\dp c e v
 |[],V4,v,_,d,k=>by rw[show V4=[] from d]at k;cases k
 |e::J,V4,v,o,d,k=>by
  let⟨L,@m,rfl,t,C⟩:=d;rw[V.dy,cN]at o;rcases b8.mp k with rfl|k
  ·exact⟨e,o.1,t⟩
  ·exact s8 o.2 C k
section
variable{b:aQ}
def hK(q:V):ak->Option Bool
 |.im (.tup J)=>if (V.bG 8 q&&V.dy 8 J)=X then Z (J.any λe=>cL e q) else Y
 |.lst J=>if (V.bG 8 q&&V.dy 8 J)=X then Z (J.any λe=>cL e q) else Y
 |.aF Wf=>match q with
  |.tup o=>if V.keys 7 o=X then Z (d8 Wf o).isSome else Y
  |_=>Y
 |.dw Wf=>match q with
  |.int a=>Z (d8 Wf<|.inl a).isSome
  |.str e=>Z (d8 Wf<|.inr e).isSome
  |_=>Y
 |_=>Y
@[simp] theorem OK(q:V)(J:List V):hK q (.im<|.tup J)=if (V.bG 8 q&&V.dy 8 J)=X then Z (J.any λe=>cL e q) else Y:=rfl
@[simp] theorem Ul(q:V)(J:List V):hK q (.lst J)=if (V.bG 8 q&&V.dy 8 J)=X then Z (J.any λe=>cL e q) else Y:=rfl
@[simp] theorem zl(o:List V)(Wf:List (List V×V)):hK (.tup o) (.aF Wf)=if V.keys 7 o=X then Z (d8 Wf o).isSome else Y:=rfl
@[simp] def jF:gs:=λg f=>match g with
 |.im q=>(hK q f).map λm=>.im (.aB m)
 |_=>Y
@[simp] def gp:gs:=λg f=>match g with
 |.im q=>(hK q f).map λm=>.im (.aB<|!m)
 |_=>Y
def qh{Wu:Type}[DecidableEq Wu]{j:aC}{o:Wu}{Wf:List (Wu×V)}{i:List (Wu×ao)}(c:ep j Wf i):(hO i o).isSome=(d8 Wf o).isSome:=by
 cases d:d8 Wf o with
 |none=>rw[(m4 c).2 d];rfl
 |some q=>let⟨@v,t,W⟩:=(m4 c).1 q d;rw[t];rfl
def OD{e:ao}(M:b.A.units+20<bS)(A:aK b G B j n)(h:b5 e v)(m:b5 l L)(p:cC j q e)(u:fl j WW l)(d:hK q WW=Z f)(r:∀V5,aK b G B j V5->y (.bool f) V5):wpAny (aR b.prog b.w) b.A (d3 .In v L) y b.cJ n:=by
 unfold hK at d;split at d
 ·rename_i J;split at d
  ·rename_i c;cases d;rw[cN]at c;let⟨g,@z,rfl,t,C⟩:=u.i;cases m;let⟨@Wg,P,s,W⟩:=A.tuple (cz.of t);have F:=C.eY A.a5 P;refine SeqAt.in_tupleAt (oi n.heap q) (show n.heap.IsTuple g Wg.toArray from s) (λD N=>?_) ?_
   ·let⟨@x,H,I⟩:=s8 c.2 F ⇑N;rw[rR H I];exact jh 8 H c.1 (by show b.A.units+1+8+1<bS;lia) I (p.eY A.a5 h)
   ·rw[uh,ra c.2 F];exact r n A
  ·cases d
 ·rename_i J;split at d
  ·rename_i c;cases d;rw[cN]at c;let⟨W,g,@z,rfl,t,C,W⟩:=u;cases m;let⟨@Wg,s,F,W⟩:=pN A t C;refine SeqAt.in_listAt (oi n.heap q) s (λD N=>?_) ?_
   ·let⟨@x,H,I⟩:=s8 c.2 F ⇑N;rw[rR H I];exact jh 8 H c.1 (by show b.A.units+1+8+1<bS;lia) I (p.eY A.a5 h)
   ·rw[uh,ra c.2 F];exact r n A
  ·cases d
 ·rename_i Wf;split at d
  ·rename_i o;split at d
   ·rename_i Q;cases d;let⟨W,g,@i,rfl,t,C,W⟩:=u;cases m;let⟨f,@Wm,rfl,R,S⟩:=p;rw[<-qh C]at r;exact zT M A (f9.t t ⟨Q,f,Wm,rfl,R,S⟩) h r
   ·cases d
  ·cases d
 ·rename_i Wf;split at d
  ·rename_i a;cases d;let⟨W,g,@i,rfl,t,C,W⟩:=u;cases m;rw[<-qh C]at r;cases (show e=cB (.inl a) from p);exact zT M A (f9.k t) h r
  ·rename_i a;cases d;let⟨W,g,@i,rfl,t,C,W⟩:=u;cases m;rw[<-qh C]at r;cases (show e=cB (.inr a) from p);exact zT M A (f9.k t) h r
  ·cases d
 ·cases d
def vg(c:b.A.units+20<bS):e_ b (d3 .In) jF:=by
 intro G n B j e l v L y A g h k;let⟨WY,WW,@q,m,o,d,r⟩:=k;unfold jF at d;split at d
 ·let⟨@f,p,s⟩:=cm.mp d;cases s;exact OD c A g h m.i o p λV5 t=>⟨.aB f,j,t,rfl,cc.i r rfl⟩
 ·cases d
def Lg{e:ao}(M:b.A.units+20<bS)(A:aK b G B j n)(h:b5 e v)(m:b5 l L)(p:cC j q e)(u:fl j WW l)(d:hK q WW=Z f)(r:∀V5,aK b G B j V5->y (.bool<|!f) V5):wpAny (aR b.prog b.w) b.A (d3 .NotIn v L) y b.cJ n:=by
 unfold hK at d;split at d
 ·rename_i J;split at d
  ·rename_i c;cases d;rw[cN]at c;let⟨g,@z,rfl,t,C⟩:=u.i;cases m;let⟨@Wg,P,s,W⟩:=A.tuple (cz.of t);have F:=C.eY A.a5 P;refine SeqAt.notIn_tupleAt (oi n.heap q) (show n.heap.IsTuple g Wg.toArray from s) (λD N=>?_) ?_
   ·let⟨@x,H,I⟩:=s8 c.2 F ⇑N;rw[rR H I];exact jh 8 H c.1 (by show b.A.units+1+8+1<bS;lia) I (p.eY A.a5 h)
   ·rw[uh,ra c.2 F];exact r n A
  ·cases d
 ·rename_i J;split at d
  ·rename_i c;cases d;rw[cN]at c;let⟨W,g,@z,rfl,t,C,W⟩:=u;cases m;let⟨@Wg,s,F,W⟩:=pN A t C;refine SeqAt.notIn_listAt (oi n.heap q) s (λD N=>?_) ?_
   ·let⟨@x,H,I⟩:=s8 c.2 F ⇑N;rw[rR H I];exact jh 8 H c.1 (by show b.A.units+1+8+1<bS;lia) I (p.eY A.a5 h)
   ·rw[uh,ra c.2 F];exact r n A
  ·cases d
 ·rename_i Wf;split at d
  ·rename_i o;split at d
   ·rename_i Q;cases d;let⟨W,g,@i,rfl,t,C,W⟩:=u;cases m;let⟨f,@Wm,rfl,R,S⟩:=p;rw[<-qh C]at r;exact xd M A (f9.t t ⟨Q,f,Wm,rfl,R,S⟩) h r
   ·cases d
  ·cases d
 ·rename_i Wf;split at d
  ·rename_i a;cases d;let⟨W,g,@i,rfl,t,C,W⟩:=u;cases m;rw[<-qh C]at r;cases (show e=cB (.inl a) from p);exact xd M A (f9.k t) h r
  ·rename_i a;cases d;let⟨W,g,@i,rfl,t,C,W⟩:=u;cases m;rw[<-qh C]at r;cases (show e=cB (.inr a) from p);exact xd M A (f9.k t) h r
  ·cases d
 ·cases d
def qG(c:b.A.units+20<bS):e_ b (d3 .NotIn) gp:=by
 intro G n B j e l v L y A g h k;let⟨WY,WW,@q,m,o,d,r⟩:=k;unfold gp at d;split at d
 ·let⟨@f,p,s⟩:=cm.mp d;cases s;exact Lg c A g h m.i o p λV5 t=>⟨.aB<|!f,j,t,rfl,cc.i r rfl⟩
 ·cases d
@[simp] def hr(I S:gs)(Xe W_ Xp:aw bK):aw ak:=λw=>(Xe w).bind λs=>(W_ s.2).bind λr=>(dO r.2 s.1).bind λWY=>(dO r.2 r.1).bind λWW=>(I WY WW).bind λq=>(qS q).bind λo=>
 if o=X then (Xp r.2).bind λm=>(dO m.2 r.1).bind λa=>(dO m.2 m.1).bind λb=>(S a b).bind λx=>(qS x).map λf=>(.im<|.aB f,m.2) else Z (.im<|.aB au,r.2)
def Ny{y:cH}(c:mT (hr I S Xe W_ Xp) B j y):
  EL (λe l j y=>∃WY WW q,fl j WY e/\fl j WW l/\I WY WW=Z q/\cc j q y) (λe l j y=>∃WY WW q,fl j WY e/\fl j WW l/\S WY WW=Z q/\cc j q y) (mE Xe) (mE W_) (mE Xp) B j y:=by
 let⟨w,P,m,@R,N,ah,a,r⟩:=c;let⟨@⟨G,V_⟩,t,a⟩:=bN.mp a;let⟨@⟨WJ,WB⟩,C,a⟩:=bN.mp a;let⟨@WY,Q,a⟩:=bN.mp a;let⟨@WW,T,a⟩:=bN.mp a;let⟨@q,U,a⟩:=bN.mp a;let⟨@o,al,i⟩:=bN.mp a;have hd:=sW al;subst hd;refine⟨w,P,G,V_,N,ah,t,λe Wc Wo am an H z=>⟨V_,Wo,WJ,WB,an,(dJ.mp z.ah).1,C,λl Ws Wz bZ k J n=>?_⟩⟩;have ap:iP Ws B G e am:=H.mono n.tup λg b p d=>n.keep g p d λc=>(dJ.mp z.ah).2.2 g c g b rfl;refine⟨WY,WW,_,ap.read k Q,J.read k T,U,λv L as h Wx dL eq=>?_⟩;let@⟨rfl,rfl⟩:=(show v=.aB o/\as=[] from Wx);refine⟨o,rfl,?_⟩;have M:=z.trans n H.chg;rw[bC]at M;have s:=M.new h hu (λg b=>nomatch b) k.chg;have O:bE L WB B Wz:=k.mono h.tupS λg W p d=>h g p d;cases o with
 |false=>
  rw[aN dc]at i ⊢;cases i;exact r _ L Wz [] O ⟨rfl,rfl⟩ s
 |true=>
  rw[aM rfl]at i ⊢;let⟨@⟨a1,A⟩,a2,WG⟩:=bN.mp i;let⟨@bd,be,WO⟩:=bN.mp WG;let⟨@bi,bm,bn⟩:=bN.mp WO;let⟨@x,bs,bv⟩:=bN.mp bn;let⟨@f,ca,cd⟩:=cm.mp bv;cases cd;have ce:=sW ca;subst ce;rw[cF]at s;refine⟨WB,Wz,a1,A,O,s.ah,a2,λD ch ci ev u cl E=>?_⟩;have co:=dJ.mp n.ah;have cr:iP ch B WJ l bZ:=(J.mono h.tupS λg W p d=>h g p d).mono E.tup λg b p d=>E.keep g p d λc=>co.2.2 g c g b rfl;refine⟨bd,bi,_,cr.read u be,cl.read u bm,bs,λv cs db F ds ex fd=>?_⟩;let@⟨rfl,rfl⟩:=(show v=.aB f/\db=[] from ds);exact r _ cs ci [] (u.mono F.tupS λg W p d=>F g p d) ⟨rfl,rfl⟩ ((s.seq E).new F hu (λg b=>nomatch b) u.chg)
def ui{WR a:kQ}{g f h:bu}{Wk:Pos}(c:e_ b (d3 WR) I)(d:e_ b (d3 a) S)(e:dS b g Xe)(i:dS b f W_)(k:dS b h Xp)(l:lastMarks [WR,a] [f,h]=au:=by with_unfolding_all rfl):iw b (.Compare g [WR,a] [f,h] Wk) (bO<|hr I S Xe W_ Xp):=by
 refine tB (RT c d e i k l) λB j y m=>?_;let⟨w,P,o,@R,N,ah,p,r⟩:=m;refine Ny ⟨w,P,.im<|.aB o,R,N,ah,?_,λv V1 WL V3 q Wx n=>⟨o,Wx.1,r V1 WL q (by rw[Wx.2,cF]at n;exact n)⟩⟩;let⟨@s,t,C⟩:=bN.mp p;let⟨@z,u,x⟩:=cm.mp C;cases x;rw[t,<-sW u]
end
mutual
def a7:V->V->Bool
 |.int a,.int i=>decide (a<i)
 |.str e,.str l=>decide (e.cps.toList<l.cps.toList)
 |.tup g,.tup f=>gn g f
 |_,_=>au
def gn:List V->List V->Bool
 |[],[]=>au
 |[],_::_=>X
 |_::_,[]=>au
 |g::m,f::E=>if V.beq g f=X then gn m E else a7 g f
end
mutual
def eH:Nat->V->V->Bool
 |_,.int _,.int _=>X
 |_,.str _,.str _=>X
 |u+1,.tup g,.tup f=>f5 u g f
 |_,_,_=>au
def f5:Nat->List V->List V->Bool
 |_,[],[]=>X
 |u,g::m,f::E=>eH u g f&&f5 u m E
 |u,[],f::E=>V.dy u (f::E)
 |u,g::m,[]=>V.dy u (g::m)
end
mutual
theorem qP:∀{u:Nat}{g f:V},eH u g f=X->V.bG u g=X/\V.bG u f=X/\cL g f=V.beq g f
 |u,.int a,.int i,_=>by
  refine⟨by cases u<;>rfl,by cases u<;>rfl,?_⟩;rw[cL,V.beq];by_cases c:a=i<;>simp[c]
 |u,.str e,.str l,_=>by
  refine⟨by cases u<;>rfl,by cases u<;>rfl,?_⟩;rw[cL,V.beq];by_cases c:e=l<;>simp[c]
 |u+1,.tup g,.tup f,c=>by
  rw[eH]at c;let@⟨t,C,b⟩:=Ez c;exact⟨t,C,by rw[cL,V.beq];exact b⟩
theorem Ez:∀{u:Nat}{g f:List V},f5 u g f=X->V.dy u g=X/\V.dy u f=X/\fG g f=V.md g f
 |u,[],[],_=>⟨by cases u<;>rfl,by cases u<;>rfl,rfl⟩
 |u,[],f::E,c=>⟨by cases u<;>rfl,c,rfl⟩
 |u,g::m,[],c=>⟨c,by cases u<;>rfl,rfl⟩
 |u,g::m,f::E,c=>by
  rw[f5,cN]at c;let@⟨t,C,a⟩:=qP c.1;let@⟨b,d,e⟩:=Ez c.2;exact⟨by rw[V.dy,t,b];rfl,by rw[V.dy,C,d];rfl,by rw[fG,V.md,a,e]⟩
end
def oM{g f:V}(c:¬ g=f):V.beq g f=au:=by
 cases d:V.beq g f with
 |false=>rfl
 |true=>exact absurd ((V.beq_iff g f).mp d) c
mutual
theorem uk:∀g:V,a7 g g=au
 |.int a=>by simp[a7]
 |.tup g=>by rw[a7];exact BH g
 |.aV=>rfl
 |.aB _=>rfl
 |.str e=>by rw[a7];exact dQ (List.lt_irrefl _)
 |.fn _=>rfl
 |.aW _=>rfl
 |.fd=>rfl
theorem BH:∀g:List V,gn g g=au
 |[]=>rfl
 |g::m=>by rw[gn,aM<|(V.beq_iff g g).mpr rfl];exact BH m
end
mutual
theorem p1:∀{u:Nat}{g f:V},eH u g f=X->g≠f->a7 g f=!(a7 f g)
 |u,.int a,.int i,_,c=>by
  have:a≠i:=λd=>c (by rw[d]);rw[a7,a7];rcases A7 this with F|F
  ·simp[F];lia
  ·simp[F];lia
 |u,.str e,.str l,_,c=>by
  have ne:e.cps.toList≠l.cps.toList:=λd=>c (by
   let⟨e⟩:=e;let⟨l⟩:=l;exact congrArg (λx=>V.str ⟨x⟩) (JI.mp d))
  rw[a7,a7];by_cases F:e.cps.toList<l.cps.toList
  ·rw[du F,dQ<|List.lt_asymm F];rfl
  ·rw[dQ F];by_cases Xo:l.cps.toList<e.cps.toList
   ·rw[du Xo];rfl
   ·exact absurd (List.le_antisymm (I4.mp Xo)<|I4.mp F) ne
 |u+1,.tup g,.tup f,c,d=>by
  rw[eH]at c;rw[a7,a7];exact I_ c λx=>d (by rw[x])
theorem I_:∀{u:Nat}{g f:List V},f5 u g f=X->g≠f->gn g f=!(gn f g)
 |u,[],[],_,c=>absurd rfl c
 |u,[],f::E,_,_=>rfl
 |u,g::m,[],_,_=>rfl
 |u,g::m,f::E,c,d=>by
  rw[f5,cN]at c;rw[gn,gn];by_cases x:g=f
  ·subst x;rw[aM ((V.beq_iff g g).mpr rfl),aM<|(V.beq_iff g g).mpr rfl];exact I_ c.2 λD=>d (by rw[D])
  ·rw[oM x,oM<|λD=>x D.symm,aN dc,aN dc];exact p1 c.1 x
end
mutual
theorem nT:∀{u:Nat}{g f h:V},eH u g f=X->eH u f h=X->a7 g f=X->a7 f h=X->a7 g h=X
 |u,.int a,.int i,.int o,_,_,t,C=>by
  rw[a7]at t C ⊢;have:=hz t;have:=hz C;exact du (by omega)
 |u,.str e,.str l,.str x,_,_,t,C=>by
  rw[a7]at t C ⊢;exact du (List.lt_trans (hz t)<|hz C)
 |u+1,.tup g,.tup f,.tup h,b,c,t,C=>by
  rw[eH]at b c;rw[a7]at t C ⊢;exact Dx b c t C
theorem Dx:∀{u:Nat}{g f h:List V},f5 u g f=X->f5 u f h=X->gn g f=X->gn f h=X->gn g h=X
 |u,[],_,_::_,_,_,_,_=>rfl
 |u,[],[],[],_,_,c,_=>c
 |u,_::_,[],_,_,_,c,_=>by cases c
 |u,_,_::_,[],_,_,_,c=>by cases c
 |u,g::m,f::E,h::L,d,b,t,C=>by
  rw[f5,cN]at d b;rw[gn]at t C ⊢;by_cases e:g=f
  ·subst e;rw[aM ((V.beq_iff g g).mpr rfl)]at t;by_cases a:g=h
   ·subst a;rw[aM ((V.beq_iff g g).mpr rfl)]at C ⊢;exact Dx d.2 b.2 t C
   ·rw[oM a,aN dc]at C ⊢;exact C
  ·rw[oM e,aN dc]at t;by_cases a:f=h
   ·subst a;rw[oM e,aN dc];exact t
   ·rw[oM a,aN dc]at C;have i:=nT d.1 b.1 t C;have j:¬ g=h:=λD=>by
     subst D;have:=p1 b.1 a;rw[t,C]at this;cases this
    rw[oM j,aN dc];exact i
end
def sC(O:bD)(n:aq)(l e:ae)(o:Bool):Prop:=(∀(Wb:bJ) (D:bl) (U:ae->aq->Prop) (y:ae->aq->Prop),y (.bool o) n->wpAny (aR Wb D) O (oT .Lt l e) y U n)
def hY(I:Bool):List (Bool×Bool)->Bool
 |[]=>I
 | (d,o)::m=>if d=X then hY I m else o
section
open PySem.SeqAt
open PySem.AutoSeq1 (wpAny_loadPart')
open PySem.MeetsSeq PySem.MeetsSeq2 PySem.MeetsSeq3
def RI(H f:af)(Wv b:Array ae)(u Xk:Nat)(y z:Option af)(a4 A:Array (Option ae))(Wj:List (Bool×Bool))(P:Wj.length=min Wv.size b.size):
  Meets (a0.«tuple.__lt__» ⟨[.ref H,.ref f],[]⟩)
   (λO V3 n=>n.heap.get? H=Z {cls:=.type "tuple",dict:=y,data:=.seq Wv u,slots:=a4}/\n.heap.get? f=Z {cls:=.type "tuple",dict:=z,data:=.seq b Xk,slots:=A}/\
    (∀i (t:i<Wv.size) (C:i<b.size) (m:i<Wj.length),EqAt O.in1 n Wv[i] b[i] (Wj[i]).1/\((Wj[i]).1=au->sC O.in1 n Wv[i] b[i] (Wj[i]).2))/\
    V3 (.ok<|.ret<|.bool<|hY (decide (Wv.size<b.size)) Wj) n):=
 .of_wp λWb D O V3 n c=>by
  let⟨j,F,q,WK,Wn⟩:=n;let@⟨B,E,G,c⟩:=c;have Q:=Dq;have r:(Wv.toList.zip b.toList).length=min Wv.size b.size:=by simp
  wp_walk using wpAny_loadPart' B,wpAny_loadPart' E,kE _ (λcx f V5=>f.1=Y/\V5=⟨j,F,q,WK,Wn⟩/\∃a,cx=(Wv.toList.zip b.toList).drop a/\
   V3 (.ok<|.ret<|.bool<|hY (decide (Wv.size<b.size))<|Wj.drop a) ⟨j,F,q,WK,Wn⟩) _
  case turn=>
   rintro⟨l,e⟩ cx f V5 ⟨p,rfl,a,g,h⟩;have s:a<(Wv.toList.zip b.toList).length:=by
    rcases e4 a (Wv.toList.zip b.toList).length with T|T
    ·exact T
    ·rw[oY T]at g;cases g
   have R:a<min Wv.size b.size:=r ▸ s;have t:a<Wv.size:=⋯
   have C:a<b.size:=⋯
   have m:a<Wj.length:=⋯
   rw[jA s]at g;injection g with v I;have J:l=Wv[a]:=by have:=congrArg Prod.fst v;simpa using this
   have L:e=b[a]:=by have:=congrArg Prod.snd v;simpa using this
   subst J L;rw[jA m]at h;let@⟨w,x⟩:=G a t C m;generalize Wj[a]=M at h w x;let⟨d,o⟩:=M;refine ar (w Wb D _ _ ?_);cases d with
   |true=>
    have k:V3 (.ok<|.ret<|.bool<|hY (decide (Wv.size<b.size))<|Wj.drop<|a+1) ⟨j,F,q,WK,Wn⟩:=h
    wp_walk
    exact⟨rfl,rfl,a+1,I,k⟩
   |false=>
    have k:V3 (.ok<|.ret<|.bool o) ⟨j,F,q,WK,Wn⟩:=h;have N:=x rfl Wb D
    wp_walk using N
    exact⟨_,rfl,by simpa using k⟩
  case fin=>
   rintro⟨dd,dn⟩ V5 ⟨p,rfl,a,g,h⟩;simp only at p;subst p;have S:min Wv.size b.size<=a:=by
    rcases e4 a (Wv.toList.zip b.toList).length with T|T
    ·rw[jA T]at g;cases g
    ·exact r ▸ T
   rw[oY ⋯]at h;have k:V3 (.ok<|.ret<|.bool<|decide (Wv.size<b.size)) ⟨j,F,q,WK,Wn⟩:=h
   wp_walk
   exact⟨_,rfl,by simpa [a0.Tuple.tupleCompareSizes] using k⟩
  case h=>
   exact⟨rfl,rfl,0,rfl,by simpa using c⟩
end
def kC(J Q:List V):List (Bool×Bool):=((J.zip Q).map λs=>(cL s.1 s.2,a7 s.1 s.2))
theorem Hi:∀{u:Nat}{J Q:List V},f5 u J Q=X->hY (decide (J.length<Q.length)) (kC J Q)=gn J Q
 |_,[],[],_=>rfl
 |u,g::m,f::E,c=>by
  rw[f5,cN]at c;show (if cL g f=X then hY (decide (m.length+1<E.length+1)) (kC m E) else a7 g f)=gn (g::m) (f::E);rw[gn,(qP c.1).2.2,<-Hi c.2,AV.mpr za]
 |_,[],_::_,_=>rfl
 |_,_::_,[],_=>rfl
theorem zc{u:Nat}:∀{J Q:List V}{i:Nat}{g f:V},f5 u J Q=X->J[i]?=Z g->Q[i]?=Z f->eH u g f=X
 |[],Q,i,g,f,_,c,_=>by simp at c
 |q::J,[],i,g,f,_,_,c=>by simp at c
 |q::J,d::Q,0,g,f,c,t,C=>by
  rw[f5,cN]at c;cases t;cases C;exact c.1
 |q::J,d::Q,i+1,g,f,c,t,C=>by
  rw[f5,cN]at c;exact zc (i:=i) c.2 ⇑t ⇑C
def Po{a i:Int}(b:dp n.heap (.int a) L)(c:dp n.heap (.int i) v):sC O n L v (a7 (.int a)<|.int i):=by
 let⟨@E,rfl⟩:=b;let⟨@WE,rfl⟩:=c;intro Wb D U y r;rw[a7]at r;exact dt.LK O n a E i WE Wb D U y r
def Q9{e l:aI}(a:dp n.heap (.str e) L)(b:dp n.heap (.str l) v):sC O n L v (a7 (.str e)<|.str l):=by
 let⟨E,rfl⟩:=a;let⟨WE,rfl⟩:=b;intro Wb D U y r;rw[a7]at r;exact (PySem.P.lt_str r:wpAny (aR Wb D) O (d3 .Lt (.str e E)<|.str l WE) y U n)
def Ai(e l:V):Prop:=((∃a i,e=.int a/\l=.int i)\/∃g f,e=.str g/\l=.str f)
def JZ{l:V}(H:Ai e l)(b:dp n.heap e L)(c:dp n.heap l v):sC O n L v (a7 e l):=by
 rcases H with ⟨a,i,rfl,rfl⟩|⟨g,f,rfl,rfl⟩
 ·exact Po b c
 ·exact Q9 b c
def oO:∀{u:Nat}{e l:V},eH u e l=X->Ai e l\/∃k g f,u=k+1/\e=.tup g/\l=.tup f/\f5 k g f=X:=by
 intro u e l c;unfold eH at c;split at c
 ·exact .inl (.inl ⟨_,_,rfl,rfl⟩)
 ·exact .inl (.inr ⟨_,_,rfl,rfl⟩)
 ·exact .inr ⟨_,_,_,rfl,rfl,rfl,c⟩
 ·cases c
def ys(u:Nat):∀{O:bD}{e l:V}{L v:ae},eH u e l=X->O.units+u+2<bS->dp n.heap e L->dp n.heap l v->sC O n L v (a7 e l):=by
 induction u with
 |zero=>
  intro O e l L v c N a b;rcases oO c with H|⟨k,_,_,d,_⟩
  ·exact JZ H a b
  ·cases d
 |succ u R=>
  intro O e l L v c N a b;rcases oO c with H|⟨k,J,Q,d,rfl,rfl,c⟩
  ·exact JZ H a b
  cases d;let⟨g,p,Wg,@k,rfl,t,C,h,j⟩:=a;let⟨f,WN,w,@S,rfl,m,o,q,s⟩:=b;let⟨cls,T,data,a4⟩:=p;let⟨bd,al,be,am⟩:=WN;simp only at C h o q;subst C h o q;have z:J.length=Wg.size:=by rw[j.length,dv]
  have A:Q.length=w.size:=by rw[s.length,dv]
  intro Wb D U y r;rw[a7,<-Hi c,z,A]at r;have an:(kC J Q).length=min Wg.size w.size:=by rw[kC,ba,wB,z,A]
  refine Dw (op:=.Lt) ⟨_,t,rfl⟩ ⟨_,m,rfl⟩ PySem.F.slot_tuple_lt PySem.F.entry_tuple_lt (PySem.F.args_tuple_lt_2 _ _) (RI g f Wg w k S T al a4 am (kC J Q) an)
   ⟨t,m,λi ap as a1=>?_,show ae.bool (hY (decide (Wg.size<w.size))<|kC J Q)≠ae.notImplemented/\y (.bool<|hY (decide (Wg.size<w.size))<|kC J Q) n from ⟨(λe=>nomatch e),r⟩⟩ ⋯;let⟨@WY,B,E⟩:=j.get (i:=i) (v:=Wg[i]) (by rw[eQ];simp[ap]);let⟨@WW,G,I⟩:=s.get (i:=i) (v:=w[i]) (by rw[eQ];simp[as]);have lk:=zc c B G;have M:=qP lk;have a2:(kC J Q)[i]=(cL WY WW,a7 WY WW):=by
   have:(kC J Q)[i]?=Z (cL WY WW,a7 WY WW):=by
    rw[kC,eB,(vb (z:=(WY,WW))).mpr ⟨B,G⟩];rfl
   rw[dH a1]at this;exact Option.some.inj this
  rw[a2];exact⟨jh u M.1 M.2.1 (by show O.units+1+u+1<bS;lia) E I,λ_=>R lk (by show O.units+1+u+2<bS;lia) E I⟩
end L2
namespace L2
open Spec PyProof.Rows PySem.W
variable{q:V}{Wg:List ae}{H J:List V}
theorem DX{Wr:Type}{s r:Wr->Bool}:∀{H:List Wr},(∀e∈H,s e=X->r e=X)->(∃e∈H,r e=X/\s e=au)->H.countP s<H.countP r
 |[],_,c=>by let⟨@e,a,W⟩:=c;cases a
 |g::H,c,⟨e,a,t,C⟩=>by
  rw[Eb,Eb];have le:H.countP s<=H.countP r:=List.countP_mono_left λl b=>c l (.tail _ b);rcases b8.mp a with rfl|a
  ·rw[t,C];simp;omega
  ·have:=DX (λl b=>c l<|.tail _ b) ⟨e,a,t,C⟩;have d:=c g (.head _);cases f:s g<;>cases h:r g<;>rw[f,h]at d<;>simp at d ⊢<;>omega
structure n9(J:List V):Prop where
 d5:J.length<=1000
 h7:∀g∈J,∀f∈J,eH 6 g f=X
structure wV(J:List V):Prop where
 d5:J.length<=1000
 h7:∀g∈J,∀f∈J,eH 6 g f=X
 ah:J.Nodup
def wV.w{J:List V}(p:wV J):n9 J:=⟨p.d5,p.h7⟩
def pI(J:List V)(e:V):Nat:=(J.countP λq=>a7 q e)
def E8(p:n9 J){e l:V}(a:e∈J)(b:l∈J)(c:a7 e l=X):pI J e<pI J l:=
 DX (λx f d=>nT (p.h7 x f e a) (p.h7 e a l b) d c) ⟨e,a,c,uk e⟩
def FH(p:n9 J){e l:V}(a:e∈J)(b:l∈J):decide ((pI J e:Int)<(pI J l:Int))=a7 e l:=by
 cases d:a7 e l with
 |true=>exact du (by have:=E8 p a b d;lia)
 |false=>
  refine dQ λx=>?_;by_cases c:e=l
  ·subst c;lia
  ·have E:=p1 (p.h7 e a l b) c;rw[d]at E;have WE:a7 l e=X:=by cases r:a7 l e<;>rw[r]at E<;>simp at E ⊢
   have:=E8 p b a WE;lia
def n7(J:List V)(a:Nat):Int:=(pI J (J.getD a .aV))
def vi{a:Nat}(c:a<J.length):J.getD a .aV∈J:=by
 rw[cK,dH c];exact pv c
def zO(p:n9 J){s:Array Nat}(b:da J.length s)(j:iV (n7 J) s J.length):(s.toList.map λa=>J.getD a .aV).Pairwise (λg f=>a7 f g=au):=by
 rw[oW];intro a i V0 c m;have av:=b.size;have k:a<J.length:=by simpa [av] using V0
 have e:i<J.length:=by simpa [av] using c
 have le:=j a i ⋯ e;have F:∀o (h:o<(s.toList.map λa=>J.getD a .aV).length),(s.toList.map λa=>J.getD a .aV)[o]=J.getD (s.getD o 0) .aV:=λo h=>by
  have l:o<s.size:=by simpa using h
  rw[tq,G_];simp[Array.getD,l]
 rw[F a V0,F i c];rw[<-FH p (vi<|b.lt e) (vi<|b.lt k)];refine dQ ?_;have d:∀o,(pI J (J.getD (s.getD o 0) .aV):Int)=bk (n7 J) s o:=λ_=>rfl;rw[d a,d i];lia
theorem Dz:∀{H k:List V},H.Perm k->H.Pairwise (λg f=>a7 g f=X)->k.Pairwise (λg f=>a7 g f=X)->(∀g∈H,∀f∈H,a7 g f=X->a7 f g=au)->H=k
 |[],k,s,_,_,_=>(List.nil_perm.mp s).symm
 |g::H,k,s,t,C,a=>by
  cases k with
  |nil=>exact absurd s.length_eq ↥0
  |cons f k=>
   have d:g=f:=by
    by_cases d:g=f
    ·exact d
    ·have h:g∈k:=by
      rcases b8.mp (s.mem_iff.mp<|.head _) with x|x
      ·exact absurd x d
      ·exact x
     have b:f∈H:=by
      rcases b8.mp (s.mem_iff.mpr<|.head _) with x|x
      ·exact absurd x.symm d
      ·exact x
     have i:=(e8.mp t).1 f b;have c:=(e8.mp C).1 g h;rw[a g (.head _) f (.tail _ b) i]at c;cases c
   subst d;rw[Dz (Up s) (e8.mp t).2 (e8.mp C).2 λe j l m=>a e (.tail _ j) l<|.tail _ m]
theorem uR(e:V):∀H:List V,(kU a7 e H).Perm (e::H)
 |[]=>List.Perm.refl _
 |l::m=>by
  rw[kU];split
  ·exact List.Perm.refl _
  ·exact (List.Perm.cons l<|uR e m).trans (List.Perm.swap e l m)
theorem jn:∀H:List V,(e0 a7 H).Perm H
 |[]=>List.Perm.refl _
 |e::m=>(uR e _).trans (List.Perm.cons e<|jn m)
theorem CA{e:V}:∀{H:List V},H.Pairwise (λg f=>a7 g f=X)->(∀l∈H,e≠l)->(∀g∈e::H,∀f∈e::H,eH 6 g f=X)->(kU a7 e H).Pairwise (λg f=>a7 g f=X)
 |[],_,_,_=>fC _ _
 |l::m,c,u,lk=>by
  have T:=e8.mp c;rw[kU];split
  ·rename_i d;refine e8.mpr ⟨λx a=>?_,c⟩;rcases b8.mp a with rfl|a
   ·exact d
   ·exact nT (lk e (.head _) l<|.tail _<|.head _) (lk l (.tail _<|.head _) x<|.tail _<|.tail _ a) d (T.1 x a)
  ·rename_i d;refine e8.mpr ⟨λx a=>?_,CA T.2 (λx a=>u x<|.tail _ a) λg b f h=>lk g ?_ f ?_⟩
   ·rcases b8.mp ((uR e m).mem_iff.mp a) with rfl|a
    ·have E:=p1 (lk x (.head _) l<|.tail _<|.head _) (u l<|.head _);cases r:a7 l x with
     |true=>rfl
     |false=>rw[r]at E;exact absurd E d
    ·exact T.1 x a
   ·rcases b8.mp b with rfl|b
    ·exact .head _
    ·exact .tail _ (.tail _ b)
   ·rcases b8.mp h with rfl|h
    ·exact .head _
    ·exact .tail _ (.tail _ h)
theorem rB:∀{H:List V},H.Nodup->(∀g∈H,∀f∈H,eH 6 g f=X)->(e0 a7 H).Pairwise (λg f=>a7 g f=X)
 |[],_,_=>.nil
 |e::m,ah,lk=>by
  have c:=gb.mp ah;refine CA (rB c.2 λg a f b=>lk g (.tail _ a) f<|.tail _ b) (λl h d=>c.1 (by rw[d];exact (jn m).mem_iff.mp h)) λg a f b=>lk g ?_ f ?_
  ·rcases b8.mp a with rfl|a
   ·exact .head _
   ·exact .tail _ ((jn m).mem_iff.mp a)
  ·rcases b8.mp b with rfl|b
   ·exact .head _
   ·exact .tail _ ((jn m).mem_iff.mp b)
def Q7(p:wV J)(s:H.Perm J)(c:H.Pairwise (λg f=>a7 g f=X)):H=e0 a7 J:=by
 refine Dz (s.trans (jn J).symm) c (rB p.ah p.h7) λg a f b d=>?_;have E:=p1 (p.h7 g (s.mem_iff.mp a) f<|s.mem_iff.mp b) (λx=>by subst x;rw[uk]at d;cases d);rw[d]at E;cases r:a7 f g with
 |false=>rfl
 |true=>rw[r]at E;cases E
theorem Cp{e:V}:∀{H:List V},H.Pairwise (λg f=>a7 f g=au)->(∀g∈e::H,∀f∈e::H,eH 6 g f=X)->(kU a7 e H).Pairwise (λg f=>a7 f g=au)
 |[],_,_=>fC _ _
 |l::m,c,lk=>by
  have T:=e8.mp c;unfold kU;split
  ·rename_i d;refine e8.mpr ⟨λx a=>?_,c⟩;cases r:a7 x e with
   |false=>rfl
   |true=>
    have E:=nT (lk x (.tail _ a) e<|.head _) (lk e (.head _) l<|.tail _<|.head _) r d;rcases b8.mp a with rfl|a
    ·rw[uk]at E;cases E
    ·rw[T.1 x a]at E;cases E
  ·rename_i d;refine e8.mpr ⟨λx a=>?_,Cp T.2 λg b f h=>lk g ?_ f ?_⟩
   ·rcases b8.mp ((uR e m).mem_iff.mp a) with rfl|a
    ·cases r:a7 x l with
     |false=>rfl
     |true=>exact absurd r d
    ·exact T.1 x a
   ·rcases b8.mp b with rfl|b
    ·exact .head _
    ·exact .tail _ (.tail _ b)
   ·rcases b8.mp h with rfl|h
    ·exact .head _
    ·exact .tail _ (.tail _ h)
theorem Gl:∀{H:List V},(∀g∈H,∀f∈H,eH 6 g f=X)->(e0 a7 H).Pairwise (λg f=>a7 f g=au)
 |[],_=>.nil
 |e::m,lk=>by
  refine Cp (Gl λg a f b=>lk g (.tail _ a) f<|.tail _ b) λg a f b=>lk g ?_ f ?_
  ·rcases b8.mp a with rfl|a
   ·exact .head _
   ·exact .tail _ ((jn m).mem_iff.mp a)
  ·rcases b8.mp b with rfl|b
   ·exact .head _
   ·exact .tail _ ((jn m).mem_iff.mp b)
def xB(p:n9 J)(s:H.Perm J)(c:H.Pairwise (λg f=>a7 f g=au)):H=e0 a7 J:=by
 refine Ro (λg f a b e l=>?_) c (Gl p.h7) (s.trans (jn J).symm);by_cases d:g=f
 ·exact d
 ·have E:=p1 (p.h7 g (s.mem_iff.mp a) f<|(jn J).mem_iff.mp b) d;rw[e,l]at E;cases E
def i8:V->Bool
 |.tup (.int _::_)=>X
 |.tup (.str _::_)=>X
 |_=>au
def sY:V->Bool
 |.tup (.int _::_)=>X
 |_=>au
def rN:V->Bool
 |.tup (.str _::_)=>X
 |_=>au
def nB:V->Bool
 |.tup (.tup _::_)=>X
 |_=>au
section
variable{Wb:bJ}{D:bl}{O:bD}{U:ae->aq->Prop}{n:aq}
theorem Jr{f I:Bool}(u:Nat)(s:O.units+u+2<bS){y:Bool->aq->Prop}:∀{J Q:List V}{V4 h:List ae}{a:Nat},f5 u J Q=X->I=decide (J.length<Q.length)->dP n.heap J V4->dP n.heap Q h->(f=X->a=0->∃o m,J=o::m/\∀g,o≠.tup g)->y (gn J Q) n->KatLex Wb D O f I y (V4.zip h) a n
 |[],Q,V4,h,a,_,b,t,C,_,r=>by
  rw[show V4=[] from t,b];exact kat_nil (by cases Q<;>exact r)
 |q::J,[],V4,h,a,_,b,t,C,_,r=>by
  rw[show h=[] from C,b,C4];exact kat_nil r
 |q::J,d::Q,V4,h,a,c,z,t,C,A,r=>by
  rw[f5,cN]at c;let⟨v,@V4,rfl,k,W5⟩:=t;let⟨L,@h,rfl,dd,dn⟩:=C;rw[x6];let@⟨B,W2,F⟩:=qP c.1;refine kat_cons (jh u B W2 ⋯ k dd Wb D _ _ ?_);rw[F];rw[gn]at r;cases w:V.beq q d with
  |true=>
   rw[w,aM rfl]at r;exact kat_yes (Jr u s c.2 (z.trans<|AV.mpr za) W5 dn (λ_ x=>⋯) r)
  |false=>
   rw[w,aN dc]at r;refine kat_no ?_;by_cases b:(f&&a==0)=X
   ·rw[b];rw[cN]at b;let⟨o,@m,x,G⟩:=A b.1 ⇑(b.2);cases x;rcases oO c.1 with H|⟨_,_,_,_,j,_⟩
    ·rcases H with ⟨M,i,j,p⟩|⟨e,l,j,p⟩
     ·cases j;cases p;let⟨@E,rfl⟩:=k;let⟨@WE,rfl⟩:=dd;rw[a7]at r;exact oneLt_int r
     ·cases j;cases p;let⟨@E,rfl⟩:=k;let⟨@WE,rfl⟩:=dd;rw[a7]at r;exact oneLt_str r
    ·exact absurd j (G _)
   ·rw[show (f&&a==0)=au by simpa using b];exact kat_one _ _ (ys u c.1 s k dd Wb D _ _ r)
def Bb{f:Bool}(p:n9 J)(h:dP n.heap J Wg)(bT:∀q∈J,∃m,q=.tup m)(w:f=X->∀q∈J,i8 q=X)(Q:O.units+9<bS):
  fM Wg.length (n7 J) (fe Wb D O (qp f)<|Wg.toArray.zip Wg.toArray) n:=by
 intro a i aO V0 y r;have R:=h.length;have b:=vi (J:=J) (a:=a) ⋯;have d:=vi (J:=J) (a:=i) ⋯;unfold n7 at r;rw[FH p b d]at r;let⟨@WY,k,A⟩:=h.get (i:=a) (v:=Wg[a]) ↥0;let⟨@WW,o,B⟩:=h.get (i:=i) (v:=Wg[i]) ↥0;rw[cK,k,cK,o]at r;rw[cK,k]at b;rw[cK,o]at d;let⟨@g,C⟩:=bT WY b;let⟨@j,E⟩:=bT WW d;subst C E;have lk:f5 5 g j=X:=p.h7 _ b _ d;unfold fe;rw[vp rfl,vp rfl,cK,cK,dH V0,dH y];show wpAny _ _ (keyLt' (qp f) Wg[a] Wg[i]) _ _ _;let⟨e,S,z,@T,F,G,U,H,s⟩:=A;let⟨l,al,Wm,@Xk,I,WG,WO,L,t⟩:=B;rw[F,I];refine kat_lt (b:=f) G H WG L ?_;have M:g.length=z.size:=by rw[s.length,dv]
 have N:j.length=Wm.size:=by rw[t.length,dv]
 refine Jr 5 ⋯ lk (by rw[M,N]) s t (λP W=>?_) (by have u:aO (a7 (.tup g)<|.tup j) n:=r;rw[a7]at u;exact u);have:=w P _ b;unfold i8 at this;split at this
 ·rename_i c;cases c;exact⟨_,_,rfl,λg x=>nomatch x⟩
 ·rename_i c;cases c;exact⟨_,_,rfl,λg x=>nomatch x⟩
 ·cases this
theorem C1:∀{J:List V}{Wg:List ae},dP n.heap J Wg->(∀q∈J,∃I m,q=.tup (I::m))->∃aa,KatTups n.heap Wg aa/\aa.length=Wg.length/\
  ((∀q∈J,sY q=X)->∀v∈aa,∃a E,v=ae.int a E)/\((∀q∈J,rN q=X)->∀v∈aa,∃a E,v=ae.str a E)/\((∀q∈J,nB q=X)->∀v∈aa,∃g WI,v=ae.ref g/\n.heap.get? g=Z WI/\WI.cls=.type "tuple")
 |[],Wg,c,_=>by
  rw[show Wg=[] from c];exact⟨[],trivial,rfl,(λ_ W c=>nomatch c),(λ_ W c=>nomatch c),(λ_ W c=>nomatch c)⟩
 |q::J,Wg,c,i=>by
  let⟨v,@m,rfl,t,C⟩:=c;let⟨@aa,k,l,o,s,w⟩:=C1 C λe f=>i e (.tail _ f);let⟨I,@WV,rfl⟩:=i q (.head _);let⟨g,p,Wv,@u,rfl,y,z,A,B⟩:=t;let⟨j,@H,d,h,M⟩:=B;have D:Wv[0]?=Z j:=by
   rw[<-eQ,d];rfl
  refine⟨j::aa,KatTups.cons y z A D k,by simp[l],λx L b=>?_,λx L b=>?_,λx L b=>?_⟩
  ·rcases b8.mp b with rfl|b
   ·have:=x _ (.head _);unfold sY at this;split at this
    ·rename_i r;cases r;exact⟨_,h⟩
    ·cases this
   ·exact o (λe f=>x e<|.tail _ f) L b
  ·rcases b8.mp b with rfl|b
   ·have:=x _ (.head _);unfold rN at this;split at this
    ·rename_i r;cases r;exact⟨_,h⟩
    ·cases this
   ·exact s (λe f=>x e<|.tail _ f) L b
  ·rcases b8.mp b with rfl|b
   ·have:=x _ (.head _);unfold nB at this;split at this
    ·rename_i r;cases r;let⟨F,WN,W,@W,G,WG,WO,W⟩:=h;exact⟨F,WN,G,WG,WO⟩
    ·cases this
   ·exact w (λe f=>x e<|.tail _ f) L b
def pU(c:i8 q=X):(sY q=X\/rN q=X)/\∃I m,q=.tup (I::m):=by
 unfold i8 at c;split at c
 ·exact⟨.inl rfl,_,_,rfl⟩
 ·exact⟨.inr rfl,_,_,rfl⟩
 ·cases c
def JF(c:nB q=X):∃I m,q=.tup (I::m):=by
 unfold nB at c;split at c
 ·exact⟨_,_,rfl⟩
 ·cases c
def Tq{u:Nat}(h:∀e∈J,∀l∈J,eH u e l=X)(c:∀q∈J,i8 q=X):(∀q∈J,sY q=X)\/∀q∈J,rN q=X:=by
 cases J with
 |nil=>exact .inl λq hd=>nomatch hd
 |cons e J=>
  have R:∀l∈e::J,∀{r:V->Bool},(r=sY\/r=rN)->r e=X->r l=X:=λl d {r} i a=>by
   have H:=h e (.head _) l d;have j:=(pU<|c l d).1;have g:=pU (c e<|.head _);let⟨I,m,rfl⟩:=g.2;let⟨F,E,rfl⟩:=(pU<|c l d).2;cases u with
   |zero=>cases H
   |succ u=>
    rw[eH,f5,cN]at H;rcases i with rfl|rfl
    ·rcases oO H.1 with H|⟨_,_,_,_,b,_⟩
     ·rcases H with ⟨_,_,_,f⟩|⟨_,_,b,_⟩
      ·rw[f];rfl
      ·rw[b]at a;cases a
     ·rw[b]at a;cases a
    ·rcases oO H.1 with H|⟨_,_,_,_,b,_⟩
     ·rcases H with ⟨_,_,b,_⟩|⟨_,_,_,f⟩
      ·rw[b]at a;cases a
      ·rw[f];rfl
     ·rw[b]at a;cases a
  rcases (pU<|c e<|.head _).1 with x|x
  ·exact .inl λq hd=>R q hd (.inl rfl) x
  ·exact .inr λq hd=>R q hd (.inr rfl) x
end
section
variable{b:aQ}
theorem bM.pick{j:aC}{Wm:List ao}(c:bM j J Wm):∀{s:List Nat},(∀o∈s,o<J.length)->bM j (s.map λa=>J.getD a .aV) (s.map λa=>Wm.getD a .aV)
 |[],_=>rfl
 |o::s,b=>by
  let⟨@v,d,e⟩:=c.get (a:=o) (q:=J.getD o .aV) (by
   have:=b o (.head _);rw[cK,dH this];rfl)
  refine⟨v,_,?_,e,c.pick λi f=>b i<|.tail _ f⟩;rw[b2,cK,d];rfl
structure jR(J:List V):Prop where
 ord:wV J
 fst:(∀q∈J,i8 q=X)\/(∀q∈J,nB q=X)
structure rd(J:List V):Prop where
 ord:n9 J
 fst:(∀q∈J,i8 q=X)\/(∀q∈J,nB q=X)
def jR.w{J:List V}(p:jR J):rd J:=⟨p.ord.w,p.fst⟩
def rd.tup(p:rd J):∀q∈J,∃m,q=.tup m:=λq hd=>by
 rcases p.fst with x|x
 ·let⟨I,m,d⟩:=(pU<|x q hd).2;exact⟨_,d⟩
 ·let⟨I,m,d⟩:=JF (x q hd);exact⟨_,d⟩
def dP.qj{c T:aY}(o:∀f p,c.get? f=Z p->T.get? f=Z p){J:List V}{V4:List ae}(e:dP c J V4):dP T J V4:=e.keep λg p W W d W W=>o g p d
def zr{c:aY}{n:aq}(p:rd J)(C:2<=Wg.length)(h:dP n.heap J Wg)(O:bD)(U:ae->aq->Prop)(y:gX->aq->Prop)(d:y (qp<|decide (∀q∈J,i8 q=X)) n):
  wpAny (aR b.prog b.w) O (w7 Wg.toArray) y U n:=by
 let⟨@aa,f,r,i,j,k⟩:=C1 h (p.fst.elim (λx q hd=>(pU<|x q hd).2) λx q hd=>JF<|x q hd);have s:=h.length;by_cases hf:∀q∈J,i8 q=X
 ·rw[du hf]at d;rcases Tq p.ord.h7 hf with hf|hf
  ·refine yc (T:=ae.type "int") f ⋯ (λv e=>?_) rfl ?_
   ·let⟨a,@E,rfl⟩:=i hf v e;exact AR rfl
   ·rw[show (ae.type "int" != ae.type "tuple")=X by decide];exact d
  ·refine yc (T:=ae.type "str") f ⋯ (λv e=>?_) rfl ?_
   ·let⟨a,@E,rfl⟩:=j hf v e;exact AR rfl
   ·rw[show (ae.type "str" != ae.type "tuple")=X by decide];exact d
 ·rw[dQ hf]at d;have l:=p.fst.resolve_left hf;refine yc (T:=ae.type "tuple") f ⋯ (λv e=>?_) rfl ?_
  ·let⟨g,@WI,rfl,m,o⟩:=k l v e;have:Looks (aR b.prog b.w) n.heap (q9<|.ref g) WI.cls:=(Looks.ld m).andThen .now;rw[o]at this;exact this
  ·rw[show (ae.type "tuple" != ae.type "tuple")=au by decide];exact d
def Hd(t:b.calm=X)(Q:b.A.units+20<bS):eO b (.builtin "sorted") (λz j y=>∃(g:af) (J:List V) (Wm:List ao),z=[.ref g]/\(dE b.K j g Wm\/cz b.K j g Wm)/\bM j J Wm/\rd J/\
  ∀H W4,j H=Y->bM j (e0 a7 J) W4->y (.ref H) (upd j H<|.lst W4)):=by
 intro G n B j z Wl y A m c;let⟨g,J,@Wm,rfl,av,V0,p,r⟩:=c;let⟨@L,rfl,v⟩:=ix m;cases v;have x:Wm.length<=1000:=by rw[<-V0.length];exact p.ord.d5
 have go:∀{V6:String}{Wg:List ae}{u:Nat}{WI:a9},(V6 = "list" \/ V6 = "tuple")->bY Wm Wg->n.heap.get? g=Z WI->WI.cls=.type V6->WI.data=.seq Wg.toArray u->wpAny (aR b.prog b.w) b.A (call (.builtin "sorted") [.ref g]) (en b G B y) b.cJ n:=by
  intro V6 Wg u WI E e d ay f;have i:=V0.eY A.a5 e;have F:Wg.length=J.length:=i.length.symm;refine Cn t (n7 J) (qp<|decide (∀q∈J,i8 q=X)) A e E d ay f x (λC k WK o O U y I=>zr (c:=k) p C (i.qj o) O U y I) (λk WK o=>?_) (.inl (by have:=p.ord.d5;lia)) λs H h l aW=>?_
  ·refine Bb (n:={n with heap:=k,toks:=WK}) p.ord (i.qj o) p.tup (λM=>?_) (by show b.A.units+1+1+9<bS;lia);exact hz M
  ·rw[F]at h l;have N:(s.toList.map λa=>J.getD a .aV)=e0 a7 J:=xB p.ord (wU h) (zO p.ord h l);refine r H _ aW ?_;rw[<-N];exact V0.pick λo P=>eV.mp (h.mem_iff.mp P)
 rcases av with av|av
 ·let⟨@Wg,e,s,W⟩:=A.list av;let⟨@WI,d,ay,⟨@u,f⟩⟩:=s.isList;exact go (.inl rfl) e d ay f
 ·let⟨@Wg,e,s,W⟩:=A.tuple av;let⟨@WI,d,ay,⟨@u,f⟩⟩:=s;exact go (.inr rfl) e d ay f
theorem Cz{j:aC}:∀{Wf:List (List V×ao)}{Q:List (List V×af×ae)},ea (λ(s:List V×ao) (r:List V×af×ae)=>s.1=r.1/\ic j s.1 r.2.1/\b5 s.2 r.2.2) Wf Q->
  bM j (Wf.map λs=>.tup s.1) (Q.map λe=>ao.ref e.2.1)/\bY (Q.map λe=>ao.ref e.2.1) (Q.map λe=>ae.ref e.2.1)
 |_,_,.nil=>⟨rfl,.nil⟩
 |_,_,.cons m E=>by
  let@⟨t,C⟩:=Cz E;exact⟨⟨_,_,rfl,m.2.1.2,t⟩,.cons rfl C⟩
def LQ(bd:b.calm=X)(cs:b.A.units+20<bS):eO b (.builtin "sorted") (λz j y=>∃(q:af) (Wf:List (List V×ao)),z=[.ref q]/\j q=Z (.aF Wf)/\jR (Wf.map λs=>.tup s.1)/\
  ∀H W4,j H=Y->bM j (e0 a7<|Wf.map λs=>.tup s.1) W4->y (.ref H) (upd j H<|.lst W4)):=by
 intro G n B j z Wl y A m c;let⟨q,@Wf,rfl,hd,g,r⟩:=c;let⟨@L,rfl,be⟩:=ix m;cases be;let@⟨x,S,⟨@Q,rel,⟨p,bi,@Wt,bm,bn,bs,bv,ah⟩⟩⟩:=A.a5 q _ hd;let@⟨V0,i⟩:=Cz rel;have U:hD n.heap q (Q.map λe=>ae.ref e.2.1) Wt:=⟨p,bi,bm,bn,bs,by rw[bv,eU];rfl⟩;generalize (Q.map λe=>ae.ref e.2.1)=Wg at i U;generalize (Q.map λe=>ao.ref e.2.1)=Wm at V0 i;generalize db:(Wf.map λs=>V.tup s.1)=J at V0 g r;have I:=V0.eY A.a5 i;have al:Wg.length=J.length:=I.length.symm;have d5:=g.ord.d5;have ds:Wm.length=Wg.length:=i.length;have am:Wg.length<=sizeLine:=dx ⋯ (show 1000<=sizeLine by decide);refine Ab Ad A8 yx (zF _) ?x
 case x=>
  unfold a0.«sorted»;refine ar (m:=yy "sorted" 1 1 _) (aL<|ar<|kdu_collect (A:=b.A.in1) (RD S) (A.ok.hd bd) U am λT WK WA M an=>?_);have ca:WA.toList=Wg:=by
   apply z5
   ·rw[dv];exact an.1
   ·intro a t C;have:=an.2 a WA.toList[a] (by rw[<-eQ];exact dH t);have this:Wg[a]?=Z WA.toList[a]:=this;rw[dH C]at this;exact (Option.some.inj this).symm
  rw[ca];refine ar (wu ?_ am);have ap:(T.push<|fB "list" Wg.toArray 0).get? T.objs.size=Z (fB "list" Wg.toArray 0):=c0 _ rfl;have bO:∀f p,n.heap.get? f=Z p->(T.push<|fB "list" Wg.toArray 0).get? f=Z p:=λf p d=>b0 _ (M f p d);have as:aK b G B j {n with heap:=T,toks:=WK}:=A.kept M;have a1:∀f p,n.heap.get? f=Z p->f≠T.objs.size:=λf p d=>dg (b4<|M f p d);refine ar (f6<|gd y4 ⟨_,ap,rfl⟩ zx ?l<|AZ _)
  case l=>
   refine zB (n:={n with heap:=T.push (fB "list" Wg.toArray 0),toks:=WK}) (n7 J) (qp<|decide (∀q∈J,i8 q=X)) ap
    (λC N P y cd=>zr (b:=b) (c:=N) g.w C (I.qj λf p u=>P f p (a1 f p u)<|bO f p u) _ _ y cd)
    (λN P=>Bb (n:={n with heap:=N,toks:=WK}) g.w.ord (I.qj λf p u=>P f p (a1 f p u)<|bO f p u) g.w.tup (λce=>hz ce) (by show b.A.units+1+1+9<bS;lia))
    (.inl ⋯) ⋯ λs C h a2 WO ⟨ch,ci⟩=>⟨_,rfl,aL ⟨_,rfl,?_⟩⟩;have cl:j T.objs.size=Y:=as.a5.fresh (bh _);have co:∀f p,T.get? f=Z p->f≠T.objs.size:=λf p d=>dg (b4 d);rw[al]at h a2;refine⟨.ref T.objs.size,upd j T.objs.size<|.lst<|s.toList.map λa=>Wm.getD a .aV,?_,rfl,r _ _ cl ?_⟩
   ·refine as.laid (WE:=WK) (λf L d=>WO f L (co f L d)<|b0 _ d) (bh _) ⟨?_,_,ch,?_,ci⟩
    ·rw[ba,dv,h.size];lia
    ·refine ur ↥0 λa v L t C=>?_;rw[eB]at t C;cases R:s.toList[a]? with
     |none=>rw[R]at t;cases t
     |some o=>
      rw[R]at t C;cases t;cases C;have E:o<Wg.length:=by rw[al];exact eV.mp (h.mem_iff.mp<|gO R)
      let⟨@L,F,cr⟩:=i.get (a:=o) (e:=Wm[o]'⋯) (by simp[show o<Wm.length by lia]);rw[dH E]at F;have F:=Option.some.inj F;simp only[List.getD,dH E,dH (show o<Wm.length by lia),xw];rw[F];exact cr
   ·rw[<-xB g.w.ord (wU h) (zO g.w.ord h a2)];exact V0.pick λo E=>eV.mp (h.mem_iff.mp E)
def ti(J:List V):Bool:=(decide (J.length<=1000)&&J.all (λg=>J.all λf=>eH 6 g f)&&decide J.Nodup&&(J.all i8 || J.all nB))
def qC:ti J=X↔jR J:=by
 unfold ti;rw[cN,cN,cN,yD,k7,k7,ml,ml,ml];constructor
 ·rintro⟨⟨⟨t,C⟩,a⟩,b⟩;exact⟨⟨t,λg c f d=>ml.mp (C g c) f d,a⟩,b⟩
 ·rintro⟨⟨t,C,a⟩,b⟩;exact⟨⟨⟨t,λg c=>ml.mpr λf d=>C g c f d⟩,a⟩,b⟩
def jV(J:List V):Option ak:=(if ti J=X then Z (.lst<|e0 a7 J) else Y)
def hl:i1:=(λJ=>match J with
 |[.lst e]=>match j6 e with
  |some Wi=>z3 [.lst e]
  |none=>jV e
 |[.im (.tup e)]=>jV e
 |[.aF Wf]=>jV (Wf.map λs=>.tup s.1)
 |_=>Y)
def yi{q:ak}(c:jV J=Z q):jR J/\q=.lst (e0 a7 J):=by
 unfold jV at c;split at c
 ·rename_i d;cases c;exact⟨qC.mp d,rfl⟩
 ·cases c
theorem C0{j:aC}:∀{Wf:List (List V×V)}{i:List (List V×ao)},ep j Wf i->(Wf.map λs=>V.tup s.1)=i.map λs=>V.tup s.1
 |_,_,.nil=>rfl
 |_,_,.cons m E=>by rw[b2,b2,C0 E,m.1]
def nD(g:b.calm=X)(h:b.A.units+20<bS):hI b (.builtin "sorted") hl:=by
 intro G n B j z Wl y A m o;let⟨J,@q,k,d,r⟩:=o;unfold hl at d;split at d
 ·rename_i e;split at d
  ·exact M5 g h G n B j z Wl y A m ⟨_,q,k,d,r⟩
  ·let@⟨c,rfl⟩:=yi d;let⟨@v,rfl,⟨W,s,@Wm,rfl,t,C,W⟩⟩:=g4 k;exact Hd g h G n B j _ Wl y A m ⟨s,e,Wm,rfl,.inl<|dE.of t,C,c.w,λH W4 aW f=>cc.l r aW f⟩
 ·rename_i e;let@⟨c,rfl⟩:=yi d;let⟨@v,rfl,p⟩:=g4 k;let⟨s,@Wm,rfl,t,C⟩:=p.i;exact Hd g h G n B j _ Wl y A m ⟨s,e,Wm,rfl,.inr<|cz.of t,C,c.w,λH W4 aW f=>cc.l r aW f⟩
 ·rename_i Wf;let@⟨c,rfl⟩:=yi d;let⟨@v,rfl,⟨W,s,@i,rfl,t,C,W⟩⟩:=g4 k;rw[C0 C]at c r;exact LQ g h G n B j _ Wl y A m ⟨s,i,rfl,t,c,λH W4 aW f=>cc.l r aW f⟩
 ·cases d
end
end L2
namespace PySem
open PySem.Sem (wp)
end PySem
namespace PySem
namespace F
end F
end PySem
namespace L2
open Spec PyProof.Rows PySem.W
variable{y:Option ae->aq->Prop}{M:a9}{Q:Array nM}{Wt a:Nat}{v L:ae}{O:bD}{n:aq}
theorem Ee{Wr W9:Type}{P:Wr->W9->Prop}:∀{b:List Wr}{d:List W9},ea P b d->∀(a:Nat),a<b.length->∃g f,b[a]?=Z g/\d[a]?=Z f/\P g f
 |_,_,.nil,a,c=>by simp at c
 |_,_,.cons m E,0,c=>⟨_,_,rfl,rfl,m⟩
 |_,_,.cons m E,a+1,c=>by
  let⟨g,@f,e,l,x⟩:=Ee E a ⇑c;exact⟨g,f,by simpa using e,by simpa using l,x⟩
section
variable{b:aQ}{G:List (af×a9)}{B:L2.bg}{j:aC}{i:aq}
def fw.is{Wf:List (List V×ao)}{z:List (List V×af×ae)}(m:fw j Wf z):∀e∈z,ic j e.1 e.2.1:=by
 intro e b;let⟨a,V0,rfl⟩:=kA.mp b;let⟨s,@r,t,C,c,d,W⟩:=Ee m a (by rw[ea.length m];exact V0);rw[dH V0]at C;have C:=Option.some.inj C;subst C;rw[<-c];exact d
end
def T3:String->a0:=((⟨_,rfl⟩:{I:String->a0 // I "max" = a0.«max» }).1)
def Qc:String->kQ->a0:=((⟨_,rfl⟩:{I:String->kQ->a0 // I "max" .Gt=a0.«max.loop» }).1)
section
variable{Wb:bJ}{D:bl}{O:bD}{U:ae->aq->Prop}{n:aq}
def ES{w j:String}{WR:kQ}(k:(toString w++toString ".loop" : String)=j)(al:builtinKind w=Y)(am:plainId w=X)(an:ru sO w=Z (T3 w))(ap:∀g f:ae,r6 w ⟨[g,f],[]⟩)(a:plainId j=X)(m:ru sO j=Z (Qc w WR)){g f:ae}{o:Bool}{y:ae->aq->Prop}(as:O.handled=Y)(a1:∀V5:aq,(∀h p,n.heap.get? h=Z p->V5.heap.get? h=Z p)->∀(y:ae->aq->Prop) (U:ae->aq->Prop),y (.bool o) V5->wpAny (aR Wb D) O.in1 (oT WR f g) y U V5)(c:∀T WK,(∀h p,n.heap.get? h=Z p->T.get? h=Z p)->y (if o=X then f else g) {n with heap:=T,toks:=WK}):wpAny (aR Wb D) O (call (.builtin w) [g,f]) y U n:=by
 refine call_function_tree al am an (ap _ _) ?_;show wpAny _ O.in1 (a0.Builtins.bindParams w ["key","default"] 0 ⟨[],[]⟩ >>= _) _ _ n;refine ar (qi (show a0.Builtins.bindParams w ["key","default"] 0 ⟨[],[]⟩=pure [Y,Y] from rfl) ?_);show wpAny _ O.in1 (sa [g,f] >>= _) _ _ n;refine ar (fu ?_);have A:(n.heap.push {cls:=.type "tuple",data:=.seq #[g,f]}).IsTuple n.heap.objs.size #[g,f]:=⟨_,c0 _ rfl,rfl,0,rfl⟩;refine ar (wpAny_pyIter_tuple A<|ar<|fu ?_);have l:(n.heap.push {cls:=.type "tuple",data:=.seq #[g,f]}).objs.size=n.heap.objs.size+1:=gZ ..;have W:=jy.tuple (prog:=Wb) (w:=D) (A:=O.in1) as (n.heap.push {cls:=.type "tuple",data:=.seq #[g,f]}).objs.size n.heap.objs.size (by rw[l];exact dg (lY _)) #[g,f];rw[k];refine aL ⟨ma a _,?_⟩;have eE:((n.heap.push {cls:=.type "tuple",data:=.seq #[g,f]}).push {cls:=.type "tuple_iterator",data:=.fields #[.ref n.heap.objs.size,.int 0 0]}).IsTupleIter (n.heap.push {cls:=.type "tuple",data:=.seq #[g,f]}).objs.size n.heap.objs.size 0:=⟨_,c0 _ rfl,rfl,rfl⟩;have B:=A.push {cls:=.type "tuple_iterator",data:=.fields #[.ref n.heap.objs.size,.int 0 0]};have q:((n.heap.push {cls:=.type "tuple",data:=.seq #[g,f]}).push {cls:=.type "tuple_iterator",data:=.fields #[.ref n.heap.objs.size,.int 0 0]}).objs.size=n.heap.objs.size+2:=by rw[gZ,l]
 have d6:∀h p,n.heap.get? h=Z p->((n.heap.push {cls:=.type "tuple",data:=.seq #[g,f]}).push {cls:=.type "tuple_iterator",data:=.fields #[.ref n.heap.objs.size,.int 0 0]}).get? h=Z p:=λh p d=>b0 _ (b0 _ d);rw[l]at W eE;rw[l,q];generalize cd:((n.heap.push {cls:=.type "tuple",data:=.seq #[g,f]}).push {cls:=.type "tuple_iterator",data:=.fields #[.ref n.heap.objs.size,.int 0 0]})=g2 at eE B q d6 ⊢;have E:(g2.push {cls:=.type "list",data:=.seq ([]:List ae).toArray}).get? (n.heap.objs.size+2)=Z {cls:=.type "list",data:=.seq ([]:List ae).toArray}:=by rw[<-q];exact c0 _ rfl
 have r:n.heap.objs.size+2∉[n.heap.objs.size+1]:=by simp
 have F:∀h∈[n.heap.objs.size+1,n.heap.objs.size],n.heap.objs.size+2≠h:=λh b x=>by
  simp only[b8,qx,m6]at b;rcases b with d|d
  ·rw[d]at x;exact absurd x (hk<|lY _)
  ·rw[d]at x;exact absurd x (hk (Hl ∅))
 have e:∀h p,n.heap.get? h=Z p->h∉[n.heap.objs.size+1]/\h≠n.heap.objs.size+2:=λh p d=>by
  have lt:=b4 d;refine⟨λx=>?_,dg<|eK lt<|nf _ _⟩;rw[cP.mp x]at lt;exact iN _ (Nat.lt_of_succ_lt lt)
 have G:∀(T:aY) (WK:Nat) (i:ae) (H:Nat),(∀h p,n.heap.get? h=Z p->T.get? h=Z p)->T.get? (n.heap.objs.size+2)=Z {cls:=.type "list",dict:=Y,data:=.seq #[i,i] H,slots:=#[]}->
   T.IsTupleIter (n.heap.objs.size+1) n.heap.objs.size 2/\T.IsTuple n.heap.objs.size #[g,f]->i=(if o=X then f else g)->
   codeAny (aR Wb D) O (.builtin j ⟨[.ref (n.heap.objs.size+1),.none,.ref<|n.heap.objs.size+2],[]⟩) (wants y U) {n with heap:=T,toks:=WK}:=by
  intro T WK i H WG I N mL;refine lJ m ?_;rw[mZ a _];show wpAny _ O.in1 (m3 (.ref<|n.heap.objs.size+2) >>= _) _ _ _;refine ar (hT (s:={n with heap:=T,toks:=WK}) I rfl ?_);show wpAny _ O.in1 (tryCatch (fg<|.ref<|n.heap.objs.size+1) _ >>= _) _ _ _;refine ar (tI<|W.done {n with heap:=T,toks:=WK} _ _ N λC a2 J=>?_);have bd:=J _ _ r I;show wpAny _ O.in1 (tX (n.heap.objs.size+2) (λ_=>#[]) >>= _) _ _ _;refine ar (rh bd rfl<|ar<|mC<|aL ?_);show y i _;rw[mL];exact c _ a2 λh p d=>(iE _ _<|Ne.symm (e h p d).2).trans (J h p (e h p d).1 (WG h p d))
 refine lJ m ?_;rw[mZ a _];show wpAny _ O.in1 (m3 (.ref<|n.heap.objs.size+2) >>= _) _ _ _;refine ar (hT (s:={n with heap:=g2.push {cls:=.type "list",data:=.seq ([]:List ae).toArray} }) E rfl ?_);show wpAny _ O.in1 (tryCatch (fg<|.ref<|n.heap.objs.size+1) _ >>= _) _ _ _;refine ar (tI (W.item 0 {n with heap:=g2.push {cls:=.type "list",data:=.seq ([]:List ae).toArray} } _ _ ↥0 ⟨let ⟨p,be,bi⟩:=eE;⟨p,b0 _ be,bi⟩,B.push _⟩ λv t ce s bm WG=>?_));cases s;have L:=WG _ _ r E;show wpAny _ O.in1 (tX (n.heap.objs.size+2) (λ_=>#[g,g]) >>= _) _ _ _;refine ar (rh L rfl ?_);rw[k];refine aL ⟨ma a _,lJ m ?_⟩;have M:=jK (a9.mapSeq<|λ_=>(#[g,g]:Array ae)) L rfl;have bn:=W.frame _ _ (t.update (n.heap.objs.size+2)<|a9.mapSeq<|λ_=>(#[g,g]:Array ae)) bm λh b p d=>(iE _ _<|F h b).trans d;have bs:∀h p,n.heap.get? h=Z p->(t.update (n.heap.objs.size+2)<|a9.mapSeq<|λ_=>(#[g,g]:Array ae)).get? h=Z p:=λh p d=>(iE _ _<|Ne.symm (e h p d).2).trans (WG h p (e h p d).1 (b0 _<|d6 h p d));rw[mZ a _];show wpAny _ O.in1 (m3 (.ref<|n.heap.objs.size+2) >>= _) _ _ _;refine ar (hT M rfl ?_);show wpAny _ O.in1 (tryCatch (fg<|.ref<|n.heap.objs.size+1) _ >>= _) _ _ _;refine ar (tI (W.item 1 _ _ _ ↥0 bn λv bv P s Q R=>?_));cases s;have u:=R _ _ r M;have z:∀h p,n.heap.get? h=Z p->bv.get? h=Z p:=λh p d=>R h p (e h p d).1 (bs h p d);show wpAny _ O.in1 (tryCatch (holding [f,f]<|oT WR f g >>= _) _ >>= _) _ _ _;refine ar (tI<|f6<|ar<|a1 _ z _ _ ?_);refine ar (f6<|mX ?_);refine ar (mC<|aL ?_);cases S:o with
 |true=>
  simp only[gN];refine ar (rh u rfl<|ar<|mC ?_);rw[k];have ca:=jK (a9.mapSeq<|λ_=>(#[f,f]:Array ae)) u rfl;refine aL ⟨ma a _,G _ P f _ (λh p d=>(iE _ _<|Ne.symm (e h p d).2).trans<|z h p d) ca (W.frame _ _ _ Q λh b p d=>(iE _ _<|F h b).trans d) (by rw[S];rfl)⟩
 |false=>
  simp only[g0,e9];refine ar (mC ?_);rw[k];exact aL ⟨ma a _,G _ P g _ z u Q (by rw[S];rfl)⟩
end
section
variable{Wb:bJ}{D:bl}{O:bD}{U:ae->aq->Prop}{n:aq}{g f:ae}{o:Bool}{y:ae->aq->Prop}
def S4(a:O.handled=Y)(b:∀V5:aq,(∀h p,n.heap.get? h=Z p->V5.heap.get? h=Z p)->∀(y:ae->aq->Prop) (U:ae->aq->Prop),y (.bool o) V5->wpAny (aR Wb D) O.in1 (oT .Gt f g) y U V5)(c:∀T WK,(∀h p,n.heap.get? h=Z p->T.get? h=Z p)->y (if o=X then f else g) {n with heap:=T,toks:=WK}):wpAny (aR Wb D) O (call (.builtin "max") [g,f]) y U n:=
 ES ∅ F.kind_max F.plain_max F.entry_max F.args_max2 F.plain_max_loop F.entry_max_loop a b c
def QC(a:O.handled=Y)(b:∀V5:aq,(∀h p,n.heap.get? h=Z p->V5.heap.get? h=Z p)->∀(y:ae->aq->Prop) (U:ae->aq->Prop),y (.bool o) V5->wpAny (aR Wb D) O.in1 (oT .Lt f g) y U V5)(c:∀T WK,(∀h p,n.heap.get? h=Z p->T.get? h=Z p)->y (if o=X then f else g) {n with heap:=T,toks:=WK}):wpAny (aR Wb D) O (call (.builtin "min") [g,f]) y U n:=
 ES ∅ F.kind_min F.plain_min F.entry_min F.args_min2 F.plain_min_loop F.entry_min_loop a b c
end
def tD(O:bD)(n:aq)(l e:ae)(o:Bool):Prop:=(∀(Wb:bJ) (D:bl) (U:ae->aq->Prop) (y:ae->aq->Prop),y (.bool o) n->wpAny (aR Wb D) O (oT .Gt l e) y U n)
section
open PySem.SeqAt
open PySem.AutoSeq1 (wpAny_loadPart')
open PySem.MeetsSeq PySem.MeetsSeq2 PySem.MeetsSeq3
def QR(H f:af)(Wv b:Array ae)(u Xk:Nat)(y z:Option af)(a4 A:Array (Option ae))(Wj:List (Bool×Bool))(P:Wj.length=min Wv.size b.size):
  Meets (a0.«tuple.__gt__» ⟨[.ref H,.ref f],[]⟩)
   (λO V3 n=>n.heap.get? H=Z {cls:=.type "tuple",dict:=y,data:=.seq Wv u,slots:=a4}/\n.heap.get? f=Z {cls:=.type "tuple",dict:=z,data:=.seq b Xk,slots:=A}/\
    (∀i (t:i<Wv.size) (C:i<b.size) (m:i<Wj.length),EqAt O.in1 n Wv[i] b[i] (Wj[i]).1/\((Wj[i]).1=au->tD O.in1 n Wv[i] b[i] (Wj[i]).2))/\
    V3 (.ok<|.ret<|.bool<|hY (decide (b.size<Wv.size)) Wj) n):=
 .of_wp λWb D O V3 n c=>by
  let⟨j,F,q,WK,Wn⟩:=n;let@⟨B,E,G,c⟩:=c;have Q:=Dq;have r:(Wv.toList.zip b.toList).length=min Wv.size b.size:=by simp
  wp_walk using wpAny_loadPart' B,wpAny_loadPart' E,kE _ (λcx f V5=>f.1=Y/\V5=⟨j,F,q,WK,Wn⟩/\∃a,cx=(Wv.toList.zip b.toList).drop a/\
   V3 (.ok<|.ret<|.bool<|hY (decide (b.size<Wv.size))<|Wj.drop a) ⟨j,F,q,WK,Wn⟩) _
  case turn=>
   rintro⟨l,e⟩ cx f V5 ⟨p,rfl,a,g,h⟩;have s:a<(Wv.toList.zip b.toList).length:=by
    rcases e4 a (Wv.toList.zip b.toList).length with T|T
    ·exact T
    ·rw[oY T]at g;cases g
   have R:a<min Wv.size b.size:=r ▸ s;have t:a<Wv.size:=⋯
   have C:a<b.size:=⋯
   have m:a<Wj.length:=⋯
   rw[jA s]at g;injection g with v I;have J:l=Wv[a]:=by have:=congrArg Prod.fst v;simpa using this
   have L:e=b[a]:=by have:=congrArg Prod.snd v;simpa using this
   subst J L;rw[jA m]at h;let@⟨w,x⟩:=G a t C m;generalize Wj[a]=M at h w x;let⟨d,o⟩:=M;refine ar (w Wb D _ _ ?_);cases d with
   |true=>
    have k:V3 (.ok<|.ret<|.bool<|hY (decide (b.size<Wv.size))<|Wj.drop<|a+1) ⟨j,F,q,WK,Wn⟩:=h
    wp_walk
    exact⟨rfl,rfl,a+1,I,k⟩
   |false=>
    have k:V3 (.ok<|.ret<|.bool o) ⟨j,F,q,WK,Wn⟩:=h;have N:=x rfl Wb D
    wp_walk using N
    exact⟨_,rfl,by simpa using k⟩
  case fin=>
   rintro⟨dd,dn⟩ V5 ⟨p,rfl,a,g,h⟩;simp only at p;subst p;have S:min Wv.size b.size<=a:=by
    rcases e4 a (Wv.toList.zip b.toList).length with T|T
    ·rw[jA T]at g;cases g
    ·exact r ▸ T
   rw[oY ⋯]at h;have k:V3 (.ok<|.ret<|.bool<|decide (b.size<Wv.size)) ⟨j,F,q,WK,Wn⟩:=h
   wp_walk
   exact⟨_,rfl,by simpa [a0.Tuple.tupleCompareSizes] using k⟩
  case h=>
   exact⟨rfl,rfl,0,rfl,by simpa using c⟩
end
def k8(J Q:List V):List (Bool×Bool):=((J.zip Q).map λs=>(cL s.1 s.2,a7 s.2 s.1))
def L0(g f:V):V.beq g f=V.beq f g:=by
 rw[q7,V.beq_iff,V.beq_iff];exact⟨λc=>c.symm,λc=>c.symm⟩
theorem DB:∀{u:Nat}{J Q:List V},f5 u J Q=X->hY (decide (Q.length<J.length)) (k8 J Q)=gn Q J
 |_,[],[],_=>rfl
 |u,g::m,f::E,c=>by
  rw[f5,cN]at c;show (if cL g f=X then hY (decide (E.length+1<m.length+1)) (k8 m E) else a7 f g)=gn (f::E) (g::m);rw[gn,(qP c.1).2.2,<-DB c.2,L0,AV.mpr za]
 |_,[],_::_,_=>rfl
 |_,_::_,[],_=>rfl
def SN{a i:Int}(b:dp n.heap (.int a) L)(c:dp n.heap (.int i) v):tD O n L v (a7 (.int i)<|.int a):=by
 let⟨@E,rfl⟩:=b;let⟨@WE,rfl⟩:=c;intro Wb D U y r;rw[a7]at r;exact (PD r:wpAny (aR Wb D) O (d3 .Gt (.int a E)<|.int i WE) y U n)
def CL{e l:V}(H:Ai e l)(b:dp n.heap e L)(c:dp n.heap l v):tD O n L v (a7 l e):=by
 rcases H with ⟨a,i,rfl,rfl⟩|⟨g,f,rfl,rfl⟩
 ·exact SN b c
 ·let⟨E,rfl⟩:=b;let⟨WE,rfl⟩:=c;intro Wb D U y r;rw[a7]at r;exact richCompare_gives (op:=.Gt) (x8 n g E) (x8 n f WE) PySem.F.slot_str_gt PySem.F.entry_str_gt (PySem.F.args_str_gt_2 _ _) (PySem.gives_str_gt g f E WE) (λd=>nomatch d) r
def S_(u:Nat):∀{O:bD}{e l:V}{L v:ae},eH u e l=X->O.units+u+2<bS->dp n.heap e L->dp n.heap l v->tD O n L v (a7 l e):=by
 induction u with
 |zero=>
  intro O e l L v c N a b;rcases oO c with H|⟨k,_,_,d,_⟩
  ·exact CL H a b
  ·cases d
 |succ u R=>
  intro O e l L v c N a b;rcases oO c with H|⟨k,J,Q,d,rfl,rfl,c⟩
  ·exact CL H a b
  cases d;let⟨g,p,Wg,@k,rfl,t,C,h,j⟩:=a;let⟨f,WN,w,@S,rfl,m,o,q,s⟩:=b;let⟨cls,T,data,a4⟩:=p;let⟨bd,al,be,am⟩:=WN;simp only at C h o q;subst C h o q;have z:J.length=Wg.size:=by rw[j.length,dv]
  have A:Q.length=w.size:=by rw[s.length,dv]
  intro Wb D U y r;rw[a7,<-DB c,z,A]at r;have an:(k8 J Q).length=min Wg.size w.size:=by rw[k8,ba,wB,z,A]
  refine Dw (op:=.Gt) ⟨_,t,rfl⟩ ⟨_,m,rfl⟩ PySem.F.slot_tuple_gt PySem.F.entry_tuple_gt (PySem.F.args_tuple_gt_2 _ _) (QR g f Wg w k S T al a4 am (k8 J Q) an)
   ⟨t,m,λi ap as a1=>?_,show ae.bool (hY (decide (w.size<Wg.size))<|k8 J Q)≠ae.notImplemented/\y (.bool<|hY (decide (w.size<Wg.size))<|k8 J Q) n from ⟨(λe=>nomatch e),r⟩⟩ ⋯;let⟨@WY,B,E⟩:=j.get (i:=i) (v:=Wg[i]) (by rw[eQ];simp[ap]);let⟨@WW,G,I⟩:=s.get (i:=i) (v:=w[i]) (by rw[eQ];simp[as]);have lk:=zc c B G;have M:=qP lk;have a2:(k8 J Q)[i]=(cL WY WW,a7 WW WY):=by
   have:(k8 J Q)[i]?=Z (cL WY WW,a7 WW WY):=by
    rw[k8,eB,(vb (z:=(WY,WW))).mpr ⟨B,G⟩];rfl
   rw[dH a1]at this;exact Option.some.inj this
  rw[a2];exact⟨jh u M.1 M.2.1 (by show O.units+1+u+1<bS;lia) E I,λ_=>R lk (by show O.units+1+u+2<bS;lia) E I⟩
section
variable{b:aQ}
def RU(f:b.calm=X)(i:b.A.units+20<bS):eO b (.builtin "max") (λz j y=>∃(q d:V) (v L:ao),z=[v,L]/\eH 6 d q=X/\cC j q v/\cC j d L/\y (if a7 q d=X then L else v) j):=by
 intro G n B j z Wl y A m c;let⟨q,d,v,@L,rfl,lk,t,C,r⟩:=c;let⟨k,@l,rfl,a,e⟩:=wq m;refine S4 (o:=a7 q d) (A.ok.hd f) (λV5 o y U h=>?_) λT WK o=>⟨if a7 q d=X then L else v,j,A.kept o,?_,r⟩
 ·exact S_ 6 lk (by show b.A.units+1+6+2<bS;lia) ((C.eY A.a5 e).keep λg p W W d W W=>o g p d) ((t.eY A.a5 a).keep λg p W W d W W=>o g p d) b.prog b.w U y h
 ·split
  ·exact e
  ·exact a
def OO(f:b.calm=X)(i:b.A.units+20<bS):eO b (.builtin "min") (λz j y=>∃(q d:V) (v L:ao),z=[v,L]/\eH 6 d q=X/\cC j q v/\cC j d L/\y (if a7 d q=X then L else v) j):=by
 intro G n B j z Wl y A m c;let⟨q,d,v,@L,rfl,lk,t,C,r⟩:=c;let⟨k,@l,rfl,a,e⟩:=wq m;refine QC (o:=a7 d q) (A.ok.hd f) (λV5 o y U h=>?_) λT WK o=>⟨if a7 d q=X then L else v,j,A.kept o,?_,r⟩
 ·exact ys 6 lk (by show b.A.units+1+6+2<bS;lia) ((C.eY A.a5 e).keep λg p W W d W W=>o g p d) ((t.eY A.a5 a).keep λg p W W d W W=>o g p d) b.prog b.w U y h
 ·split
  ·exact e
  ·exact a
def tb:i1:=(λJ=>match J with
 |[.im (.int a),.im<|.int i]=>w8 [.im (.int a),.im<|.int i]
 |[.im (.tup g),.im<|.tup f]=>if eH 6 (.tup f) (.tup g)=X then Z (.im<|if a7 (.tup g) (.tup f)=X then .tup f else .tup g) else Y
 |_=>Y)
def rg:i1:=(λJ=>match J with
 |[.im (.int a),.im<|.int i]=>zE [.im (.int a),.im<|.int i]
 |[.im (.tup g),.im<|.tup f]=>if eH 6 (.tup f) (.tup g)=X then Z (.im<|if a7 (.tup f) (.tup g)=X then .tup f else .tup g) else Y
 |_=>Y)
def Tn(c:b.calm=X)(h:b.A.units+20<bS):hI b (.builtin "max") tb:=by
 intro G n B j z Wl y A m k;let⟨J,@q,e,d,r⟩:=k;unfold tb at d;split at d
 ·exact Kt c G n B j z Wl y A m ⟨_,q,e,d,r⟩
 ·split at d
  ·rename_i g f lk;cases d;let⟨v,@L,rfl,t,C⟩:=x7 e;refine RU c h G n B j _ Wl y A m ⟨_,_,v,L,rfl,lk,t,C,cc.i r ?_⟩;split
   ·exact C
   ·exact t
  ·cases d
 ·cases d
def MJ(c:b.calm=X)(h:b.A.units+20<bS):hI b (.builtin "min") rg:=by
 intro G n B j z Wl y A m k;let⟨J,@q,e,d,r⟩:=k;unfold rg at d;split at d
 ·exact My c G n B j z Wl y A m ⟨_,q,e,d,r⟩
 ·split at d
  ·rename_i g f lk;cases d;let⟨v,@L,rfl,t,C⟩:=x7 e;refine OO c h G n B j _ Wl y A m ⟨_,_,v,L,rfl,lk,t,C,cc.i r ?_⟩;split
   ·exact C
   ·exact t
  ·cases d
 ·cases d
end
abbrev lB(c:aY)(ag q:af)(a u Wt:Nat)(Xj ok b:ae)(h:Bool):Prop:=c.get? ag=Z {cls:=.type "dict_itemiterator",dict:=Y,data:=.fields #[Xj,.bool h,.ref q,.int a 0,.int u 0,.int Wt 0,ok,b],slots:=#[]}
def xh(c:aY)(ag q:af)(a u Wt:Nat):Prop:=(∃Xj ok b h,lB c ag q a u Wt Xj ok b h/\(Xj=.none\/∃V6:af,Xj=dR V6/\∃p,c.get? V6=Z p))
section
variable{Wb:bJ}{D:bl}{O:bD}{U:ae->aq->Prop}{n:aq}
def Le{ag q:af}(o:xh n.heap ag q a Q.size Wt)(al:n.heap.get? q=Z M)(am:M.data=.dict Q Wt)(bd:a<Q.size)(an:∀T,xh T ag q (a+1) Q.size Wt->((∃ok l,IsItemIter n.heap ag q a Q.size Wt ok l)->∃ok l,IsItemIterOut T ag q (a+1) Q.size Wt ok l n.heap.objs.size)->hc T n.heap.objs.size Q[a].key Q[a].val->T.objs.size=n.heap.objs.size+1->(∀f p,f≠ag->n.heap.get? f=Z p->T.get? f=Z p)->y (Z<|.ref n.heap.objs.size) {n with heap:=T}):
  wpAny (aR Wb D) O (fg<|.ref ag) y U n:=by
 let⟨Xj,ok,l,@h,o,be⟩:=o;let⟨b,F,s,WK,Wn⟩:=n;have r:aq.TypeIs ⟨b,F,s,WK,Wn⟩ (.ref ag) "dict_itemiterator" := ⟨_,o,rfl⟩;unfold fg;refine ar (mV<|kl (name:=aI.ofString "__next__") r sd<|gd sd r CE ?_<|El _);refine ar (aL<|ar<|ar ?_);first|refine ar (uE r<|aL ?_)|refine ar (wM r<|aL ?_)
 refine ar (mO o rfl ?_);have bi:a0.Dict_items.ownsTuple "dict_itemiterator" = X:=by decide
 simp only[bi,gN];show wpAny _ _ (if (ae.ref q==ae.none)=X then _ else _) _ _ _;rw[aN (show ¬ ((ae.ref q==ae.none)=X) from dc)];refine ar (aL<|ar<|kg al am ?_);rw[aN ↥0];refine ar (aL<|ar<|nq al am ?_);rw[aN ↥0];refine aL ?_;simp only[show ¬ ((a:Int)<0) from by lia,e9,kb,i6 bd];refine ar ?_;first|refine ar (uE r<|aL ?_)|refine ar (wM r<|aL ?_)
 refine ar (xj r ?_);show wpAny _ _ (qz (.ref ag) 3 (dR<|(a:Int)+1) >>= _) _ _ ⟨b,F,s,WK,Wn⟩;refine ar (jC o ↥0 λi A B=>?_);replace B:aY.SameBut ag b i:=B;replace A:lB i ag q (a+1) Q.size Wt Xj ok l h:=by
  have d:((a+1:Nat):Int)=(a:Int)+1:=⋯
  unfold lB;rw[d];simpa [dR] using A
 have ap:aq.TypeIs ⟨i,F,s,WK,Wn⟩ (.ref ag) "dict_itemiterator" := ⟨_,A,rfl⟩;refine ar (f6<|ar<|xj ap<|ar<|xj ap ?_);show wpAny _ _ (a0.Dict_items.pairFromOwner (.ref ag) 6 Q[a].key Q[a].val) _ _ ⟨i,F,s,WK,Wn⟩;unfold a0.Dict_items.pairFromOwner;refine ar (zA ?_);have j:lB (i.push {cls:=.type "tuple",data:=.seq #[Q[a].key,Q[a].val]}) ag q (a+1) Q.size Wt Xj ok l h:=b0 _ A;have H:i.objs.size=b.objs.size:=B.1;have u:ag<b.objs.size:=b4 o;have I:hc (i.push {cls:=.type "tuple",data:=.seq #[Q[a].key,Q[a].val]}) b.objs.size Q[a].key Q[a].val:=by rw[<-H];exact c0 _ rfl
 have J:(i.push {cls:=.type "tuple",data:=.seq #[Q[a].key,Q[a].val]}).objs.size=b.objs.size+1:=by rw[gZ,H]
 have C:∀f p,f≠ag->b.get? f=Z p->(i.push {cls:=.type "tuple",data:=.seq #[Q[a].key,Q[a].val]}).get? f=Z p:=λf p k d=>b0 _ (B.extBut f p k d);show wpAny _ _ (a0.Dict_items.ownedTupleIsFree (.ref ag) >>= _) _ _ ⟨i.push {cls:=.type "tuple",data:=.seq #[Q[a].key,Q[a].val]},F,s,WK,Wn⟩;rw[H];generalize (i.push {cls:=.type "tuple",data:=.seq #[Q[a].key,Q[a].val]})=t at j I J C ⊢;refine ar ?_;unfold a0.Dict_items.ownedTupleIsFree;rcases be with rfl|⟨V6,rfl,p,bm⟩
 ·refine ar (fR j rfl (x:=.none) rfl<|aL ?_);simp only[gN];refine ar (fR j rfl (x:=ok) rfl<|ar<|fR j rfl (x:=l) rfl ?_);refine ar (jC j ↥0 λc m g=>?_);replace g:aY.SameBut ag t c:=g;replace m:lB c ag q (a+1) Q.size Wt .none Q[a].key l h:=m;refine ar (jC m ↥0 λL N v=>?_);replace v:aY.SameBut ag c L:=v;replace N:lB L ag q (a+1) Q.size Wt .none Q[a].key Q[a].val h:=N;refine ar (jC N ↥0 λP S w=>?_);replace w:aY.SameBut ag L P:=w;replace S:lB P ag q (a+1) Q.size Wt (dR b.objs.size) Q[a].key Q[a].val h:=S;refine ar (jC S ↥0 λE G z=>?_);replace z:aY.SameBut ag P E:=z;replace G:lB E ag q (a+1) Q.size Wt (dR b.objs.size) Q[a].key Q[a].val au:=G;have as:hc E b.objs.size Q[a].key Q[a].val:=z.extBut _ _ (hk u) (w.extBut _ _ (hk u)<|v.extBut _ _ (hk u)<|g.extBut _ _ (hk u) I);refine ar (mC<|aL<|aL ⟨_,rfl,aL<|an E ⟨_,_,_,_,G,.inr ⟨_,rfl,_,as⟩⟩ (λ_=>⟨_,_,G⟩) as ?_ ?_⟩)
  ·rw[z.1,w.1,v.1,g.1,J]
  ·exact λf p k d=>z.extBut f p k (w.extBut f p k<|v.extBut f p k<|g.extBut f p k<|C f p k d)
 ·have bn:∃WN,t.get? V6=Z WN:=by
   by_cases x:V6=ag
   ·exact⟨_,(congrArg t.get? x).trans j⟩
   ·exact⟨p,C V6 p x bm⟩
  let⟨@WN,a1⟩:=bn;refine ar (fR j rfl (x:=dR V6) rfl ?_);show wpAny _ _ (loadIfAlive ((V6:Int).toNat) >>= _) _ _ _;refine ar (M0 ?_);show wpAny _ _ (if (t.get?<|(V6:Int).toNat).isNone=X then _ else _) _ _ _;rw[kb,a1];show wpAny _ _ (l2 (.ref ag) 1 >>= _) _ _ _;refine ar (fR j rfl (x:=.bool h) rfl ?_);have a2:∀c,lB c ag q (a+1) Q.size Wt (dR V6) ok l X->aY.SameBut ag t c->y (Z<|.ref b.objs.size) ⟨c,F,s,WK,Wn⟩:=λc m g=>by
   refine an c ⟨_,_,_,_,m,.inr ⟨V6,rfl,?_⟩⟩ (λ⟨_,_,x⟩=>by have d:=Eq.trans (Eq.symm o) x;simp[dR]at d) (g.extBut _ _ (hk u) I) (by rw[g.1,J]) λf p k d=>g.extBut f p k (C f p k d);by_cases x:V6=ag
   ·exact⟨_,(congrArg c.get? x).trans m⟩
   ·exact⟨WN,g.extBut _ _ x a1⟩
  cases h with
  |true=>exact aL (aL<|aL ⟨_,rfl,aL<|a2 t j ⟨rfl,λ_ W=>rfl⟩⟩)
  |false=>
   show wpAny _ _ (qz (.ref ag) 1 (.bool X) >>= _) _ _ _;exact ar (jC j ↥0 λc m g=>aL<|aL<|aL ⟨_,rfl,aL<|a2 c m g⟩)
def Tz{ag q:af}(i:O.handled=Y)(c:xh n.heap ag q a Q.size Wt)(d:n.heap.get? q=Z M)(e:M.data=.dict Q Wt)(j:Q.size<=a)(l:∀T,aY.ExtBut ag n.heap T->y Y {n with heap:=T}):wpAny (aR Wb D) O (fg<|.ref ag) y U n:=by
 let⟨Xj,ok,o,@h,c,p⟩:=c;have b:n.TypeIs (.ref ag) "dict_itemiterator" := ⟨_,c,rfl⟩;unfold fg;refine ar (mV<|kl (name:=aI.ofString "__next__") b sd<|gd sd b CE ?_<|El _);refine ar (aL<|ar<|ar ?_);first|refine ar (uE b<|aL ?_)|refine ar (wM b<|aL ?_)
 refine ar (mO c rfl ?_);have m:a0.Dict_items.ownsTuple "dict_itemiterator" = X:=by decide
 simp only[m,gN];show wpAny _ _ (if (ae.ref q==ae.none)=X then _ else _) _ _ n;rw[aN (show ¬ ((ae.ref q==ae.none)=X) from dc)];refine ar (aL<|ar<|kg d e ?_);rw[aN ↥0];refine ar (aL<|ar<|nq d e ?_);rw[aN ↥0];refine aL ?_;simp only[show ¬ ((a:Int)<0) from by lia,e9,kb,uY j];refine ar ?_;first|refine ar (uE b<|aL ?_)|refine ar (wM b<|aL ?_)
 show wpAny _ _ (qz (.ref ag) 2 .none >>= _) _ _ n;refine ar (ny c rfl ↥0 ?_);show wpAny _ _ (nk (.type "StopIteration") [] >>= _) _ _ _;refine ar ?_;simp only[nk,sa];refine ar (fu ?_ (by size_fits));refine ar (m:=nt _ _) (qi (a:=ae.none) (by first|rfl|(simp only[nt];rfl)) ?_);refine fu ?_ (by size_fits);simp only[raiseNew];refine ar (vx ?_);rw[show O.in1.handled=Y from i];refine ar (aL<|ue ?_);refine ar (pd (T := "StopIteration") (b:=X) ⟨_,c0 _ rfl,rfl⟩ uv ?_);exact aL (l _<|((hv ..).extBut.push _).push _)
def Si{v q:af}{y:ae->aq->Prop}(a:n.heap.IsItemsView v q)(b:n.heap.get? q=Z M)(c:M.data=.dict Q Wt)(d:y (.ref n.heap.objs.size) {n with heap:=n.heap.push {cls:=.type "dict_itemiterator",data:=.fields #[.none,.bool au,.ref q,.int 0 0,.int Q.size 0,.int Wt 0,.none,.none]} }):
  wpAny (aR Wb D) O (my<|.ref v) y U n:=by
 let⟨@i,f,j,g⟩:=id a;refine u_ a.typeIs Gw (gd Gw a.typeIs F.entry_dict_items_iter ?_<|F.args_dict_items_iter_1 _);unfold a0.«dict_items.__iter__»;refine ar (aL<|ar ?_);unfold a0.Dict_items.dictOf;refine ar (fR f g (x:=.ref q) rfl<|aL<|ar ?_);unfold a0.Dict_items.newIterator;refine ar (kg b c<|ar<|nq b c ?_);have h:a0.Dict_items.ownsTuple "dict_itemiterator" = X:=by decide
 simp only[h,gN];refine fu (aL ⟨_,rfl,"dict_itemiterator",_,⟨_,c0 _ rfl,rfl⟩,sd.lookup,?_⟩)
  (by simp only[sizeOk,a0.Dict_items.ownedTupleFields,cR,di,dj,iv,t8];lia);simpa [dR,a0.Dict_items.ownedTupleFields] using d
def PY(q:af)(hd:(q==ie)=au):
  MeetsIn Wb D (a0.«dict.items» ⟨[.ref q],[]⟩) (λ_ V3 n=>n.TypeIs (.ref q) "dict" /\ V3 (.ok<|.ret<|.ref n.heap.objs.size) {n with heap:=n.heap.push {cls:=.type "dict_items",data:=.fields #[.ref q]} }):=
 .of_wp λO V3 n ⟨a,c⟩=>by
  unfold a0.«dict.items»;refine ar ?_;unfold a0.Dict.noArgs;refine ar (zX a ?_);show wpAny _ _ (pure q) _ _ n;refine aL ?_;show wpAny _ _ (a0.Dict.showsAll q >>= _) _ _ n;unfold a0.Dict.showsAll;rw[aN (by rw[hd];exact dc)];exact ar (aL<|ar<|fu<|aL ⟨_,rfl,c⟩)
end
mutual
def u3:V->th
 |.int a=>.int a
 |.aB f=>.bool f
 |.str e=>.str e
 |.tup J=>.tuple (r8 J)
 |_=>.none
def r8:List V->List th
 |[]=>[]
 |q::m=>u3 q::r8 m
end
mutual
theorem Lp{c:aY}:∀{u:Nat}{q:V}{L:ae},V.bG u q=X->dp c q L->Reads c L (u3 q) []
 |_,.aV,L,_,d=>by cases (show L=.none from d);exact .none
 |_,.aB f,L,_,d=>by cases (show L=.bool f from d);exact .bool f
 |_,.int a,L,_,d=>by let⟨@E,rfl⟩:=d;exact .int a E
 |_,.str e,L,_,d=>by let⟨@E,rfl⟩:=d;exact .str e E
 |u+1,.tup J,L,o,d=>by
  let⟨g,p,Wv,@k,rfl,t,C,b,h⟩:=d;exact .tuple t C b (GJ (u:=u) o h)
 |0,.tup J,L,o,d=>by cases o
 |u,.fn g,L,o,d=>by cases u<;>cases o
 |u,.aW g,L,o,d=>by cases u<;>cases o
 |u,.fd,L,o,d=>by cases u<;>cases o
theorem GJ{c:aY}:∀{u:Nat}{J:List V}{Wl:List ae},V.dy u J=X->dP c J Wl->ReadsAll c Wl (r8 J) []
 |_,[],Wl,_,d=>by rw[show Wl=[] from d];exact .nil
 |u,q::J,Wl,o,d=>by
  let⟨v,@m,rfl,t,C⟩:=d;rw[V.dy,cN]at o;exact .cons (Lp o.1 t) (GJ o.2 C)
end
mutual
theorem Tw:∀q:V,th.hasDict (u3 q)=au
 |.aV=>rfl
 |.aB _=>rfl
 |.int _=>rfl
 |.str _=>rfl
 |.fn _=>rfl
 |.aW _=>rfl
 |.fd=>rfl
 |.tup J=>Hr J
theorem Hr:∀J:List V,th.hasDictAll (r8 J)=au
 |[]=>rfl
 |q::m=>by
  show (th.hasDict (u3 q) || PyData.hasDictAll (r8 m))=au;rw[Tw q,Hr m];rfl
end
end L2
namespace G
open L2
variable{h f g:Int×Int}{M:List (Int×Int)}{c:ak}{u:Nat}
def PN:bL:=((bx (dK (bO<|aA oK (ab<|aA bA (aj 0)<|ab<|ay<|.int 0)<|ab<|ay<|.int 0) (bx (cj 2<|aA f3 (ab<|aA bA (aj 0)<|ab<|ay<|.int 0)<|aj 1)<|bx (e6 (aA mA (ab<|aA bA (aj 0)<|ab<|ay<|.int 0)<|aj 1)<|hn 0 (ay<|.int 0) l7)<|cM<|dG 2) ei)<|bx (e6 (aA cD (ab<|aA bA (aj 0)<|ab<|ay<|.int 2)<|ab<|ay<|.int 1)<|hn 0 (ay<|.int 2) l7)<|bx (cj 3<|aA f3 (ab<|aA eR (ab<|aA cD (ab<|aA bA (aj 0)<|ab<|ay<|.int 1)<|ab<|aA eR (ab<|aA bA (aj 0)<|ab<|ay<|.int 2)<|ab<|ay<|.int 104729)<|ab<|ay<|.int 48271)<|ab<|ay<|.int 2305843009213693951)<|bx (e6 (aA f3 (ab<|aA eR (aj 3)<|ab<|aA cD (ab<|aA f3 (aj 3)<|ab<|ay<|.int 1009)<|ab<|ay<|.int 69621)<|ab<|ay<|.int 2305843009213693951)<|hn 0 (ay<|.int 1) l7)<|cM<|aA f3 (ab<|aA mA (ab<|aA bA (aj 0)<|ab<|ay<|.int 1)<|ab<|ay<|.int 1000003)<|aj 1))
def rV:c6:=(dk 2 4 [0,1] PN)
def Oy:bL:=((cM<|gr<|ai (ab<|cV<|ai (ab<|aA gV (ab<|aA bA (aj 0)<|ab<|ay<|.int 0)<|ab<|ay<|.int 1)<|ai (ab<|aA bA (aj 0)<|ab<|ay<|.int 1) aD)<|ai (ab<|cV<|ai (ab<|aA bA (aj 0)<|ab<|ay<|.int 0)<|ai (ab<|aA gV (ab<|aA bA (aj 0)<|ab<|ay<|.int 1)<|ab<|ay<|.int 1) aD)<|ai (ab<|cV<|ai (ab<|aA bA (aj 0)<|ab<|ay<|.int 0)<|ai (ab<|aA cD (ab<|aA bA (aj 0)<|ab<|ay<|.int 1)<|ab<|ay<|.int 1) aD)<|ai (ab<|cV<|ai (ab<|aA cD (ab<|aA bA (aj 0)<|ab<|ay<|.int 0)<|ab<|ay<|.int 1)<|ai (ab<|aA bA (aj 0)<|ab<|ay<|.int 1) aD) aD))
def Kw:c6:=(dk 1 1 [0] Oy)
def Rx:bL:=((bx (cj 4<|aA bA (ab<|bc 1 G.Kw<|ai (ab<|aA bA (aj 2)<|ab<|bc 2 G.rV<|ai (aj 0)<|ai (ab<|b7 eS<|ai (aj 2) aD) aD) aD)<|ab<|bc 2 G.rV<|ai (aj 0)<|ai (ab<|ay<|.int 4) aD)<|dK (fH (bO<|aA gp (aj 4)<|aj 2)<|fH (bO<|hr ek ek (ab<|ay<|.int 0) (ab<|aA bA (aj 4)<|ab<|ay<|.int 0)<|ab<|ay<|.int 24)<|bO<|hr ek ek (ab<|ay<|.int 0) (ab<|aA bA (aj 4)<|ab<|ay<|.int 1)<|ab<|ay<|.int 24) (jr<|hi j_ 2 iS<|ai (aj 4) aD) ei))
def Ox:bL:=((bx (cj 2<|gr<|ai (ab<|cV<|ai (ab<|ay<|.int 12)<|ai (ab<|ay<|.int 12) aD) aD)<|bx (hC (iB<|ai (ab<|bc 2 G.rV<|ai (aj 0)<|ai (aj 1) aD) aD) (bj 3) G.Rx)<|cM<|dG 2))
def Ke:c6:=(dk 2 5 [0,1] Ox)
def Qs:bL:=((jr<|hi j_ 5 SJ<|ai (ab<|bc 2 G.rV<|ai (aj 0)<|ai (ab<|b7 eS<|ai (aj 5) aD) aD) aD))
def NM:aw ak:=((dG 0))
def OI:aw Bool:=((bO<|aA hL (ab<|aA eR (ab<|aA f3 (ab<|aA bA (aj 0)<|ab<|ay<|.int 0)<|ab<|ay<|.int 2)<|ab<|aA f3 (ab<|aA f3 (ab<|aA bA (aj 0)<|ab<|ay<|.int 1)<|ab<|ay<|.int 3)<|ab<|ay<|.int 2)<|ab<|ay<|.int 0))
def aH(s:Int×Int):V:=(.tup [.int s.1,.int s.2])
abbrev aE(Wj:List (Int×Int)):ak:=.im (.tup<|Wj.map aH)
abbrev cI(Wj:List (Int×Int)):ak:=.lst (Wj.map aH)
abbrev gG(q n E:Int):ak:=.lst [.int q,.int n,.int E]
def gQ(u:Nat)(c:ak):Prop:=(∃q n E,c=gG q n E/\0<=q/\0<=n/\n<2^62/\0<=E/\E+u<2^40)
def gQ.mono{k:Nat}(e:gQ u c)(d:k<=u):gQ k c:=by
 let⟨q,n,@E,rfl,t,C,a,b,f⟩:=e;exact⟨q,n,E,rfl,t,C,a,b,⋯⟩
def gQ.lst(e:gQ u c):∃r,c=.lst r:=by
 let⟨q,n,@E,rfl,W⟩:=e;exact⟨_,rfl⟩
def JD(s:Int×Int):List (Int×Int):=([(s.1-1,s.2),(s.1,s.2-1),(s.1,s.2+1),(s.1+1,s.2)])
def cQ(s:Int×Int):List V:=([.int s.1,.int s.2])
def Fm(s:Int×Int):aH s=.tup (cQ s):=rfl
def tV(c:cQ g=cQ f):g=f:=by
 unfold cQ at c;simp at c;exact mu c.1 c.2
def J0(c:aH g=aH f):g=f:=by
 rw[Fm,Fm]at c;exact tV (by injection c)
def tT(s:Int×Int):V.keys 7 (cQ s)=X:=rfl
def qs:V->Int×Int
 |.tup [.int g,.int f]=>(g,f)
 |_=>(0,0)
def DL(s:Int×Int):qs (aH s)=s:=rfl
def An(s:Int×Int):V.bG 8 (aH s)=X:=rfl
theorem tP:∀Wj:List (Int×Int),V.dy 8 (Wj.map aH)=X
 |[]=>rfl
 |s::m=>by rw[b2,V.dy,An,tP m];rfl
def FT(g f:Int×Int):cL (aH g) (aH f)=decide (g=f):=by
 show ((g.1==f.1)&&((g.2==f.2)&&X))=_;let⟨a,W5⟩:=g;let⟨dd,dn⟩:=f;by_cases t:a=dd<;>by_cases C:W5=dn<;>simp[t,C]
def Jg(Wj:List (Int×Int))(h:Int×Int):((Wj.map aH).any λe=>cL e<|aH h)=decide (h∈Wj):=by
 rw[IH,q7,Ag,k7];constructor
 ·rintro⟨e,a,d⟩;have:decide (e=h)=X:=by rw[<-FT];exact d
  rw[<-hz this];exact a
 ·intro c;refine⟨h,c,?_⟩;show cL (aH h) (aH h)=X;rw[FT];exact du rfl
theorem C3:∀(H:List V) (M:List (Int×Int)),(∀e∈H,e∈M.map aH)->H=(H.map qs).map aH
 |[],_,_=>rfl
 |e::H,M,c=>by
  let⟨@s,W,d⟩:=cG.mp (c e<|.head _);rw[b2,b2,<-C3 H M λl a=>c l<|.tail _ a,<-d,DL]
def Hp{H:List V}(c:H.Perm (M.map aH)):∃a:List (Int×Int),a.Perm M/\H=a.map aH:=by
 refine⟨H.map qs,?_,C3 H M λe b=>c.mem_iff.mp b⟩;have:=List.Perm.map qs c;rw[eU]at this;have d:(qs ∘ aH:Int×Int->Int×Int)=id:=funext DL;rw[d,List.map_id]at this;exact this
def rA(ah:M.Nodup)(a:M.length<=1000):jR (M.map aH):=by
 refine⟨⟨by rw[ba];exact a,λg b f c=>?_,?_⟩,.inl λq hd=>?_⟩
 ·let⟨@e,W,rfl⟩:=cG.mp b;let⟨@l,W,rfl⟩:=cG.mp c;rfl
 ·exact List.Pairwise.map aH (λg f u d=>u<|J0 d) ah
 ·let⟨@e,W,rfl⟩:=cG.mp hd;rfl
def I3{Wf:List (List V×V)}{o:List V}:(d8 Wf o).isSome=Wf.any λs=>decide (s.1=o):=by
 unfold d8;rw[t_,List.isSome_find?]
def bw(M:List (Int×Int)):List (List V×V):=(M.map λh=>(cQ h,.aB X))
def AE(M:List (Int×Int))(h:Int×Int):((bw M).any λs=>decide (s.1=cQ h))=decide (h∈M):=by
 unfold bw;rw[IH,q7,Ag,k7];constructor
 ·rintro⟨e,a,d⟩;have:cQ e=cQ h:=hz d;rw[<-tV this];exact a
 ·intro c;exact⟨h,c,du rfl⟩
def Cb(M:List (Int×Int))(h:Int×Int):(d8 (bw M)<|cQ h).isSome=decide (h∈M):=by rw[I3,AE]
def O8(c:h∉M):jq (bw M) (cQ h) (.aB X)=bw (M++[h]):=by
 unfold jq;rw[aN (by rw[AE];simpa using c)];unfold bw;rw[f_];rfl
def P5{Wr:Type}{a:List Wr}(c:a≠[]):∃b D,a=b++[D]:=⟨a.dropLast,a.getLast c,(List.dropLast_concat_getLast c).symm⟩
def FZ{Wa:List (Int×Int)}{a:Int}(b:0<=a)(c:Wa[a.toNat]?=Z h):fy (Wa.map aH) a=Z (aH h):=JJ b (by rw[eB,c];rfl)
def MZ(Wj:List (Int×Int))(h:Int×Int):hK (aH h) (cI Wj)=Z (decide (h∈Wj)):=by
 rw[Ul,An,tP,Jg];rfl
def TX(Wj:List (Int×Int))(h:Int×Int):hK (aH h) (aE Wj)=Z (decide (h∈Wj)):=by
 rw[OK,An,tP,Jg];rfl
def U_(a i:Int):tb [.im (.int a),.im<|.int i]=Z (.im<|.int<|if i>a then i else a):=rfl
def P2(a i:Int):rg [.im (.int a),.im<|.int i]=Z (.im<|.int<|if i<a then i else a):=rfl
def mid:bL:=((dK (jd (bO<|aA hL (aj 2)<|ab<|ay<|.int 1)<|bO<|aA hL (aj 2)<|ab<|ay<|.int 2) (hC (iB<|ai (ab<|bc 2 G.rV<|ai (aj 0)<|ai (ab<|aA cD (ab<|ay<|.int 1)<|ab<|aA mA (ab<|b7 eS<|ai (aj 5) aD)<|ab<|ay<|.int 2) aD) aD) (bj 6) G.Qs)<|dK (bO<|aA hL (aj 2)<|ab<|ay<|.int 3) (cj 5<|ck 1 [] (ct<|aj 5) (bj 0) G.OI G.NM)<|dK (bO<|aA oK (aj 2)<|ab<|ay<|.int 3) (cj 5<|bc 2 G.Ke<|ai (aj 0)<|ai (aj 1) aD) ei))
end G
namespace L2
open Spec PyProof.Rows PySem.W
variable{V2:Φ}{Wd:bJ}{D:bl}
end L2
namespace L2
open Spec PyProof.Rows PySem.W
def QP(w:bb)(a:Nat)(J:List V):Bool:=(match w[a]? with
 |some (Z<|.lst l)=>decide (l=J)
 |_=>au)
def wD:ak->ak
 |.im (.aW e)=>.dY e
 |q=>q
@[simp] theorem Vt(e:List V):wD (.im<|.aW e)=.dY e:=rfl
@[simp] theorem VM(e:List V):wD (.im<|.tup e)=.im (.tup e):=rfl
@[simp] def sx(F:aw ak):aw ak:=λw=>(F w).map λs=>(wD s.1,s.2)
section
variable{b:aQ}
def RX{d:bu}{F:aw ak}(c:cg b d F):cg b d (sx F):=by
 refine ey c λB j y f=>?_;let⟨w,P,m,@R,N,ah,h,r⟩:=f;let⟨@⟨a,V_⟩,t,C⟩:=cm.mp h;cases C;refine⟨w,P,a,V_,N,ah,t,λv Wc Wo V3 i Wx k=>r v Wc Wo V3 i ?_ k⟩;cases a with
 |im q=>
  cases q with
  |aW e=>
   let@⟨⟨g,z,@p,rfl,WG,WO⟩,rfl⟩:=Wx;exact⟨g,z,p,rfl,WG,WO,rfl⟩
  |_=>exact Wx
 |_=>exact Wx
end
end L2
namespace L2
section
variable{w V_ WB:bb}
variable{q:ak}
def cT{F:aw ak}(c:F w=Z (q,V_)):ab F w=Z (.bW q,V_):=by unfold ab;rw[c];rfl
variable{e:bK}
def eC{F:aw bK}{c:aw (List bK)}{z:List bK}(a:F w=Z (e,V_))(b:c V_=Z (z,WB)):ai F c w=Z (e::z,WB):=by unfold ai;rw[a];show (c V_).map _=_;rw[b];rfl
variable{WY WW:ak}
def fb{WR:ak->ak->Option ak}{Xe W_:aw bK}{l:bK}(a:Xe w=Z (e,V_))(b:W_ V_=Z (l,WB))(c:dO WB e=Z WY)(d:dO WB l=Z WW)(f:WR WY WW=Z q):aA WR Xe W_ w=Z (q,WB):=by
 unfold aA;rw[a];show (W_ V_).bind _=_;rw[b];show (dO WB e).bind _=_;rw[c];show (dO WB l).bind _=_;rw[d];show (WR WY WW).map _=_;rw[f];rfl
variable{F:aw (List bK)}{u:Nat}{Wn:List bK}{J E:List ak}
def gS{V7:c6}{m:ak}(a:F w=Z (Wn,V_))(b:Wn.length=u)(c:eJ Wn V_=Z (J,WB))(d:V7 J=Z (m,E)):bc u V7 F w=Z (m,jm Wn E WB):=by
 unfold bc;rw[a];show (if Wn.length=u then _ else _)=_;rw[aM b];show (eJ Wn V_).bind _=_;rw[c];show (V7 J).map _=_;rw[d];rfl
def uV{WR:List ak->Option ak}(a:F w=Z (Wn,V_))(b:ha V_ Wn=Z J)(c:WR J=Z q):b7 WR F w=Z (q,V_):=by
 unfold b7;rw[a];show (ha V_ Wn).bind _=_;rw[b];show (WR J).map _=_;rw[c];rfl
variable{f:Bool}
def qK{F:aw ak}(d:F w=Z (.im<|.aB f,V_)):bO F w=Z (f,V_):=by unfold bO;rw[d];rfl
def Ov{F:aw Bool}(d:F w=Z (f,V_)):gy F w=Z (!f,V_):=by unfold gy;rw[d];rfl
def Te{F:aw bK}(d:F w=Z (e,V_))(a:dO V_ e=Z q)(b:pL q=Z f):hG F w=Z (f,V_):=by
 unfold hG;rw[d];show (dO V_ e).bind _=_;rw[a];show (pL q).map _=_;rw[b];rfl
def ir{F:aw ak}{c:fo}(d:F w=Z (q,V_))(a:c q V_=Z WB):e6 F c w=Z (.bB,WB):=by unfold e6;rw[d];show (c q V_).map _=_;rw[a];rfl
def tk{F:aw ak}(d:F w=Z (q,V_)):jr F w=Z (.bB,V_):=by unfold jr;rw[d];rfl
variable{A:bb}
def rP{ty:ak->Bool}{a:Nat}{bw:ak->List ak->Option (ak×ak)}{b h m c:ak}(d:w[a]?=Z (Z b))(e:ty b=X)(f:F w=Z (Wn,V_))(g:eJ Wn V_=Z (J,WB))(i:WB[a]?=Z (Z h))(j:bw h J=Z (m,c))(o:WB.set a (Z c)=A):hi ty a bw F w=Z (m,A):=by
 subst o;unfold hi;rw[d];show (if ty b=X then _ else _)=_;rw[aM e,f];show (eJ Wn V_).bind _=_;rw[g];show (match WB[a]? with|some (Z h)=>_|_=>Y)=_;rw[i];show (bw h J).map _=_;rw[j];rfl
def qg(a:F w=Z (Wn,V_))(b:eJ Wn V_=Z (J,WB))(c:J.length<=100000)(o:rK J=q):cV F w=Z (q,WB):=by
 unfold cV;rw[a];show (eJ Wn V_).bind _=_;rw[b];show (if _ then _ else _)=_;rw[aM c,o]
def sQ(a:F w=Z (Wn,V_))(b:eJ Wn V_=Z (J,WB))(c:J.length<=100000)(o:rT J=q):gr F w=Z (q,WB):=by
 unfold gr;rw[a];show (eJ Wn V_).bind _=_;rw[b];show (if _ then _ else _)=_;rw[aM c,o]
variable{a:Int}
def ND{F:aw ak}(d:F w=Z (.im<|.int a,V_)):jb F w=Z (.im<|.int<|-a,V_):=by unfold jb;rw[d];rfl
def xr{e:List V}{q:V}(c:e.length<100000):iS (.lst e) [.im q]=Z (.im .aV,.lst<|e++[q]):=aM c
def uF(a i:Int):hL (.im<|.int a) (.im<|.int i)=Z (.im<|.aB<|decide (a=i)):=by
 show Z (ak.im<|.aB<|a==i)=_;by_cases c:a=i<;>simp[c]
def Hq(a i:Int):lj (.im<|.int a) (.im<|.int i)=Z (.im<|.aB<|!decide (a=i)):=by
 show Z (ak.im<|.aB<|!(a==i))=_;by_cases c:a=i<;>simp[c]
variable{i:Int}
def ku(c:hs a i=X):eR (.im<|.int a) (.im<|.int i)=Z (.im<|.int<|a*i):=aM c
def m5(c:0<i):f3 (.im<|.int a) (.im<|.int i)=Z (.im<|.int<|a%i):=aM (du c)
def Bk(c:0<i)(C:i<1073741824):mA (.im<|.int a) (.im<|.int i)=Z (.im<|.int<|a/i):=aM (du (⟨c,C⟩:0<i/\i<1073741824))
def Dl(c:decide (0<=i/\i<=1000000/\a.natAbs<2^64)=X):m9 (.im<|.int a) (.im<|.int i)=Z (.im<|.int<|a^i.toNat):=aM c
variable{m:Option (d_×bb)}{f:bL}{h:aw Bool}
theorem jZ{g:bL}(d:h w=Z (X,V_))(c:g V_=m):dK h g f w=m:=(x9 d).trans c
theorem gm{g:bL}(d:h w=Z (au,V_))(c:f V_=m):dK h g f w=m:=(z9 d).trans c
theorem bz{F c:bL}(d:F w=Z (.bB,V_))(o:c V_=m):bx F c w=m:=(oe d).trans o
variable{a:Nat}
theorem lP{F:aw ak}(d:F w=Z (q,V_))(c:a<V_.length)(o:V_.set a (Z q)=WB):cj a F w=Z (.bB,WB):=(G9 d c).trans (by rw[o])
variable{z:List V}{WC:fo}{p:Option (Nat×ak)}
theorem jO{F:i9}{aW:d_}(d:F w=Z ((z,p),V_))(c:ew WC f z V_=Z (aW,WB))(o:lH p WB=A):hC F WC f w=Z (aW,A):=(J5 d c).trans (by rw[o])
theorem e3{own:Nat}{WD:List Nat}{D:i9}{d:aw ak}{a:bb}{J:List V}(t:D w=Z ((z,p),V_))(C:fA own WC h d z [] (j2 WD V_)=Z (J,a))(o:lH p (iC WD a V_)=A):ck own WD D WC h d w=Z (.lst J,A):=(Kk t C).trans (by rw[o])
variable{m:Option (Bool×bb)}{f g:aw Bool}
def o1(d:g w=Z (au,V_))(c:f V_=m):jd g f w=m:=by unfold jd;rw[d];exact c
def wd(d:g w=Z (X,V_))(c:f V_=m):fH g f w=m:=by unfold fH;rw[d];exact c
def AD(d:g w=Z (au,V_)):fH g f w=Z (au,V_):=by unfold fH;rw[d];rfl
variable{m:Option (ak×bb)}{f g:aw ak}
def RQ(d:h w=Z (X,V_))(c:g V_=m):ql h g f w=m:=by unfold ql;rw[d];exact c
def Me(d:h w=Z (au,V_))(c:f V_=m):ql h g f w=m:=by unfold ql;rw[d];exact c
def tH{i:Nat}(b:F w=Z (Wn,V_))(c:eJ Wn V_=Z ([WY,WW],WB))(V0:a<WB.length)(d:i<WB.length)(o:(WB.set a<|Z WY).set i (Z WW)=A):kM a i F w=Z (.bB,A):=by
 unfold kM;rw[b];show (eJ Wn V_).bind _=_;rw[c];show (if a<WB.length/\i<WB.length then _ else _)=_;rw[aM ⟨V0,d⟩,o]
def Rt{F:aw Bool}{f:Bool}(d:F w=Z (f,V_)):hB F w=Z (.im<|.aB f,V_):=by unfold hB;rw[d];rfl
variable{m:ak}
def cW{V7:c6}(a:F w=Z (Wn,V_))(b:Wn.length=u)(c:eJ Wn V_=Z (J,WB))(d:V7 J=Z (m,E))(o:jm Wn E WB=A):bc u V7 F w=Z (m,A):=by rw[<-o];exact gS a b c d
def mh{F:aw Bool}(d:F w=Z (X,V_)):gy F w=Z (au,V_):=Ov d
def Gs{e l:List V}(a:F w=Z (Wn,V_))(b:ha V_ Wn=Z [.im (.tup e),.im<|.tup l]):oh F w=Z ((g9 e l,Y),V_):=by
 unfold oh;rw[a];show (ha V_ Wn).bind _=_;rw[b];rfl
def Al{F:aw bK}{H c:aw (Option Int)}{S V0:Option Int}{W3:ak}(a:F w=Z (e,V_))(b:H V_=Z (S,WB))(d:c WB=Z (V0,A))(f:dO A e=Z q)(g:mx q S V0=Z W3):iW F H c w=Z (W3,A):=by
 unfold iW;rw[a];show (H V_).bind _=_;rw[b];show (c WB).bind _=_;rw[d];show (dO A e).bind _=_;rw[f];show (mx q S V0).map _=_;rw[g];rfl
def Rm{F:aw ak}(d:F w=Z (q,V_)):vk F w=Z (vH q,V_):=by unfold vk;rw[d];rfl
def Mu{F:aw ak}(d:F w=Z (q,V_)):sx F w=Z (wD q,V_):=by unfold sx;rw[d];rfl
def wW(a:F w=Z (Wn,V_))(b:ha V_ Wn=Z [.im (.int i)])(c:qN i):iB F w=Z ((iT 0 i.toNat,Y),V_):=by
 unfold iB;rw[a];show (ha V_ Wn).bind _=_;rw[b];show (if qN i then _ else _)=_;rw[aM c]
def eI{k:Nat}{WH:List Nat}{F:bL}(a:J.length=u)(d:F (J.map Z++List.replicate (k-u) Y)=Z (.a_ m,w))(b:jk WH J w 0=E):dk u k WH F J=Z (m,E):=ri w a d b
end
section
variable{w V_:bb}
variable{q:ak}
def a8{F:aw ak}(c:F w=Z (q,w)):ab F w=Z (.bW q,w):=cT c
variable{e:bK}
def bR{F:aw bK}{c:aw (List bK)}{z:List bK}(a:F w=Z (e,w))(b:c w=Z (z,w)):ai F c w=Z (e::z,w):=eC a b
variable{WR:ak->ak->Option ak}{Xe W_:aw bK}{l:bK}{WY WW:ak}
def b_(a:Xe w=Z (e,w))(b:W_ w=Z (l,w))(c:dO w e=Z WY)(d:dO w l=Z WW)(f:WR WY WW=Z q):aA WR Xe W_ w=Z (q,w):=fb a b c d f
def eb(a:WR WY WW=Z q)(b:Xe w=Z (e,w):=by rfl)(c:W_ w=Z (l,w):=by rfl)(d:dO w e=Z WY:=by rfl)(f:dO w l=Z WW:=by rfl):aA WR Xe W_ w=Z (q,w):=fb b c d f a
variable{F:aw (List bK)}{Wn:List bK}{J:List ak}
def dF{WR:List ak->Option ak}(a:F w=Z (Wn,w))(b:ha w Wn=Z J)(c:WR J=Z q):b7 WR F w=Z (q,w):=uV a b c
variable{f:Bool}
def d7{F:aw ak}(d:F w=Z (.im<|.aB f,w)):bO F w=Z (f,w):=qK d
def ni{F:aw bK}(d:F w=Z (e,w))(a:dO w e=Z q)(b:pL q=Z f):hG F w=Z (f,w):=Te d a b
def pE(a:F w=Z (Wn,w))(b:eJ Wn w=Z (J,w))(c:J.length<=100000)(o:rK J=q):cV F w=Z (q,w):=qg a b c o
def B2(a:F w=Z (Wn,w))(b:eJ Wn w=Z (J,w))(c:J.length<=100000)(o:rT J=q):gr F w=Z (q,w):=sQ a b c o
def CD{F:aw bK}{H c:aw (Option Int)}{S V0:Option Int}{W3:ak}(a:F w=Z (e,w))(b:H w=Z (S,w))(d:c w=Z (V0,w))(f:dO w e=Z q)(g:mx q S V0=Z W3):iW F H c w=Z (W3,w):=Al a b d f g
def gx{a:Nat}{F:aw ak}(d:F w=Z (q,w))(c:a<w.length)(o:w.set a (Z q)=V_):cj a F w=Z (.bB,V_):=lP d c o
end
end L2
namespace G
open L2
def ec{u k:Nat}(c:Nat.ble (u+1) k=X):u<k:=f7 c
def lN{WC:fo}{f:bL}{e:V}{z:List V}{w V_ WB:bb}{m:Option (d_×bb)}(a:WC (.im e) w=Z V_)(b:f V_=Z (.bB,WB))(o:ew WC f z WB=m):ew WC f (e::z) w=m:=by
 rw[ew];show (WC (.im e) w).bind _=_;rw[a];show (f V_).bind _=_;rw[b];exact o
abbrev aS:=Int×Int
inductive tK (Wa:List aS) (n:aS):aS->Prop
 | self:tK Wa n n
 | step {g f:aS}:tK Wa n g->f∈Wa->f∈JD g->tK Wa n f
def vQ(Wa:List aS):Prop:=(Wa.Pairwise λg f=>a7 (aH g) (aH f)=X)
def vs{M:List aS}(ah:M.Nodup)(a:M.length<=1000):∃Wa:List aS,jV (M.map aH)=Z (cI Wa)/\Wa.Perm M/\vQ Wa:=by
 have p:=rA ah a;let⟨Wa,t,C⟩:=Hp (jn<|M.map aH);refine⟨Wa,?_,t,?_⟩
 ·unfold jV;rw[aM (qC.mpr p),C]
 ·have:=rB p.ord.ah p.ord.h7;rw[C]at this;exact nz.mp this
end G
namespace L2
open Spec PyProof.Rows
variable{F G Xk Xl Wt u a k:Nat}{Wv bG:Array ae}{H W5 We A g:af}{Wd:List V->af->Prop}{D:bl}{WJ p:a9}{Xj e:ae}{T c:aY}{M:List (List V)}{y:Option ae->aq->Prop}{n:aq}{Q:Array (Int×ae)}{Wj:List Nat}{Wx:Array (Option Nat)}{W9 Wr:Type}{o:List V}{b:Bool}{E:aT}{z:Array Nat}
abbrev h2(z:Array Nat):Prop:=z.toList.Pairwise (· < ·)
def ry(m:h2 z){a o:Nat}{q:Nat}(c:a<o)(e:o<z.size):z.getD a q<z.getD o q:=by
 have V0:a<z.size:=qr c e;have d:∀k (b:k<z.size),z.getD k q=z.toList[k]'⇑b:=λk b=>by simp[Array.getD,b]
 rw[d a V0,d o e];exact oW.mp m a o _ _ c
theorem A4(z:Array Nat)(m:h2 z)(i:Nat):∀(fuel S V0:Nat),V0-S<=fuel->S<=V0->V0<=z.size->(∀a,a<S->z.getD a i<i)->(∀a,V0<=a->a<z.size->i<=z.getD a i)->
  (aT.below.go z i fuel S V0<=z.size/\(∀a,a<aT.below.go z i fuel S V0->z.getD a i<i)/\∀a,aT.below.go z i fuel S V0<=a->a<z.size->i<=z.getD a i)
 |0,S,V0,t,C,e,g,f=>by
  have d:S=V0:=⋯
  subst d;exact⟨e,g,f⟩
 |fuel+1,S,V0,t,C,e,g,f=>by
  unfold aT.below.go;by_cases c:S<V0
  ·rw[aM c];dsimp only;by_cases b:z.getD ((S+V0)/2) i<i
   ·rw[aM b];refine A4 z m i fuel _ _ ⋯ ⋯ e (λa h=>?_) f;rcases e4 a ((S+V0)/2) with T|T
    ·exact qr (ry m T ⋯) b
    ·have:a=(S+V0)/2:=⋯
     rw[this];exact b
   ·rw[aN b];refine A4 z m i fuel _ _ ⋯ ⋯ ⋯ g (λa h j=>?_);rcases e4 ((S+V0)/2) a with T|T
    ·exact oP (wA (qV.mp b)<|ry m T j)
    ·have:a=(S+V0)/2:=⋯
     rw[this];exact qV.mp b
  ·rw[aN c];have d:S=V0:=⋯
   subst d;exact⟨e,g,f⟩
def tU(m:h2 z)(i:Nat):aT.below z i<=z.size/\(∀a,a<aT.below z i->z.getD a i<i)/\∀a,aT.below z i<=a->a<z.size->i<=z.getD a i:=
 A4 z m i z.size 0 z.size ⋯ ⋯ ⋯ (λa c=>absurd c<|l4 _) λa c T=>absurd T ⋯
def Ak(m:h2 z){a i:Nat}(c:z[a]?=Z i):aT.below z i=a:=by
 let@⟨g,f,h⟩:=tU m i;let⟨@V0,d⟩:=pa.mp c;have b:z.getD a i=i:=by simp[Array.getD,V0,d]
 rcases rS (aT.below z i) a with t|t|t
 ·have C:=h _ (bh _) (qr t V0);have e:=ry m (q:=i) t V0;omega
 ·exact t
 ·have:=f a t;omega
def KY(m:h2 z){a i:Nat}(c:z[a]?=Z i):aT.below z (i+1)=a+1:=by
 let@⟨g,f,h⟩:=tU m (i+1);let⟨@V0,d⟩:=pa.mp c;have b:z.getD a (i+1)=i:=by simp[Array.getD,V0,d]
 rcases rS (aT.below z<|i+1) (a+1) with t|t|t
 ·have:=h a ⋯ V0;lia
 ·exact t
 ·have C:=f (a+1) t;have e:=ry m (q:=i+1) (lY a) ⋯;lia
def OX(m:h2 z):aT.below z 0=0:=by
 let@⟨g,f,h⟩:=tU m 0;rcases Iy (aT.below z 0) with c|c
 ·exact c
 ·exact absurd (f 0 c) (l4 _)
def MR(m:h2 z){i:Nat}(c:¬ (z[aT.below z i]?=Z i)):h2 (aT.insertAt z (aT.below z i) i):=by
 let@⟨g,f,h⟩:=tU m i;unfold h2;rw[He];refine yO.mpr ⟨Im (rO _ _) m,e8.mpr ⟨λl a=>?_,Im (uC _ _) m⟩,λe p l a=>?_⟩
 ·let⟨o,b,rfl⟩:=kA.mp a;rw[pO];have av:aT.below z i+o<z.size:=by simp at b;lia
  have t:=h (aT.below z i+o) (nf _ _) av;have d:z.getD (aT.below z i+o) i=z.toList[aT.below z i+o]:=by simp[Array.getD,av]
  rw[d]at t;refine Nat.lt_of_le_of_ne t λj=>?_;rcases Iy o with h0|h0
  ·subst h0;apply c;rw[pa];exact⟨⋯,by simpa using j.symm⟩
  ·have C:=ry m (q:=i) (Hl (n:=aT.below z i) h0) av;have r:=h (aT.below z i) (bh _) ⋯;rw[d]at C;exact absurd j (dg<|wA r C)
 ·let⟨o,b,rfl⟩:=kA.mp p;rw[u0];have s:o<aT.below z i:=by simp at b;lia
  have av:o<z.size:=⋯
  have t:=f o s;have d:z.getD o i=z.toList[o]:=by simp[Array.getD,av]
  rw[d]at t;rcases b8.mp a with rfl|a
  ·exact t
  ·let⟨k,v,rfl⟩:=kA.mp a;rw[pO];have n:aT.below z i+k<z.size:=by simp at v;lia
   have C:=h (aT.below z i+k) (nf _ _) n;have w:z.getD (aT.below z i+k) i=z.toList[aT.below z i+k]:=by simp[Array.getD,n]
   rw[w]at C;exact eK t C
structure lu(E:aT)(led:Bool):Prop where
 rise:h2 E.place
 qF:E.dummies=#[]
 led:E.led=led
def lu.Q_(c:lu E b)(f:Bool):lu {E with plain:=f} b:=⟨c.rise,c.qF,c.led⟩
def Ie(i:Nat):aT.has #[] i=au:=rfl
def M1(hd:E.dummies=#[])(i:Nat):(∃a,E.slot i=.live a)\/(E.slot i=.empty/\¬ (E.place[aT.below E.place i]?=Z i)):=by
 unfold aT.slot;dsimp only;by_cases c:(E.place[aT.below E.place i]? == Z i)=X
 ·rw[aM c];exact .inl ⟨_,rfl⟩
 ·rw[aN c,hd,Ie];exact .inr ⟨rfl,λd=>c (by rw[d];exact ig _)⟩
def lu.put(c:lu E b){i:Nat}(a:¬ (E.place[aT.below E.place i]?=Z i)):lu (E.put i).1 b:=by
 refine⟨MR c.rise a,?_,c.led⟩;show (if aT.has E.dummies i=X then _ else E.dummies)=#[];rw[c.qF,Ie];rfl
def SI{j n o:Nat}{q:Bool}{av:Array Int}{p:Array Nat}(d:aT.laid j n o b q av=Z (E,p)):lu E b:=by
 unfold aT.laid at d;cases c:aT.layClean j av with
 |none=>rw[c]at d;cases d
 |some Wx=>
  rw[c]at d;cases d;refine⟨?_,rfl,rfl⟩;show (List.map (λe:Nat×Nat=>e.1)<|List.filterMap (λi=>Option.map (λe=>(i,e))<|Wx.getD i Y)<|range<|j+1).Pairwise (· < ·);rw[It];refine Og _ (R:=(· < ·)) (λg f r e a l h=>?_) List.pairwise_lt_range;cases k:Wx.getD g Y with
  |none=>rw[k]at a;cases a
  |some L=>
   cases m:Wx.getD f Y with
   |none=>rw[m]at h;cases h
   |some v=>
    rw[k]at a;rw[m]at h;cases a;cases h;exact r
def pM(k:Nat)(s:aT.Probe):aT.Probe:=(
 if s.more>0 then {s with j:=s.j+1,more:=s.more-1} else
 {s with j:=(aT.leap k s.i s.perturb).1,more:=aT.runEnd k (aT.leap k s.i s.perturb).1-(aT.leap k s.i s.perturb).1,i:=(aT.leap k s.i s.perturb).1,perturb:=(aT.leap k s.i s.perturb).2})
def pH(k a x:Nat):aT.Probe:=({j:=a,more:=aT.runEnd k a-a,i:=a,perturb:=x,dummy:=Y})
def cw(k:Nat)(c:Int):Nat->aT.Probe
 |0=>pH k (aT.bits c%(k+1)) (aT.bits c)
 |o+1=>pM k (cw k c o)
def de(k:Nat)(c:Int):Nat->Nat×Nat
 |0=>(aT.bits c%(k+1),aT.bits c)
 |r+1=>aT.leap k (de k c r).1 (de k c r).2
theorem zt(k:Nat)(c:Int):∀o,(cw k c o).dummy=Y
 |0=>rfl
 |o+1=>by
  rw[cw,pM];split
  ·exact zt k c o
  ·exact zt k c o
def NR(k a:Nat):aT.runEnd k a-a<=9:=by
 unfold aT.runEnd;split<;>lia
theorem pP{k:Nat}{c:Int}{o a x:Nat}(d:cw k c o=pH k a x):∀m,m<=aT.runEnd k a-a->cw k c (o+m)={pH k a x with j:=a+m,more:=aT.runEnd k a-a-m}
 |0,_=>d
 |m+1,V9=>by
  show pM k (cw k c<|o+m)=_;rw[pP d m ⋯,pM,aM (show aT.runEnd k a-a-m>0 by lia)];rfl
def QW{c:Int}{o x:Nat}(d:cw k c o=pH k a x):cw k c (o+(aT.runEnd k a-a)+1)=pH k (aT.leap k a x).1 (aT.leap k a x).2:=by
 show pM k (cw k c<|o+(aT.runEnd k a-a))=_;rw[pP d _ (bh _),pM,aN (show ¬ (aT.runEnd k a-a-(aT.runEnd k a-a)>0) by lia)];rfl
def fP(k:Nat)(c:Int):Nat->Nat
 |0=>0
 |r+1=>fP k c r+(aT.runEnd k (de k c r).1-(de k c r).1)+1
theorem qW(k:Nat)(c:Int):∀r,cw k c (fP k c r)=pH k (de k c r).1 (de k c r).2
 |0=>rfl
 |r+1=>QW (qW k c r)
theorem Fg(k:Nat)(c:Int):∀r,fP k c r<=10*r
 |0=>bh _
 |r+1=>by
  have:=Fg k c r;have:=NR k (de k c r).1;show fP k c r+_+1<=_;lia
theorem Ed(k:Nat)(c:Int):∀o,∃r m,o=fP k c r+m/\m<=aT.runEnd k (de k c r).1-(de k c r).1
 |0=>⟨0,0,rfl,hj _⟩
 |o+1=>by
  let⟨r,@m,d,V9⟩:=Ed k c o;by_cases x:m+1<=aT.runEnd k (de k c r).1-(de k c r).1
  ·exact⟨r,m+1,⋯,x⟩
  ·exact⟨r+1,0,by show _=fP k c r+_+1+0;lia,hj _⟩
def je(k:Nat):Nat->Nat->Nat
 |0,e=>e
 |o+1,e=>(je k o e*5+1)%(k+1)
theorem s_(k:Nat)(g e:Nat):∀f,je k (g+f) e=je k f (je k g e)
 |0=>rfl
 |f+1=>by
  show (je k (g+f) e*5+1)%(k+1)=_;rw[s_ k g e f];rfl
def vq(k:Nat):Nat->Nat->Nat->Nat
 |0,_,WA=>WA
 |o+1,e,WA=>vq k o ((e*5+1)%(k+1)) (WA ||| 2^e)
def Lw(k o e:Nat):je k o ((e*5+1)%(k+1))=je k (o+1) e:=by
 rw[Fi o 1,s_];rfl
theorem D3{k:Nat}:∀{u e l WA:Nat},(vq k u e WA).testBit l=X->WA.testBit l=X\/∃o,o<u/\je k o e=l
 |0,_,_,_,c=>.inl c
 |u+1,e,l,WA,c=>by
  rcases D3 (u:=u) c with c|⟨o,t,C⟩
  ·rw[z6,yD]at c;rcases c with c|c
   ·exact .inl c
   ·rw[Nat.testBit_two_pow,k7]at c;exact .inr ⟨0,sX _,c⟩
  ·exact .inr ⟨o+1,Nat.succ_lt_succ t,by rw[<-Lw];exact C⟩
def y5(k:Nat):Bool:=(beq (vq k (k+1) 0 0) (2^(k+1)-1)&&beq (je k (k+1) 0) 0)
def U8(h:y5 k=X){g e:Nat}(d:g<=k)(f:e<=k):∃o,o<=k/\je k o g=e:=by
 rw[y5,cN]at h;have x:=HV h.2;have all:∀l,l<=k->∃o,o<k+1/\je k o 0=l:=λl i=>by
  have r:(vq k (k+1) 0 0).testBit l=X:=by
   rw[HV h.1,Nat.testBit_two_pow_sub_one];exact du (G1 i)
  rcases D3 r with c|c
  ·rw[Nat.zero_testBit]at c;cases c
  ·exact c
 let⟨@a,t,rfl⟩:=all g d;let⟨@b,C,rfl⟩:=all e f;rcases e4 b a with c|c
 ·refine⟨b+(k+1-a),by omega,?_⟩;rw[<-s_,show a+(b+(k+1-a))=(k+1)+b by omega,s_,x]
 ·refine⟨b-a,by omega,?_⟩;rw[<-s_,show a+(b-a)=b by omega]
def iU(k:Nat):Prop:=(k=7\/k=31\/k=127\/k=511)
def iU.U7(F:iU k):y5 k=X:=by
 rcases F with rfl|rfl|rfl|rfl<;>decide +kernel
def Of(c:Int):aT.bits c<2^64:=by
 unfold aT.bits;have t:=ot c (show (2^64:Int)≠0 by decide);have C:=qd c (show (0:Int)<2^64 by decide);lia
theorem BO(k:Nat)(c:Int):∀r,(de k c r).2=aT.bits c/32^r
 |0=>by rw[Nat.pow_zero,Gz];rfl
 |r+1=>by
  show (de k c r).2/32=_;rw[BO k c r,Nat.div_div_eq_div_mul];rfl
theorem xM(k:Nat)(c:Int):∀r,(de k c r).1<=k
 |0=>q6 (ud _<|sX _)
 |r+1=>q6 (ud _<|sX _)
theorem D5(k:Nat)(c:Int):∀o,de k c (13+o)=(je k o (de k c 13).1,0)
 |0=>by
  have d:(de k c 13).2=0:=by
   rw[BO];exact Nat.div_eq_of_lt (qr (Of c) ∅)
  show de k c 13=((de k c 13).1,0);rw[<-d]
 |o+1=>by
  show aT.leap k (de k c<|13+o).1 (de k c<|13+o).2=_;rw[D5 k c o];show ((je k o (de k c 13).1*5+1+0/32)%(k+1),0/32)=_;rw[Nat.zero_div,Iq];rfl
def JC(F:iU k)(c:Int){e:Nat}(a:e<=k):∃r,r+1<aT.turns k/\(de k c r).1=e:=by
 let⟨@o,t,C⟩:=U8 F.U7 (xM k c 13) a;exact⟨13+o,by unfold aT.turns;lia,by rw[D5];exact C⟩
def RL(F:iU k)(c:Int){e:Nat}(a:e<=k):∃o,o<10*aT.turns k/\(cw k c o).j=e:=by
 let⟨@r,t,C⟩:=JC F c a;refine⟨fP k c r,by have:=Fg k c r;lia,?_⟩;rw[qW];exact C
def FD(c:a<=k):aT.runEnd k a<=k:=by unfold aT.runEnd;split<;>omega
def Gi(k:Nat)(c:Int)(o:Nat):(cw k c o).j<=k:=by
 let⟨r,@m,rfl,V9⟩:=Ed k c o;rw[pP (qW k c r) m V9];have:=FD (xM k c r);have d:aT.runEnd k (de k c r).1 >= (de k c r).1:=by unfold aT.runEnd;split<;>lia
 show (de k c r).1+m<=k;lia
theorem tp{Wr:Type}[DecidableEq Wr]:∀{H k:List Wr},H.Nodup->(∀e∈H,e∈k)->H.length<=k.length
 |[],k,_,_=>hj _
 |g::H,k,ah,c=>by
  have a:=gb.mp ah;have r:=tp (H:=H) (k:=k.erase g) a.2 λe b=>(List.mem_erase_of_ne (λd:e=g=>a.1<|d ▸ b)).mpr (c e<|.tail _ b);have f:=c g (.head _);rw[List.length_erase_of_mem f]at r;have:=List.length_pos_of_mem f;rw[dj];lia
def lI(k:Nat)(iI:Nat->Prop)(c:Int)(i:Nat):Prop:=(∃o,(cw k c o).j=i/\∀a,a<o->iI (cw k c a).j)
def lI.mono{iI b:Nat->Prop}{c:Int}{i:Nat}(m:lI k iI c i)(a:∀e,iI e->b e):lI k b c i:=let ⟨o,d,g⟩:=m;⟨o,d,λf x=>a _<|g f x⟩
structure pn(E:aT)(av:List Int):Prop where
 nu:iU E.mask
 len:E.place.size=av.length
 loose:E.place.size*5<E.mask*3
 le:∀i∈E.place.toList,i<=E.mask
 ou:∀s∈E.place.toList.zip av,lI E.mask (·∈E.place.toList) s.2 s.1
def iU.pos(F:iU k):7<=k/\k<=511/\k%2=1:=by rcases F with rfl|rfl|rfl|rfl<;>decide
def Lm(m:h2 E.place){i:Nat}(c:i∈E.place.toList):∃a,E.slot i=.live a/\E.place[a]?=Z i:=by
 let⟨a,V0,d⟩:=kA.mp c;have b:E.place[a]?=Z i:=by
  rw[<-eQ,dH V0,d]
 refine⟨a,?_,b⟩;unfold aT.slot;dsimp only;rw[Ak m b,b,aM<|ig _]
def NH(hd:E.dummies=#[]){i:Nat}(c:i∉E.place.toList):E.slot i=.empty:=by
 rcases M1 hd i with ⟨a,d⟩|⟨d,_⟩
 ·unfold aT.slot at d;dsimp only at d;split at d
  ·next r=>
   have b:=eq_of_beq r;refine absurd ?_ c;rw[<-eQ]at b;exact gO b
  ·split at d<;>cases d
 ·exact d
def pn.some{av:List Int}(j:pn E av)(c:Int):∃o,o<10*aT.turns E.mask/\(cw E.mask c o).j∉E.place.toList:=by
 have:∃e,e<=E.mask/\e∉E.place.toList:=by
  refine t6 λh=>?_;have r:=tp (H:=range (E.mask+1)) (k:=E.place.toList) mJ λe a=>t6 λx=>h ⟨e,q6<|eV.mp a,x⟩;rw[hA,dv]at r;have:=j.loose;lia
 let⟨@e,t,C⟩:=this;let⟨@o,WG,WO⟩:=RL j.nu c t;exact⟨o,WG,by rw[WO];exact C⟩
theorem DJ{E:aT}(m:h2 E.place)(hd:E.dummies = #[])(e:Nat -> Int)(c:Int): ∀(fuel b:Nat),(∃o,b <= o /\ o<b+fuel /\ (cw E.mask c o).j ∉ E.place.toList) ->
    ∃WG,b <= WG /\ (∀o,b <= o -> o<WG -> ∃a,E.place[a]? = Z (cw E.mask c o).j /\ e a ≠ c) /\
      ((aT.probe.go E e c fuel (cw E.mask c b)=Z (.empty (cw E.mask c WG).j Y) /\ (cw E.mask c WG).j ∉ E.place.toList) \/
        ∃a,aT.probe.go E e c fuel (cw E.mask c b)=Z (.candidate (cw E.mask c WG).j a<|cw E.mask c<|WG+1) /\ E.slot (cw E.mask c WG).j=.live a /\ E.place[a]? = Z (cw E.mask c WG).j /\ e a=c)
  |0,b,⟨o,g,f,_⟩ => absurd g ⋯
  |fuel+1,b,⟨o,g,f,h⟩ => by
    by_cases x:(cw E.mask c b).j ∈ E.place.toList
    · let⟨@a,k,l⟩:=Lm m x
      by_cases r:e a=c
      · refine ⟨b,bh _,λo t C => absurd t ⋯,.inr ⟨a, ?_,k,l,r⟩⟩
        unfold aT.probe.go;rw [k];dsimp only;rw [aM (by rw [r]; exact ig _)];rfl
      · have ne:o ≠ b:=λd => h (d ▸ x)
        let⟨@WG,t,C,n⟩:=DJ m hd e c fuel (b+1) ⟨o,⋯,⋯,h⟩;have d:aT.probe.go E e c (fuel+1) (cw E.mask c b)=aT.probe.go E e c fuel (cw E.mask c<|b+1):=by
          rw [aT.probe.go,k];dsimp only;rw [aN (by rw [mN]; exact r)];rfl
        refine ⟨WG,⋯,λo q p => ?_,by rw [d]; exact n⟩;rcases e4 b o with F|F
        · exact C o F p
        · rw [show o=b by lia]; exact ⟨a,l,r⟩
    · refine ⟨b,bh _,λo t C => absurd t ⋯,.inl ⟨?_,x⟩⟩
      unfold aT.probe.go;rw [NH hd x];dsimp only;rw [zt]
def A3(z:Array Wr)(s:Nat)(e:Wr):(aT.insertAt z s e).toList=z.toList.take s++e::z.toList.drop s:=He z s e
def si{H:List Wr}{s:Nat}{e l:Wr}:l∈H.take s++e::H.drop s↔l=e\/l∈H:=by
 constructor
 ·intro c;rcases c5.mp c with c|c
  ·exact .inr (nH c)
  ·rcases b8.mp c with c|c
   ·exact .inl c
   ·exact .inr (mP c)
 ·rintro (rfl|c)
  ·exact eW _ (.head _)
  ·rw[<-ff s H]at c;rcases c5.mp c with c|c
   ·exact gz _ c
   ·exact eW _ (.tail _ c)
def K2{g:List Wr}{f:List W9}(b:g.length=f.length)(s:Nat)(e:Wr)(l:W9):(g.take s++e::g.drop s).zip (f.take s++l::f.drop s)=(g.zip f).take s++(e,l)::(g.zip f).drop s:=by
 rw[G8 (by rw[gf,gf,b]),x6];have c:∀(s:Nat) (g:List Wr) (f:List W9),(g.take s).zip (f.take s)=(g.zip f).take s:=λs=>by
  induction s with
  |zero=>intro g f;rfl
  |succ s a=>intro g f;cases g with
   |nil=>rfl
   |cons e g=>cases f with
    |nil=>rfl
    |cons l f=>exact congrArg ((e,l)::·) (a g f)
 have d:∀(s:Nat) (g:List Wr) (f:List W9),(g.drop s).zip (f.drop s)=(g.zip f).drop s:=λs=>by
  induction s with
  |zero=>intro g f;rfl
  |succ s a=>intro g f;cases g with
   |nil=>rfl
   |cons e g=>cases f with
    |nil=>show (g.drop s).zip []=_;rw[C4];rfl
    |cons l f=>exact a g f
 rw[c,d]
def pn.put{av:List Int}(j:pn E av){c:Int}{o:Nat}(k:(cw E.mask c o).j∉E.place.toList)(g:∀a,a<o->(cw E.mask c a).j∈E.place.toList):
  (∀i∈(E.put (cw E.mask c o).j).1.place.toList,i<=E.mask)/\∀s∈(E.put (cw E.mask c o).j).1.place.toList.zip (av.take (E.put (cw E.mask c o).j).2++c::av.drop (E.put (cw E.mask c o).j).2),lI E.mask (·∈(E.put (cw E.mask c o).j).1.place.toList) s.2 s.1:=by
 have d:(E.put (cw E.mask c o).j).1.place.toList=E.place.toList.take (E.put (cw E.mask c o).j).2++(cw E.mask c o).j::E.place.toList.drop (E.put (cw E.mask c o).j).2:=A3 _ _ _;rw[d];refine⟨λi f=>?_,λs b=>?_⟩
 ·rcases si.mp f with rfl|f
  ·exact Gi _ _ _
  ·exact j.le i f
 ·rw[K2 (by rw[dv];exact j.len)]at b;rcases si.mp b with rfl|b
  ·exact⟨o,rfl,λa x=>si.mpr<|.inr<|g a x⟩
  ·exact (j.ou s b).mono λe h=>si.mpr (.inr h)
def l0(Wx:Array (Option Nat))(i:Nat):Prop:=((Wx.getD i<|Z 0).isSome=X)
theorem FR{k:Nat}(Wx:Array (Option Nat))(c:Int):∀(fuel r:Nat),(∀a,a<fP k c r->l0 Wx (cw k c a).j)->(∃b,r<=b/\b<r+fuel/\¬ l0 Wx (de k c b).1)->
  ∃i,aT.layClean.free k Wx fuel (de k c r).1 (de k c r).2=Z i/\i<=k/\¬ l0 Wx i/\lI k (l0 Wx) c i
 |0,r,_,⟨b,g,f,_⟩=>absurd g ⋯
 |fuel+1,r,e,⟨b,g,f,h⟩=>by
  unfold aT.layClean.free;have le:aT.runEnd k (de k c r).1<=k:=FD (xM k c r);have Xz:(de k c r).1<=aT.runEnd k (de k c r).1:=by unfold aT.runEnd;split<;>lia
  cases l:(range<|aT.runEnd k (de k c r).1+1-(de k c r).1).find? (λo=>(Wx.getD ((de k c r).1+o)<|Z 0).isNone) with
  |some o=>
   dsimp only;rw[List.find?_range_eq_some]at l;let@⟨t,C,n⟩:=l;have p:o<aT.runEnd k (de k c r).1+1-(de k c r).1:=eV.mp C;refine⟨_,rfl,⋯,?_,fP k c r+o,?_,λa m=>?_⟩
   ·unfold l0;intro x;rw[Option.isNone_iff_eq_none]at t;rw[t]at x;cases x
   ·rw[pP (qW k c r) o ⋯]
   ·rcases e4 a (fP k c r) with x|x
    ·exact e a x
    ·have d:a=fP k c r+(a-fP k c r):=⋯
     rw[d,pP (qW k c r) (a-fP k c r) ⋯];have:=n (a-fP k c r) ⋯;show (Wx.getD ((de k c r).1+(a-fP k c r))<|Z 0).isSome=X;cases D:Wx.getD ((de k c r).1+(a-fP k c r)) (Z 0) with
     |none=>rw[D]at this;cases this
     |some _=>rfl
  |none=>
   dsimp only;rw[List.find?_range_eq_none]at l;have iI:∀o,o<aT.runEnd k (de k c r).1+1-(de k c r).1->l0 Wx ((de k c r).1+o):=λo e=>by
    have:=l o e;unfold l0;cases D:Wx.getD ((de k c r).1+o) (Z 0) with
    |none=>rw[D]at this;cases this
    |some _=>rfl
   have ne:b≠r:=λd=>h (by rw[d];exact iI 0 ⋯);refine FR Wx c fuel (r+1) (λa m=>?_) ⟨b,⋯,⋯,h⟩;rcases e4 a (fP k c r) with x|x
   ·exact e a x
   ·have q:a<fP k c r+(aT.runEnd k (de k c r).1-(de k c r).1)+1:=m;have d:a=fP k c r+(a-fP k c r):=⋯
    rw[d,pP (qW k c r) (a-fP k c r) ⋯];exact iI _ ⋯
structure lT(k:Nat)(Wx:Array (Option Nat))(Wj:List Nat)(av:List Int):Prop where
 size:Wx.size=k+1
 len:Wj.length=av.length
 ah:Wj.Nodup
 le:∀i∈Wj,i<=k
 own:∀(i o:Nat),Wx[i]?=Z (Z o)↔Wj[o]?=Z i
 ou:∀s∈Wj.zip av,lI k (·∈Wj) s.2 s.1
def lT.iI{av:List Int}(A:lT k Wx Wj av){i:Nat}(c:i<=k):l0 Wx i↔i∈Wj:=by
 have b:i<Wx.size:=by rw[A.size];lia
 unfold l0;rw[show Wx.getD i (Z 0)=Wx[i] by simp[Array.getD,b]];have d:Wx[i]?=Z Wx[i]:=i6 b;constructor
 ·intro x;let⟨@o,a⟩:=Fy.mp x;rw[a]at d;exact gO ((A.own i o).mp d)
 ·intro x;let⟨@o,a⟩:=wJ x;have:=(A.own i o).mpr a;rw[d]at this;rw[Option.some.inj this];rfl
def lT.step(F:iU k){Wx:Array (Option Nat)}{Wj:List Nat}{av:List Int}(A:lT k Wx Wj av)(E:av.length<=k)(c:Int):
  ∃i,aT.layClean.free k Wx (aT.turns k) (aT.bits c%(k+1)) (aT.bits c)=Z i/\lT k (Wx.setIfInBounds i<|Z av.length) (Wj++[i]) (av++[c]):=by
 have room:∃e,e<=k/\e∉Wj:=by
  refine t6 λh=>?_;have r:=tp (H:=range (k+1)) (k:=Wj) mJ λe j=>t6 λx=>h ⟨e,q6<|eV.mp j,x⟩;rw[hA,A.len]at r;lia
 let⟨@e,m,u⟩:=room;let⟨@r,G,v⟩:=JC F c m;let⟨@i,w,n,y,z⟩:=FR (k:=k) Wx c (aT.turns k) 0 (λp l=>absurd l<|l4 _) ⟨r,hj _,⋯,by rw[v];exact λx=>u<|(A.iI m).mp x⟩;have q:i∉Wj:=λx=>y ((A.iI n).mpr x);have B:i<Wx.size:=by rw[A.size];lia
 refine⟨i,w,by rw[Array.size_setIfInBounds,A.size],by rw[di,di,A.len];rfl,?_,?_,λt o=>?_,?_⟩
 ·exact dJ.mpr ⟨A.ah,fC _ _,λg a f C d=>q (by rw[<-cP.mp C,<-d];exact a)⟩
 ·intro g a;rcases c5.mp a with a|a
  ·exact A.le g a
  ·rw[cP.mp a];exact n
 ·rw[Array.getElem?_setIfInBounds];by_cases d:i=t
  ·subst d;rw[aM rfl,aM B];constructor
   ·intro x;cases x;rw[<-A.len,mf<|bh _,x_];rfl
   ·intro x;rcases e4 o Wj.length with D|D
    ·rw[mj D]at x;exact absurd (gO x) q
    ·rw[mf D]at x;have:o-Wj.length=0:=by
      have:=(fs.mp x).1;rw[gI]at this;lia
     rw[show o=av.length by rw[<-A.len];lia]
  ·rw[aN d,A.own t o];rcases e4 o Wj.length with D|D
   ·rw[mj D]
   ·rw[mf D,rY D];constructor
    ·intro x;cases x
    ·intro x;have:=gO x;exact absurd (cP.mp this) (λx=>d x.symm)
 ·intro s b;rw[G8 A.len]at b;rcases c5.mp b with b|b
  ·exact (A.ou s b).mono λe j=>gz _ j
  ·rw[x6,List.zip_nil_left]at b;rw[cP.mp b];let⟨@o,d,g⟩:=z;exact⟨o,d,λp l=>gz _<|(A.iI<|Gi _ _ _).mp<|g p l⟩
theorem Jy{k:Nat}(F:iU k):∀(cx av:List Int) (Wx:Array (Option Nat)) (Wj:List Nat),lT k Wx Wj av->(av++cx).length<=k->
  ∃a b,cx.foldl (λ(WA:Option (Array (Option Nat)×Nat)) c=>do
   let (f,o) <-WA
   let i <-aT.layClean.free k f (aT.turns k) (aT.bits c%(k+1)) (aT.bits c)
   pure (f.setIfInBounds i<|Z o,o+1)) (Z (Wx,av.length))=Z (a,(av++cx).length)/\lT k a b (av++cx)
 |[],av,Wx,Wj,A,_=>⟨Wx,Wj,by rw[cF];rfl,by rw[cF];exact A⟩
 |c::cx,av,Wx,Wj,A,g=>by
  let⟨@i,d,j⟩:=A.step F (by rw[di]at g;lia) c;let⟨a,@b,e,h⟩:=Jy F cx (av++[c]) _ _ j (by rw[bC];exact g);rw[bC]at e h;refine⟨a,b,?_,h⟩;rw[i5];rw[show (av++[c]).length=av.length+1 from di]at e;refine Eq.trans (congrArg (λx=>List.foldl _ x cx) ?_) e;show (aT.layClean.free k Wx (aT.turns k) (aT.bits c%(k+1))<|aT.bits c).bind _=_;rw[d];rfl
def Rh(F:iU k)(av:Array Int)(a:av.size<=k):∃Wx Wj,aT.layClean k av=Z Wx/\lT k Wx Wj av.toList:=by
 have b:lT k (Array.replicate (k+1) Y) [] []:=by
  refine⟨Array.size_replicate,rfl,hu,λ_ c=>(ka c).elim,λi o=>⟨λx=>?_,λx=>?_⟩,λ_ c=>(ka c).elim⟩
  ·have:=(pa.mp x).2;rw[Array.getElem_replicate]at this;cases this
  ·simp at x
 let⟨Wx,@Wj,d,A⟩:=Jy F av.toList [] _ _ b (by rw[oo,dv];exact a);refine⟨Wx,Wj,?_,A⟩;unfold aT.layClean;rw[<-Array.foldl_toList];exact congrArg (Option.map (·.1)) d
def TV{s:Nat×Nat}:s∈(range<|k+1).filterMap (λi=>(Wx.getD i Y).map (i,·))↔s.1<=k/\Wx[s.1]?=Z (Z s.2):=by
 rw[pY];constructor
 ·rintro⟨i,t,C⟩;let⟨@o,a,rfl⟩:=cm.mp C;refine⟨q6<|eV.mp t,?_⟩;show Wx[i]?=Z (Z o);by_cases x:i<Wx.size
  ·rw[show Wx.getD i Y=Wx[i] by simp[Array.getD,x]]at a;rw[i6 x,a]
  ·rw[show Wx.getD i Y=Y by simp[Array.getD,x]]at a;cases a
 ·rintro⟨t,C⟩;refine⟨s.1,eV.mpr<|G1 t,?_⟩;let⟨@x,d⟩:=pa.mp C;rw[show Wx.getD s.1 Y=Wx[s.1] by simp[Array.getD,x],d];rfl
theorem Ip{Wr W9:Type}:∀{H:List (Wr×W9)},(H.map (·.1)).Nodup->(∀g∈H,∀f∈H,g.2=f.2->g.1=f.1)->(H.map (·.2)).Nodup
 |[],_,_=>hu
 |e::H,c,a=>by
  rw[b2]at c ⊢;have T:=gb.mp c;refine gb.mpr ⟨λx=>?_,Ip T.2 λg h f i=>a g (.tail _ h) f<|.tail _ i⟩;let⟨@l,b,d⟩:=cG.mp x;have:=a l (.tail _ b) e (.head _) d;exact T.1 (by rw[<-this];exact uW b)
theorem C6{Wr W9 XC:Type}(I:Wr->W9)(F:Wr->XC):∀H:List Wr,(H.map I).zip (H.map F)=H.map λe=>(I e,F e)
 |[]=>rfl
 |e::H=>congrArg (_::·) (C6 I F H)
def Ue{l:Nat}(F:iU (aT.sizeAbove l-1))(B:Q.size*5<(aT.sizeAbove l-1)*3){b:Bool}(o:E.led=b):
  ∃WE v,E.relaid (Q.map (·.1)) l=Z (WE,v)/\v.toList.Perm (range Q.size)/\lu WE b/\pn WE ((v.filterMap (Q[·]?)).toList.map (·.1)):=by
 let⟨Wx,@Wj,d,A⟩:=Rh F (Q.map (·.1)) (by rw[AN];lia);generalize D:aT.sizeAbove l-1=k at *;have n:E.relaid (Q.map (·.1)) l=Z ({mask:=k,place:=(((range<|k+1).filterMap λi=>(Wx.getD i Y).map (i,·)).map (·.1)).toArray,dummies:=#[],finger:=E.finger,led:=E.led,moves:=E.movedTo k,plain:=E.plain},(((range<|k+1).filterMap λi=>(Wx.getD i Y).map (i,·)).map (·.2)).toArray):=by
  unfold aT.relaid aT.laid;rw[D,d];rfl
 have j:=λ(s:Nat×Nat)=>TV (k:=k) (Wx:=Wx) (s:=s);have q:(((range<|k+1).filterMap λi=>(Wx.getD i Y).map (i,·)).map (·.1)).Pairwise (· < ·):=by
  have:=(SI (E:=_) (p:=_) n);exact this.rise
 generalize G:(range<|k+1).filterMap (λi=>(Wx.getD i Y).map (i,·))=J at n j q;have Wk:∀s∈J,Wj[s.2]?=Z s.1:=λs h=>(A.own _ _).mp ((j s).mp h).2;have lt:∀s∈J,s.2<Q.size:=λs h=>by
  have:=(fs.mp<|Wk s h).1;rw[A.len,dv,AN]at this;exact this
 have w:(J.map (·.1)).Nodup:=q.imp λc=>dg c;have x:(J.map (·.2)).Nodup:=Ip w λg H f I d=>by
  have t:=Wk g H;have C:=Wk f I;rw[d]at t;exact Option.some.inj (t.symm.trans C)
 have perm:(J.map (·.2)).Perm (range Q.size):=by
  refine (HJ x mJ).mpr λe=>?_;rw[eV];constructor
  ·intro c;let⟨@s,h,rfl⟩:=cG.mp c;exact lt s h
  ·intro c;have m:e<Wj.length:=by rw[A.len,dv,AN];exact c
   have t:Wj[e]?=Z Wj[e]:=dH m;exact cG.mpr ⟨(Wj[e],e),(j _).mpr ⟨A.le _<|pv m,(A.own _ _).mpr t⟩,rfl⟩
 have y:J.length=Q.size:=by
  have:=perm.length_eq
  rwa [ba,hA]at this
 have z:((J.map (·.2)).filterMap (Q[·]?)).map (·.1)=J.map λs=>(Q.getD s.2 (0,.none)).1:=by
  clear j q Wk w x perm y n G;induction J with
  |nil=>rfl
  |cons s J L=>
   have h:=lt s (.head _);rw[b2,rU<|i6 h,b2,b2,L λr u=>lt r<|.tail _ u];congr 1;simp[Array.getD,h]
 refine⟨_,_,n,?_,⟨?_,rfl,o⟩,⟨F,?_,?_,?_,?_⟩⟩
 ·exact perm
 ·exact q
 ·rw[zI];show (J.map (·.1)).toArray.size=(((J.map (·.2)).filterMap (Q[·]?)).map (·.1)).length;rw[z,cR,ba,ba]
 ·show (J.map (·.1)).toArray.size*5<k*3;rw[cR,ba,y];exact B
 ·intro i M;let⟨@s,h,rfl⟩:=cG.mp M;exact ((j s).mp h).1
 ·rw[zI];show ∀s∈(J.map (·.1)).zip (((J.map (·.2)).filterMap (Q[·]?)).map (·.1)),lI k (·∈J.map (·.1)) s.2 s.1;rw[z,C6];intro s h;let⟨@r,u,rfl⟩:=cG.mp h;have t:=Wk r u;have C:((Q.map (·.1)).toList)[r.2]?=Z (Q.getD r.2 (0,.none)).1:=by
   have:=lt r u;rw[eQ,Array.getElem?_map,i6 this];simp[Array.getD,this]
  have N:(r.1,(Q.getD r.2 (0,.none)).1)∈Wj.zip (Q.map (·.1)).toList:=by
   refine gO (i:=r.2) ?_;rw[vb];exact⟨t,C⟩
  refine (A.ou _ N).mono λe m=>?_;let⟨@o,O⟩:=wJ m;exact cG.mpr ⟨(e,o),(j _).mpr ⟨A.le e m,(A.own _ _).mpr O⟩,rfl⟩
def U2(F:iU k)(t:u*5<k*3)(C:(u+1)*5 >= k*3)(a:u+1<=300):iU (aT.sizeAbove (aT.grown<|u+1)-1)/\(u+1)*5<(aT.sizeAbove (aT.grown<|u+1)-1)*3/\aT.sizeAbove (aT.grown<|u+1)<=512:=by
 rcases F with rfl|rfl|rfl|rfl
 ·rw[show u=4 by lia];exact⟨.inr (.inl ∅),by decide,by decide⟩
 ·rw[show u=18 by lia];exact⟨.inr (.inr (.inl ∅)),by decide,by decide⟩
 ·rw[show u=76 by lia];exact⟨.inr (.inr (.inr ∅)),by decide,by decide⟩
 ·lia
section
variable{Wb:bJ}{D:bl}
theorem Hs:∀(u:Nat) {O:bD}{U:ae->aq->Prop}{n:aq}{q:V}{v:ae}{y:Bool->aq->Prop},V.key u q=X->dp n.heap q v->(∀f,y f n)->wpAny (aR Wb D) O (tJ u v) y U n
 |u,O,U,n,.int a,v,y,_,b,c=>by
  let⟨@E,rfl⟩:=b;rw[show tJ u (.int a E)=pure X from by cases u<;>rfl];exact aL (c _)
 |u,O,U,n,.str a,v,y,_,b,c=>by
  let⟨@E,rfl⟩:=b;rw[show tJ u (.str a E)=pure au from by cases u<;>rfl];exact aL (c _)
 |u+1,O,U,n,.tup J,v,y,o,b,c=>by
  let⟨g,p,Wv,@k,rfl,h,j,hd,V0⟩:=b;have l:n.TypeIs (.ref g) "tuple" := ⟨p,h,j⟩;unfold tJ;refine ar (o9 l sL.lookup ?_);show wpAny _ _ (m3 (.ref g) >>= _) _ _ n;refine ar (hT h hd ?_);refine ar ?_;show wpAny _ _ (forIn Wv _ _) _ _ n;rw[<-rZ];rw[V.key]at o;refine kE _ (λcx m V5=>V5=n/\∃left,V.keys u left=X/\dP n.heap left cx) _ ?_ ?_ _ _ ⟨rfl,J,o,V0⟩
  ·rintro v cx m V5 ⟨rfl,left,e,i⟩;cases left with
   |nil=>cases (show v::cx=[] from i)
   |cons q left=>
    let⟨w,@WV,d,t,r⟩:=i;cases d;rw[V.keys,cN]at e;refine ar (Hs u e.1 t λf=>?_);cases f
    ·show wpAny _ _ (pure<|ForInStep.done _) _ _ _;exact aL (aL<|c _)
    ·show wpAny _ _ (pure<|ForInStep.yield _) _ _ _;exact aL ⟨rfl,left,e.2,r⟩
  ·rintro⟨s,x⟩ V5 ⟨rfl,W⟩;cases s with
   |none=>exact aL (c _)
   |some f=>exact aL (c _)
 |_,_,_,_,.aV,_,_,o,_,_=>by cases ‹Nat›<;>cases o
 |_,_,_,_,.aB _,_,_,o,_,_=>by cases ‹Nat›<;>cases o
 |_,_,_,_,.fn _,_,_,o,_,_=>by cases ‹Nat›<;>cases o
 |_,_,_,_,.aW _,_,_,o,_,_=>by cases ‹Nat›<;>cases o
 |_,_,_,_,.fd,_,_,o,_,_=>by cases ‹Nat›<;>cases o
 |0,_,_,_,.tup _,_,_,o,_,_=>by cases o
theorem AI:∀(u:Nat) {O:bD}{U:ae->aq->Prop}{n:aq}{q:V}{v:ae}{y:Bool->aq->Prop},V.key u q=X->dp n.heap q v->y au n->wpAny (aR Wb D) O (uD u v) y U n
 |u,O,U,n,.int a,v,y,_,b,c=>by
  let⟨@E,rfl⟩:=b;rw[show uD u (.int a E)=pure au from by cases u<;>rfl];exact aL c
 |u,O,U,n,.str a,v,y,_,b,c=>by
  let⟨@E,rfl⟩:=b;rw[show uD u (.str a E)=pure au from by cases u<;>rfl];exact aL c
 |u+1,O,U,n,.tup J,v,y,o,b,c=>by
  let⟨g,p,Wv,@k,rfl,f,i,hd,V0⟩:=b;have j:n.TypeIs (.ref g) "tuple" := ⟨p,f,i⟩;unfold uD;refine ar (o7 j ?_);dsimp only;rw[aM (show ("tuple" == "tuple")=X by decide)];refine ar (aL ?_);simp only[oX,g0,e9];refine ar (hT f hd ?_);dsimp only;refine ar ?_;show wpAny _ _ (forIn Wv _ _) _ _ n;rw[<-rZ];rw[V.key]at o;refine kE _ (λcx m V5=>m.1=Y/\V5=n/\∃left,V.keys u left=X/\dP n.heap left cx) _ ?_ ?_ _ _ ⟨rfl,rfl,J,o,V0⟩
  ·rintro v cx m V5 ⟨V9,rfl,left,e,h⟩;cases left with
   |nil=>cases (show v::cx=[] from h)
   |cons q left=>
    let⟨r,@WV,d,t,l⟩:=h;cases d;rw[V.keys,cN]at e;refine ar (AI u e.1 t ?_);simp only[g0,e9];exact aL ⟨rfl,rfl,left,e.2,l⟩
  ·rintro⟨s,w⟩ V5 ⟨V9,rfl,W⟩;simp only at V9;subst V9;exact aL c
 |_,_,_,_,.aV,_,_,o,_,_=>by cases ‹Nat›<;>cases o
 |_,_,_,_,.aB _,_,_,o,_,_=>by cases ‹Nat›<;>cases o
 |_,_,_,_,.fn _,_,_,o,_,_=>by cases ‹Nat›<;>cases o
 |_,_,_,_,.aW _,_,_,o,_,_=>by cases ‹Nat›<;>cases o
 |_,_,_,_,.fd,_,_,o,_,_=>by cases ‹Nat›<;>cases o
 |0,_,_,_,.tup _,_,_,o,_,_=>by cases o
def QO{O:bD}{U:ae->aq->Prop}{e:af}{y:Bool->aq->Prop}(b:(eL Wb D).is n.heap o e){V4:List ae}(g:∀v∈V4,∃f a,v=.ref f/\(eL Wb D).is n.heap a f)(c:y au n):
  wpAny (aR Wb D) O (GY (.ref e) V4) y U n:=by
 unfold GY;refine ar ?_;refine kE _ (λcx m V5=>m.1=Y/\V5=n/\∀v∈cx,∃f a,v=.ref f/\(eL Wb D).is n.heap a f) _ ?_ ?_ _ _ ⟨rfl,rfl,g⟩
 ·rintro v cx m V5 ⟨V9,rfl,h⟩;let⟨f,@a,rfl,d⟩:=h v (.head _);have i:∀v∈cx,∃f a,v=.ref f/\(eL Wb D).is V5.heap a f:=λv g=>h v (.tail _ g);dsimp only;cases j:(e==f) with
  |true=>
   simp only[H3,gN];exact aL ⟨rfl,rfl,i⟩
  |false=>
   simp only[Em];rw[aN (show ¬ ((Fn (ae.ref e)&&Fn (ae.ref f))=X) from λx=>dc x)];refine ar (wN 8 (q:=.tup _) b.1 b.2 ?_);simp only[oX,g0,e9];refine ar (wN 8 (q:=.tup _) d.1 d.2 ?_);simp only[oX,g0,e9];refine ar (AI 8 (q:=.tup _) b.1 b.2 ?_);simp only[g0,e9];refine ar (AI 8 (q:=.tup _) d.1 d.2 ?_);simp only[g0,e9];exact aL ⟨rfl,rfl,i⟩
 ·rintro⟨k,l⟩ V5 ⟨V9,rfl,W⟩;simp only at V9;subst V9;exact aL c
end
section
variable(D:bl)(Wd:List V->af->Prop)
def tO(x:List V×Int×ae):Prop:=(∃f,x.2.2=.ref f/\x.2.1=dN D (.tup x.1)/\Wd x.1 f)
structure lA(Q:Array (Int×ae))(E:aT)(b:Bool)(M:List (List V)):Prop where
 p_:∃W4:List (List V×Int×ae),W4.map (·.2)=Q.toList/\(W4.map (·.1)).Perm M/\∀x∈W4,tO D Wd x
 tab:lu E b
 bT:pn E (Q.toList.map (·.1))
 ah:M.Nodup
def fJ(c:aY)(g:af)(b:Bool)(M:List (List V)):Prop:=(∃p Q Wt E,c.get? g=Z p/\p.ExactSet/\p.data=.set Q Wt E/\lA D Wd Q E b M)
end
section
variable{Wb:bJ}{D:bl}{Wd:List V->af->Prop}{O:bD}{U:ae->aq->Prop}
def lA.size(w:lA D Wd Q E b M):E.place.size=Q.size:=by
 rw[w.bT.len,ba,dv]
def lA.fit(w:lA D Wd Q E b M):E.fits Q.size=X:=by
 have:=w.bT.loose;unfold aT.fits aT.fill;rw[w.tab.qF,w.size,cN,mN,k7];rw[w.size]at this;exact⟨rfl,by show Q.size+0<=_;lia⟩
def lA.num(w:lA D Wd Q E b M):Q.size=M.length:=by
 let⟨@W4,t,C,W⟩:=w.p_;rw[<-C.length_eq,ba,<-dv,<-t,ba]
def CQ(m:h2 z){a b i:Nat}(g:z[a]?=Z i)(f:z[b]?=Z i):a=b:=by
 rw[<-Ak m g,<-Ak m f]
def Mn{aw:gu}{h:Bool}{k:dr Bool}{L m:dr Wr}{y:Wr->aq->Prop}(t:∀a:Bool->aq->Prop,a au n->wpAny aw O k a U n)(C:wpAny aw O m y U n):
  wpAny aw O (if h=X then (do let f <-k;if f=X then L else m) else m) y U n:=by
 cases h
 ·rw[aN dc];exact C
 ·rw[aM rfl];refine ar (t _ ?_);rw[aN dc];exact C
theorem B5{g e:af}{o:List V}{b:Bool}{M:List (List V)}{p:a9}{Q:Array (Int×ae)}{Wt:Nat}{E:aT}{n:aq}{y:SetFound->aq->Prop}{W4:List (List V×Int×ae)}(cd:O.units+20<bS)(J:n.heap.get? g=Z p)(hd:p.data=.set Q Wt E)(w:lA D Wd Q E b M)(L:(eL Wb D).is n.heap o e)(P:∀r f,Wd r f->(eL Wb D).is n.heap r f)(B:W4.map (·.2)=Q.toList)(R:(W4.map (·.1)).Perm M)(S:∀x∈W4,tO D Wd x)(a1:o∈M->y (.there Y) n)(a2:o∉M->∀T,(cw E.mask (dN D<|.tup o) T).j∉E.place.toList->(∀c,c<T->(cw E.mask (dN D<|.tup o) c).j∈E.place.toList)->y (.free (cw E.mask (dN D<|.tup o) T).j au) n){q:Nat}(G:(cw E.mask (dN D<|.tup o) q).j∉E.place.toList)(ce:q<10*aT.turns E.mask):
  ∀(fuel h:Nat) (N:Option aT.Probe),N.getD (E.probeStart<|dN D<|.tup o)=cw E.mask (dN D<|.tup o) h->q<h+fuel->(∀c,c<h->(cw E.mask (dN D<|.tup o) c).j∈E.place.toList)->
   (∀(a c:Nat),c<h->E.place[a]?=Z (cw E.mask (dN D<|.tup o) c).j->(W4.map (·.1))[a]?≠Z o)->
   wpAny (aR Wb D) O (Gq g (.ref e) (dN D<|.tup o) X fuel N) y U n
 |0,h,N,_,ch,H,_=>by
  refine absurd (H q ⋯) G
 |fuel+1,h,N,ci,ch,H,av=>by
  have cl:h<=q:=by
   rcases e4 q h with x|x
   ·exact absurd (H q x) G
   ·exact x
  have co:W4.length=Q.size:=by rw[<-dv,<-B,ba]
  have al:∀(a:Nat) (r:List V),(W4.map (·.1))[a]?=Z r->∃d f,Q[a]?=Z d/\d.2=.ref f/\d.1=dN D (.tup r)/\(eL Wb D).is n.heap r f:=λa r k=>by
   let⟨@x,bd,am⟩:=cm.mp (by rw[eB]at k;exact k);let⟨@f,l,s,z⟩:=S x (gO bd);subst am;refine⟨x.2,f,?_,l,s,P _ _ z⟩;rw[<-eQ,<-B,eB,bd];rfl
  unfold Gq;refine ar (k6 J hd w.fit ?_);dsimp only;rw[aN (by unfold aT.gaveWay;rw[mN];have:=w.bT.nu.pos;lia)];rw[ci];unfold aT.probe;let⟨@WG,f1,be,cr⟩:=DJ w.tab.rise w.tab.qF (λa=>(Q[a]?.map (·.1)).getD 0) (dN D<|.tup o) (10*aT.turns E.mask) h ⟨q,cl,⋯,G⟩;have iI:∀c,c<WG->(cw E.mask (dN D<|.tup o) c).j∈E.place.toList:=λc A=>by
   rcases e4 c h with x|x
   ·exact H c x
   ·let⟨@a,t,W⟩:=be c x A;rw[<-eQ]at t;exact gO t
  have bi:∀(a c:Nat),c<WG->E.place[a]?=Z (cw E.mask (dN D<|.tup o) c).j->(W4.map (·.1))[a]?≠Z o:=λa c A m k=>by
   rcases e4 c h with x|x
   ·exact av a c x m k
   ·let⟨@bm,t,C⟩:=be c x A;have:=CQ w.tab.rise m t;subst this;let⟨d,@f,l,z,s,an⟩:=al a o k;rw[l]at C;exact C s
  generalize bn:aT.probe.go E _ (dN D<|.tup o) _ (cw E.mask (dN D<|.tup o) h)=F;rcases cr with ⟨d,ap⟩|⟨a,d,am,I,f2⟩
  ·cases bn.symm.trans d;refine aL (a2 (λcs=>?_) WG ap iI);have db:=R.mem_iff.mpr cs;let⟨@a,V0⟩:=wJ db;let⟨d,@f,l,z,s,an⟩:=al a o V0;have u:a<Q.size:=(pa.mp l).1;have m:E.place[a]?=Z (E.place[a]'(by rw[w.size];exact u)):=i6 (by rw[w.size];exact u);have ds:(E.place[a]'(by rw[w.size];exact u),dN D<|.tup o)∈E.place.toList.zip (Q.toList.map (·.1)):=by
    refine gO (i:=a) ?_;rw[vb];refine⟨by rw[eQ];exact m,?_⟩;rw[eB,eQ,l,<-s];rfl
   let⟨@as,bs,dL⟩:=w.bT.ou _ ds;have eq:as<WG:=by
    rcases rS as WG with x|x|x
    ·exact x
    ·refine absurd ?_ ap;rw[<-x,bs];exact Array.getElem_mem_toList ..
    ·exact absurd (dL WG x) ap
   exact bi a as eq (by rw[m,bs]) V0
  ·cases bn.symm.trans d;have u:a<W4.length:=by rw[co,<-w.size];exact (pa.mp I).1
   have bv:(W4.map (·.1))[a]?=Z W4[a].1:=by rw[eB,dH u];rfl
   let⟨ev,@f,l,z,s,an⟩:=al a _ bv;dsimp only;refine Mn (λf4 r=>QO L (λv ex=>?_) r) ?_
   ·let⟨@fd,fn,rfl⟩:=cG.mp ex;have ca:fd∈Q.toList:=vS.mpr (Array.mem_filter.mp<|vS.mp fn).1;rw[<-B]at ca;let⟨@x,fr,rfl⟩:=cG.mp ca;let⟨@f0,WY,W,WW⟩:=S x fr;exact⟨f0,x.1,WY,P _ _ WW⟩
   ·let⟨f8,mL⟩:=ev;cases z;rw[l];dsimp only;refine ar (f6 ((eL Wb D).eqBool (show O.units+10<bS by lia) an L ?_));refine ar (k6 J hd w.fit ?_);by_cases k:W4[a].1=o
    ·rw[du k,aM<|show (X&&X)=X from rfl];exact aL (a1 (R.mem_iff.mp (by rw[<-k];exact uW (pv u))))
    ·rw[dQ k,aN ∅];dsimp only;rw[show E.sameMemory E.moves E.mask=Z X by unfold aT.sameMemory;rw[aM (ig _)]];dsimp only;rw[aM rfl,am];dsimp only;rw[l];dsimp only;refine ar (wpAny_isSame_ref_self<|ar<|aL ?_);rw[aM rfl];dsimp only;rw[aN dc];refine B5 cd J hd w L P B R S a1 a2 G ce fuel (WG+1) _ rfl ⋯ (λc A=>?_) λbm c A m=>?_
     ·rcases e4 c WG with x|x
      ·exact iI c x
      ·rw[show c=WG by lia];rw[<-eQ]at I;exact gO I
     ·rcases e4 c WG with x|x
      ·exact bi bm c x m
      ·rw[show c=WG by lia]at m;have:=CQ w.tab.rise m I;subst this;rw[bv];exact λd=>k (Option.some.inj d)
end
def hQ(M:List (List V))(o:List V):List (List V):=(if o∈M then M else M++[o])
section
variable{Wb:bJ}{D:bl}{Wd:List V->af->Prop}{O:bD}{U:ae->aq->Prop}{n:aq}
structure pk(D:bl)(Wd:List V->af->Prop)(Q:Array (Int×ae))(E:aT)(b:Bool)(M:List (List V))(u:Nat):Prop where
 p_:∃W4:List (List V×Int×ae),W4.map (·.2)=Q.toList/\(W4.map (·.1)).Perm M/\∀x∈W4,tO D Wd x
 tab:lu E b
 nu:iU E.mask
 len:E.place.size=Q.size
 le:∀i∈E.place.toList,i<=E.mask
 ou:∀s∈E.place.toList.zip (Q.toList.map (·.1)),lI E.mask (·∈E.place.toList) s.2 s.1
 ah:M.Nodup
 ho:Q.size=u+1
 EB:u*5<E.mask*3
def pk.d5(w:pk D Wd Q E b M u):E.fits Q.size=X:=by
 have:=w.EB;have:=w.nu.pos;unfold aT.fits aT.fill;rw[w.tab.qF,w.len,w.ho,cN,mN,k7];exact⟨rfl,by show u+1+0<=_;lia⟩
def pk.done(w:pk D Wd Q E b M u)(a:¬ ((u+1)*5 >= E.mask*3)):lA D Wd Q E b M:=
 ⟨w.p_,w.tab,⟨w.nu,by rw[w.len,ba,dv],by rw[w.len,w.ho];lia,w.le,w.ou⟩,w.ah⟩
def Dg{a:Array (Int×ae)}{WE:aT}(b:c.get? g=Z p)(hd:p.data=.set Q Wt E):
  (c.update g<|a9.putSet a WE).get? g=Z {p with data:=.set a (Wt+1) WE}:=by
 have:=jK (a9.putSet a WE) b (by rw[putSet_of a WE hd];rfl);rw[putSet_of a WE hd]at this;exact this
theorem Aw{Wr W9:Type}(I:Wr->W9)(H:List Wr)(k:List W9)(b:H.map I=k):∀is:List Nat,(is.filterMap (H[·]?)).map I=is.filterMap (k[·]?)
 |[]=>rfl
 |a::is=>by
  subst b;rw[rq,rq,eB];cases H[a]? with
  |none=>exact Aw I H _ rfl is
  |some e=>exact congrArg (I e::·) (Aw I H _ rfl is)
def Dj(H:List Wr):(range H.length).filterMap (H[·]?)=H:=by
 have:=DR H.toArray;simpa using this
def yC{Q e:Array (Int × ae)}{f:aT}{V3:Bool -> aq -> Prop}(m:n.heap.get? g=Z p)(o:p.ExactSet)(hd:p.data=.set Q Wt E)(z:Q.size=u)(l:u+1 <= 300)(w:pk D Wd e f b M u)(c : ∀T,aY.SameBut g n.heap T -> fJ D Wd T g b M -> V3 X {n with heap:=T}):
    wpAny (aR Wb D) O (do
        storeSet g e f
        if (!au&&f.tooFull)=X then do
            setRelay g (aT.grown<|Q.size+1)
            pure X
          else pure X) V3 U n:=by
  refine ar (BF m hd ?_ (by rw [w.ho]; exact dx l ∅));have i:=Dg (a:=e) (WE:=f) m hd;have q:=hv n.heap g (a9.putSet e f);have r:f.tooFull=decide ((u+1)*5 >= f.mask*3):=by
    unfold aT.tooFull aT.fill;rw [w.tab.qF,w.len,w.ho];rfl
  by_cases j:(u+1)*5 >= f.mask*3
  · rw [r,du j,aM<|show (!au&&X)=X from rfl]
    let@⟨A,B,C⟩:=U2 w.nu w.EB j l;unfold setRelay;refine ar (ar<|k6 i rfl w.d5 ?_);dsimp only;rw [z,aN (λx => absurd (eK x C) ∅)];let⟨WE, @h,F,s,G,H⟩:=Ue (E:=f) (Q:=e) (l:=aT.grown (u+1)) A (by rw [w.ho]; exact B) w.tab.led;rw [F];have t:(h.filterMap (e[·]?)).toList=h.toList.filterMap (e.toList[·]?):=by
      rw [zI];simp
    have I:(h.filterMap (e[·]?)).toList.Perm e.toList:=by
      rw [t];refine (s.filterMap _).trans ?_;rw [<-dv,Dj]
    have v:(h.filterMap (e[·]?)).size=e.size:=by rw [<-dv,I.length_eq,dv]
    refine ar (m:=if ((h.filterMap (e[·]?)).size != e.size)=X then _ else _) ?_;rw [v,aN ↥0];refine aL ?_;dsimp only;refine BF i rfl ?_ (by rw [v,w.ho]; exact dx l ∅);refine aL (c _ (q.trans<|hv _ g _) ⟨_,_,_,_,Dg i rfl,o,rfl, ?_,G,H,w.ah⟩);let⟨@W4,y,J,L⟩:=w.p_;refine ⟨h.toList.filterMap (W4[·]?), ?_, ?_,λx N => ?_⟩
    · rw [t]
      exact Aw (·.2) W4 _ y _
    · refine (List.Perm.map _ ?_).trans J
      refine (s.filterMap _).trans ?_;rw [show e.size=W4.length by rw [<-dv, <-y,ba],Dj]
    · let⟨@a,W,d⟩:=pY.mp N
      exact L x (gO d)
  · rw [r,dQ j,aN (show ¬ ((!au&&au)=X) from by decide)]
    refine aL (c _ q ⟨_,_,_,_,i,o,rfl,w.done j⟩)
def Gt{e:af}{y:Bool->aq->Prop}(L:O.units+20<bS)(We:fJ D Wd n.heap g b M)(u:(eL Wb D).is n.heap o e)(N:Wd o e)(P:∀r f,Wd r f->(eL Wb D).is n.heap r f)(R:M.length+1<=300)(c:∀f T,aY.SameBut g n.heap T->fJ D Wd T g b (hQ M o)->y f {n with heap:=T}):
  wpAny (aR Wb D) O (setAddHashed g (.ref e)<|dN D<|.tup o) y U n:=by
 let⟨p,Q,Wt,@E,k,s,hd,w⟩:=We;have bi:=w;let⟨@W4,C,F,G⟩:=w.p_;let⟨@bm,H,S⟩:=w.bT.some (dN D<|.tup o);have bn:=w.bT.nu.pos;unfold setAddHashed setAddHashedIn;refine f6 (ar<|k6 k hd w.fit ?_);dsimp only;rw[aN (show ¬ (byScan (ae.ref e) Q=X) from λx=>dc x)];unfold setSearch;refine ar (B5 L k hd w u P C F G (λt=>?_) (λt h I al=>?_) S H 100000 0 Y rfl (by unfold aT.turns at H;lia) (λam x=>absurd x<|l4 _) λa am x=>absurd x<|l4 _)
 ·refine aL ?_;have d:n={n with heap:=n.heap}:=by cases n;rfl
  rw[d];refine c _ _ (aY.SameBut.refl g n.heap) ?_;rw[hQ,aM t];exact⟨p,Q,Wt,E,k,s,hd,w⟩
 ·dsimp only;refine ar (k6 k hd w.fit ?_);dsimp only;let@⟨an,W2⟩:=w.bT.put (c:=dN D (.tup o)) I al;have ap:¬ (E.place[aT.below E.place (cw E.mask (dN D<|.tup o) h).j]?=Z (cw E.mask (dN D<|.tup o) h).j):=λx=>I (by rw[<-eQ]at x;exact gO x);have as:=w.tab.put ap;have v:∀f:Bool,pk D Wd (aT.insertAt Q (E.put (cw E.mask (dN D<|.tup o) h).j).2 (dN D<|.tup o,.ref e)) { (E.put (cw E.mask (dN D<|.tup o) h).j).1 with plain:=f} b (M++[o]) Q.size:=λf=>by
   have z:(aT.insertAt Q (E.put (cw E.mask (dN D<|.tup o) h).j).2 (dN D<|.tup o,ae.ref e)).toList=_:=A3 _ _ _;have a1:(E.put (cw E.mask (dN D<|.tup o) h).j).1.place.toList=_:=A3 _ _ _;have J:(aT.insertAt Q (E.put (cw E.mask (dN D<|.tup o) h).j).2 (dN D<|.tup o,ae.ref e)).size=Q.size+1:=by
    rw[<-dv,z,di,dj,gf,gH,dv];lia
   refine⟨⟨W4.take (E.put (cw E.mask (dN D<|.tup o) h).j).2++(o,dN D<|.tup o,.ref e)::W4.drop (E.put (cw E.mask (dN D<|.tup o) h).j).2,?_,?_,λx m=>?_⟩,as.Q_ f,w.bT.nu,?_,an,?_,?_,J,?_⟩
   ·rw[z,<-C,f_,b2,jB,jM]
   ·rw[f_,b2,jB,jM];refine List.perm_middle.trans ?_;rw[ff];exact (F.cons o).trans (dm (l₁:=[o]))
   ·rcases si.mp m with rfl|m
    ·exact⟨e,rfl,rfl,N⟩
    ·exact G x m
   ·show (E.put (cw E.mask (dN D<|.tup o) h).j).1.place.size=_;rw[J,<-dv,a1,di,dj,gf,gH,dv,w.size];lia
   ·rw[z,f_,b2,jB,jM];exact W2
   ·exact dJ.mpr ⟨w.ah,fC _ o,λl a2 x m=>by cases cP.mp m;exact λd=>t<|d ▸ a2⟩
   ·have:=w.bT.loose;rw[w.size]at this;exact this
  have A:∀T,aY.SameBut g n.heap T->fJ D Wd T g b (M++[o])->y X {n with heap:=T}:=λT bd be=>c X T bd (by rw[hQ,aN t];exact be);have B:Q.size+1<=300:=by rw[w.num];exact R
  split
  ·refine ar (Hs 8 (q:=.tup o) u.1 u.2 λf=>?_);cases f
   ·exact yC k s hd rfl B (v au) A
   ·exact yC k s hd rfl B (v _) A
  ·refine ar (aL ?_);exact yC k s hd rfl B (v _) A
end
def ip(D:bl):Bool:=(!D.params.followText "set-order")
def lO(b:Bool):a9:=({cls:=.type "set",dict:=Y,data:=.set #[] 0 (.fresh 0 0 b)})
def Ma:isSubtype (.type "tuple") (.type "set")=pure au:=by rw[sG];kernel_rfl
def Nw:isSubtype (.type "tuple") (.type "frozenset")=pure au:=by rw[sG];kernel_rfl
section
variable{Wb:bJ}{D:bl}{O:bD}{U:ae->aq->Prop}{n:aq}
def R_(g:ae){a:ae->aq->Prop}(c:a (.ref n.heap.objs.size) {n with heap:=n.heap.push (lO<|ip D)}):
  codeAny (aR Wb D) O (.call (.builtin "set.__new__") ⟨[.type "set",g],[]⟩) (wants a U) n:=by
 refine BN ?_;show wpAny _ O.in1 (do checkBuiltinCall "set.__new__" ⟨[.type "set",g],[]⟩;again (.builtin "set.__new__" ⟨[.type "set",g],[]⟩)) _ _ n;refine ar (qi (PySem.F.newCall_set_1 g)<|aL ⟨ma Co _,lJ PySem.F.entry_set_new ?_⟩);rw[mZ Co _];unfold a0.«set.__new__» a0.Frozenset.newClass;have b:=sub_set_self;let⟨d,F,q,WK,Wn⟩:=n;dsimp only
 wp_walk
 refine ya (aL ?_);dsimp only;simp only[newObj];refine ar (xp<|aL ?_);exact aL c
end
def rr:Slot "set_iterator" "__next__" "set_iterator.__next__" :=
 .of (owner := "set_iterator") (n := "__next__") (by rw[Cy,CV];kernel_rfl) (by decide +kernel) (by decide +kernel) (by decide +kernel)
  (by first|exact .inl (by decide +kernel)|exact .inr (by decide +kernel)) (by rw[sG];kernel_rfl)
def U5:ru sO "set_iterator.__next__" = Z a0.«set_iterator.__next__»:=entryFor_of_tree (by kernel_rfl)
def F3:Manifest.owners.lookup (String.ofList ['r','o','t','a','r','e','t','i','_','t','e','s'].reverse)=Z Manifest.sig_set_iterator:=by kernel_rfl
def Q5(g:ae):r6 "set_iterator.__next__" ⟨[g],[]⟩:=by
 unfold r6;rw[Gg (id := "set_iterator.__next__") (n:=['_','_','t','x','e','n','_','_']) (o:=['r','o','t','a','r','e','t','i','_','t','e','s']) (by kernel_rfl) F3];kernel_rfl
def RA:ru sO "set.__iter__" = Z a0.«frozenset.__iter__»:=
 JA (id' := "frozenset.__iter__") (by kernel_rfl) rfl (by decide +kernel) (by kernel_rfl)
def HW:Slot "set_iterator" "__iter__" "set_iterator.__iter__" :=
 .of (owner := "set_iterator") (n := "__iter__") (by rw[Cy,CV];kernel_rfl) (by decide +kernel) (by decide +kernel) (by decide +kernel)
  (by first|exact .inl (by decide +kernel)|exact .inr (by decide +kernel)) (by rw[sG];kernel_rfl)
def Pa(g:ae):r6 "set_iterator.__iter__" ⟨[g],[]⟩:=by
 unfold r6;rw[Gg (id := "set_iterator.__iter__") (n:=['_','_','r','e','t','i','_','_']) (o:=['r','o','t','a','r','e','t','i','_','t','e','s']) (by kernel_rfl) F3];kernel_rfl
def PF:ru sO "set_iterator.__iter__" = Z a0.«dict_keyiterator.__iter__»:=
 JA (id' := "dict_keyiterator.__iter__") (by kernel_rfl) (by first|rfl|decide +kernel|(unfold String.splitOn;simp +decide [String.splitOnAux])) (by decide +kernel) (by kernel_rfl)
def gC(c:aY)(A:af)(Xj:ae)(a:Nat)(We:af)(u Wt:Nat):Prop:=(∃p,c.get? A=Z p/\p.cls=.type "set_iterator" /\ p.data=.fields #[Xj,.int a 0,.ref We,.int u 0,.int Wt 0])
def ji(c:aY)(We:af)(Q:Array (Int×ae))(Wt:Nat)(E:aT):Prop:=(∃p,c.get? We=Z p/\p.ExactSet/\p.data=.set Q Wt E)
def gC.go(e:gC c A Xj a We u Wt)(o:∀p,c.get? A=Z p->T.get? A=Z p):gC T A Xj a We u Wt:=let ⟨p,d,m⟩:=e;⟨p,o p d,m⟩
def ji.go(e:ji c We Q Wt E)(o:∀p,c.get? We=Z p->T.get? We=Z p):ji T We Q Wt E:=let ⟨p,d,m⟩:=e;⟨p,o p d,m⟩
section
variable{Wb:bJ}{D:bl}{O:bD}{U:ae->aq->Prop}{n:aq}
def gC.ty(e:gC n.heap A Xj a We u Wt):n.TypeIs (.ref A) "set_iterator" := let ⟨p,d,h,_⟩:=e;⟨p,d,h⟩
def LM{aw:gu}{b:Source}{y:Nat->aq->Prop}(d:0<u)(c:∀a,a<u->y a {n with drawn:=n.drawn.bump b}):wpAny aw O (choose b u) y U n:=
 λ_ W W=>⟨hk d,c _<|ud _ d⟩
theorem zd{Wr:Type}:∀(H:List Wr) (a:Nat) (c:a<H.length),(H[a]::H.eraseIdx a).Perm H
 |e::z,0,_=>.refl _
 |e::z,a+1,c=>(List.Perm.swap e _ _).trans (List.Perm.cons e<|zd z a<|JB c)
theorem Dv{Wr:Type}{aw:gu}:∀(u:Nat) (z:List Wr) (n:aq) (y:List Wr->aq->Prop),z.length=u->(∀q Wm,List.Perm Wm z->y Wm {n with drawn:=q})->wpAny aw O (xT u z) y U n
 |0,z,n,y,b,c=>by
  have d:z=[]:=oC b;subst d;unfold xT;exact aL (c n.drawn [] .nil)
 |u+1,[],n,y,b,c=>by cases b
 |u+1,e::z,n,y,b,c=>by
  unfold xT;refine ar (LM (by rw[b];exact sX _) λa V0=>?_);have d:(e::z)[a]?=Z (e::z)[a]:=dH V0;rw[d];dsimp only;refine ar (Dv u _ _ _ (by rw[GL V0,b];rfl) λq Wm f=>?_);refine aL (c q _ ?_);refine (List.Perm.cons _ f).trans ?_;exact zd _ a V0
def wo(b:gC n.heap A Xj a We u Wt)(c:wpAny (aR Wb D) O.in1 (a0.«set_iterator.__next__» ⟨[.ref A],[]⟩) (λe V5=>∃v,e=.done (.ret v)/\y (Z v) V5) (λd V5=>wpAny (aR Wb D) O (do let f <-zv d (.type "StopIteration");if f=X then pure Y else throw d) y U V5) n):
  wpAny (aR Wb D) O (fg<|.ref A) y U n:=by
 unfold fg;refine ar (mV<|kl (name:=aI.ofString "__next__") b.ty rr<|gd rr b.ty U5 ?x<|Q5 _)
 case x=>
  refine gR c (λe V5 ⟨v,d,r⟩=>⟨v,d,aL r⟩) λd V5 r=>r
def uO{c:ae}{d:Nat}{y:Unit->aq->Prop}{o:Nat}(g:gC n.heap A Xj a We u Wt)(h:o<5)(i:(#[Xj,.int a 0,.ref We,.int u 0,.int Wt 0]:Array ae).setIfInBounds o e=#[c,.int d 0,.ref We,.int u 0,.int Wt 0])(r:∀T,gC T A c d We u Wt->aY.SameBut A n.heap T->y () {n with heap:=T}):wpAny (aR Wb D) O (qz (.ref A) o e) y U n:=by
 let⟨@p,f,j,b⟩:=g;refine ny f b h (r _ ⟨_,jK _ f<|xY<|qL b _,(AY ..).trans j,?_⟩<|hv ..);rw[qL b,i]
def IU(a:O.handled=Y)(r:∀T,aY.ExtBut A n.heap T->y Y {n with heap:=T}):
  wpAny (aR Wb D) O.in1 (nk (.type "StopIteration") [] >>= λe=>(raiseNew e:dr PySem.Fin)) (λb V5=>∃v,b=.done (.ret v)/\y (Z v) V5) (λd V5=>wpAny (aR Wb D) O (do let f <-zv d (.type "StopIteration");if f=X then pure Y else throw d) y U V5) n:=by
 apply ar;simp only[nk,sa];refine ar (fu (ar (m:=nt _ _) (qi (a:=ae.none) (by first|rfl|(simp only[nt];rfl)) (fu ?_ (by size_fits)))) (by size_fits));simp only[raiseNew];apply ar;apply vx;rw[show O.in1.handled=Y from a];refine ar (m:=pure _) (aL<|ue ?_);apply ar;refine pd (T := "StopIteration") (b:=X) ⟨_,c0 _ rfl,rfl⟩ uv ?_;exact aL (r _<|λf p W d=>b0 _<|b0 _ d)
def Dy{next:Nat}(b:gC n.heap A (.int Xl 0) a We u Wt)(d:ji n.heap We Q Wt E)(f:E.fits Q.size=X)(g:Q.size=u)(h:∀(c:Option (ae×Nat)->aq->Prop) (i:ae->aq->Prop),c (Z (e,next)) n->wpAny (aR Wb D) O.in1 (mD We Xl a Wt) c i n)(r:∀T,gC T A (.int next 0) (a+1) We u Wt->aY.SameBut A n.heap T->y (Z e) {n with heap:=T}):wpAny (aR Wb D) O (fg<|.ref A) y U n:=by
 refine wo b ?_;let⟨@p,j,B,l⟩:=id b;let⟨@F,m,G,o⟩:=d;unfold a0.«set_iterator.__next__»;refine ar (aL<|ar<|mO j l ?_);show wpAny _ _ (u5 We >>= _) _ _ _;refine ar (rl m o f ?_);dsimp only;rw[aN (by rw[g];simp)];refine ar (m:=mD We _ _ _) (h _ _ ?_);dsimp only;refine ar (uO (c:=.int next 0) (d:=a) b ∅ rfl λt v w=>?_);refine ar (uO (n:={n with heap:=t}) (c:=.int next 0) (d:=a+1) v ∅ rfl λC x z=>?_);exact aL ⟨_,rfl,r C x<|w.trans z⟩
def D2(i:O.handled=Y)(b:gC n.heap A (.int Xl 0) a We u Wt)(j:ji n.heap We Q Wt E)(l:E.fits Q.size=X)(m:Q.size=u)(o:∀(c:Option (ae×Nat)->aq->Prop) (q:ae->aq->Prop),c Y n->wpAny (aR Wb D) O.in1 (mD We Xl a Wt) c q n)(r:∀T,aY.ExtBut A n.heap T->y Y {n with heap:=T}):wpAny (aR Wb D) O (fg<|.ref A) y U n:=by
 refine wo b ?_;let⟨@p,e,w,g⟩:=id b;let⟨@x,s,z,t⟩:=j;unfold a0.«set_iterator.__next__»;refine ar (aL<|ar<|mO e g ?_);show wpAny _ _ (u5 We >>= _) _ _ _;refine ar (rl s t l ?_);dsimp only;rw[aN (by rw[m];simp)];refine ar (m:=mD We _ _ _) (o _ _ ?_);dsimp only;refine ar (ny e g (show 2<5 by decide) ?_);exact IU (A:=A) i λT v=>r T λf p h d=>v f p h ((hv ..).extBut f p h d)
def Kf{c:Nat}{WK:iL}{e:Int×ae}(b:gC n.heap A (.ref W5) a We u Wt)(h:ji n.heap We Q Wt E)(d:E.fits Q.size=X)(i:Q.size=u)(C:n.heap.get? W5=Z WJ)(WW:WJ.data=.seq bG Xk)(j:bG[a]?=Z (.int c WK))(k:Q[c]?=Z e)(r:∀T,gC T A (.ref W5) (a+1) We u Wt->aY.SameBut A n.heap T->y (Z e.2) {n with heap:=T}):wpAny (aR Wb D) O (fg<|.ref A) y U n:=by
 refine wo b ?_;let⟨@p,l,s,m⟩:=id b;let⟨@v,f,w,g⟩:=h;unfold a0.«set_iterator.__next__»;refine ar (aL<|ar<|mO l m ?_);show wpAny _ _ (u5 We >>= _) _ _ _;refine ar (rl f g d ?_);dsimp only;rw[aN (by rw[i];simp)];show wpAny _ _ (m3 (.ref W5) >>= _) _ _ _;refine ar (hT C WW ?_);dsimp only;rw[kb,j];dsimp only;show wpAny _ _ (setNextDrawn We _ _ >>= _) _ _ _;unfold setNextDrawn;refine ar (ar<|k6 f g d ?_);dsimp only;rw[aN ↥0,kb,k];dsimp only;refine aL ?_;refine ar (uO (c:=.ref W5) (d:=a+1) b ∅ rfl λt o q=>?_);exact aL ⟨_,rfl,r t o q⟩
def PS(e:O.handled=Y)(b:gC n.heap A (.ref W5) a We u Wt)(g:ji n.heap We Q Wt E)(h:E.fits Q.size=X)(i:Q.size=u)(C:n.heap.get? W5=Z WJ)(WW:WJ.data=.seq bG Xk)(j:bG[a]?=Y)(r:∀T,aY.ExtBut A n.heap T->y Y {n with heap:=T}):wpAny (aR Wb D) O (fg<|.ref A) y U n:=by
 refine wo b ?_;let⟨@p,k,z,l⟩:=id b;let⟨@B,m,F,o⟩:=g;unfold a0.«set_iterator.__next__»;refine ar (aL<|ar<|mO k l ?_);show wpAny _ _ (u5 We >>= _) _ _ _;refine ar (rl m o h ?_);dsimp only;rw[aN (by rw[i];simp)];show wpAny _ _ (m3 (.ref W5) >>= _) _ _ _;refine ar (hT C WW ?_);dsimp only;rw[kb,j];dsimp only;refine ar (uO (c:=.int 0 0) (d:=a) b ∅ rfl λt q s=>?_);let⟨@WN,v,I,w⟩:=q;refine ar (ny (s:={n with heap:=t}) v w (show 2<5 by decide) ?_);exact IU (A:=A) e λT x=>r T λf p c d=>x f p c ((hv ..).extBut f p c<|s.extBut f p c d)
end
def ja(val:Nat->List V):Nat->List (List V)
 |0=>[]
 |a+1=>hQ (ja val a) (val a)
def fJ.fresh(b:Bool):fJ D Wd (c.push<|lO b) c.objs.size b []:=
 ⟨_,#[],0,_,c0 _ rfl,⟨rfl,rfl,rfl⟩,rfl,⟨[],rfl,.nil,λx a=>(ka a).elim⟩,⟨List.Pairwise.nil,rfl,rfl⟩,⟨.inl rfl,rfl,show 0*5<7*3 by decide,λi d=>(ka d).elim,λs e=>(ka e).elim⟩,hu⟩
def fJ.at(We:fJ D Wd c g b M)(o:∀p,c.get? g=Z p->T.get? g=Z p):fJ D Wd T g b M:=by
 let⟨p,Q,Wt,@E,a,m⟩:=We;exact⟨p,Q,Wt,E,o p a,m⟩
section
variable{Wb:bJ}{D:bl}{Wd:List V->af->Prop}{O:bD}{U:ae->aq->Prop}{n:aq}
def Np{V3:ta->aq->Prop}{bI l:List af}{H:Nat->ae->Prop}{bg:Nat->aY->Prop}{i:aY}(be:O.units+25<bS)(W:jy Wb D O.in1 A bI l u H bg)(I:We∉bI)(val:Nat->List V)(P:∀a v,H a v->∃f,v=.ref f/\Wd (val a) f)(J:∀r f,Wd r f->(eL Wb D).is i r f)(g:∀f p,i.get? f=Z p->f∉l)(Q:∀L Wv k,i.get? We=Z L->L.data=.seq Wv k->False)(R:∀a,a<u->(ja val a).length+1<=300):
  ∀(o a:Nat) (n:aq),u-a=o->a<=u->tW i n.heap->bg a n.heap->fJ D Wd n.heap We b (ja val a)->
   (∀T WK,(∀f p,f≠We->f∉l->n.heap.get? f=Z p->T.get? f=Z p)->fJ D Wd T We b (ja val u)->V3 (.ok<|.ret .none) {n with heap:=T,toks:=WK})->
   codeAny (aR Wb D) O (.builtin "set.update.loop" ⟨[.ref We,.ref A],[]⟩) V3 n:=by
 have M:We∉l:=λc=>I (W.sub _ c);intro o;induction o with
 |zero=>
  intro a n S V0 V6 s w y;have U:a=u:=⋯
  subst U;refine lJ ER ?_;rw[mZ Bg _];show wpAny _ O.in1 (fg (.ref A) >>= _) _ _ n;refine ar (W.done n _ _ s λT WK h=>?_);show wpAny _ O.in1 (ret ae.none) _ _ _;exact aL (y T WK (λf p K g d=>h f p g d)<|w.at λp d=>h We p M d)
 |succ o al=>
  intro a n S V0 V6 s w y;have z:a<u:=⋯
  refine lJ ER ?_;rw[mZ Bg _];show wpAny _ O.in1 (fg (.ref A) >>= _) _ _ n;refine ar (W.item a n _ _ z s λv t bi am an h=>?_);let⟨@e,rfl,B⟩:=P a v am;have N:tW i t:=λf p Wv k j E m=>h f p (g f p j) (V6 f p Wv k j E m);have F:∀r f,Wd r f->(eL Wb D).is t r f:=λr f x=>⟨(J r f x).1,(J r f x).2.keep N⟩;show wpAny _ O.in1 (holding [ae.ref e] (setAdd We<|.ref e) >>= _) _ _ _;refine ar (f6 ?_);unfold setAdd;refine f6 ?_;refine ar ((eL Wb D).pyHash (k:=val a) (show O.units+1+10<bS by lia) (F _ _ B) ?_);refine Gt (n:={n with heap:=t,toks:=_}) (show O.units+1+20<bS by lia) (w.at λp d=>h We p M d) (F _ _ B) B F (R a z) λf C G ap=>?_;refine aL ⟨ma Bg _,al (a+1) _ ⋯ z (λf p Wv k j E m=>?_) (W.frame _ t C an λf q p d=>?_) ap λas a1 a2 bd=>?_⟩
  ·show C.get? f=Z p;rw[G.2 f (λc:f=We=>Q p Wv k (c ▸ j) m)];exact N f p Wv k j E m
  ·rw[G.2 f (λc:f=We=>I (by rw[<-c];exact q))];exact d
  ·refine y as a1 (λf p q g d=>a2 f p q g ?_) bd;show C.get? f=Z p;rw[G.2 f q];exact h f p g d
variable{y:ae->aq->Prop}
def Qd(s:O.handled=Y)(i:n.heap.get? H=Z p)(j:p.cls=.type "tuple")(l:p.data=.seq Wv G)(J:O.units+28<bS)(V0:∀a v,Wv[a]?=Z v->∃f,v=.ref f/\Wd (M.getD a []) f)(t:∀r f,Wd r f->(eL Wb D).is n.heap r f)(g:∀a,a<Wv.size->(ja (λa=>M.getD a []) a).length+1<=300)(u:H≠We)(h:n.heap.get? We=Z (lO b))(w:fJ D Wd n.heap We b [])(c:∀T WK,fJ D Wd T We b (ja (λa=>M.getD a []) Wv.size)->(∀f p,f≠We->n.heap.get? f=Z p->T.get? f=Z p)->y .none {n with heap:=T,toks:=WK}):
  wpAny (aR Wb D) O (a0.«set.__init__» ⟨[.ref We,.ref H],[]⟩) (λx V5=>∃m,x=.done (.ret m)/\y m V5) U n:=by
 let⟨N,P,Q,R⟩:=p;simp only at j l;subst j;subst l;have S:=Ma;have al:=Nw;have am:(ae.type "tuple" == ae.type "dict")=au:=by decide
 unfold lO at h;have o:n.heap.IsTuple H Wv:=⟨_,i,rfl,G,rfl⟩;unfold a0.«set.__init__» noKeywords a0.Frozenset.updateFrom;generalize z:my=jX
 wp_walk
 subst z;refine wpAny_pyIter_tuple o ?_;refine ar (HC ?_);have A:H<n.heap.objs.size:=b4 i;have B:We<n.heap.objs.size:=b4 h;have C:O.in1.handled=Y:=by simp[s]
 refine Np (b:=b) (Wd:=Wd) (i:=n.heap) (show O.units+25<bS by lia) (jy.tuple C _ H (dg A) Wv) ?_ (λa=>M.getD a []) V0 t ?_ ?_ g (Wv.size-0) 0 _ ⋯ (hj _) ?_ ⟨⟨_,c0 _ rfl,rfl,rfl⟩,?_⟩ ?_ λT WK E F=>?_
 ·simp only[b8,ka,m6,not_or];exact⟨dg B,λd=>u d.symm⟩
 ·intro f p d;rw[cP];exact dg (b4 d)
 ·intro L Wv k e q;rw[h]at e;cases e;cases q
 ·intro f p Wv k e q ap;exact b0 _ e
 ·let⟨@p,I,m⟩:=o;exact⟨p,b0 _ I,m⟩
 ·exact w.at λp d=>b0 _ d
 ·show wpAny _ _ _ _ _ _;refine aL ?_;show wpAny _ _ (ret ae.none) _ _ _;refine aL ⟨_,rfl,c T WK F λf p g d=>E f p g ?_<|b0 _ d⟩;rw[cP];exact dg (b4 d)
def N7(s:O.handled=Y)(j:n.heap.get? H=Z p)(u:p.cls=.type "tuple")(w:p.data=.seq Wv G)(L:O.units+30<bS)(V0:∀a v,Wv[a]?=Z v->∃f,v=.ref f/\Wd (M.getD a []) f)(k:∀r f,Wd r f->(eL Wb D).is n.heap r f)(z:∀a,a<Wv.size->(ja (λa=>M.getD a []) a).length+1<=300)(c:∀T WK,fJ D Wd T n.heap.objs.size (ip D) (ja (λa=>M.getD a []) Wv.size)->(∀f p,n.heap.get? f=Z p->T.get? f=Z p)->y (.ref n.heap.objs.size) {n with heap:=T,toks:=WK}):
  wpAny (aR Wb D) O (call (.type "set") [.ref H]) y U n:=by
 let⟨h,@Xx,N⟩:=mU.mro;have Q:=mU.made;have R:=mU.sub;refine wpAny_call (BN ?_);show wpAny _ _ (callAny (.type "set") _) _ _ _;refine aL ⟨Code.quiet_builtin _ (by decide +kernel),lJ F.entry_type_call ?_⟩;rw[bD.under_plain (weight_type_call_type "set" [.ref H] []) rfl];have t:=mU.notType;have C:=mU.canCreate;have S:=PySem.F.typeCall_set_1 (.ref H);repeat (any_goals (first|assumption|wp_step))
 refine rQ (R_ (.ref H) (U:=U) (a:=λl o=>l=.ref n.heap.objs.size/\o={n with heap:=n.heap.push (lO<|ip D)}) ⟨rfl,rfl⟩) λm o V9=>?_;cases m with
 |error d=>exact V9
 |ok aW=>
  cases aW with
  |ret l=>
   let@⟨rfl,rfl⟩:=V9;have q:(n.heap.push<|lO<|ip D).get? n.heap.objs.size=Z (lO<|ip D):=c0 _ rfl;have A:aq.TypeIs {n with heap:=n.heap.push (lO<|ip D)} (.ref n.heap.objs.size) "set" := ⟨_,q,rfl⟩;have am:=mU.init.lookup;have an:=mU.init.bind (.ref n.heap.objs.size);repeat (any_goals (first|assumption|wp_step))
   refine rQ (codeAny_call_builtin (R:=wants (λm b=>m=.none/\∃T WK,b={n with heap:=T,toks:=WK}/\
     fJ D Wd T n.heap.objs.size (ip D) (ja (λa=>M.getD a []) Wv.size)/\(∀f p,n.heap.get? f=Z p->T.get? f=Z p)) U) mU.init.plain PySem.F.entry_set_init<|check_set_init_1 A ?_) λB b e=>?_
   ·refine gR (Qd (n:={n with heap:=n.heap.push (lO<|ip D)}) (by simp[s]) (b0 _ j) u w (by show O.in1.in1.units+28<bS;show O.units+1+1+28<bS;omega) V0 (λr f x=>⟨(k r f x).1,(k r f x).2.keep λf p W W d W W=>b0 _ d⟩) z (dg<|b4 j) q (fJ.fresh _) (y:=λm b=>m=.none/\∃T WK,b={n with heap:=T,toks:=WK}/\
     fJ D Wd T n.heap.objs.size (ip D) (ja (λa=>M.getD a []) Wv.size)/\(∀f p,n.heap.get? f=Z p->T.get? f=Z p)) λT WK g E=>⟨rfl,T,WK,rfl,g,λf p d=>E f p (dg<|b4 d)<|b0 _ d⟩) (λap V5 i=>?_) λ_ W d=>d;let⟨@m,rfl,i⟩:=i;exact i
   ·cases B with
    |error d=>exact e
    |ok I=>
     cases I with
     |ret m=>
      let@⟨rfl,⟨T,@WK,rfl,g,J⟩⟩:=e;repeat (any_goals (first|assumption|wp_step))
      exact c _ _ g J
     |_=>exact e.elim
  |_=>exact V9.elim
end
section
variable{Wb:bJ}{D:bl}{O:bD}{U:ae->aq->Prop}{n:aq}
theorem Dp{Wr:Type}(next:Nat->Nat):∀(fuel o:Nat) (left:List Wr) (out:Array Wr),left.length=fuel->(jS.go next fuel o left out).toList.Perm (out.toList++left)
 |0,o,left,out,c=>by
  have d:left=[]:=oC c;subst d;unfold jS.go;rw[cF]
 |fuel+1,o,left,out,c=>by
  unfold jS.go;have V0:next o%left.length<left.length:=ud _ (by rw[c];exact sX _)
  rw[dH V0];dsimp only;refine (Dp next fuel (o+1) _ _ (by rw[GL V0,c];rfl)).trans ?_;rw[xk,bC];exact d9 _ (zd _ _ V0)
def OV(next:Nat->Nat)(z:Array Wr):(jS next z).toList.Perm z.toList:=Dp next z.size 0 z.toList #[] (by rw[dv])
def uP{y:Bool->aq->Prop}(c:y (D.params.followText "set-order") n):wpAny (aR Wb D) O setsByText y U n:=by
 unfold setsByText;exact ar (ya<|aL c)
variable{y:Option (ae×Nat)->aq->Prop}
def Gm(c:ji n.heap We Q Wt E)(d:E.fits Q.size=X)(f:D.params.followText "set-order" = au)(g:(!E.plain&&decide (Q.size>1))=au)(h:E.led=X)(j:aT.below E.place Xl=a)(r:y (match Q[a]?,E.place[a]? with|some (_,e),Z i=>Z (e,i+1)|_,_=>Y) n):wpAny (aR Wb D) O (mD We Xl F Wt) y U n:=by
 let⟨@p,l,o,m⟩:=c;unfold mD;refine ar (k6 l m d ?_);dsimp only;refine ar (uP ?_);rw[f,aN dc];show wpAny _ _ (if (!E.plain&&decide (Q.size>1))=X then _ else _) _ _ _;rw[g,aN dc];show wpAny _ _ ((if (!E.led && !Q.isEmpty)=X then (zP "set:maker-not-led" : dr Unit) else pure ()) >>= _) _ _ _;rw[h];refine ar (m:=pure ()) (aL ?_);rw[j];exact aL r
def C8(f:ji n.heap We Q Wt E)(a:E.fits Q.size=X)(b:D.params.followText "set-order" = X)(r:y (((jS (D.params.setOrder We Wt) Q)[F]?).map λd=>(d.2,Xl)) n):wpAny (aR Wb D) O (mD We Xl F Wt) y U n:=by
 let⟨@p,c,g,e⟩:=f;unfold mD;refine ar (k6 c e a ?_);dsimp only;refine ar (uP ?_);rw[b,aM rfl,aN ↥0];unfold setWalk;refine ar (ar<|k6 c e a ?_);dsimp only;refine ar (uP ?_);rw[b,aM rfl];exact ar (ya<|aL<|aL r)
def AF{y:ae->aq->Prop}(b:gC n.heap A Xj a We u Wt)(r:y (.ref A) n):wpAny (aR Wb D) O (my<|.ref A) y U n:=by
 refine u_ b.ty HW (gd HW b.ty PF ?_<|Pa _);show wpAny _ _ (ret<|.ref A) _ _ n;exact aL ⟨_,rfl,"set_iterator",_,b.ty,rr.lookup,r⟩
def xf(b:Array Nat):Nat->Nat
 |0=>0
 |a+1=>b.getD a 0+1
theorem Dk{b:Array Nat}(m:h2 b):∀{a:Nat},a<=b.size->aT.below b (xf b a)=a
 |0,_=>OX m
 |a+1,c=>by
  have d:b[a]?=Z (b.getD a 0):=by simp[Array.getD,show a<b.size from c]
  exact KY m d
def kG(Q:Array (Int×ae)):List ae:=(Q.toList.map (·.2))
def vh(Q:Array (Int×ae)):(kG Q).length=Q.size:=by rw[kG,ba,dv]
theorem MK(u:O.handled=Y)(ne:We≠A)(i:E.fits Q.size=X)(l:D.params.followText "set-order" = au)(q:(!E.plain&&decide (Q.size>1))=au)(s:E.led=X)(m:h2 E.place):
  jy Wb D O A [A,We] [A] (kG Q).length (λa v=>(kG Q)[a]?=Z v) (λa c=>gC c A (.int (xf E.place a) 0) a We Q.size Wt/\ji c We Q Wt E) where
 sub:=λf w=>by
  have:f=A:=by simpa using w
  simp[this]
 frame:=λa c T N o=>⟨N.1.go (o A ↥0),N.2.go (o We ↥0)⟩
 item:=λa n y U V0 N j=>by
  rw[vh]at V0;have x:E.place.size=Q.size:=by
   simp only[aT.fits,cN,mN]at i;exact i.1
  have t:Q[a]?=Z Q[a]:=i6 V0;have z:E.place[a]?=Z (E.place.getD a 0):=by simp[Array.getD,show a<E.place.size by lia]
  have B:(kG Q)[a]?=Z Q[a].2:=by rw[kG,eB,eQ,t];rfl
  refine Dy (next:=xf E.place (a+1)) (e:=Q[a].2) N.1 N.2 i rfl (λC F r=>Gm N.2 i l q s (Dk m ⋯) ?_) λT g f=>j _ T n.toks B ⟨g,N.2.go λp d=>f.extBut We p ne d⟩ λh p k d=>f.extBut h p ⇑k d;rw[t,z];exact r
 done:=λn y U N j=>by
  rw[vh]at N;have x:E.place.size=Q.size:=by
   simp only[aT.fits,cN,mN]at i;exact i.1
  refine D2 u N.1 N.2 i rfl (λC F r=>Gm N.2 i l q s (Dk m ⋯) ?_) λT f=>j T n.toks λh p k d=>f h p ⇑k d;rw[uY (bh _)];exact r
 self:=λa n y U N j=>AF N.1 j
theorem O4(m:O.handled=Y)(ne:We≠A)(i:E.fits Q.size=X)(k:D.params.followText "set-order" = X):
  jy Wb D O A [A,We] [A] (kG<|jS (D.params.setOrder We Wt) Q).length (λa v=>(kG<|jS (D.params.setOrder We Wt) Q)[a]?=Z v) (λa c=>gC c A (.int (0:Nat) 0) a We Q.size Wt/\ji c We Q Wt E) where
 sub:=λf q=>by
  have:f=A:=by simpa using q
  simp[this]
 frame:=λa c T N o=>⟨N.1.go (o A ↥0),N.2.go (o We ↥0)⟩
 item:=λa n y U V0 N b=>by
  rw[vh]at V0;have l:(jS (D.params.setOrder We Wt) Q)[a]?=Z (jS (D.params.setOrder We Wt) Q)[a]:=i6 V0;have s:(kG<|jS (D.params.setOrder We Wt) Q)[a]?=Z (jS (D.params.setOrder We Wt) Q)[a].2:=by rw[kG,eB,eQ,l];rfl
  refine Dy (next:=0) (e:=(jS (D.params.setOrder We Wt) Q)[a].2) N.1 N.2 i rfl (λt u r=>C8 N.2 i k ?_) λT g f=>b _ T n.toks s ⟨g,N.2.go λp d=>f.extBut We p ne d⟩ λh p j d=>f.extBut h p ⇑j d;rw[l];exact r
 done:=λn y U N b=>by
  rw[vh]at N;refine D2 m N.1 N.2 i rfl (λt u r=>C8 N.2 i k ?_) λT f=>b T n.toks λh p j d=>f h p ⇑j d;rw[uY (bh _)];exact r
 self:=λa n y U N b=>AF N.1 b
def nP(Wj:List Nat):List ae:=(Wj.map λ(a:Nat)=>dR a)
def lp(Q:Array (Int×ae))(Wj:List Nat):List ae:=(Wj.filterMap λa=>Q[a]?.map (·.2))
theorem BC{Q:Array (Int×ae)}:∀{Wj:List Nat},(∀s∈Wj,s<Q.size)->∀(a:Nat) (c:a<Wj.length),∃e,Q[Wj[a]]?=Z e/\(lp Q Wj)[a]?=Z e.2
 |[],_,a,c=>by cases c
 |s::Wj,b,a,c=>by
  have g:s<Q.size:=b s (.head _);have d:Q[s]?=Z Q[s]:=i6 g;have h:lp Q (s::Wj)=Q[s].2::lp Q Wj:=by rw[lp,rU (b:=Q[s].2) (by rw[d];rfl)];rfl
  rw[h];cases a with
  |zero=>exact⟨Q[s],d,rfl⟩
  |succ a=>
   let⟨@e,t,C⟩:=BC (λs c=>b s<|.tail _ c) a (JB c);exact⟨e,t,C⟩
theorem xt{Q:Array (Int×ae)}:∀{Wj:List Nat},(∀s∈Wj,s<Q.size)->(lp Q Wj).length=Wj.length
 |[],_=>rfl
 |s::Wj,a=>by
  have b:s<Q.size:=a s (.head _);have d:Q[s]?=Z Q[s]:=i6 b;rw[lp,rU (b:=Q[s].2) (by rw[d];rfl),dj,dj];exact congrArg (·+1) (xt λs c=>a s<|.tail _ c)
theorem OR(r:O.handled=Y)(ne:We≠A)(u:W5≠A)(q:E.fits Q.size=X)(j:∀s∈Wj,s<Q.size):
  jy Wb D O A [A,We,W5] [A] (lp Q Wj).length (λa v=>(lp Q Wj)[a]?=Z v) (λa c=>gC c A (.ref W5) a We Q.size Wt/\ji c We Q Wt E/\∃p,c.get? W5=Z p/\p.data=.seq (nP Wj).toArray Xk) where
 sub:=λf w=>by
  have:f=A:=by simpa using w
  simp[this]
 frame:=λa c T N o=>⟨N.1.go (o A ↥0),N.2.1.go (o We ↥0),let ⟨p,d,m⟩:=N.2.2;⟨p,o W5 ↥0 p d,m⟩⟩
 item:=λa n y U V0 N b=>by
  let@⟨k,i,⟨@p,d,m⟩⟩:=N;rw[xt j]at V0;let⟨@e,t,C⟩:=BC j a V0;refine Kf (e:=e) (c:=Wj[a]) (WK:=0) k i q rfl d m ?_ t λT g f=>b _ T n.toks C ⟨g,i.go λp d=>f.extBut We p ne d,p,f.extBut W5 p u d,m⟩ λh p l d=>f.extBut h p ⇑l d;rw[y_,nP,eB,dH V0];rfl
 done:=λn y U N b=>by
  let@⟨k,i,⟨@p,d,m⟩⟩:=N;refine PS r k i q rfl d m ?_ λT f=>b T n.toks λh p l d=>f h p ⇑l d;rw[y_,nP,eB,rY (by rw[xt j];exact bh _)];rfl
 self:=λa n y U N b=>AF N.1 b
end
section
variable{Wb:bJ}{D:bl}{O:bD}{U:ae->aq->Prop}{n:aq}
def Qg{m:af}{y:Bool->aq->Prop}(a:n.TypeIs (.ref m) "set")(c:y au n):wpAny (aR Wb D) O (a0.List.listLengthHint<|.ref m) y U n:=by
 unfold a0.List.listLengthHint;refine ar (o9 a PySem.F.slot_set_len.lookup ?_);generalize d:("set.__len__" : String)=e
 wp_delta
 rw[show splitId e=Z ("set","__len__") from by subst d;decide +kernel];subst d;refine ar (pd (T := "set") (b:=X) a (by rw[sG];kernel_rfl) ?_);refine yz (λb=>absurd b ∅) (λ_=>?_);refine yz (λ_=>?_) (λb=>absurd (by decide +kernel) b);refine ar (o7 a ?_);exact aL c
def Ss(b:Wj.Perm (range Q.size)):lp Q Wj=(Wj.filterMap λa=>Q[a]?).map (·.2)/\(Wj.filterMap λa=>Q[a]?).Perm Q.toList:=by
 refine⟨?_,(b.filterMap _).trans (by rw[DR])⟩;rw[It];rfl
end
def NT{I:Wr->W9}:∀{b H:List W9},b.Perm H->∀W4:List Wr,W4.map I=H->∃a:List Wr,a.Perm W4/\a.map I=b:=by
 intro b H s;induction s with
 |nil=>intro W4 d;cases List.map_eq_nil_iff.mp d;exact⟨[],.nil,rfl⟩
 |cons e s j=>
  intro W4 d;let⟨g,@m,rfl,rfl,c⟩:=xV.mp d;let⟨@a,h,W2⟩:=j m c;exact⟨g::a,h.cons g,by rw[b2,W2]⟩
 |swap e l H=>
  intro W4 d;let⟨g,@m,rfl,rfl,c⟩:=xV.mp d;let⟨f,@i,rfl,rfl,k⟩:=xV.mp c;exact⟨f::g::i,.swap g f i,by rw[b2,b2,k]⟩
 |trans h W2 n o=>
  intro W4 d;let⟨@p,q,r⟩:=o W4 d;let⟨@t,u,v⟩:=n p r;exact⟨t,u.trans q,v⟩
theorem EU{D:bl}{Wd:List V->af->Prop}:∀W4:List (List V×Int×ae),(∀x∈W4,tO D Wd x)->∃a:List (List V×af),W4.map (λx=>x.2.2)=a.map (λx=>ae.ref x.2)/\a.map (·.1)=W4.map (·.1)/\∀x∈a,Wd x.1 x.2
 |[],_=>⟨[],rfl,rfl,λ_ c=>(ka c).elim⟩
 |x::W4,c=>by
  let⟨@f,d,k,e⟩:=c x (.head _);let⟨@a,g,h,i⟩:=EU W4 λx j=>c x (.tail _ j);refine⟨(x.1,f)::a,by rw[b2,b2,g,d],by rw[b2,b2,h],λl b=>?_⟩;rcases b8.mp b with rfl|b
  ·exact e
  ·exact i l b
section
variable{Wb:bJ}{D:bl}{Wd:List V->af->Prop}{O:bD}{U:ae->aq->Prop}{n:aq}
def LP{y:ae->aq->Prop}(B:O.handled=Y)(T:fJ D Wd n.heap We (ip D) M)(C:M.length<=300)(c:∀(t:aY) (q:_) (A:af) (bI:List af) (V4:List ae) (e:List (List V×af)) (bg:Nat->aY->Prop),(∀f p,n.heap.get? f=Z p->t.get? f=Z p)->n.heap.objs.size<=A->(∀f∈bI,f=We\/n.heap.objs.size<=f)->
   jy Wb D O A bI [A] V4.length (λa v=>V4[a]?=Z v) bg->bg 0 t->V4=e.map (λx=>ae.ref x.2)->(e.map (·.1)).Perm M->(∀x∈e,Wd x.1 x.2)->y (.ref A) {n with heap:=t,drawn:=q}):
  wpAny (aR Wb D) O (my<|.ref We) y U n:=by
 let⟨p,Q,Wt,@E,h,G,o,w⟩:=T;have ty:n.TypeIs (.ref We) "set" := ⟨p,h,G.1⟩;have I:We<n.heap.objs.size:=b4 h;have al:Q.size<=sizeLine:=by rw[w.num];exact dx C ∅
 have J:∀H:List (Int×ae),H.Perm Q.toList->∃e:List (List V×af),H.map (·.2)=e.map (λx=>ae.ref x.2)/\(e.map (·.1)).Perm M/\∀x∈e,Wd x.1 x.2:=λH bG=>by
  let⟨@W4,am,an,ap⟩:=w.p_;let⟨@as,L,W2⟩:=NT bG W4 am;let⟨@e,i,j,l⟩:=EU (D:=D) (Wd:=Wd) as λx C=>ap x (L.mem_iff.mp C);refine⟨e,?_,?_,l⟩
  ·rw[<-W2,eU];exact i
  ·rw[j];exact (L.map _).trans an
 refine u_ ty Bx (gd Bx ty RA ?x<|PySem.F.args_set_iter_1 _)
 case x=>
  unfold a0.«frozenset.__iter__» a0.Frozenset.slot0 a0.Frozenset.addrOf a0.Frozenset.sizeOf;refine ar (ar<|aL<|aL ?_);refine ar (ar<|rl h o w.fit<|aL ?_);refine ar ?_;unfold setDrawn;refine ar (k6 h o w.fit ?_);dsimp only;refine ar (uP<|aL ?_);have a1:D.params.followText "set-order" = X\/(!E.plain&&decide (Q.size>1))=au->
    wpAny (aR Wb D) O.in1 (do let Wt <-setEpoch We;let m <-newFields "set_iterator" [dR 0,dR 0,.ref We,dR Q.size,dR Wt];ret m) (λa2 V5=>∃m,a2=PySem.Fin.done (.ret m)/\∃N r,V5.TypeIs m N/\typeLookup (.type N) "__next__" = pure (Z r)/\y m V5) U n:=by
   intro bd;refine ar (JG h o w.fit<|ar<|fu<|aL ⟨_,rfl,"set_iterator",_,⟨_,c0 _ rfl,rfl⟩,rr.lookup,?_⟩);have d6:∀f p,n.heap.get? f=Z p->(n.heap.push {cls:=.type "set_iterator",dict:=Y,data:=.fields [dR 0,dR 0,.ref We,dR Q.size,dR Wt].toArray}).get? f=Z p:=λf p d=>b0 _ d;have R:gC (n.heap.push {cls:=.type "set_iterator",dict:=Y,data:=.fields [dR 0,dR 0,.ref We,dR Q.size,dR Wt].toArray}) n.heap.objs.size (.int (0:Nat) 0) 0 We Q.size Wt:=⟨_,c0 _ rfl,rfl,rfl⟩;have S:ji (n.heap.push {cls:=.type "set_iterator",dict:=Y,data:=.fields [dR 0,dR 0,.ref We,dR Q.size,dR Wt].toArray}) We Q Wt E:=⟨p,d6 _ _ h,G,o⟩;have bI:∀f∈[n.heap.objs.size,We],f=We\/n.heap.objs.size<=f:=λf g=>by
    rcases b8.mp g with rfl|g
    ·exact .inr (bh _)
    ·exact .inl (cP.mp g)
   cases u:D.params.followText "set-order" with
   |true=>
    have z:=OV (D.params.setOrder We Wt) Q;let⟨@e,i,j,l⟩:=J _ z;exact c _ n.drawn _ _ _ _ _ d6 (bh _) bI (O4 B (dg I) w.fit u) ⟨R,S⟩ i j l
   |false=>
    have be:=bd.resolve_left (by rw[u];exact dc);let⟨@e,i,j,l⟩:=J _ (.refl _);exact c _ n.drawn _ _ _ _ _ d6 (bh _) bI (MK B (dg I) w.fit u be (by rw[w.tab.led,ip,u];rfl) w.tab.rise) ⟨R,S⟩ i j l
  show wpAny _ _ (if (!D.params.followText "set-order" && (!E.plain&&decide (Q.size>1)))=X then _ else _) _ _ _;cases hd:(!D.params.followText "set-order" && (!E.plain&&decide (Q.size>1))) with
  |false=>
   rw[aN dc];refine ar (m:=pure (dR 0)) (aL<|a1 ?_);cases u:D.params.followText "set-order" with
   |true=>exact .inl rfl
   |false=>rw[u]at hd;exact .inr hd
  |true=>
   rw[aM rfl];refine ar (Dv Q.size (range Q.size) n _ hA λq Wj z=>?_);have bi:∀s∈Wj,s<Q.size:=λs c=>eV.mp (z.mem_iff.mp c);have bm:Wj.length=Q.size:=by rw[z.length_eq,hA]
   refine ar (m:=newObj (.type "tuple") (.seq (nP Wj).toArray)) (fu ?_ (show (nP Wj).toArray.size<=sizeLine by rw[cR,nP,ba,bm];exact al));refine ar (JG (b0 _ h) o w.fit<|ar<|fu<|aL ⟨_,rfl,"set_iterator",_,⟨_,c0 _ rfl,rfl⟩,rr.lookup,?_⟩);let@⟨bn,bs⟩:=Ss z;let⟨@e,i,j,l⟩:=J _ bs;have eE:({n with heap:=n.heap.push {cls:=.type "tuple",dict:=Y,data:=.seq (nP Wj).toArray},drawn:=q}:aq).heap.objs.size=n.heap.objs.size+1:=gZ ..;refine c _ q _ [_,We,n.heap.objs.size] (lp Q Wj) e _ (λf p d=>b0 _<|b0 _ d) ?_ ?_ (OR (Wt:=Wt) (E:=E) (Xk:=0) B ?_ ?_ w.fit bi) ⟨⟨_,c0 _ rfl,rfl,rfl⟩,⟨p,b0 _<|b0 _ h,G,o⟩,⟨_,b0 _<|c0 _ rfl,rfl⟩⟩ (bn.trans i) j l
   ·exact oP (by rw[gZ];exact lY _)
   ·intro f g;rcases b8.mp g with rfl|g
    ·exact .inr (by rw[gZ];exact CZ _)
    ·rcases b8.mp g with rfl|g
     ·exact .inl rfl
     ·exact .inr (by rw[cP.mp g];exact bh _)
   ·rw[gZ];exact dg (zU I)
   ·rw[gZ];exact dg (lY _)
def UU{y:List ae->aq->Prop}(ap:O.handled=Y)(s:fJ D Wd n.heap We (ip D) M)(u:M.length<=300)(c:∀(T:aY) (WK:Nat) (q:_) (b:List (List V×af)),(∀f p,n.heap.get? f=Z p->T.get? f=Z p)->(b.map (·.1)).Perm M->(∀x∈b,Wd x.1 x.2)->y (b.map λx=>ae.ref x.2) {n with heap:=T,toks:=WK,drawn:=q}):
  wpAny (aR Wb D) O (collect<|.ref We) y U n:=by
 have v:We<n.heap.objs.size:=let ⟨_,_,_,_,d,_⟩:=s;b4 d
 unfold collect;refine ar (HC<|lJ entry_proto_collect' ?_);rw[mZ PySem.F.plain_proto_collect _];show wpAny _ O.in1 (qt [] >>= λH=>again<|.builtin "list.__iadd__" ⟨[H,.ref We],[]⟩) _ _ n;refine ar (fu ?_);refine aL ⟨ma DM _,lJ entry_list_iadd' ?_⟩;rw[mZ DM _];generalize w:n.heap.push {cls:=.type "list",dict:=Y,data:=.seq ([]:List ae).toArray}=Wc;have z:∀f p,n.heap.get? f=Z p->Wc.get? f=Z p:=λf p d=>by rw[<-w];exact b0 _ d
 have B:Wc.get? n.heap.objs.size=Z {cls:=.type "list",dict:=Y,data:=.seq #[]}:=by rw[<-w];exact c0 _ rfl
 have E:n.heap.objs.size<Wc.objs.size:=b4 B;have G:fJ D Wd Wc We (ip D) M:=s.at λp d=>z We p d;have ty:aq.TypeIs {n with heap:=Wc} (.ref We) "set" := let ⟨p,_,_,_,d,e,_⟩:=G;⟨p,d,e.1⟩
 show wpAny _ O.in1 (a0.List.listExtendWith (.ref n.heap.objs.size) (.ref We)<|.ref n.heap.objs.size) _ _ _;unfold a0.List.listExtendWith;refine ar (o7 (T := "set") ty ?_);have t:a0.List.listSameRef (.ref n.heap.objs.size) (.ref We)=au:=by simp[a0.List.listSameRef,hk v]
 have C:(ae.type "set" == ae.type "list")=au:=by decide
 have as:(ae.type "set" == ae.type "tuple")=au:=by decide
 simp only[t,C,as,Bool.or_false,g0,e9];refine ar (LP (n:={n with heap:=Wc}) ap G u λC q A bI V4 b bg WO eE a1 W N mL WT J=>?_);have a2:V4.length<=sizeLine:=by rw[mL,ba,<-ba (f:=(·.1)),WT.length_eq];exact dx u ∅
 have L:n.heap.objs.size∉bI:=λj=>by
  rcases a1 _ j with d|d
  ·exact absurd d (hk v)
  ·exact absurd E (qV.mpr d)
 have l:C.get? n.heap.objs.size=Z {cls:=.type "list",dict:=Y,data:=.seq #[]}:=WO _ _ B;have bd:aq.TypeIs {n with heap:=C,drawn:=q} (.ref We) "set" := let ⟨p,d,h⟩:=ty;⟨p,WO _ _ d,h⟩
 have R:∀(g:aY) (h:Nat) (V3:ta->aq->Prop),bg 0 g->(∀f p,f≠n.heap.objs.size->C.get? f=Z p->g.get? f=Z p)->g.get? n.heap.objs.size=Z {cls:=.type "list",dict:=Y,data:=.seq #[] h}->
   (∀(T:aY) (WK:Nat) (i:Nat),(∀f p,n.heap.get? f=Z p->T.get? f=Z p)->T.get? n.heap.objs.size=Z {cls:=.type "list",dict:=Y,data:=.seq V4.toArray i}->V3 (.ok<|.ret<|.ref n.heap.objs.size) {n with heap:=T,toks:=WK,drawn:=q})->
   codeAny (aR Wb D) O (.builtin "list.extend.loop" ⟨[.ref n.heap.objs.size,.ref A,.ref n.heap.objs.size],[]⟩) V3 {n with heap:=g,drawn:=q}:=λg h V3 N d6 be bi=>
  codeAny_extend_loopS W.toS a2 n.heap.objs.size L (.ref n.heap.objs.size) V4.length 0 _ #[] h rfl (hj _) N be (ItemsOf.nil _) λV5 WA i j Q S=>by
   rw[show V5={n with heap:=V5.heap,toks:=V5.toks,drawn:=q} from by let⟨P,bm,bn,bs,P⟩:=j;cases V5;cases bm;cases bn;cases bs;rfl];have bv:WA=V4.toArray:=by
    apply JI.mp;apply z5
    ·rw[dv];exact S.1
    ·intro a ca cd;have:=S.2 a WA.toList[a] (by rw[<-eQ];exact dH ca);have this:V4[a]?=Z WA.toList[a]:=this;rw[dH cd]at this;exact (Option.some.inj this).symm
   rw[bv]at Q;refine bi V5.heap V5.toks i (λf p d=>j.heap f p (λm=>?_)<|d6 f p (dg<|b4 d)<|WO f p<|z f p d) Q;rcases b8.mp m with ce|m
   ·exact absurd (b4 d) (by rw[ce];exact iN _)
   ·have al:=b4 d;rw[cP.mp m]at al;have:n.heap.objs.size<=A:=dx (oP E) eE;exact absurd al (qV.mpr this)
 refine ar (f6<|Qg (n:={n with heap:=C,drawn:=q}) bd ?_);refine yz (λ_=>?_) (λ_=>aL ⟨ma BW _,R _ 0 _ N (λf p P d=>d) l λT WK i o r=>ar (AJ r (aL (by rw[mL];exact c T WK q b o WT J)))⟩);refine ar (iZ ?_);refine ar ?_;show wpAny _ _ (tX n.heap.objs.size (·.push .none) >>= λ_=>tX n.heap.objs.size (·.pop)) _ _ _;refine ar (rh (s:={n with heap:=C,drawn:=q}) l rfl ?_);have am:=jK (a9.mapSeq (·.push ae.none)) l rfl;refine rh (hz:=by seq_fits) am rfl ?_;have ch:=jK (a9.mapSeq (·.pop)) am rfl;refine aL ⟨ma BW _,R _ _ _ ?_ (λf p k d=>?_) ch λT WK i o r=>ar (AJ r (aL (by rw[mL];exact c T WK q b o WT J)))⟩
 ·refine W.frame 0 _ _ N λf k p d=>?_;have an:f≠n.heap.objs.size:=λc=>L (c ▸ k);exact (iE _ _<|Ne.symm an).trans ((iE _ _<|Ne.symm an).trans d)
 ·exact (iE _ _<|Ne.symm k).trans ((iE _ _<|Ne.symm k).trans d)
end
end L2
namespace L2
open Spec PyProof.Rows PySem.W
section
variable{b:aQ}{G:List (af×a9)}{B:bg}{j:aC}{n:aq}
def aK.Lu(A:aK b G B j n)(q:Drawn):aK b G B j {n with drawn:=q}:=⟨A.ok,A.os,A.bare,A.base,A.loc,A.cell,A.free,A.jj,A.pin,A.a5,A.len⟩
end
variable{i Wk W2 s:Pos}{g:bu}{M:List (List V)}
def jR.perm{J Q:List V}(p:jR J)(s:Q.Perm J):jR Q:=
 ⟨⟨by rw[s.length_eq];exact p.ord.d5,λg a f b=>p.ord.h7 g (s.mem_iff.mp a) f<|s.mem_iff.mp b,s.nodup_iff.mpr p.ord.ah⟩,p.fst.imp (λc q hd=>c q<|s.mem_iff.mp hd) λc q hd=>c q<|s.mem_iff.mp hd⟩
theorem Ia{j:aC}:∀{a:List (List V×af)},(∀x∈a,cC j (.tup x.1)<|.ref x.2)->bM j ((a.map (·.1)).map .tup) (a.map λx=>ao.ref x.2)
 |[],_=>rfl
 |x::a,c=>⟨_,_,rfl,c x<|.head _,Ia λl b=>c l<|.tail _ b⟩
theorem yH:∀a:List (List V×af),bY (a.map λx=>ao.ref x.2) (a.map λx=>ae.ref x.2)
 |[]=>.nil
 |x::a=>.cons rfl (yH a)
section
variable{b:aQ}{G:List (af×a9)}{B:bg}{j:aC}{n:aq}{Wd:List V->af->Prop}
def Ug(ap:b.calm=X)(co:b.A.units+20<bS){We:af}{M:List (List V)}{y:cH}(A:aK b G B j n)(as:fJ b.w Wd n.heap We (ip b.w) M)(a1:∀o f,Wd o f->cC j (.tup o) (.ref f))(p:jR (M.map .tup))(z:M.length<=300)(r:∀H W4,j H=Y->bM j (e0 a7<|M.map .tup) W4->y (.ref H) (upd j H<|.lst W4)):
  wpAny (aR b.prog b.w) b.A (call (.builtin "sorted") [.ref We]) (en b G B y) b.cJ n:=by
 refine Ab Ad A8 yx (zF _) ?x
 case x=>
  unfold a0.«sorted»;refine ar (m:=yy "sorted" 1 1 _) (aL<|ar<|UU (O:=b.A.in1) (A.ok.hd ap) as z λT WK q g a2 WT bd=>?_);have E:aK b G B j {n with heap:=T,toks:=WK,drawn:=q}:=(A.Lu q).kept (WE:=WK) a2;have V0:bM j ((g.map (·.1)).map .tup) (g.map λx=>ao.ref x.2):=Ia λx z=>a1 _ _ (bd x z);have m:dP T ((g.map (·.1)).map .tup) (g.map λx=>ae.ref x.2):=V0.eY E.a5 (yH g);have F:((g.map (·.1)).map V.tup).Perm (M.map .tup):=WT.map _;have WJ:=p.perm F;have be:g.length<=300:=by rw[<-ba (f:=(·.1)),WT.length_eq];exact z
  generalize cr:(g.map (·.1)).map V.tup=J at V0 m F WJ;generalize bi:g.map (λx=>ao.ref x.2)=Wm at V0;have N:bY Wm (g.map λx=>ae.ref x.2):=bi ▸ yH g;generalize bm:g.map (λx=>ae.ref x.2)=Wg at m N ⊢;have S:Wg.length=J.length:=m.length.symm;have bn:Wg.length<=300:=by rw[<-bm,ba];exact be
  show wpAny _ _ (qt Wg >>= _) _ _ _;refine ar (wu ?_ (dx bn ∅));have U:(T.push<|fB "list" Wg.toArray 0).get? T.objs.size=Z (fB "list" Wg.toArray 0):=c0 _ rfl;refine ar (f6<|gd y4 ⟨_,U,rfl⟩ zx ?l<|AZ _)
  case l=>
   have P:∀h:aY,(∀f WI,f≠T.objs.size->(T.push<|fB "list" Wg.toArray 0).get? f=Z WI->h.get? f=Z WI)->∀f WI,T.get? f=Z WI->h.get? f=Z WI:=λh u f WI d=>u f WI (dg<|b4 d) (b0 _ d);refine zB (n:={n with heap:=T.push (fB "list" Wg.toArray 0),toks:=WK,drawn:=q}) (n7 J) (qp<|decide (∀q∈J,i8 q=X)) U (λC h u y bs=>zr (c:=h) (n:={n with heap:=h,toks:=WK,drawn:=q}) WJ.w C (m.qj<|P h u) _ _ y bs) (λh u=>?_) (.inl ⋯) ⋯ λs C i al WO ⟨bv,ca⟩=>⟨_,rfl,aL ⟨_,rfl,?_⟩⟩
   ·refine Bb (n:={n with heap:=h,toks:=WK,drawn:=q}) WJ.w.ord (m.qj<|P h u) WJ.w.tup (λcd=>hz cd) (by show b.A.units+1+1+9<bS;lia)
   ·have ce:j T.objs.size=Y:=E.a5.fresh (bh _);rw[S]at i al;have ch:(s.toList.map λa=>J.getD a .aV)=e0 a7 (M.map .tup):=xB p.w.ord ((wU i).trans F) (zO WJ.w.ord i al);have am:=V0.pick (s:=s.toList) λo Q=>eV.mp (i.mem_iff.mp Q);rw[ch]at am;refine⟨.ref T.objs.size,upd j T.objs.size<|.lst<|s.toList.map λa=>Wm.getD a .aV,?_,rfl,r _ _ ce am⟩;refine E.laid (WE:=WK) (λf L d=>P C WO f L d) (bh _) ⟨?_,_,bv,?_,ca⟩
    ·rw[ba,dv,i.size];exact dx (by lia:J.length<=300) ∅
    ·refine ur ↥0 λa v L t C=>?_;rw[eB]at t C;cases R:s.toList[a]? with
     |none=>rw[R]at t;cases t
     |some o=>
      rw[R]at t C;cases t;cases C;have Q:o<J.length:=eV.mp (i.mem_iff.mp<|gO R);have an:o<Wm.length:=by rw[N.length,S];exact Q
      let⟨@L,ci,cl⟩:=N.get (a:=o) (e:=Wm[o]) (dH an);show b5 (Wm.getD o .aV) (Wg.getD o .none);rw[cK,dH an,cK,ci];exact cl
def fV(M:List (List V)):List (List V):=(M.foldl hQ [])
theorem A5(M:List (List V)):∀a,a<=M.length->ja (λa=>M.getD a []) a=(M.take a).foldl hQ []
 |0,_=>by rw[vy];rfl
 |a+1,c=>by
  rw[List.take_succ_eq_append_getElem (show a<M.length from c),Aa,<-A5 M a (Nat.le_of_succ_le c)];show hQ _ (M.getD a [])=hQ _ M[a];rw[cK,dH<|show a<M.length from c];rfl
def Tf(H:List (List V)):∀(WA:List (List V)) (e:List V),e∈H.foldl hQ WA↔e∈WA\/e∈H:=by
 induction H with
 |nil=>intro WA e;simp
 |cons o m b=>
  intro WA e;rw[i5,b];unfold hQ;by_cases a:o∈WA
  ·rw[aM a,b8];constructor
   ·rintro (c|c)
    ·exact .inl c
    ·exact .inr (.inr c)
   ·rintro (c|c|c)
    ·exact .inl c
    ·exact .inl (c ▸ a)
    ·exact .inr c
  ·rw[aN a,c5,cP,b8,or_assoc]
def Mx{e:List V}:e∈fV M↔e∈M:=by
 rw[fV,Tf];simp
def U9(H:List (List V)):∀WA:List (List V),WA.Nodup->(H.foldl hQ WA).Nodup:=by
 induction H with
 |nil=>intro WA c;exact c
 |cons o m a=>
  intro WA c;refine a _ ?_;unfold hQ;split
  ·exact c
  ·next b=>exact dJ.mpr ⟨c,fC _ o,λe f l g=>by cases cP.mp g;exact λd=>b<|d ▸ f⟩
def Ti(M:List (List V)):(fV M).Nodup:=U9 M [] hu
def Ra(H:List (List V)):∀WA:List (List V),WA.length<=(H.foldl hQ WA).length:=by
 induction H with
 |nil=>intro WA;exact bh _
 |cons o m a=>
  intro WA;refine dx ?_ (a _);unfold hQ;split
  ·exact bh _
  ·rw[di];exact nf _ _
def Vf{a:Nat}(c:a<=M.length):(ja (λa=>M.getD a []) a).length<=(fV M).length:=by
 rw[A5 M a c];have d:fV M=(M.drop a).foldl hQ ((M.take a).foldl hQ []):=by
  rw[fV,<-Aa,ff]
 rw[d];exact Ra _ _
def Ms(M:List (List V)):ja (λa=>M.getD a []) M.length=fV M:=by
 rw[A5 M _ (bh _),oz];rfl
def SR(WZ:eZ):b6:=(λB j y=>WZ B j λV4 Wc=>∃(g:af) (M:List (List V)) (Wm:List ao),V4=[.ref g]/\Wc g=Z (.tup Wm)/\bM Wc (M.map .tup) Wm/\(∀o∈M,V.keys 7 o=X)/\jR ((fV M).map .tup)/\(fV M).length<300/\
 ∀H W4,Wc H=Y->bM Wc (e0 a7<|(fV M).map .tup) W4->y (.ref H) (upd Wc H<|.lst W4))
theorem bM.at{j:aC}:∀{J:List V}{V4:List ao}{a:Nat}{v:ao},bM j J V4->V4[a]?=Z v->∃q,J[a]?=Z q/\cC j q v
 |[],V4,a,v,c,d=>by rw[show V4=[] from c]at d;simp at d
 |q::J,V4,0,v,c,d=>by
  let⟨L,@m,rfl,t,C⟩:=c;cases d;exact⟨q,rfl,t⟩
 |q::J,V4,a+1,v,c,d=>by
  let⟨L,@m,rfl,t,C⟩:=c;let⟨@W3,b,e⟩:=bM.at (a:=a) C ⇑d;exact⟨W3,by simpa using b,e⟩
def MM(E:b.calm=X)(F:b.A.units+30<bS){H:af}{M:List (List V)}{Wm:List ao}{y:ae->aq->Prop}(A:aK b G B j n)(I:j H=Z (.tup Wm))(V0:bM j (M.map .tup) Wm)(J:∀o∈M,V.keys 7 o=X)(U:(fV M).length<300)(c:∀T WK We,aK b G B j {n with heap:=T,toks:=WK}->fJ b.w (λo f=>V.keys 7 o=X/\cC j (.tup o) (.ref f)) T We (ip b.w) (fV M)->y (.ref We) {n with heap:=T,toks:=WK}):
  wpAny (aR b.prog b.w) b.A (call (.type "set") [.ref H]) y b.cJ n:=by
 let@⟨x,⟨@Wg,d,⟨@p,N,P,⟨@u,Q⟩⟩⟩⟩:=A.a5 H _ I;have R:Wg.length=M.length:=by rw[<-d.length,<-V0.length,ba]
 have i:Wg.toArray.size=M.length:=by rw[cR,R]
 refine N7 (Wd:=λo f=>V.keys 7 o=X/\cC j (.tup o) (.ref f)) (Wv:=Wg.toArray) (M:=M) (A.ok.hd E) N (Prod.mk.inj P).1 Q F (λa v g=>?_) (λr f x=>⟨x.1,x.2.eY A.a5 rfl⟩) (λa V0=>?_) λT WK k d6=>?_
 ·rw[y_]at g;have l:a<Wm.length:=by rw[d.length];exact (fs.mp g).1
  let⟨@L,m,s⟩:=d.get (a:=a) (e:=Wm[a]) (dH l);rw[g]at m;cases m;let⟨@q,t,h⟩:=V0.at (a:=a) (v:=Wm[a]) (dH l);rw[eB]at t;let⟨@o,C,rfl⟩:=cm.mp t;let⟨f,@z,S,al,am⟩:=id h;rw[S]at s h;refine⟨f,s,?_⟩;rw[cK,C];exact⟨J o<|gO C,h⟩
 ·rw[i]at V0;have:=Vf (M:=M) (oP V0);lia
 ·rw[i,Ms]at k;exact c T WK _ (A.kept (WE:=WK) d6) k
def Lq{WZ:eZ}(a:b.calm=X)(d:b.A.units+30<bS)(e:fc b "sorted")(h:b.aJ "sorted" = Y)(k:fc b "set")(l:b.aJ "set" = Y)(m:hR b [g] WZ)(av:bV [g] b.env=[(au,cb g b.env)]:=by rfl):
  bP b (.Call (.Name "sorted" W2) [.Call (.Name "set" s) [g] [] Wk] [] i) (SR WZ):=by
 intro G n B j y A c;refine rx (nJ A e h (show fk "sorted" = Z (.builtin "sorted") by decide +kernel) (FQ ?_ rfl rfl) ∅ ∅);refine xZ ?_;refine Call_ (nJ A k l (show fk "set" = Z (.type "set") by decide +kernel)<|vP (bU (m Wk G n B j _ A c) λWl F ⟨V4,Wc,p,q,t⟩=>?_) av rfl);let⟨H,M,@Wm,rfl,u,V0,v,w,z,r⟩:=t;let⟨@L,rfl,C⟩:=ix q;cases C;exact MM a d p u V0 v z λT WK We D E=>zS (Ug a ⋯ D E (λo f x=>x.2) w ⋯ r)
end
def ps:List V->Option (List<|List V)
 |[]=>Z []
 |.tup g::m=>(ps m).map (g::·)
 |_=>Y
theorem BS:∀{e:List V}{M:List (List V)},ps e=Z M->e=M.map .tup
 |[],M,c=>by cases c;rfl
 |.tup g::m,M,c=>by
  let⟨@o,t,rfl⟩:=cm.mp c;rw[BS t];rfl
 |.aV::_,_,c=>by cases c
 |.aB _::_,_,c=>by cases c
 |.int _::_,_,c=>by cases c
 |.str _::_,_,c=>by cases c
 |.fn _::_,_,c=>by cases c
 |.aW _::_,_,c=>by cases c
 |.fd::_,_,c=>by cases c
theorem CF:∀M:List (List V),ps (M.map .tup)=Z M
 |[]=>rfl
 |o::M=>by
  show (ps<|M.map .tup).map (o::·)=_;rw[CF M];rfl
def wH(M:List (List V)):Bool:=(M.all (V.keys 7)&&decide ((fV M).length<300))
def vW(F:aw (List bK)):aw ak:=(λw=>(F w).bind λs=>(ha s.2 s.1).bind λJ=>match J with
 |[.im (.tup e)]=>(ps e).bind λM=>if wH M=X/\ti ((fV M).map .tup)=X then Z (.lst<|e0 a7<|(fV M).map .tup,s.2) else Y
 |_=>Y)
def Jb:wH M=X↔(∀o∈M,V.keys 7 o=X)/\(fV M).length<300:=by
 unfold wH;rw[cN,ml,k7]
section
variable{b:aQ}
def Uv{F:aw (List bK)}(o:b.A.units+30<bS)(q:fc b "sorted")(u:b.aJ "sorted" = Y)(x:fc b "set")(D:b.aJ "set" = Y)(c:fE b [g] F)(av:bV [g] b.env=[(au,cb g b.env)]:=by rfl)(E:b.calm=X:=by rfl):
  cg b (.Call (.Name "sorted" W2) [.Call (.Name "set" s) [g] [] Wk] [] i) (vW F):=by
 refine ey (Lq E o q u x D c av) λB j y G=>?_;let⟨w,P,m,@R,N,ah,I,r⟩:=G;let⟨@⟨Wn,V_⟩,t,C⟩:=bN.mp I;let⟨@J,L,h⟩:=bN.mp C;refine⟨w,P,Wn,V_,N,ah,t,λV4 Wc Wo an k Q S=>?_⟩;have T:=Q.read k L;split at h
 ·rename_i e;let⟨@M,U,l⟩:=bN.mp h;split at l
  ·rename_i n;cases l;let⟨@v,rfl,d⟩:=A9 T;let⟨f,@z,rfl,al,V0⟩:=(show ∃g z,v=ao.ref g/\Wc g=Z (.tup z)/\bM Wc e z from d);cases BS U;let@⟨WG,WO⟩:=Jb.mp n.1;refine⟨f,M,z,rfl,al,V0,WG,qC.mp n.2,WO,λH W4 aW am=>?_⟩;have a:c9 Wc (upd Wc H<|.lst W4):=(c9.refl Wc).upd aW;exact r _ _ Wo [H] (k.mono a.tupS λg W p d=>a g p d) ⟨H,_,rfl,fm,am.mono a.tupS.tup,rfl⟩ (S.new a (fC _ _) (λg c=>by rw[cP.mp c];exact aW) k.chg)
  ·cases l
 ·cases h
end
end L2
namespace L2
open Spec PyProof.Rows
variable{c W_ Xe:aw bK}{f g d:bu}{Q:List bu}{Wk s:Pos}{o u:Nat}{F:aw (List bK)}{WH:List Nat}{Ww Wj:List aI}{I:af}{N:cA}{Xc e:aI}{V2:Φ}{V7:c6}{Wq:g_}
def su:gs:=(λg f=>match g,f with
 |.im e,.im l=>if eH 6 e l=X then Z (.im<|.aB<|a7 e l) else Y
 |_,_=>Y)
section
variable{b:aQ}
def BP(o:b.A.units+20<bS):e_ b (d3 .Lt) su:=by
 intro G n B j e l v L y A c f g;let⟨WY,WW,@q,h,k,d,r⟩:=g;unfold su at d;split at d
 ·split at d
  ·rename_i m;cases d;exact ys 6 m ⋯ (h.i.eY A.a5 c) (k.i.eY A.a5 f) b.prog b.w _ _ ⟨.aB _,j,A,rfl,cc.i r rfl⟩
  ·cases d
 ·cases d
def Mw{own:List aI}{WD:List Nat}(c:wR b.env.scope b.N Wq WD=X):h4 b Wq own WD:=ly _ _ c rfl rfl
end
def r1:List (af×a9)->Bool
 |[]=>X
 | (_,p)::m=>(match p.data with
  |.seq _ _=>(match p.cls with | .type u=>u != "list" |_=>X)
  |_=>X)&&r1 m
def R8{V2:List (af×a9)}{g:af}{p:a9}{Wg:Array ae}(c:r1 V2=X)(d:V2.lookup g=Z p)(a:p.cls=.type "list")(hd:p.data=.seq Wg u):False:=by
 induction V2 with
 |nil=>cases d
 |cons s m b=>
  let⟨f,e⟩:=s;rw[r1,cN]at c;simp only[List.lookup]at d;split at d
  ·cases d;have t:=c.1;rw[hd]at t;dsimp only at t;rw[a]at t;exact absurd t ∅
  ·exact b c.2 d
theorem GB{j:aC}:∀Wi:List Int,bM j (Wi.map .int) (Wi.map ao.int)
 |[]=>rfl
 |u::m=>⟨.int u,_,rfl,rfl,GB m⟩
def Ur(a:r1 V2=X)(j:aC)(g:af)(Wi:List Int)(b:tS j)(e:dE V2 j g (Wi.map ao.int))(bT:∃E,V7 [.dY (Wi.map .int)]=Z (.im<|.aB X,E)){U:gv}:j4 1 V7 [.ref g] j (λv W=>v=.aB X) U:=by
 let⟨@E,bT⟩:=bT;have f:∃p,j g=Z (.cU p<|.lst<|Wi.map ao.int):=by
  rcases e with (c|c)|⟨p,Wg,u,t,C,k,h,_⟩
  ·rcases b g with d|⟨p,z,d⟩
   ·rw[d]at c;cases c
   ·rw[d]at c;cases c
  ·exact c
  ·exact (R8 a t C h).elim
 let⟨@p,i⟩:=f;refine⟨rfl,[.dY (Wi.map .int)],[],.im<|.aB X,E,⟨_,_,[],[],rfl,⟨g,_,p,rfl,i,GB Wi,rfl⟩,⟨rfl,rfl⟩,rfl⟩,hu,bT,λv V1 V3 l c W W=>?_⟩;exact c.1
def kF{Wl:List ae}(c:Wl.length=u+1):∃g m,Wl=g::m/\m.length=u:=by
 cases Wl with
 |nil=>cases c
 |cons g m=>exact⟨g,m,rfl,Nat.succ.inj c⟩
def gU.Qn{fd:gT}(P:gU V2 e Xc N I fd)(c:∀(cB i WT:ae) (k:Option af) (x cq:ae) (g:ae),la (Ξ e Xc (iJ N) (hh N) (d2 N) .none cB i WT k x cq) ⟨[g],[]⟩=pure (Wj.zip [g]))(b:Wj.length=1:=by rfl):iD V2 fd Wj []:=
 P.binds λcB i WT k x cq Wl a=>by
  replace a:=a.trans b;let⟨g,@d,rfl,t⟩:=kF a;obtain rfl:=oC t;exact c cB i WT k x cq g
def gU.RY{fd:gT}(P:gU V2 e Xc N I fd)(c:∀(cB i WT:ae) (k:Option af) (x cq:ae) (g f:ae),la (Ξ e Xc (iJ N) (hh N) (d2 N) .none cB i WT k x cq) ⟨[g,f],[]⟩=pure (Wj.zip [g,f]))(b:Wj.length=2:=by rfl):iD V2 fd Wj []:=
 P.binds λcB i WT k x cq Wl a=>by
  replace a:=a.trans b;let⟨g,@d,rfl,t⟩:=kF a;let⟨f,@h,rfl,C⟩:=kF t;obtain rfl:=oC C;exact c cB i WT k x cq g f
def gU.PA{fd:gT}(P:gU V2 e Xc N I fd)(c:∀(cB i WT:ae) (k:Option af) (x cq:ae) (g f h:ae),la (Ξ e Xc (iJ N) (hh N) (d2 N) .none cB i WT k x cq) ⟨[g,f,h],[]⟩=pure (Wj.zip [g,f,h]))(b:Wj.length=3:=by rfl):iD V2 fd Wj []:=
 P.binds λcB i WT k x cq Wl a=>by
  replace a:=a.trans b;let⟨g,@j,rfl,t⟩:=kF a;let⟨f,@l,rfl,C⟩:=kF t;let⟨h,@m,rfl,d⟩:=kF C;obtain rfl:=oC d;exact c cB i WT k x cq g f h
def gU.Lx{fd:gT}(P:gU V2 e Xc N I fd)(c:∀(cB i WT:ae) (k:Option af) (x cq:ae) (g f h q:ae),la (Ξ e Xc (iJ N) (hh N) (d2 N) .none cB i WT k x cq) ⟨[g,f,h,q],[]⟩=pure (Wj.zip [g,f,h,q]))(b:Wj.length=4:=by rfl):iD V2 fd Wj []:=
 P.binds λcB i WT k x cq Wl a=>by
  replace a:=a.trans b;let⟨g,@l,rfl,t⟩:=kF a;let⟨f,@m,rfl,C⟩:=kF t;let⟨h,@n,rfl,d⟩:=kF C;let⟨q,@o,rfl,j⟩:=kF d;obtain rfl:=oC j;exact c cB i WT k x cq g f h q
structure eM where
 P:bJ
 w:bl
 K:Φ
 aJ:aI->Option ae
 base:aY
def dA(V2:Φ)(e:aI)(N:cA)(I:af):Prop:=(∃fd,gU V2 e e N I fd/\Ψ V2 dZ e=Z (Z<|.ref I))
def dV(V2:Φ)(aJ:aI->Option ae)(e:aI)(N:cA)(I:af)(Wj:List aI):Prop:=(∃fd,gU V2 e e N I fd/\iD V2 fd Wj []/\aJ e=Z (.ref I))
def dB(Wd:bJ)(D:bl)(V2:Φ)(aJ:aI->Option ae)(Wh:aY)(o:Nat)(e:aI)(N:cA)(I:af)(Wj:List aI)(u:Nat)(V7:c6):Prop:=(∃fd,gU V2 e e N I fd/\iD V2 fd Wj []/\aJ e=Z (.ref I)/\h6 Wd D V2 aJ Wh ik o I fd Wj (j4 u V7))
abbrev e1(h:eM):=dB h.P h.w h.K h.aJ h.base
def Hf{t:ae}{M k:Option af}{w:Array (Option ae)}{cB i WT x cq:ae}(g:Ψ V2 dZ e=Z (Z<|.ref I))(H:V2.lookup I=Z ⟨t,M,.func<|Ξ e e (iJ N) (hh N) (d2 N) .none cB i WT k x cq,w⟩)(h:Δ V2 x e=X)(o:Θ V2 (.ref I)=X):dA V2 e N I:=⟨_,OC H h o,g⟩
section
variable{Wd:bJ}{D:bl}{V2:Φ}{aJ:aI->Option ae}{Wh c:aY}{o u:Nat}{e:aI}{N:cA}{I:af}{Wj:List aI}{V7:c6}
def dA.dd(m:dA V2 e N I)(b:V2.In c)(d:c.Ns dZ aJ)(f:∀(cB i WT:ae) (k:Option af) (x cq g:ae),la (Ξ e e (iJ N) (hh N) (d2 N) .none cB i WT k x cq) ⟨[g],[]⟩=pure (Wj.zip [g]):=by intros;rfl)(h:Wj.length=1:=by rfl):dV V2 aJ e N I Wj:=
 have ⟨_,a,g⟩:=m
 ⟨_,a,a.Qn f h,nE b d g⟩
def dA.dn(m:dA V2 e N I)(b:V2.In c)(d:c.Ns dZ aJ)(h:∀(cB i WT:ae) (k:Option af) (x cq g f:ae),la (Ξ e e (iJ N) (hh N) (d2 N) .none cB i WT k x cq) ⟨[g,f],[]⟩=pure (Wj.zip [g,f]):=by intros;rfl)(j:Wj.length=2:=by rfl):dV V2 aJ e N I Wj:=
 have ⟨_,a,g⟩:=m
 ⟨_,a,a.RY h j,nE b d g⟩
def dA.lE(m:dA V2 e N I)(b:V2.In c)(d:c.Ns dZ aJ)(j:∀(cB i WT:ae) (k:Option af) (x cq g f h:ae),la (Ξ e e (iJ N) (hh N) (d2 N) .none cB i WT k x cq) ⟨[g,f,h],[]⟩=pure (Wj.zip [g,f,h]):=by intros;rfl)(l:Wj.length=3:=by rfl):dV V2 aJ e N I Wj:=
 have ⟨_,a,g⟩:=m
 ⟨_,a,a.PA j l,nE b d g⟩
def dA.k1(m:dA V2 e N I)(b:V2.In c)(d:c.Ns dZ aJ)(j:∀(cB i WT:ae) (k:Option af) (x cq g f h q:ae),la (Ξ e e (iJ N) (hh N) (d2 N) .none cB i WT k x cq) ⟨[g,f,h,q],[]⟩=pure (Wj.zip [g,f,h,q]):=by intros;rfl)(l:Wj.length=4:=by rfl):dV V2 aJ e N I Wj:=
 have ⟨_,a,g⟩:=m
 ⟨_,a,a.Lx j l,nE b d g⟩
def dB.m(aO:dB Wd D V2 aJ Wh o e N I Wj u V7):aJ e=Z (.ref I):=have ⟨_,_,_,k,_⟩:=aO;k
def dB.fd{fd:gT}(aO:dB Wd D V2 aJ Wh o e N I Wj u V7)(b:gU V2 e e N I fd):h6 Wd D V2 aJ Wh ik o I fd Wj (j4 u V7):=by
 let⟨@f,c,W,W,F⟩:=aO;let⟨t,M,cB,i,WT,k,x,cq,@w,d,H,W⟩:=b.ex;let⟨g,h,j,l,m,n,p,q,@r,s,a,W⟩:=c.ex;rw[H]at a;cases a;exact F
def Na(m:dA V2 e N I)(b:V2.In c)(h:c.Ns dZ aJ){a:af}(j:aJ e=Z (.ref a)){s:aI}(l:∀(cB i WT:ae) (k:Option af) (x cq:ae) (n:aq) (v:ae),mB n (Ξ e e (iJ N) (hh N) (d2 N) .none cB i WT k x cq) ⟨[v],[]⟩ [(s,v)])(aO:∀Wh,dB Wd D V2 aJ Wh o e N I [s] u V7):
  ∃fd:gT,(∀(n:aq) (v:ae),mB n fd ⟨[v],[]⟩ [(s,v)])/\∀Wh:aY,V2.In Wh->Wh.Ns dZ aJ->h6 Wd D V2 aJ Wh ik o a fd [s] (j4 u V7):=by
 let⟨@fd,d,g⟩:=m;cases j.symm.trans (nE b h g);refine⟨fd,?_,λf U U=>(aO f).fd d⟩;let⟨t,M,cB,i,WT,k,x,cq,@w,rfl,H,U⟩:=d.ex;exact l cB i WT k x cq
def MO{F:bL}(P:dV V2 aJ e N I Wj)(We:o6 Ww Wj (d2 N))(c:Wj.length=u)(d:∀a∈WH,a<u)(g:Ww.Nodup->∀(x:ae) (O:bD) (W0:List eT) (n:aq) (j:aC) (U:gv),eP o (O.deeper<|jQ e (d2 N) n.heap.objs.size I x)->jI (lR ik Wd D V2 aJ Wh Ww e (d2 N) I x O W0 n j U).od WH (hh N) F):
  dB Wd D V2 aJ Wh (o+1) e N I Wj u (dk u Ww.length WH F):=
 have ⟨_,b,f,k⟩:=P
 ⟨_,b,f,k,PU b We c d<|g We.ah⟩
end
section
variable{b:aQ}
variable{k:Nat}
def Oc(aO:dB b.prog b.w b.K b.aJ b.base o e N I Wj u V7)(V9:eP k b.A)(a:fc b e)(c:fE b (d::Q) F)(g:o<=k:=by decide)(h:(e==("__debug__" : aI))=au:=by decide)(i:bV (d::Q) b.env=(au,cb d b.env)::bV Q b.env:=by rfl)(j:(fI Wk<|bV Q b.env).any (·.1)=au:=by rfl):
  cg b (.Call (.Name e s) (d::Q) [] Wk) (bc u V7 F):=
 have ⟨_,l,f,k,P⟩:=aO
 Qa P (V9.mono g) a k l.d6 f c h i j
def EX{a:Nat}{l:aI}(aO:dB b.prog b.w b.K b.aJ b.base o l N I Wj u V7)(V9:eP k b.A)(c:bP b (.Name e s) (kk a))(g:fE b (d::Q) F)(h:o<=k:=by decide)(i:bV (d::Q) b.env=(au,cb d b.env)::bV Q b.env:=by rfl)(j:(fI Wk<|bV Q b.env).any (·.1)=au:=by rfl):
  cg b (.Call (.Name e s) (d::Q) [] Wk) (r4 a I u V7 F):=
 have ⟨_,m,f,_,P⟩:=aO
 Nm P (V9.mono h) c m.d6 f g i j
def a3{a:Int}{i Wk}:dS b (.Constant (.int a) i Wk) (ab<|ay<|.int a):=aX h8
def aG(a:Nat){e:aI}{Wk:Pos}(c:b.N[a]?=Z e:=by rfl)(d:sq b.env.scope e:=by first|exact Or.inl rfl|exact Or.inr (Or.inl rfl)|exact Or.inr (Or.inr rfl))(hd:(e==("__debug__" : aI))=au:=by decide)(f:(e==("__classdict__" : aI))=au:=by decide):dS b (.Name e Wk) (aj a):=QQ (Cu c d hd f)
def bH{F:aw bK}(a:dS b d F)(av:bV [d] b.env=(au,cb d b.env)::bV [] b.env:=by rfl):fE b [d] (ai F aD):=nR a uU av
def ju(V9:eP k b.A)(a:dS b g Xe)(c:dS b f W_)(av:sj f:=by exact λ_ W=>rfl):cg b (.Subscript g f Wk) (aA bA Xe W_):=Vh (Qw (by have:=V9.un;lia)) a c av
def b9{I:bu}{F:aw bK}(a:dS b d F)(e:dS b I c)(av:bV [d,I] b.env=(au,cb d b.env)::bV [I] b.env:=by rfl)(C:bV [I] b.env=(au,cb I b.env)::bV [] b.env:=by rfl):fE b [d,I] (ai F<|ai c aD):=nR a (bH e C) av
def jg{I q:bu}{F o:aw bK}(a:dS b d F)(e:dS b I c)(hd:dS b q o)(av:bV [d,I,q] b.env=(au,cb d b.env)::bV [I,q] b.env:=by rfl)(t:bV [I,q] b.env=(au,cb I b.env)::bV [q] b.env:=by rfl)(C:bV [q] b.env=(au,cb q b.env)::bV [] b.env:=by rfl):fE b [d,I,q] (ai F<|ai c<|ai o aD):=nR a (b9 e hd t C) av
def es(a:Nat){e:aI}{d:bu}{F:aw ak}{Wk Xt:Pos}(c:b.N.Nodup)(f:cg b d F)(V0:b.N[a]?=Z e:=by rfl)(g:hy b.env.scope e:=by exact Or.inl rfl)(h:a∉WH:=by decide)(av:oR d (Z<|.Name e Xt) Wk.line b.env=pure au:=by rfl)(i:b.fn e=X\/b.env.scope.names.lookup e=Z .local:=by first|exact .inl rfl|exact .inr rfl|assumption):iy b WH (.Assign [.Name e Xt] d Wk) (cj a F):=mb c V0 g f h av i
def g6(a:Nat){e:aI}{Wk:Pos}(c:b.N.Nodup)(V0:b.N[a]?=Z e:=by rfl)(d:hy b.env.scope e:=by exact Or.inl rfl)(f:a∉WH:=by decide)(g:b.fn e=X\/b.env.scope.names.lookup e=Z .local:=by first|exact .inl rfl|exact .inr rfl|assumption):iq b WH (.Name e Wk) (bj a):=zD c V0 d f g
def tQ:List aI->Bool
 |[]=>X
 |e::H=>!H.contains e&&tQ H
theorem HP:∀{H:List aI},tQ H=X->H.Nodup
 |[],_=>hu
 |e::H,c=>by
  rw[tQ,cN,l1]at c;refine gb.mpr ⟨λx=>?_,HP c.2⟩;rw[List.contains_iff_mem.mpr x]at c;cases c.1
def ed(a:Nat){e:aI}{Wk:Pos}(V0:b.N[a]?=Z e:=by rfl)(c:tQ b.N=X:=by kernel_rfl)(d:hy b.env.scope e:=by exact Or.inl rfl)(f:a∉WH:=by decide)(g:b.fn e=X\/b.env.scope.names.lookup e=Z .local:=by first|exact .inl rfl|exact .inr rfl|assumption):iq b WH (.Name e Wk) (bj a):=zD (HP c) V0 d f g
def gB{WC Xa Xs:bu}(own:List aI)(WD:List Nat){D:i9}{l:fo}{Xz:aw ak}(V0:kW b WC Xa D)(c:∀a,iq (b.fT (fY b own WD) Wq a) (qO own.length WD.length) WC l)(d:∀a,cg (b.fT (fY b own WD) Wq a) Xs Xz)(We:wR b.env.scope b.N Wq WD=X:=by kernel_rfl)(f:b.calm=X:=by rfl)(ah:WD.Nodup:=by decide)(av:∀e,mI Xa b.env e=pure e:=by intro W;rfl):cg b (.ListComp Xs [⟨WC,Xa,[],0⟩] Wq Wk) (ck own.length WD D l c3 Xz):=
 n8 f (ly _ _ We rfl rfl) ah V0 c (λ_=>wi) d av
def lC{F c:fo}{a}(d:iq b WH g F)(e:iq b WH f c)(h:b.calm=X:=by rfl)(t:(fx [g,f] b.env).map (·.2)=hS g b.env::(fx [f] b.env).map (·.2):=by rfl)(C:(fx [f] b.env).map (·.2)=hS f b.env::(fx [] b.env).map (·.2):=by rfl)(i:(fx [g,f] b.env).length=2:=by rfl)(j:(fx [g,f] b.env).findIdx? (·.1)=Y:=by rfl):iq b WH (.Tuple [g,f] a Wk) (gj 2<|dT F<|dT c gF):=NG h (JR d (JR e Ko C) t) i j
def eD{id:String}{WR:List ak->Option ak}(a:hI b (.builtin id) WR)(c:b.aJ e=Y)(f:fk e=Z (.builtin id))(g:fE b (d::Q) F)(h:fc b e:=by rfl)(i:e ≠ "__name__" := by decide)(j:(e==("__debug__" : aI))=au:=by decide)(k:bV (d::Q) b.env=(au,cb d b.env)::bV Q b.env:=by rfl)(l:(fI Wk<|bV Q b.env).any (·.1)=au:=by rfl):
  cg b (.Call (.Name e s) (d::Q) [] Wk) (b7 WR F):=Pu a h c f g i j k l
def b3(aO:dB b.prog b.w b.K b.aJ b.base o e N I Wj u V7)(V9:eP k b.A)(a:fE b (d::Q) F)(c:fc b e:=by rfl)(f:o<=k:=by decide)(g:(e==("__debug__" : aI))=au:=by decide)(h:bV (d::Q) b.env=(au,cb d b.env)::bV Q b.env:=by rfl)(i:(fI Wk<|bV Q b.env).any (·.1)=au:=by rfl):
  cg b (.Call (.Name e s) (d::Q) [] Wk) (bc u V7 F):=Oc aO V9 c a f g h i
def dz(V9:eP k b.A)(a:dS b g Xe)(c:dS b f W_)(av:sj f:=by exact λ_ W=>rfl):dS b (.Subscript g f Wk) (ab<|aA bA Xe W_):=aX (ju V9 a c av)
def cS{WR:pZ}{I:ak->ak->Option ak}(a:e_ b (gh WR) I)(c:dS b g Xe)(d:dS b f W_):dS b (.BinOp g WR f Wk) (ab<|aA I Xe W_):=aX (kD a c d)
def jW{a}(c:fE b Q F):dS b (.Tuple Q a Wk) (ab<|cV F):=aX (gw c)
end
section
variable{Wd:bJ}{D:bl}{V2:Φ}{aJ:aI->Option ae}{Wh c:aY}{o u:Nat}{e:aI}{N:cA}{I:af}{Wj:List aI}{V7:c6}
def TN{Wd:List aI}{E:g_}(g:E.kind=.function:=by rfl)(f:E.isCoroutine=au:=by rfl)(h:E.isGenerator=au:=by rfl)(q:Ww.Nodup:=by decide +kernel)(d:Ww.take Wd.length=Wd:=by rfl)(I:∀e∈Wd,E.names.lookup e=Z .local\/E.names.lookup e=Z .cell:=by decide +kernel)(F:∀l∈E.names,l.2≠.free:=by decide +kernel):o6 Ww Wd E:=⟨g,f,h,q,d,I,F⟩
def eA{F:bL}(Ww:List aI)(P:dV V2 aJ e N I Wj)(b:Ww.Nodup->∀(x:ae) (O:bD) (W0:List eT) (n:aq) (j:aC) (U:gv),eP o (O.deeper<|jQ e (d2 N) n.heap.objs.size I x)->jI (lR ik Wd D V2 aJ Wh Ww e (d2 N) I x O W0 n j U).od WH (hh N) F)(We:o6 Ww Wj (d2 N):=by exact TN)(c:Wj.length=u:=by rfl)(d:∀a∈WH,a<u:=by decide):dB Wd D V2 aJ Wh (o+1) e N I Wj u (dk u Ww.length WH F):=MO P We c d b
end
end L2
namespace L2
open Spec PyProof.Rows PySem.W
end L2
namespace G
open L2
def TP:bL:=((cM<|hB<|fH (bO<|nr "int"<|aj 0)<|bO<|hB<|gy<|bO<|nr "bool"<|aj 0))
def v5:c6:=(dk 1 1 [0] TP)
def UM:bL:=((cM<|hB<|fH (bO<|nr "tuple"<|aj 0)<|fH (bO<|aA hL (ab<|b7 eS<|ai (aj 0) aD)<|ab<|ay<|.int 2)<|fH (bO<|bc 1 G.v5<|ai (ab<|aA bA (aj 0)<|ab<|ay<|.int 0) aD)<|bO<|bc 1 G.v5<|ai (ab<|aA bA (aj 0)<|ab<|ay<|.int 1) aD))
def nd:c6:=(dk 1 1 [0] UM)
def qM:bL:=((e6 (ay<|.aB X)<|hn 1 (dG 2) gJ))
def uc:bL:=((bx (cj 1 nx)<|bx (hC (ct<|aj 0) (bj 2) G.qM)<|cM<|dG 1))
def ia:c6:=(dk 1 3 [0] uc)
end G
namespace n1
variable{ao:Type}[DecidableEq ao]
variable{P:List ao}{b:ao->ao->Prop}{g f:ao}{I:ao->ao}{WU:List ao}{We:ao->Bool->Prop}
def ag(I:ao->ao):Nat->ao->ao
 |0,h=>h
 |u+1,h=>ag I u (I h)
end n1
namespace n1
variable{ao:Type}[DecidableEq ao]{P:List ao}{b:ao->ao->Prop}{g f:ao}{I F:ao->ao}{WU:List ao}
variable{o:Nat}{h q:Nat->ao}
end n1
namespace n1
variable{ao:Type}[DecidableEq ao]{P:List ao}{b:ao->ao->Prop}{g f:ao}{I F:ao->ao}{WU:List ao}
def Tj(I:ao->ao)(b:ao->ao->Prop)(s n:ao×Bool):Prop:=((s.2=au/\n=(I s.1,X))\/(s.2=X/\n.2=au/\(n.1=s.1\/b s.1 n.1)))
structure lZ(I:ao->ao)(b:ao->ao->Prop)(g:ao)(J:List ((ao×Bool)×Option (ao×Bool))):Prop where
 ah:(J.map (·.1)).Nodup
 par:∀(a:Nat) (n s:ao×Bool),J[a]?=Z (n,Z s)->∃i<a,∃r,J[i]?=Z (s,r)/\Tj I b s n
 root:∀(a:Nat) (n:ao×Bool),J[a]?=Z (n,Y)->n=(g,X)
variable{J:List ((ao×Bool)×Option (ao×Bool))}
end n1
namespace n1
variable{ao:Type}[DecidableEq ao]{P:List ao}{b:ao->ao->Prop}{g f:ao}{I F:ao->ao}{WU:List ao}
def rn(I:ao->ao)(H:ao)(u:Nat):List ao:=((range<|u+1).map λa=>ag I a H)
end n1
namespace G
open L2
variable{Wa:List (Int×Int)}{Wr:Type}{w:bb}
abbrev kj:=aS×Bool
def qQ{F:aw ak}{a:Nat}{V_:bb}{h b q:ak}{o:V}(d:F w=Z (.im o,w))(c:w[a]?=Z (Z h))(e:gJ h (.im o) q=Z b)(f:w.set a (Z b)=V_):hn a F gJ q w=Z V_:=by
 unfold hn;rw[c];show (F w).bind _=_;rw[d];show (match w[a]? with|some (Z h)=>(gJ h (.im o) q).map λb=>w.set a (Z b)|_=>Y)=_;rw[c];show (gJ h (.im o) q).map _=_;rw[e,<-f];rfl
def KU{u k:Nat}{WH:List Nat}{F:bL}{J E:List ak}(a:J.length=u)(d:F (J.map Z++List.replicate (k-u) Y)=Z (.bB,w))(b:jk WH J w 0=E):dk u k WH F J=Z (.im .aV,E):=by
 unfold dk;rw[aM a,d,<-b]
def kN{W9:Type}{F:Wr->W9}{H:List Wr}(inj:∀e∈H,∀l∈H,F e=F l->e=l)(ah:H.Nodup):(H.map F).Nodup:=by
 rw[DK,nz];exact ah.imp_of_mem λ{e l} a b c d=>c (inj e a l b d)
abbrev hE:=List aS
def ej(D:hE):V:=(.tup (D.map aH))
def Sg(a:List hE):Prop:=(a.Pairwise λg f=>a7 (ej g) (ej f)=X)
open Classical in
def L3(H:List aS)(h:aS):gp (.im<|aH h) (aE H)=Z (.im<|.aB<|!decide (h∈H)):=by
 show (hK (aH h)<|aE H).map (λm=>ak.im<|.aB<|!m)=_;rw[TX];rfl
def Vn(H:List aS)(h:aS):gp (.im<|aH h) (cI H)=Z (.im<|.aB<|!decide (h∈H)):=by
 show (hK (aH h)<|cI H).map (λm=>ak.im<|.aB<|!m)=_;rw[MZ];rfl
theorem GI{Wr:Type}(I:Wr->Bool):∀z:List Wr,nY (z.map λm=>.aB<|I m)=Z (z.map I)
 |[]=>rfl
 |e::z=>by
  show (nY<|z.map λm=>.aB<|I m).map _=_;rw[GI I z];rfl
def Af(I:Wr->Bool)(z:List Wr):kr [.lst (z.map λm=>.aB<|I m)]=Z (.im<|.aB<|z.all I):=by
 show (nY _).map _=_;rw[GI,Option.map_some,Eh];rfl
def Nr(D:hE):Bool:=((D.zip<|D.drop 1).all λs=>decide (s.2∈JD s.1))
theorem rp(z:List Wr):kr [.lst (z.map λ_=>.aB X)]=Z (.im<|.aB X):=(Af (λ_=>X) z).trans (by rw[ml.mpr λ_ W=>rfl])
def Au(D:hE):hE:=((D.drop 1).dropLast)
def Ht(Wa:List aS):eS [aE Wa]=Z (az (Wa.length:Int)):=by
 show Z (ak.im<|.int ((Wa.map aH).length:Int))=_;rw[ba]
abbrev hd(q n E:Int):ak:=.lst [.int q,.int n,.int E]
abbrev xg(f:Bool):ak:=.im (.aB f)
def hW(M:List (Int×Int))(h:Int×Int):List (Int×Int):=(if h∈M then M else M++[h])
def Ju(M:List (Int×Int))(h:Int×Int):jq (bw M) (cQ h) (.aB X)=bw (hW M h):=by
 unfold hW;by_cases c:h∈M
 ·rw[aM c];unfold jq;rw[aM (by rw[AE];simpa using c)];unfold bw;rw[eU];refine rL λe W=>?_;show (if cQ e=cQ h then (cQ e,V.aB X) else (cQ e,V.aB X))=_;split<;>rfl
 ·rw[aN c];exact O8 c
def iV(Wa:List (Int×Int)):Prop:=(Wa.Pairwise λg f=>a7 (aH g) (aH f)=X)
def GS{M:List (Int×Int)}(ah:M.Nodup)(a:M.length<=1000):∃Wa:List (Int×Int),e0 a7 (M.map aH)=Wa.map aH/\Wa.Perm M/\iV Wa:=by
 have p:=rA ah a;let⟨@Wa,t,C⟩:=Hp (jn<|M.map aH);refine⟨Wa,C,t,?_⟩;have:=rB p.ord.ah p.ord.h7;rw[C]at this;exact nz.mp this
abbrev xl:=Int×Int
theorem xo(a:Option ak):∀(Wa M:List xl) (WJ:Option ak),M.length+Wa.length<100000->∃b,ew (bj 2) qM (Wa.map aH) [a,Z<|.aF<|bw M,WJ]=Z (.bB,[a,Z<|.aF<|bw<|Wa.foldl hW M,b])
 |[],M,WJ,_=>⟨WJ,rfl⟩
 |h::Wa,M,WJ,c=>by
  have e:gJ (.aF<|bw M) (.im<|.tup<|cQ h) (xg X)=Z (.aF<|bw<|hW M h):=by
   rw[<-Ju];exact aM ⟨rfl,by unfold bw;rw[ba];rw[dj]at c;lia⟩
  have A:(hW M h).length<=M.length+1:=by
   unfold hW;split
   ·lia
   ·rw[di];exact bh _
  let⟨@b,f⟩:=xo a Wa (hW M h) (Z<|.im<|aH h) (by rw[dj]at c;lia);refine⟨b,?_⟩;have d:qM [a,Z<|.aF<|bw M,Z<|.im<|aH h]=Z (.bB,[a,Z<|.aF<|bw<|hW M h,Z<|.im<|aH h]):=by
   unfold qM;refine ir rfl ?_;show (gJ (.aF<|bw M) (.im<|.tup<|cQ h)<|xg X).map _=_;rw[e];rfl
  rw[b2,ew];show (qM [a,Z<|.aF<|bw M,Z<|.im<|aH h]).bind _=_;rw[d];exact f
def Ap(M:List xl)(h:xl):jF (.im<|aH h) (.aF<|bw M)=Z (xg<|decide (h∈M)):=by
 rw[<-Cb];rfl
def pJ(J:List V):Bool:=((J.zip<|J.drop 1).all λs=>a7 s.1 s.2)
def Ds(g f:Int×Int):eH 6 (aH g) (aH f)=X:=rfl
def QP:V->Bool
 |.int a=>decide (0<=a)&&decide (a<31)
 |_=>au
def Ut{g f h:Int×Int}(t:a7 (aH g) (aH f)=X)(C:a7 (aH f) (aH h)=X):a7 (aH g) (aH h)=X:=nT (Ds g f) (Ds f h) t C
theorem Ha:∀{Wa:List (Int×Int)},pJ (Wa.map aH)=X->iV Wa
 |[],_=>List.Pairwise.nil
 |[g],_=>fC _ _
 |g::f::m,c=>by
  have T:(a7 (aH g) (aH f)&&pJ ((f::m).map aH))=X:=c;rw[cN]at T;have b:=Ha T.2;refine e8.mpr ⟨λh a=>?_,b⟩;rcases b8.mp a with rfl|a
  ·exact T.1
  ·exact Ut T.1 ((e8.mp b).1 h a)
theorem HZ:∀{Wa:List (Int×Int)},iV Wa->pJ (Wa.map aH)=X
 |[],_=>rfl
 |[g],_=>rfl
 |g::f::m,c=>by
  have T:=e8.mp c;show (a7 (aH g) (aH f)&&pJ ((f::m).map aH))=X;rw[T.1 f (.head _),HZ T.2];rfl
def Iw(c:iV Wa):Wa.Nodup:=c.imp λ{g f} d x=>by rw[x,uk]at d;cases d
def B7(Wa:List (Int×Int)):∃a:List (Int×Int),fV (Wa.map cQ)=a.map cQ/\a.Nodup/\∀h,h∈a↔h∈Wa:=by
 have b:=λe=>Mx (M:=Wa.map cQ) (e:=e);have ah:=Ti (Wa.map cQ);have R:∀H:List (List V),(∀e∈H,e∈Wa.map cQ)->H=(H.map λe=>qs<|.tup e).map cQ:=λH=>by
  induction H with
  |nil=>intro W;rfl
  |cons e H i=>
   intro c;let⟨@h,W,rfl⟩:=cG.mp (c e<|.head _);rw[b2,b2,<-i λl j=>c l<|.tail _ j];rfl
 have d:=R _ λe k=>(b e).mp k;refine⟨_,d,?_,λh=>?_⟩
 ·rw[d]at ah;exact (nz.mp ah).imp λ{g f} c x=>c (by rw[x])
 ·have t:cQ h∈fV (Wa.map cQ)↔cQ h∈Wa.map cQ:=b (cQ h);rw[d]at t;have C:∀H:List (Int×Int),cQ h∈H.map cQ↔h∈H:=λH=>by
   constructor
   ·intro c;let⟨@q,hd,m⟩:=cG.mp c;rw[<-tV m];exact hd
   ·exact λc=>uW c
  rw[C,C]at t;exact t
theorem AK:∀Wa:List (Int×Int),V.keys 8 (Wa.map aH)=X
 |[]=>rfl
 |h::m=>by rw[b2,V.keys,AK m];rfl
def TK(m:Wa.length<=290):wH (Wa.map cQ)=X/\ti ((fV<|Wa.map cQ).map .tup)=X/\fG (Wa.map aH) (e0 a7<|(fV<|Wa.map cQ).map .tup)=pJ (Wa.map aH)/\V.dy 8 (e0 a7<|(fV<|Wa.map cQ).map .tup)=X:=by
 let⟨@a,d,ah,b⟩:=B7 Wa;have n:a.length<=Wa.length:=tp ah λe i=>(b e).mp i;have j:(a.map cQ).map V.tup=a.map aH:=by rw[eU];rfl
 let⟨@Q,c,q,k⟩:=GS ah ⋯;rw[d,j,c];refine⟨Jb.mpr ⟨λo l=>?_,by rw[d,ba];lia⟩,qC.mpr (rA ah ⋯),?_,tP Q⟩
 ·let⟨@h,W,rfl⟩:=cG.mp l;exact tT h
 ·rw[zG (AK Wa) (AK Q)];cases f:pJ (Wa.map aH) with
  |true=>
   have g:=Ha f;have WT:Wa.Perm a:=(HJ (Iw g) ah).mpr λh=>(b h).symm;have p:=rA ah ⋯;have:=Q7 p.ord (WT.map aH) (nz.mpr g);rw[c]at this;exact du this
  |false=>
   refine dQ λx=>?_;have:=HZ k;rw[<-x,f]at this;cases this
end G
namespace dt
def mL{Wr:Type}:List Wr->List Wr
 |[]=>[]
 |[g]=>[g]
 |g::_::m=>g::mL m
open Spec PyProof.Rows
end dt
namespace L2
open Spec PyProof.Rows
end L2
namespace G
open L2
end G
namespace L2
open Spec PySem.Calls PyProof.Rows
end L2
namespace L2
open Spec PyProof.Rows
section
open PySem.SeqAt
open PySem.AutoSeq1 (wpAny_loadPart')
open PySem.MeetsSeq PySem.MeetsSeq2 PySem.MeetsSeq3
end
end L2
namespace G
open L2
variable{b:List aS}
def w5:bL:=((bx (dK (bO<|aA hH (aj 1)<|ab<|b7 eS<|ai (aj 0) aD) (cM<|aA bA (aj 0)<|aj 1) ei)<|cM<|ay<|.int 0))
def r9:c6:=(dk 2 2 [0,1] w5)
def C9:bL:=((bx (cj 2<|bc 2 G.r9<|ai (aj 0)<|ai (aj 1) aD)<|bx (cj 3<|aA eR (ab<|aA eR (ab<|aA m9 (ab<|ay<|.int 10)<|ab<|ay<|.int 60)<|ab<|aA m9 (ab<|ay<|.int 10)<|ab<|ay<|.int 60)<|ab<|aA m9 (ab<|ay<|.int 10)<|ab<|ay<|.int 60)<|bx (cj 4<|aA f3 (ab<|aA eR (ab<|aA cD (ab<|aA cD (ab<|aA f3 (aj 2)<|ab<|ay<|.int 2147483629)<|ab<|aA eR (ab<|aA eR (ab<|ay<|.int 7919)<|aj 1)<|aj 1)<|ab<|ay<|.int 11)<|ab<|ay<|.int 48271)<|ab<|ay<|.int 2147483647)<|cM<|gr<|ai (ab<|aA eR (ab<|aA f3 (aj 2)<|aj 3)<|ab<|b7 vInt<|ai (ab<|aA HS (aj 2)<|ab<|aA m9 (ab<|ay<|.int 10)<|ab<|ay<|.int 18) aD)<|ai (aj 4)<|ai (ab<|ay<|.int 0) aD))
def qX:c6:=(dk 2 5 [0,1] C9)
def yE:bL:=((bx (dK (bO<|aA oK (ab<|aA bA (aj 0)<|ab<|ay<|.int 0)<|ab<|ay<|.int 0) (bx (cj 2<|aA f3 (ab<|aA bA (aj 0)<|ab<|ay<|.int 0)<|aj 1)<|bx (e6 (aA mA (ab<|aA bA (aj 0)<|ab<|ay<|.int 0)<|aj 1)<|hn 0 (ay<|.int 0) l7)<|cM<|dG 2) ei)<|bx (e6 (aA cD (ab<|aA bA (aj 0)<|ab<|ay<|.int 2)<|ab<|ay<|.int 1)<|hn 0 (ay<|.int 2) l7)<|bx (e6 (aA f3 (ab<|aA cD (ab<|aA cD (ab<|aA eR (ab<|aA bA (aj 0)<|ab<|ay<|.int 1)<|ab<|ay<|.int 48271)<|ab<|ay<|.int 12345)<|ab<|aA eR (ab<|ay<|.int 7919)<|ab<|aA bA (aj 0)<|ab<|ay<|.int 2)<|ab<|ay<|.int 2147483647)<|hn 0 (ay<|.int 1) l7)<|cM<|aA f3 (ab<|aA mA (ab<|aA f3 (ab<|aA eR (ab<|aA bA (aj 0)<|ab<|ay<|.int 1)<|ab<|aA bA (aj 0)<|ab<|ay<|.int 1)<|ab<|ay<|.int 1999999973)<|ab<|ay<|.int 31)<|aj 1))
def dD:c6:=(dk 2 3 [0,1] yE)
def yF(a:af):aw ak:=((r4 1 a 1 G.nd<|ai (aj 0) aD))
def EJ(a:af):aw ak:=((aA su (aj 0)<|aj 1))
def JW(a:af):bL:=((bx (dK (jd (gy<|hG<|ab<|nr "tuple"<|aj 0)<|gy<|hG<|ab<|b7 kr<|ai (ab<|ck 1 [1] (ct<|aj 0) (bj 0) c3<|G.yF a) aD) (cM<|ay<|.aB au) ei)<|cM<|b7 kr<|ai (ab<|ck 2 [] (oh<|ai (aj 0)<|ai (ab<|iW (aj 0) (ki<|ay<|.int 1) jE) aD) (gj 2<|dT (bj 0)<|dT (bj 1) gF) c3<|G.EJ a) aD))
def pz(a:af):c6:=(dk 2 2 [0,1] (JW a))
theorem JY{Wr:Type}{a:List Wr->Wr->List Wr}(c:∀H e,(e∈H->a H e=H)/\(e∉H->a H e=H++[e])):∀(H WA:List Wr),(H.foldl a WA).length<=WA.length+H.length
 |[],WA=>by rw[IA,iv];exact bh _
 |e::H,WA=>by
  rw[i5,dj];refine dx (JY c H<|a WA e) ?_;by_cases b:e∈WA
  ·rw[(c WA e).1 b];lia
  ·rw[(c WA e).2 b,di,gI];lia
theorem se{Wr:Type}{a:List Wr->Wr->List Wr}(c:∀H e,(e∈H->a H e=H)/\(e∉H->a H e=H++[e])):∀(H WA:List Wr) (e:Wr),e∈H.foldl a WA↔e∈WA\/e∈H
 |[],WA,e=>by rw[IA];simp
 |l::H,WA,e=>by
  rw[i5,se c H (a WA l) e];by_cases b:l∈WA
  ·rw[(c WA l).1 b,b8];refine⟨λd=>d.elim .inl λd=>.inr<|.inr d,λd=>?_⟩;rcases d with d|d|d
   ·exact .inl d
   ·exact .inl (d ▸ b)
   ·exact .inr d
  ·rw[(c WA l).2 b,c5,cP,b8,or_assoc]
theorem zR{Wr:Type}{a:List Wr->Wr->List Wr}(c:∀H e,(e∈H->a H e=H)/\(e∉H->a H e=H++[e])):∀(H WA:List Wr),WA.Nodup->(H.foldl a WA).Nodup
 |[],WA,ah=>ah
 |e::H,WA,ah=>by
  rw[i5];refine zR c H _ ?_;by_cases b:e∈WA
  ·rw[(c WA e).1 b];exact ah
  ·rw[(c WA e).2 b];exact dJ.mpr ⟨ah,fC _ _,λl f x g d=>by rw[cP.mp g]at d;exact b (d ▸ f)⟩
theorem v3{Wr:Type}{a:List Wr->Wr->List Wr}(c:∀H e,(e∈H->a H e=H)/\(e∉H->a H e=H++[e])):∀(H WA:List Wr),(WA++H).Nodup->H.foldl a WA=WA++H
 |[],WA,_=>(cF WA).symm
 |e::H,WA,ah=>by
  have b:e∉WA:=λx=>(dJ.mp ah).2.2 e x e (.head _) rfl;rw[i5,(c WA e).2 b,v3 c H (WA++[e]) (by rw[bC];exact ah),bC];rfl
def qc(H:List aS)(e:aS):(e∈H->hW H e=H)/\(e∉H->hW H e=H++[e]):=⟨λc=>aM c,λc=>aN c⟩
theorem AH{Wr:Type}{V3:Wr->Wr->Bool}(jL:∀e l x,V3 e l=X->V3 l x=X->V3 e x=X):∀H:List Wr,((H.zip<|H.drop 1).all λs=>V3 s.1 s.2)=X↔H.Pairwise λg f=>V3 g f=X
 |[]=>⟨λ_=>.nil,λ_=>rfl⟩
 |[e]=>⟨λ_=>fC _ _,λ_=>rfl⟩
 |e::l::m=>by
  have b:=AH jL (l::m);show (V3 e l&&((l::m).zip<|(l::m).drop 1).all λs=>V3 s.1 s.2)=X↔_;rw[cN,b];refine⟨λ⟨t,C⟩=>e8.mpr ⟨λx a=>?_,C⟩,λc=>⟨(e8.mp c).1 l (.head _),(e8.mp c).2⟩⟩;rcases b8.mp a with rfl|a
  ·exact t
  ·exact jL e l x t ((e8.mp C).1 x a)
def Md(e l x:aS)(t:a7 (aH e) (aH l)=X)(C:a7 (aH l) (aH x)=X):a7 (aH e) (aH x)=X:=nT (u:=6) rfl rfl t C
def Mf(g f:aS)(D:hE):Prop:=(∃k,D=g::(k++[f]))
structure Qu(g f:aS)(V6:List hE):Prop where
 ch:∀D∈V6,Nr D=X
 up:Sg V6
 lr:∀D∈V6,Mf g f D
 ah:(V6.flatMap Au).Nodup
 na:g∉V6.flatMap Au
 nb:f∉V6.flatMap Au
structure hN(aa:List aS)(g f:aS)(b:List aS)(V6:List hE):Prop where
 up:vQ b
 na:g∉b
 nb:f∉b
 VZ:¬ tK (aa.filter λh=>!decide (h∈b)) g f
 w:Qu g f V6
 n:V6.length=b.length
def PX(h:aS):nd [.im (aH h)]=Z (.im<|.aB X,[.im (aH h)]):=rfl
def D_{Wr:Type}(WS:Wr->V)(H:List Wr):g9 (H.map WS) (hq (H.map WS) (Z 1) Y)=(H.zip<|H.drop 1).map λs=>.tup [WS s.1,WS s.2]:=by
 rw[xy,show (1:Int)=((1:Nat):Int) from rfl,Jo,Di]
def NI{I:af}(d:b.length<=1000):pz I [aE b,.im<|.fn I]=Z (.im<|.aB<|(b.zip<|b.drop 1).all λs=>a7 (aH s.1)<|aH s.2,[aE b,.im<|.fn I]):=by
 have a:ck 1 [1] (ct<|aj 0) (bj 0) c3 (G.yF I) [Z (aE b),Z<|.im<|.fn I]=Z (.lst<|b.map λ_=>.aB X,[Z (aE b),Z<|.im<|.fn I]):=by
  refine e3 (z:=b.map aH) (p:=Y) (V_:=[Z (aE b),Z<|.im<|.fn I]) rfl (gL aH (λ_=>.aB X) _ (λh W=>?_) ⋯) rfl;refine⟨[Z (.im<|aH h),Z<|.im<|.fn I],_,[Z (.im<|aH h),Z<|.im<|.fn I],rfl,rfl,?_,rfl⟩;unfold yF;show (if I=I then _ else _)=_;rw[aM rfl];exact cW (Wn:=[.a4 0]) rfl rfl rfl (PX h) rfl
 have e:(b.zip<|b.drop 1).length<=1000:=by rw[wB];lia
 have c:ck 2 [] (oh<|ai (aj 0)<|ai (ab<|iW (aj 0) (ki<|ay<|.int 1) jE) aD) (gj 2<|dT (bj 0)<|dT (bj 1) gF) c3 (G.EJ I) [Z (aE b),Z<|.im<|.fn I]=Z (.lst<|(b.zip<|b.drop 1).map λs=>.aB<|a7 (aH s.1)<|aH s.2,[Z (aE b),Z<|.im<|.fn I]):=by
  refine e3 (z:=(b.zip<|b.drop 1).map λs=>.tup [aH s.1,aH s.2]) (p:=Y) (V_:=[Z (aE b),Z<|.im<|.fn I]) ?_ (gL (λs:aS×aS=>.tup [aH s.1,aH s.2]) (λs=>.aB<|a7 (aH s.1)<|aH s.2) _ (λs W=>?_) ⋯) rfl
  ·rw[<-D_];exact Gs (bR rfl<|bR (a8<|Al rfl rfl rfl rfl rfl) rfl) rfl
  ·exact⟨[Z (.im<|aH s.1),Z<|.im<|aH s.2],_,[Z (.im<|aH s.1),Z<|.im<|aH s.2],rfl,rfl,b_ rfl rfl rfl rfl rfl,rfl⟩
 unfold pz JW;exact eI (w:=[Z (aE b),Z<|.im<|.fn I]) rfl (bz (gm (o1 (V_:=[Z (aE b),Z<|.im<|.fn I]) rfl<|mh<|ni (a8<|dF (bR (a8 a) rfl) rfl<|rp b) rfl rfl) rfl)<|fh<|dF (bR (a8 c) rfl) rfl<|Af _ _) rfl
def Ry(c:b.length<10000):ia [aE b]=Z (.aF<|bw<|b.foldl hW [],[aE b]):=by
 let⟨p,a⟩:=xo (Z<|aE b) b [] Y (by show 0+_<_;lia);unfold ia uc;exact eI (w:=[Z (aE b),Z .cO,p]) rfl (bz (V_:=[Z (aE b),Z<|.aF [],Y]) rfl<|bz (jO (p:=Y) rfl a rfl) rfl) rfl
def QK(c:b.length<90000):ia [cI b]=Z (.aF<|bw<|b.foldl hW [],[cI b]):=by
 let⟨p,a⟩:=xo (Z .cO) b [] Y (by show 0+_<_;lia);unfold ia uc;exact eI (w:=[Z (cI b),Z .cO,p]) rfl (bz (V_:=[Z (cI b),Z<|.aF [],Y]) rfl<|bz (jO (p:=Z (0,cI b)) (V_:=[Z .cO,Z<|.aF [],Y]) rfl a rfl) rfl) rfl
def R3(M:List aS)(h:aS):gp (.im<|aH h) (.aF<|bw M)=Z (.im<|.aB<|!decide (h∈M)):=by
 show (hK (.tup<|cQ h)<|.aF<|bw M).map (λm=>ak.im<|.aB<|!m)=_;rw[zl,aM<|tT h,Cb];rfl
end G
namespace L2
open Spec PyProof.Rows PySem.W
section
variable{V2:Type}[DecidableEq V2]
def h_(z a:List (V2×af×ae)):List (V2×af×ae):=(a.foldl (λWA e=>lb WA e.1 e.2.1 e.2.2) z)
def Nk(z b:List (V2×af×ae))(a:Nat)(e:V2×af×ae)(c:b[a]?=Z e):h_ z (b.take<|a+1)=lb (h_ z<|b.take a) e.1 e.2.1 e.2.2:=by
 simp[h_,List.take_add_one,c,Aa]
def Qv(z:List (V2×af×ae))(o:V2)(g:af)(v:ae):(lb z o g v).length<=z.length+1:=by
 unfold lb;split
 ·rw[ba];lia
 ·rw[di,gI];exact bh _
def QE(z b:List (V2×af×ae)):(h_ z b).length<=z.length+b.length:=by
 induction b generalizing z with
 |nil=>exact bh _
 |cons a cx c=>
  have d:=c (lb z a.1 a.2.1 a.2.2);have e:=Qv z a.1 a.2.1 a.2.2;show (h_ (lb z a.1 a.2.1 a.2.2) cx).length<=_;rw[dj];lia
def Tx(WA b:List (V2×af×ae))(c:((WA++b).map (·.1)).Nodup):h_ WA b=WA++b:=by
 induction b generalizing WA with
 |nil=>simp[h_]
 |cons a cx d=>
  have e:k_ WA a.1=Y:=by
   refine u6 λi s f=>?_;rw[f_,b2,dJ]at c;exact c.2.2 a.1 (cG.mpr ⟨_,gO f,rfl⟩) a.1 lh rfl
  have:h_ WA (a::cx)=h_ (WA++[a]) cx:=by
   show h_ (lb WA a.1 a.2.1 a.2.2) cx=_;rw[wm e]
  rw[this,d (WA++[a]) ⇑c];simp
end
section
variable{Wb:bJ}{D:bl}{V2:Type}[DecidableEq V2]{b:HeapKind Wb D V2}{O:bD}{U:ae->aq->Prop}{n:aq}
variable{q:af}
def NU{g:af}{z:List (V2×af×ae)}{o:V2}{v:ae}{y:Unit->aq->Prop}(x:b.room O)(t:b.is n.heap o g)(A:n.heap.DictOfH b q z)(u:∀T,T.DictOfH b q (lb z o g v)->aY.SameBut q n.heap T->y () {n with heap:=T})(C:z.length<=sizeLine):
  wpAny (aR Wb D) O (uX q (.ref g) (b.hash o) v) y U n:=by
 let⟨p,Q,Wt,c,w,hd,h,r,f⟩:=A;unfold uX;try with_reducible refine f6 ?_
 refine ar (wpAny_dictFind_heap x t c hd h r f ?_ ?_)
 ·intro j;have B:o∉z.map (·.1):=not_mem_keys_of_get j;refine ar (iZ (wpAny_updateDictKeys (hz:=by have d:=pD h;lia) c hd<|u _ ⟨_,_,Wt+1,jK _ c<|y2<|vf hd _,
   w.mapDictKeys _,vf hd _,?_,?_,?_⟩<|hv ..))
  ·rw[wm (u6 j)];simp[h,mz]
  ·rw[wm (u6 j)];intro e a;rcases c5.mp a with a|a
   ·exact b.keeps (r e a) c hd (hv ..)
   ·simp only[cP]at a;subst a;exact b.keeps t c hd (hv ..)
  ·rw[wm (u6 j)];rw[f_,dJ];refine⟨f,by simp,?_⟩;intro e a l k;simp only[b2,zq,cP]at k;subst k;exact λd=>B (d ▸ a)
 ·intro i s m;refine ar (iZ<|ar<|wpAny_updateDict c hd<|wpAny_point<|u _ ⟨_,_,Wt,jK _ c<|y2<|D0 hd _,
   w.mapDict _,D0 hd _,?_,?_,?_⟩<|hv ..)
  ·rw[AA (xN f m)];have:=modify_map_putAt (mz b) (λd:nM=>{d with val:=v}) o v (λ_ W=>rfl) f m;rw[<-h]at this;let⟨H⟩:=Q;simpa using this
  ·rw[AA (xN f m)];intro e a;let⟨l,k,rfl⟩:=cG.mp a;unfold putAt;split<;>exact b.keeps (r l k) c hd (hv ..)
  ·rw[AA (xN f m)];rw[keys_map_putAt];exact f
def Ks{z:List (V2×af×ae)}{Q:Array nM}(g:Q.toList=z.map (mz b))(f:(z.map λe=>b.hash e.1).Nodup)(d:nM)(k:d∈Q):¬ (Q.filter (·.hash==d.hash)).size>1:=by
 have h:(Q.filter (·.hash==d.hash)).size=((Q.toList.filter (·.hash==d.hash)).map (·.hash)).length:=by
  rw[ba,<-Array.toList_filter,dv]
 have i:(Q.toList.map (·.hash))=z.map λe=>b.hash e.1:=by
  rw[g,eU];rfl
 have ah:((Q.toList.filter (·.hash==d.hash)).map (·.hash)).Nodup:=Lh ((s6).map _) (i ▸ f);have a:∀c∈(Q.toList.filter (·.hash==d.hash)).map (·.hash),c=d.hash:=λc f=>by
  let⟨e,j,rfl⟩:=cG.mp f;exact mN.mp (jw.mp j).2
 rw[h];generalize (Q.toList.filter (·.hash==d.hash)).map (·.hash)=H at ah a
 match H,ah,a with
 |[],_,_=>simp
 |[_],_,_=>simp
 |e::l::m,ah,a=>
  have t:=(gb.mp ah).1;rw[a e (.head _),<-a l (.tail _<|.head _)]at t;exact absurd (.head _) t
def L9{w:String}{p:af}{Wf g:List (V2 × af × ae)}{y:Unit -> aq -> Prop}(ap:b.room O)(G:q ≠ p)(as:(p==ie)=au)(hd:n.heap.DictOfH b q Wf)(a1:n.heap.DictOfH b p g)(a2:(g.map λe => b.hash e.1).Nodup)(bd : ∀e ∈ g, ∀(I:Bool -> aq -> Prop),I au n -> wpAny (aR Wb D) O (a0.Dict.quietEq<|.ref e.2.1) I U n)(r : ∀T,T.DictOfH b q (h_ Wf g) -> aY.SameBut q n.heap T -> y () {n with heap:=T})(be:Wf.length+g.length <= sizeLine):
    wpAny (aR Wb D) O (a0.Dict.mergeDict w q p) y U n:=by
  let⟨M,bi,bm,l,bn,j,bs,ex,fd⟩:=id hd;let⟨J,h,fn,m,fr,k,o,L,N⟩:=id a1;unfold a0.Dict.mergeDict;rw [aN ⇑G];unfold a0.Dict.showsAll;rw [aN (by rw [as]; exact dc)];refine ar (aL ?_);refine ar (kg m k ?_);have x:g.length=h.size:=by rw [pD o]
  have P:wpAny (aR Wb D) O (do
      let bv <-dictEpoch p
      let H <-dictEntries p
      forIn [:H.size] PUnit.unit λa (_:PUnit) => (do
          let ca <-dictEntries p
          match ca[a]? with
            |some d => do
              holding [d.key,d.val] (uX q d.key d.hash d.val)
              let cd <-dictEpoch p
              if (cd != bv)=X then do
                  (zP (toString w ++ toString ":source-changed-during-callback"):dr PUnit)
                  pure (ForInStep.yield PUnit.unit)
                else pure (ForInStep.yield PUnit.unit)
            |_ => do
              (zP "internal:dict-merge" : dr PUnit)
              pure (ForInStep.yield PUnit.unit):dr (ForInStep PUnit))
      pure ()) y U n:=by
    refine ar (nq m k ?_);refine ar (kg m k ?_);refine ar ?_;rw [P8];simp only [Std.Legacy.Range.size,zH,IC,Gz];refine kE _
      (λcx W V5 => ∃T a,V5 = {n with heap:=T} /\ cx=range' a (h.size-a) /\ a <= h.size /\ T.DictOfH b q (h_ Wf<|g.take a) /\ T.get? p=Z J /\ aY.SameBut q n.heap T)
      _ ?_ ?_ _ _ ⟨n.heap,0,rfl,by simp,hj _,by simpa [h_] using hd,m,aY.SameBut.refl _ _⟩
    · rintro e cx f V5 ⟨T,a,rfl,V9,V0,s,z,u⟩
      have S:a<h.size:=by
        rcases e4 a h.size with c|c
        · exact c
        · rw [Nat.sub_eq_zero_of_le c]at V9; simp at V9
      obtain⟨rfl,ce⟩:e=a /\ cx=range' (a+1) (h.size-(a+1)):=by
        have d:h.size-a=(h.size-(a+1))+1:=⋯
        rw [d,Iz]at V9;injection V9 with t C;exact ⟨t,C⟩
      refine ar (kg z k ?_);obtain⟨i,A⟩ : ∃i,g[e]? = Z i:=⟨g[e]'(by rw [x]; exact S),dH _⟩;rw [entry_at o e,A];show wpAny _ _ (holding [(mz b i).key,(mz b i).val] (uX q (.ref i.2.1) (b.hash i.1) i.2.2) >>= _) _ _ _;have ch:(h_ Wf<|g.take e).length <= sizeLine:=by
        have f0:=QE Wf (g.take e);have f1:(g.take e).length <= g.length:=by rw [gf]; lia
        lia
      have ci:b.is T i.1 i.2.1:=b.keeps (L i<|gO A) l j u;refine ar (f6<|NU (n := {n with heap:=T}) ap ci s (λal cl am => ?_) ch);have an:al.get? p=Z J:=(am.2 p<|Ne.symm G).trans z;refine ar (nq an k ?_);rw [aN ↥0];exact aL ⟨al,e+1,rfl,ce,S,by rw [Nk Wf g e i A]; exact cl,an,u.trans am⟩
    · rintro f V5 ⟨T,a,rfl,V9,V0,s,z,u⟩
      have v:a=h.size:=by
        rcases e4 a h.size with c|c
        · have d:h.size-a=(h.size-(a+1))+1:=⋯
          rw [d,Iz]at V9; exact nomatch V9
        · exact Nat.le_antisymm V0 c
      refine aL (r T ?_ u);rw [v, <-x,oz]at s; exact s
  dsimp only;split
  · refine ar (kg l j ?_)
    split
    · rename_i co
      have cr:Wf=[]:=by
        have B:bi = #[]:=Hc.mp co;have:=pD bs;rw [B]at this;exact IZ.mp ⇑(this.symm)
      subst cr;have cs:wpAny (aR Wb D) O (a0.Dict.entriesForEmpty w p) (λQ V5 => Q=h /\ V5=n) U n:=by
        unfold a0.Dict.entriesForEmpty;refine ar (kg m k ?_);refine ar ?_;rw [<-rZ];refine kE _ (λcx W V5 => V5=n /\ ∀d ∈ cx,d ∈ h) _ ?_ ?_ _ _ ⟨rfl,λd E => vS.mp E⟩
        · rintro d cx f V5 ⟨rfl,V9⟩
          have v:=V9 d lh;have db:d ∈ g.map (mz b):=o ▸ vS.mpr v;let⟨e,F,rfl⟩:=cG.mp db;refine ar (bd e F _ ?_);rw [aM (by rfl),aN<|Ks o a2 _ v];exact aL ⟨rfl,λd E => V9 d<|k0 _ E⟩
        · rintro f V5 ⟨rfl,_⟩
          exact aL ⟨rfl,rfl⟩
      refine ar (gR cs (λQ V5 ds => ?_) λ_ W d => d);let⟨rfl,rfl⟩:=ds;rw [Tx [] g ⇑N,oo]at r;split
      · have dL:Q.size <= sizeLine+1:=by
          simp only [iv,Fj]at be;lia
        refine ar (wpAny_updateDictKeysTo l j (aL<|r _ ⟨_,_,bm+1,jK _ l<|y2<|vf j _,bn.mapDictKeys _,
          vf j _,o,λe F => b.keeps (L e F) l j<|hv .., N⟩<|hv ..) dL)
      · rename_i eq
        have B:Q = #[]:=Hc.mp ⇑eq;have ev:g=[]:=IZ.mp (by rw [x,B]; rfl);subst ev;exact aL (r _ hd<|aY.SameBut.refl _ _)
    · exact P
  · exact P
end
section
variable{b:aQ}
def eE(a:Int):Int:=(hashInt a)
def lW(h:Int×Int):Int:=(AB (a0.Tuple.tupleHashOf [eE h.1,eE h.2]))
def rI:List Int->Nat->Bool
 |[],_=>X
 |c::E,k=>!k.testBit (c%6473).toNat&&rI E (k ||| (1 <<< (c%6473).toNat))
theorem HO:∀{H:List Int}{k:Nat},rI H k=X->∀c∈H,k.testBit (c%6473).toNat=au
 |e::H,k,ok,c,a=>by
  rw[rI,cN,l1]at ok;rcases b8.mp a with rfl|a
  ·exact ok.1
  ·have:=HO ok.2 c a;rw[z6,Bool.or_eq_false_iff]at this;exact this.1
theorem DS:∀{H:List Int}{k:Nat},rI H k=X->H.Nodup
 |[],_,_=>.nil
 |e::H,k,ok=>by
  rw[rI,cN,l1]at ok;refine gb.mpr ⟨λa=>?_,DS ok.2⟩;have:=HO ok.2 e a;rw[z6,Nat.one_shiftLeft,Nat.testBit_two_pow_self,Bool.or_true]at this;cases this
def AP:List (Int×Int):=((range 31).flatMap λm=>(range 31).map λ(h:Nat)=>(Int.ofNat m,Int.ofNat h))
def Ow:(AP.map lW).Nodup:=DS (k:=0) (by decide +kernel)
variable{h:Int×Int}
def GO(c:0<=h.1/\h.1<=30/\0<=h.2/\h.2<=30):h∈AP:=by
 unfold AP;rw[List.mem_flatMap];refine⟨h.1.toNat,eV.mpr ⋯,cG.mpr ⟨h.2.toNat,eV.mpr ⋯,?_⟩⟩;exact mu (Cf c.1) (Cf c.2.2.1)
def Nz{q:Int×Int}(e:0<=h.1/\h.1<=30/\0<=h.2/\h.2<=30)(hd:0<=q.1/\q.1<=30/\0<=q.2/\q.2<=30)(d:lW h=lW q):h=q:=by
 let⟨a,V0,b⟩:=kA.mp (GO e);let⟨i,f,c⟩:=kA.mp (GO hd);have:=(xS (h₀:=by rw[ba];exact V0) (h₁:=by rw[ba];exact f) Ow).mp (by rw[tq,tq,b,c,d]);subst this;rw[<-b,<-c]
theorem DA:∀{M:List (Int×Int)},M.Nodup->(∀h∈M,0<=h.1/\h.1<=30/\0<=h.2/\h.2<=30)->(M.map lW).Nodup
 |[],_,_=>.nil
 |h::M,b,a=>by
  let⟨t,C⟩:=gb.mp b;refine gb.mpr ⟨λc=>?_,DA C λq hd=>a q<|.tail _ hd⟩;let⟨q,hd,d⟩:=cG.mp c;rw[Nz (a q<|.tail _ hd) (a h<|.head _) d]at hd;exact t hd
def kK(h:Int×Int):List V:=([.int h.1,.int h.2])
def QS{Wd:bJ}{D:bl}(h:Int×Int):(eL Wd D).hash (kK h)=lW h:=rfl
theorem IY{Wr W9 XC:Type}(I:Wr->XC):∀(H:List (Wr×W9)),(H.map λe=>I e.1)=(H.map (·.1)).map I
 |[]=>rfl
 |e::H=>by rw[b2,b2,b2,IY I H]
theorem Gb{Wd:bJ}{D:bl}:∀(H:List (Int×Int)),(H.map kK).map (eL Wd D).hash=H.map lW
 |[]=>rfl
 |h::H=>by rw[b2,b2,b2,QS,Gb H]
theorem CS{j:aC}:∀{b:List (List V×af×ae)}{a:List (List V×ao)},fw j a b->∀{Wf:List (List V×ao)}{z:List (List V×af×ae)},fw j Wf z->
  fw j (a.foldl (λWA s=>fX WA s.1 s.2) Wf) (h_ z b)
 |_,_,.nil,_,_,m=>m
 |_,_,.cons (l₁:=a) (a:=s) (b:=e) m E,Wf,z,c=>by
  let⟨o,f,L⟩:=e;let⟨d,l⟩:=s;let⟨rfl,h,i⟩:=m;exact CS E (fw.put c d h i)
theorem CI:∀(a Wf:List (List V×ao)),(a.foldl (λWA s=>fX WA s.1 s.2) Wf).length<=Wf.length+a.length
 |[],Wf=>bh _
 |s::m,Wf=>by
  have t:=CI m (fX Wf s.1 s.2);have C:(fX Wf s.1 s.2).length<=Wf.length+1:=by
   unfold fX;split
   ·rw[ba];lia
   ·rw[di];exact bh _
  rw[i5,dj];lia
def Tp(S:b.A.units+20<bS):wC b "dict.update" (λe V4 j y=>∃(q p:af) (Wf a:List (List V×ao)) (f:List (Int×Int)),e=.ref q/\V4=[.ref p]/\q≠p/\j q=Z (.aF Wf)/\
  j p=Z (.aF a)/\a.map (·.1)=f.map kK/\f.Nodup/\(∀h∈f,0<=h.1/\h.1<=30/\0<=h.2/\h.2<=30)/\Wf.length<=1000/\a.length<=1000/\y .aV (upd j q<|.aF<|a.foldl (λWA s=>fX WA s.1 s.2) Wf)):=by
 intro G n B j e V4 v Wl y A U al c;let⟨q,p,Wf,a,f,rfl,rfl,am,hd,an,ap,as,a1,co,cr,r⟩:=c;cases U;let⟨L,rfl,a2⟩:=al.one;cases a2;let⟨x,bd,z,k,I⟩:=Az A.a5 hd;let⟨cs,be,i,l,J⟩:=Az A.a5 an;have M:n.TypeIs (.ref q) "dict" := by
  let⟨p,Q,Wt,t,C,W⟩:=I;exact⟨p,t,C.1⟩
 have u:n.TypeIs (.ref p) "dict" := by
  let⟨p,Q,Wt,t,C,W⟩:=J;exact⟨p,t,C.1⟩
 have E:∀{Wf:List (List V×ao)}{z:List (List V×af×ae)},fw j Wf z->z.map (·.1)=Wf.map (·.1):=λ{Wf z} m=>by
  induction m with
  |nil=>rfl
  |cons m _ bi=>rw[b2,b2,bi,m.1]
 have db:z.length=Wf.length:=by
  have:=congrArg List.length (E k)
  rwa [ba,ba]at this
 have ds:i.length=a.length:=by
  have:=congrArg List.length (E l)
  rwa [ba,ba]at this
 have dL:2000<=sizeLine:=by decide
 have bm:=l.is;have bn:(i.map λe=>(eL b.prog b.w).hash e.1).Nodup:=by
  have d:(i.map λe=>(eL b.prog b.w).hash e.1)=f.map lW:=by
   rw[IY (eL b.prog b.w).hash i,(E l).trans ap,Gb]
  rw[d];exact DA as a1
 have bs:∀e∈i,n.TypeIs (.ref e.2.1) "tuple" := λe H=>by
  let⟨W,g,Wm,d,t,C⟩:=bm e H;cases d;let⟨W,Wg,W,WI,bv,ca,W⟩:=A.a5 e.2.1 _ t;exact⟨WI,bv,(Prod.mk.inj ca).1⟩
 refine gd F2 M PySem.F.entry_dict_update ?_ (PySem.F.args_dict_update_2 _ _);unfold a0.«dict.update»;refine ar ?_;unfold a0.Dict.selfAndRest;refine ar (zX M ?_);show wpAny _ _ (pure (q,[ae.ref p])) _ _ n;refine aL ?_;show wpAny _ _ (a0.Dict.updateFrom "dict.update" q (.ref p) [] .none) _ _ n;unfold a0.Dict.updateFrom;refine ar (o7 u ?_);rw[aN ∅];refine ar ?_;unfold a0.Dict.merge;refine ar ?_;unfold a0.Dict.readDirectly;refine ar (pd u isSubtype_dict_dict ?_);simp only[oX,g0,e9];refine ar (o9 u PySem.F.slot_dict_iter.lookup<|aL ?_);simp only[ig,gN];refine ar (aL ?_);refine L9 (p2 S) am be I J bn (λe H eq o=>?_) (λT cd cu=>?_) ⋯
 ·unfold a0.Dict.quietEq;exact ar (o9 (bs e H) PySem.F.slot_tuple_eq.lookup<|aL o)
 show wpAny _ _ (a0.Dict.addKeywords q [] >>= _) _ _ _;refine ar (aL<|aL ⟨.none,rfl,.aV,_,?_,rfl,r⟩);let⟨o,Q,Wt,N,ce,ch,ci,W,cl⟩:=cd;have lk:=CI a Wf;refine yZ (n:=n) A (by rw[hd];exact True.intro) cu ⟨o,N⟩ ⟨⋯,bd,_,fw.keeps (CS l k) λev Wm R=>?_,o,Q,Wt,N,ce,ch,ci,cl⟩;rw[dq (Fb R hd<|λx=>nomatch x)];exact R
end
end L2
namespace L2
open Spec PyProof.Rows
def cells?:List (List V)->Option (List<|Int×Int)
 |[]=>Z []
 |[.int a,.int i]::m=>(cells? m).map λn=>(a,i)::n
 |_=>Y
theorem Bs:∀{e:List (List V)}{M:List (Int×Int)},cells? e=Z M->e=M.map kK
 |[],M,c=>by cases c;rfl
 |o::m,M,c=>by
  unfold cells? at c;split at c
  ·rename_i r;cases r
  ·rename_i r;cases r;let⟨n,t,C⟩:=cm.mp c;cases C;rw[Bs t];rfl
  ·cases c
def rW(f g:List (List V×V)):List (List V×V):=(f.foldl (λWA s=>jq WA s.1 s.2) g)
def uo:ak->List ak->Option (ak×ak):=(λh J=>match h,J with
 |.aF g,[.aF f]=>(cells? (f.map (·.1))).bind λM=>if M.Nodup/\(∀h∈M,0<=h.1/\h.1<=30/\0<=h.2/\h.2<=30)/\g.length<=1000/\f.length<=1000 then Z (.im .aV,.aF<|rW f g) else Y
 |_,_=>Y)
theorem Ii{j:aC}:∀{f:List (List V×V)}{k:List (List V×ao)},ep j f k->∀{g:List (List V×V)}{u:List (List V×ao)},ep j g u->ep j (rW f g) (k.foldl (λWA s=>fX WA s.1 s.2) u)
 |_,_,.nil,_,_,c=>c
 |_,_,.cons (a:=s) (b:=r) m E,g,u,c=>by
  let⟨o,q⟩:=s;let⟨a,v⟩:=r;let⟨d,D⟩:=m;dsimp only at d D;subst d;exact Ii E (ep.put D c)
theorem FX{j:aC}:∀{f:List (List V×V)}{k:List (List V×ao)},ep j f k->k.map (·.1)=f.map (·.1)
 |_,_,.nil=>rfl
 |_,_,.cons m E=>by rw[b2,b2,FX E,m.1]
section
variable{b:aQ}
def OF(s:b.A.units+20<bS):te b "dict.update" uo:=by
 intro G n B j e V4 v Wl y A u w ⟨h,J,m,L,V3,We,z,dh,ah,d,r⟩;unfold uo at d;split at d
 ·rename_i g f;let⟨M,D,c⟩:=bN.mp d;split at c
  ·rename_i a;cases c;let⟨q,F,rfl,t,C,rfl⟩:=z;let⟨l,E,N,P,rfl,⟨p,H,rfl,I,i,rfl⟩,⟨rfl,rfl⟩,rfl⟩:=dh;have k:gY j q:=⟨_,t,(λ_ d=>by cases d),(λ_ W d=>by cases d)⟩;have ne:q≠p:=λx=>by
    subst x;exact (dJ.mp ah).2.2 q (.head _) q (.head _) rfl
   refine Tp s G n B j _ _ v Wl y A u w ⟨q,p,F,H,M,rfl,rfl,ne,t,I,(FX i).trans<|Bs D,a.1,a.2.1,by rw[<-C.length];exact a.2.2.1,by rw[<-i.length];exact a.2.2.2,r .aV _ [] [q] ⟨rfl,rfl⟩ ?_ (bt.chg (.head _) k (fC _ _) λe o=>by
    rw[oo]at o;exact gz _ o)⟩
   exact⟨q,_,rfl,fm,(Ii i C).mono<|cC.ox k,rfl⟩
  ·cases c
 ·cases d
end
end L2
namespace G
open L2
end G
namespace L2
open Spec PyProof.Rows
variable{a:Nat}
theorem D6(I:Nat->Int):∀u,iM (λa i=>decide (I a<I i)) u<=u/\∀i,i<=u->I (iM (λa i=>decide (I a<I i)) u)<=I i
 |0=>⟨bh _,λi b=>by rw[D8.mp b];exact iY _⟩
 |u+1=>by
  let⟨t,C⟩:=D6 I u;unfold iM;by_cases d:I (u+1)<I (iM (λa i=>decide (I a<I i)) u)
  ·rw[aM ⇑d];refine⟨bh _,λi b=>?_⟩;rcases e4 i (u+1) with c|c
   ·have:=C i ⋯;lia
   ·rw[show i=u+1 by lia];exact iY _
  ·rw[aN ⇑d];refine⟨⋯,λi b=>?_⟩;rcases e4 i (u+1) with c|c
   ·exact C i ⋯
   ·rw[show i=u+1 by lia];lia
section
variable{b:aQ}
def Nq(l:b.calm=X):eO b (.builtin "min") (λz j y=>∃H Wi,z=[.ref H]/\j H=Z (.lst<|List.map ao.int Wi)/\Wi≠[]/\∀aw,aw∈Wi->(∀g∈Wi,aw<=g)->y (.int aw) j):=by
 intro G n B j z Wl y A m c;let⟨H,Wi,rfl,o,p,r⟩:=c;let⟨L,rfl,q⟩:=ix m;cases q;let⟨x,Wg,u,h,d⟩:=A.a5 H _ o;have k:n.heap.IsList H Wg.toArray:=⟨_,d,rfl,u,rfl⟩;have I:Wg.length=Wi.length:=by rw[<-h.length,ba]
 have J:0<Wi.length:=rH.mpr p;refine call_min_walk (tF k ⟨n.heap.objs.size,[n.heap.objs.size,H],[n.heap.objs.size],Wg.toArray.size,_,_,_,rfl,jy.list (A:=b.A.in1) (A.ok.hd l) _ H (dg<|b4 d) Wg.toArray,
  ⟨⟨_,c0 _ rfl,rfl,rfl⟩,k.push _⟩,?_,by rw[cR];omega,CmpOf.ints_lt (λa=>(Wi[a]?).getD 0) (λa v s=>wa h a v ⇑s),λv T WK t w=>?_⟩)
 ·intro f e;show f<(n.heap.push _).objs.size;rw[gZ];rcases b8.mp e with rfl|e
  ·exact lY _
  ·rw[cP.mp e];exact zU (b4 d)
 ·let⟨E,rfl⟩:=wa h _ v ⇑t;let⟨dd,dn⟩:=D6 (λa=>(Wi[a]?).getD 0) (Wg.toArray.size-1);rw[cR]at dd dn;refine⟨.int _,j,A.kept<|yt w,⟨E,rfl⟩,r _ ?_ λg C=>?_⟩
  ·have e:iM (λa i=>decide ((Wi[a]?).getD 0<(Wi[i]?).getD 0)) (Wg.length-1)<Wi.length:=by omega
   have D:(Wi[iM (λa i=>decide ((Wi[a]?).getD 0<(Wi[i]?).getD 0)) (Wg.length-1)]?).getD 0=Wi[iM (λa i=>decide ((Wi[a]?).getD 0<(Wi[i]?).getD 0)) (Wg.length-1)]:=by rw[dH e];rfl
   exact D ▸ pv _
  ·let⟨i,F,rfl⟩:=kA.mp C;have:=dn i (by omega);rw[dH F]at this;exact this
def vl:List Int->Option Int
 |[]=>Y
 |e::m=>Z (m.foldl min e)
theorem DQ:∀(m:List Int) (e:Int),m.foldl min e<=e/\(∀g∈m,m.foldl min e<=g)/\(m.foldl min e=e\/m.foldl min e∈m)
 |[],e=>⟨iY _,(λg c=>nomatch c),.inl rfl⟩
 |l::m,e=>by
  let⟨t,C,a⟩:=DQ m (min e l);rw[i5];refine⟨⋯,λg b=>?_,?_⟩
  ·rcases b8.mp b with rfl|b
   ·lia
   ·exact C g b
  ·rcases a with a|a
   ·rw[a];by_cases c:l<=e
    ·rw[show min e l=l by lia];exact .inr (.head _)
    ·rw[show min e l=e by lia];exact .inl rfl
   ·exact .inr (.tail _ a)
def Gd{Wi:List Int}{k:Int}(c:vl Wi=Z k):Wi≠[]/\k∈Wi/\∀g∈Wi,k<=g:=by
 cases Wi with
 |nil=>cases c
 |cons e m=>
  cases c;let⟨t,C,a⟩:=DQ m e;refine⟨by simp,?_,λg b=>?_⟩
  ·rcases a with a|a
   ·rw[a];exact .head _
   ·exact .tail _ a
  ·rcases b8.mp b with rfl|b
   ·exact t
   ·exact C g b
@[simp] def sf:i1:=λJ=>match J with
 |[.lst e]=>(j6 e).bind λWi=>(vl Wi).map λk=>.im (.int k)
 |_=>Y
def DN(c:b.calm=X)(u:b.A.units+20<bS):hI b (.builtin "min") sf:=by
 refine (Nq c).imp λz j y ⟨J,q,f,d,r⟩=>?_;unfold sf at d;split at d
 ·rename_i e;let⟨Wi,g,h⟩:=bN.mp d;let⟨k,l,m⟩:=cm.mp h;cases m;let⟨v,rfl,W,s,z,rfl,t,C,W⟩:=g4 f;cases uK g;cases uI C;let⟨Xv,n,Xk⟩:=Gd l;refine⟨s,Wi,rfl,t,Xv,λaw o p=>?_⟩;have:=Xk aw o;have:=p k n;rw[show aw=k by lia];exact cc.i r rfl
 ·cases d
end
theorem d1.take{j:aC}:∀{J:List ak}{z:List ao}{P:List af}{i:Nat}{q:ak},d1 j J z P->J[i]?=Z q->∃e V3 V7,z[i]?=Z e/\cv j q e V3/\d1 j (J.set i .cO) z V7/\(V7++V3).Perm P
 |[],z,P,i,q,c,d=>by simp at d
 |h::J,z,P,0,q,c,d=>by
  let⟨v,m,Wo,Wz,rfl,t,C,rfl⟩:=c;simp at d;subst d;exact⟨v,Wo,Wz,rfl,t,⟨v,m,[],Wz,rfl,rfl,C,rfl⟩,dm⟩
 |h::J,z,P,i+1,q,c,d=>by
  let⟨v,m,Wo,Wz,rfl,t,C,rfl⟩:=c;let⟨e,V3,V7,a,b,f,g⟩:=d1.take (i:=i) C ⇑d;refine⟨e,V3,Wo++V7,by simpa using a,b,⟨v,m,Wo,V7,rfl,t,f,rfl⟩,?_⟩;rw[bC];exact g.append_left Wo
@[simp] def mm(a i:Nat):aw ak:=λw=>match w[a]? with
 |some (Z<|.ez J)=>match J[i]? with
  |some q=>if q.cY=X then Z (q,w) else Z (q,w.set a<|Z<|.ez<|J.set i .cO)
  |none=>Y
 |_=>Y
section
variable{b:aQ}
def qy{i:Nat}{u:Int}{g f:bu}{Wk:Pos}(k:bP b g (kk a))(l:bP b f (oa<|.int u))(av:sj f:=by exact λ_ W=>rfl)(n:u=i:=by decide):cg b (.Subscript g f Wk) (mm a i):=by
 subst n;refine ey (Cj G6 k l av) λB j y o=>?_;let⟨w,P,m,R,N,ah,c,r⟩:=o;unfold mm at c;split at c
 ·rename_i J hd;split at c
  ·rename_i q p;let⟨v,Wo,Wz,t,C,x,A⟩:=N.out hd;let⟨s,z,rfl,h,E⟩:=C;let⟨e,V3,V7,F,d,G,H⟩:=E.take p;refine⟨_,t,s,z,i,e,rfl,rfl,.of h,MV F,?_⟩;split at c
   ·rename_i I;cases c;obtain rfl:=d.cY I;exact r e j P [] N d (by rw[cF];exact bt.perm ah (List.Perm.refl _))
   ·cases c;have D:cv j (.ez<|J.set i .cO) (.ref s) V7:=⟨s,z,rfl,h,G⟩;let⟨O,W7,WG,WO⟩:=x.back D t;rw[u2]at WG;refine r e j O V3 WG d ((bt.perm ah<|List.Perm.refl _).less (aO:=W7) ?_);refine .trans ?_ A;refine .trans ?_ (H.append_left Wz);rw[<-bC];refine .trans ?_ (WO.append_right V3);rw[bC,bC];exact dm.append_left O
  ·cases c
 ·cases c
@[simp] def v9(a:Nat)(b:aw ak):aw ak:=λw=>match w[a]? with
 |some (Z c)=>if vX c=X then (b w).bind λs=>match s.2[a]?,s.1 with
   |some (Z<|.dw Wf),.im o=>(q1 o).map λd=>(.im<|(d8 Wf d).getD .aV,s.2)
   |some (Z<|.aF Wf),.im (.tup o)=>if V.keys 7 o=X then Z (.im<|(d8 Wf o).getD .aV,s.2) else Y
   |_,_=>Y
  else Y
 |_=>Y
def Qo{p o:bu}{D:aw ak}{Xr H:Pos}(G:b.A.units+20<bS)(I:bP b p (kk a))(J:cg b o D)(k:JS b p "get" Xr o H:=by exact⟨rfl,rfl,rfl,rfl⟩):
  cg b (.Call (.Attribute p "get" Xr) [o] [] H) (v9 a D):=by
 refine ey (PO G I J k) λB j y L=>?_;let⟨w,P,m,R,N,ah,d,r⟩:=L;unfold v9 at d;split at d
 ·rename_i bi M;split at d
  ·rename_i Q;let⟨bm,bn,bs,n,S,W,W⟩:=N.out M;let⟨g,rfl,T⟩:=Oj S Q;let⟨⟨WY,V_⟩,t,c⟩:=bN.mp d;refine⟨_,n,g,rfl,T,w,P,WY,V_,N,ah,t,λl Wc Wo bv h E F=>?_⟩;dsimp only at c;split at c
   ·rename_i Wf U q;let⟨al,am,an⟩:=cm.mp c;cases an;let⟨s,rfl⟩:=E;let⟨ap,V3,as,e,u,a1,a2⟩:=h.out q;rw[n]at e;cases e;let⟨bd,i,v,x,C,W⟩:=u;cases v;exact⟨_,.inl ⟨i,al,.inl x,Bt s am,rfl⟩,r _ Wc Wo [] h ⟨C7 C (rfl:cC Wc .aV .aV),rfl⟩ F⟩
   ·rename_i Wf U q;split at c
    ·rename_i be;cases c;let⟨s,rfl⟩:=E;let⟨ap,V3,as,e,u,a1,a2⟩:=h.out q;rw[n]at e;cases e;let⟨bd,i,v,x,C,W⟩:=u;cases v;let⟨f,z,rfl,WG,WO⟩:=s;exact⟨_,.inr ⟨i,_,f,.inl x,rfl,⟨be,f,z,rfl,WG,WO⟩,rfl⟩,r _ Wc Wo [] h ⟨C7 C (rfl:cC Wc .aV .aV),rfl⟩ F⟩
    ·cases c
   ·cases c
  ·cases d
 ·cases d
end
end L2
namespace L2
end L2
namespace L2
open Spec PyProof.Rows
variable{Wj H Xr:Pos}{Xu:Nat}{Q:List bu}{F:aw bK}{k:b6}{p WC:bu}{i:List (List V×ao)}{Wf:List (List V×V)}{WI:a9}{g:af}{j:aC}{V2:Φ}{D:bl}{Wd:bJ}
def x2(g:af)(WI:a9)(Wf:List (List V×ao)):iz:=(
 ⟨λa j=>j g=Z (.cU WI<|.aF Wf)/\a<Wf.length,
  λa j v V1=>V1=j/\∃f s,v=.ref f/\Wf[a]?=Z s/\ic j s.1 f,
  λa j=>j g=Z (.cU WI<|.aF Wf)/\Wf.length<=a⟩)
theorem S5(g ag:af)(WI:a9)(Wf:List (List V×ao))(H:Array nM)(Wt:Nat)(C:WI.data=.dict H Wt):
  oG Wd D V2 WC (x2 g WI Wf) [ag] ag (λa c=>c.IsKeyIter ag g a Wf.length Wt) where
 mem:=by simp
 obj:=λa c N h E=>by
  cases cP.mp E;let⟨@p,d,h,q⟩:=N;exact⟨p,d,λv x=>by rw[q]at x;cases x⟩
 keep:=λa c T N o=>let ⟨p,d,m⟩:=N;⟨p,o ag ↥0 p d,m⟩
 item:=by
  intro b I J L E a G n B j U A F N M;subst I J L;let@⟨P,V0⟩:=M;let@⟨i,x,hd,⟨@z,rel,⟨WJ,be,@bi,k,Q,l,S,bm⟩⟩⟩:=(show n.heap.get? g=Z WI/\el b.prog b.w j n.heap g (.aF Wf) from A.a5 g _ P);rw[i]at k;cases k;rw[C]at l;cases l;let@⟨al,am,bn,an,ap,as⟩:=F ag ↥0;have a1:=ea.length rel;have Xu:H.toList.map (·.key)=z.map λe=>ae.ref e.2.1:=by rw[S,eU];rfl
  have a2:hD n.heap g (z.map λe=>ae.ref e.2.1) Wt:=⟨_,_,i,Q,C,Xu⟩;let⟨s,@r,bs,W2,ce,bv,ch⟩:=rb rel a V0;have t:(z.map λe=>ae.ref e.2.1).length=Wf.length:=by rw[ba,a1]
  refine Jz (by rw[t];exact N) a2 (v:=.ref r.2.1) (by rw[eB,W2];rfl) λT bd cu=>?_;have ca:aK b G B j {n with heap:=T}:=A.turned (WE:=n.toks) (λf p u d=>cu.extBut f p u d) al am an ap as;rw[t]at bd;let⟨@p,d,h,q⟩:=id bd;exact⟨_,rfl,ts (n:={n with heap:=T}) d h q ∅ ⟨.ref r.2.1,j,ca,rfl,⟨rfl,_,s,rfl,bs,bv⟩,bd,λf u=>(F f u).1⟩⟩
 done:=by
  intro b I J L E a G n B j U A F N M;subst I J L;let@⟨P,V0⟩:=M;let@⟨i,x,hd,⟨@z,rel,⟨WJ,be,@bi,k,Q,l,S,bm⟩⟩⟩:=(show n.heap.get? g=Z WI/\el b.prog b.w j n.heap g (.aF Wf) from A.a5 g _ P);rw[i]at k;cases k;rw[C]at l;cases l;let@⟨al,am,bn,an,ap,as⟩:=F ag ↥0;have a1:=ea.length rel;have Xu:H.toList.map (·.key)=z.map λe=>ae.ref e.2.1:=by rw[S,eU];rfl
  have a2:hD n.heap g (z.map λe=>ae.ref e.2.1) Wt:=⟨_,_,i,Q,C,Xu⟩;have t:(z.map λe=>ae.ref e.2.1).length=Wf.length:=by rw[ba,a1]
  exact EG (A.ok.hd E) (by rw[t];exact N) a2 (by rw[t];exact V0) λT cd=>⟨rfl,A.turned (WE:=n.toks) (λf p u d=>cd f p u d) al am an ap as⟩
 self:=λO a n y U N c=>Bp N c
section
variable{b:aQ}
theorem LZ(c:j g=Z (.cU WI<|.aF i))(hd:ep j Wf i):lq (x2 g WI i) j [] (Wf.map λk=>.tup k.1) where
 go:=λV1 E o a q d=>by
  rw[eB]at d;let⟨@⟨v,W3⟩,b,rfl⟩:=cm.mp d;have V0:a<Wf.length:=(fs.mp b).1;have l:a<i.length:=by rw[<-hd.length];exact V0
  refine⟨⟨E.cU _ _ _ c,l⟩,λx w ⟨m,f,s,n,p,t⟩=>?_⟩;subst n m;let⟨y,@r,e,h,u,z⟩:=rb hd a V0;rw[b]at e;cases e;rw[p]at h;cases h;cases u;exact⟨c9.refl _,t.2⟩
 stop:=λV1 E o=>⟨E.cU _ _ _ c,by rw[ba,hd.length];exact bh _⟩
end
def NY:ak->ak
 |.aF Wf=>.fp Wf
 |q=>q
@[simp] def AQ(F:aw ak):aw ak:=λw=>(F w).map λs=>(NY s.1,s.2)
section
variable{b:aQ}
def Es{d:bu}{F:aw ak}(c:cg b d F):cg b d (AQ F):=by
 intro G n B j y A a;let⟨w,P,m,R,N,ah,H,r⟩:=a;let⟨⟨e,V_⟩,t,C⟩:=cm.mp H;cases C;refine bU (@c G n B j (λv Wc=>∃Wo V3,bE Wc V_ B Wo/\cv Wc e v V3/\bt j P Wc (Wo++V3)) A ⟨w,P,e,V_,N,ah,t,λv Wc Wo V3 g f h=>⟨Wo,V3,g,f,h⟩⟩) λL o a=>?_;let⟨v,Wc,k,s,⟨Wo,V3,u,Wx,D⟩⟩:=a;cases e with
 |aF Wf=>
  let⟨g,i,rfl,WG,WO,I⟩:=Wx;cases s;let⟨x,S,z,J,p,Q,Wt,l,M,O,U,al⟩:=k.a5 g _ WG;have hb:=Dt (WI:=p) WG (λ_ d=>by cases d) (λ_ W d=>by cases d);refine yU (WI:=p) (q:=.fp Wf) u D WG (λ_ d=>by cases d) (λ_ W d=>by cases d) I (k.write (T:=o.heap) (WE:=o.toks) (d:=g) (by rw[WG];trivial) (.inl rfl) (λf L W d=>d) ⟨_,l⟩ ⟨l,x,S,z,fw.keeps J λf Wm d=>hb.tup.t f Wm d,p,Q,Wt,l,M,O,U,al⟩) (λhb=>⟨g,i,_,rfl,fm,WO.mono hb.tup,rfl⟩) r
 |_=>exact⟨v,Wc,k,s,r v Wc Wo V3 u Wx D⟩
def SF(k:b6):c_:=(λB j V3=>k B j λe Wc=>∃g WI Wf,e=.ref g/\Wc g=Z (.cU WI<|.aF Wf)/\V3 (x2 g WI Wf) Wc)
def Oq(s:bP b p k):jX b WC p (SF k):=by
 intro G n B j V3 A c;refine bU (s G n B j _ A c) λL a t=>?_;let⟨e,Wc,i,u,⟨g,WI,Wf,WM,v,r⟩⟩:=t;subst WM;obtain rfl:L=ae.ref g:=u;let⟨l,x,hd,z,y,WJ,m,Wt,o,C,q,E,M⟩:=(show a.heap.get? g=Z WI/\el b.prog b.w Wc a.heap g (.aF Wf) from i.a5 g _ v);rw[l]at o;cases o;have F:=ea.length y;have Xu:m.toList.map (·.key)=z.map λe=>ae.ref e.2.1:=by rw[E,eU];rfl
 have H:(z.map λe=>ae.ref e.2.1).length=Wf.length:=by rw[ba,F]
 have I:hD a.heap g (z.map λe=>ae.ref e.2.1) Wt:=⟨_,_,l,C,q,Xu⟩;refine CX hd I ?_;rw[H];refine⟨_,_,_,_,_,rfl,i.kept (WE:=a.toks)<|λf p d=>b0 _ d,S5 g _ WI Wf m Wt q,⟨_,c0 _ rfl,rfl,rfl⟩,λh J=>?_,r⟩;cases cP.mp J;exact i.pW (bh _) (i.a5.fresh<|bh _)
@[simp] def sz(F:aw bK):i9:=λw=>(F w).bind λs=>match dO s.2 s.1 with
 |some (.fp Wf)=>Z ((Wf.map λa=>.tup a.1,Y),s.2)
 |_=>Y
def Mz(c:dS b p F):kW b WC p (sz F):=by
 refine sg (Oq c) λB j o d=>?_;let⟨w,P,m,R,N,ah,h,r⟩:=d;let⟨⟨e,V_⟩,t,C⟩:=bN.mp h;refine⟨w,P,e,V_,N,ah,t,λv Wc Wo V3 a k l=>?_⟩;dsimp only at C;split at C
 ·rename_i Wf V9;cases C;let⟨W,g,i,WI,rfl,WG,WO,W⟩:=k.read a V9;exact⟨g,WI,i,rfl,WG,r _ _ Wo [] a (LZ WG WO) trivial (λf n=>nomatch n) (l.less (aO:=V3) (by rw[cF]))⟩
 ·cases C
def Av(g:af)(WI:a9)(Wf:List (List V×ao)):iz:=(
 ⟨λa j=>j g=Z (.cU WI<|.aF Wf)/\a<Wf.length,
  λa j v V1=>∃V6 f s,j V6=Y/\v=.ref V6/\V1=upd j V6 (.tup [.ref f,s.2])/\Wf[a]?=Z s/\ic j s.1 f,
  λa j=>j g=Z (.cU WI<|.aF Wf)/\Wf.length<=a⟩)
theorem QU{Wk:Pos}(g ag:af)(WI:a9)(Wf:List (List V×ao))(k:Array nM)(Wt:Nat)(t:WI.data=.dict k Wt)(ne:g≠ag):
  oG Wd D V2 (.Tuple Q Xu Wk) (Av g WI Wf) [ag] ag (λa c=>∃ok i,IsItemIter c ag g a Wf.length Wt ok i) where
 mem:=by simp
 obj:=λa c ⟨ok,i,N⟩ h f=>by
  cases cP.mp f;exact⟨_,N,λv d=>by cases d⟩
 keep:=λa c T ⟨ok,i,N⟩ o=>⟨ok,i,o ag ↥0 _ N⟩
 item:=by
  intro b I J L f a G n B j U A u ⟨ok,i,N⟩ M;subst I J L;let⟨P,V0⟩:=M;let⟨l,x,hd,z,E,WJ,am,an,m,ap,q,F,as⟩:=(show n.heap.get? g=Z WI/\el b.prog b.w j n.heap g (.aF Wf) from A.a5 g _ P);rw[l]at m;cases m;rw[t]at q;cases q;have a1:=ea.length E;have r:k.size=Wf.length:=by rw[pD F,a1]
  have al:a<k.size:=by rw[r];exact V0
  let⟨s,e,a2,bd,bv,be,bi⟩:=rb E a V0;have bm:k[a]=mz (eL b.prog b.w) e:=by
   have:=entry_at F a;rw[bd,i6 al]at this;exact Option.some.inj this
  rw[<-r]at N;have lt:ag<n.heap.objs.size:=b4 N;refine Le (O:=b.A) ⟨_,_,_,_,N,.inl rfl⟩ l t al λT K R H ca S=>?_;let⟨cd,ce,R⟩:=R ⟨ok,i,N⟩;rw[bm]at H;replace H:hc T n.heap.objs.size (.ref e.2.1) e.2.2:=H;refine⟨_,rfl,wpAny_letOwnedTupleGo_items R λC bn cu=>?_⟩;have d6:∀h p,h∉[ag]->n.heap.get? h=Z p->C.get? h=Z p:=λh p f d=>by
   have f:h≠ag:=by simpa using f
   exact cu.extBut _ _ f (S h p f d)
  have bs:j n.heap.objs.size=Y:=A.a5.fresh (bh _);refine⟨.ref n.heap.objs.size,upd j n.heap.objs.size<|.tup [.ref e.2.1,s.2],A.B1 (WE:=n.toks) u d6 (bh _) ⟨by show 2<=sizeLine;decide,[.ref e.2.1,e.2.2],.cons rfl<|.cons bi .nil,?_⟩,rfl,⟨_,_,s,bs,rfl,rfl,a2,be⟩,⟨_,_,by rw[<-r];exact bn⟩,λh f=>?_⟩
  ·exact⟨_,cu.extBut _ _ (hk lt) H,rfl,0,rfl⟩
  ·cases cP.mp f;rw[dq (dg lt)];exact (u ag f).1
 done:=by
  intro b I J L f a G n B j U A u ⟨ok,i,N⟩ M;subst I J L;let⟨P,V0⟩:=M;let⟨l,x,hd,z,E,WJ,am,an,m,ap,q,F,as⟩:=(show n.heap.get? g=Z WI/\el b.prog b.w j n.heap g (.aF Wf) from A.a5 g _ P);rw[l]at m;cases m;rw[t]at q;cases q;have r:k.size=Wf.length:=by rw[pD F,ea.length E]
  rw[<-r]at N V0;exact Tz (O:=b.A) (A.ok.hd f) ⟨_,_,_,_,N,.inl rfl⟩ l t V0 λT S=>⟨rfl,A.GA (WE:=n.toks) u λh p f d=>S h p ⇑f d⟩
 self:=λO a n y U ⟨ok,i,N⟩ c=>by
  exact PySem.W.kcp_self N c
def UB(k:b6):c_:=(λB j V3=>k B j λe Wc=>∃g WI Wf,e=.ref g/\Wc g=Z (.cU WI<|.aF Wf)/\V3 (Av g WI Wf) Wc)
def Ts(v:bP b p k)(y:n2 p "items" b.env (cb p b.env)=cb p b.env:=by rfl)(C:(Xr.endLine==H.line)=X:=by rfl):
  jX b (.Tuple Q Xu Wj) (.Call (.Attribute p "items" Xr) [] [] H) (UB k):=by
 intro G n B j V3 A c;refine GW (T := "dict") (id := "dict.items") y rfl C F.plainAttrs_dict CT F.type_dict_items (bU (v G n B j _ A c) λL a ⟨e,Wc,o,E,g,WI,Wf,WM,I,r⟩=>?_);subst WM;obtain rfl:L=ae.ref g:=E;let⟨i,x,hd,z,J,WJ,q,Wt,s,t,u,M,R⟩:=(show a.heap.get? g=Z WI/\el b.prog b.w Wc a.heap g (.aF Wf) from o.a5 g _ I);rw[i]at s;cases s;have l:a.TypeIs (.ref g) "dict" := ⟨WI,i,t.1⟩;refine⟨l,λf d=>?_,?_⟩
 ·cases d;exact⟨WI,i,t.2.1⟩
 ·refine method_meetsIn CT F.entry_dict_items rfl (IK ⟨rfl,l,F.args_dict_items_1 _,_,PY g hd,l,?_⟩);have m:aK b G B Wc {a with heap:=a.heap.push {cls:=.type "dict_items",data:=.fields #[.ref g]} }:=o.kept (WE:=a.toks) λf p d=>b0 _ d;have N:q.size=Wf.length:=by rw[pD M,ea.length J]
  have lt:g<a.heap.objs.size:=b4 i;refine Si (n:={a with heap:=a.heap.push {cls:=.type "dict_items",data:=.fields #[.ref g]} }) ⟨_,c0 _ rfl,rfl,rfl⟩ (b0 _ i) u ?_;rw[N];refine⟨_,_,_,_,_,rfl,m.kept (WE:=a.toks)<|λf p d=>b0 _ d,QU g _ WI Wf q Wt u (dg (eK lt (by rw[gZ];lia))),⟨_,_,c0 _ rfl⟩,λh O=>?_,r⟩;cases cP.mp O;exact m.pW (bh _) (m.a5.fresh<|bh _)
@[simp] def p4(F:aw bK):i9:=λw=>(F w).bind λs=>match dO s.2 s.1 with
 |some (.fp Wf)=>Z ((Wf.map λa=>.tup [.tup a.1,a.2],Y),s.2)
 |_=>Y
theorem Vb(c:j g=Z (.cU WI<|.aF i))(hd:ep j Wf i):lq (Av g WI i) j [] (Wf.map λb=>.tup [.tup b.1,b.2]) where
 go:=λV1 E o a q d=>by
  rw[eB]at d;let⟨⟨y,W3⟩,e,rfl⟩:=cm.mp d;have V0:a<Wf.length:=(fs.mp e).1;have l:a<i.length:=by rw[<-hd.length];exact V0
  refine⟨⟨E.cU _ _ _ c,l⟩,λx z ⟨V6,f,s,I,m,p,t,u⟩=>?_⟩;subst m p;let⟨A,r,h,k,v,w⟩:=rb hd a V0;rw[e]at h;cases h;rw[t]at k;cases k;cases v;have n:c9 V1 (L2.upd V1 V6<|.tup [.ref f,s.2]):=(c9.refl V1).upd I;exact⟨n,V6,[.ref f,s.2],rfl,fm,⟨.ref f,[s.2],rfl,u.2.mono n.tupS.tup,s.2,[],rfl,(w.mono E.tup).mono n.tupS.tup,rfl⟩⟩
 stop:=λV1 E o=>⟨E.cU _ _ _ c,by rw[ba,hd.length];exact bh _⟩
def Gn(c:dS b p F)(a:n2 p "items" b.env (cb p b.env)=cb p b.env:=by rfl)(h:(Xr.endLine==H.line)=X:=by rfl):
  kW b (.Tuple Q Xu Wj) (.Call (.Attribute p "items" Xr) [] [] H) (p4 F):=by
 refine sg (Ts c a h) λB j q k=>?_;let⟨w,P,m,R,N,ah,l,r⟩:=k;let⟨⟨e,V_⟩,t,C⟩:=bN.mp l;refine⟨w,P,e,V_,N,ah,t,λv Wc Wo V3 d n o=>?_⟩;dsimp only at C;split at C
 ·rename_i Wf V9;cases C;let⟨W,g,i,WI,rfl,WG,WO,W⟩:=n.read d V9;exact⟨g,WI,i,rfl,WG,r _ _ Wo [] d (Vb WG WO) trivial (λf a=>nomatch a) (o.less (aO:=V3) (by rw[cF]))⟩
 ·cases C
end
end L2
namespace G
open L2
def NB:bL:=((bx (dK (jd (gy<|hG<|ab<|nr "tuple"<|aj 0)<|bO<|aA lj (ab<|b7 eS<|ai (aj 0) aD)<|ab<|ay<|.int 3) (cM<|ay<|.aB au) ei)<|cM<|hB<|fH (bO<|nr "str"<|ab<|aA bA (aj 0)<|ab<|ay<|.int 0)<|fH (bO<|bc 1 G.nd<|ai (ab<|aA bA (aj 0)<|ab<|ay<|.int 1) aD)<|bO<|bc 1 G.v5<|ai (ab<|aA bA (aj 0)<|ab<|ay<|.int 2) aD))
def oj:c6:=(dk 1 1 [0] NB)
def ym(a:af):aw ak:=((r4 1 a 1 G.oj<|ai (aj 0) aD))
def HT(a:af):aw ak:=((aA su (aj 0)<|aj 1))
def DT(a:af):bL:=((bx (dK (jd (gy<|hG<|ab<|nr "tuple"<|aj 0)<|gy<|hG<|ab<|b7 kr<|ai (ab<|ck 1 [1] (ct<|aj 0) (bj 0) c3<|G.ym a) aD) (cM<|ay<|.aB au) ei)<|cM<|b7 kr<|ai (ab<|ck 2 [] (oh<|ai (aj 0)<|ai (ab<|iW (aj 0) (ki<|ay<|.int 1) jE) aD) (gj 2<|dT (bj 0)<|dT (bj 1) gF) c3<|G.HT a) aD))
def qD(a:af):c6:=(dk 2 2 [0,1] (DT a))
def Ni:bL:=((bx (dK (bO<|aA hL (aj 0)<|ab<|ay<|.str "down") (cM<|cV<|ai (ab<|aA cD (ab<|aA bA (aj 1)<|ab<|ay<|.int 0)<|aj 2)<|ai (ab<|aA bA (aj 1)<|ab<|ay<|.int 1) aD) ei)<|cM<|cV<|ai (ab<|aA bA (aj 1)<|ab<|ay<|.int 0)<|ai (ab<|aA cD (ab<|aA bA (aj 1)<|ab<|ay<|.int 1)<|aj 2) aD))
def qA:c6:=(dk 3 3 [0,1,2] Ni)
def z8:aw Bool:=((bO<|aA jF (ab<|bc 3 G.qA<|ai (aj 1)<|ai (aj 2)<|ai (aj 3) aD)<|aj 0))
def CO:bL:=((zz 3 (λa i=>a+i)<|ay<|.int 1))
def F1:bL:=((bx (cj 3<|ay<|.int 1)<|bx (fF G.z8 G.CO 1000000)<|cM<|cV<|ai (aj 1)<|ai (aj 2)<|ai (aj 3) aD))
def rJ:c6:=(dk 3 4 [0,1,2] F1)
def BA:aw ak:=((bc 3 G.rJ<|ai (aj 2)<|ai (aj 1)<|ai (aj 0) aD))
def ED:aw Bool:=((bO<|aA gp (ab<|bc 3 G.qA<|ai (aj 1)<|ai (aj 0)<|ai (ab<|jb<|ay<|.int 1) aD)<|aj 2))
def BU:bL:=((bx (cj 2<|bc 1 G.ia<|ai (aj 0) aD)<|cM<|ck 1 [1,2] (ct<|aj 0) (bj 0) G.ED G.BA))
def l_:c6:=(dk 2 3 [0,1] BU)
def HI:bL:=((cM<|b7 gK<|ai (ab<|b7 hl<|ai (ab<|aA cD (ab<|bc 2 G.l_<|ai (aj 0)<|ai (ab<|ay<|.str "down") aD)<|ab<|bc 2 G.l_<|ai (aj 0)<|ai (ab<|ay<|.str "right") aD) aD) aD))
def r7:c6:=(dk 1 1 [0] HI)
def G5:aw ak:=((bc 3 G.qA<|ai (ab<|aA bA (aj 1)<|ab<|ay<|.int 0)<|ai (ab<|aA bA (aj 1)<|ab<|ay<|.int 1)<|ai (aj 0) aD))
def GG:bL:=((cM<|ck 1 [0] (iB<|ai (ab<|aA bA (aj 0)<|ab<|ay<|.int 2) aD) (bj 0) c3 G.G5))
def jz:c6:=(dk 1 1 [0] GG)
def Hn:bL:=((e6 (dG 2)<|hn 1 (dG 3) gJ))
def AL:bL:=((hC (ct<|ab<|bc 1 G.jz<|ai (aj 2) aD) (bj 3) G.Hn))
def Ho:aw ak:=((aA bA (aj 1)<|aj 0))
def y6:bL:=((e6 (vk<|ck 1 [1] (ct<|ab<|bc 1 G.jz<|ai (aj 5) aD) (bj 0) c3 G.Ho)<|hn 4 (dG 5) gJ))
def DW:bL:=((bx (cj 1 nx)<|bx (hC (ct<|ab<|bc 2 G.l_<|ai (aj 0)<|ai (ab<|ay<|.str "right") aD) (bj 2) G.AL)<|bx (cj 4 nx)<|bx (hC (ct<|ab<|bc 2 G.l_<|ai (aj 0)<|ai (ab<|ay<|.str "down") aD) (bj 5) G.y6)<|cM<|AQ<|dG 4))
def ub:c6:=(dk 1 6 [0] DW)
def mG:bL:=((dK (bO<|aA gp (aj 6)<|aj 3) (bx (e6 (dG 5)<|hn 3 (dG 6) gJ)<|bx (dK (bO<|aA gp (aj 6)<|aj 1) (cM<|cV<|ai (aj 3)<|ai (aj 6) aD) ei)<|jr<|hi j_ 4 iS<|ai (ab<|aA bA (aj 1)<|aj 6) aD) ei))
def vI:aw Bool:=((hG<|aj 4))
def tl:bL:=((bx (cj 5<|hi j_ 4 wj aD)<|hC (ct<|ab<|sx<|aA bA (aj 0)<|aj 5) (bj 6) G.mG))
def z4:bL:=((bx (cj 3 nx)<|bx (cj 4<|b7 r2<|ai (aj 2) aD)<|bx (fF G.vI G.tl 1000000)<|cM<|cV<|ai (aj 3)<|ai (ab<|ay .aV) aD))
def nV:c6:=(dk 3 7 [0,1,2] z4)
def y9:aw Bool:=((bO<|aA (nL X) (aj 4)<|ab<|ay .aV))
def uu:bL:=((bx (cj 5<|aA bA (aj 2)<|aj 4)<|bx (cj 6<|v9 1<|dG 5)<|bx (e6 (dG 5)<|hn 0 (dG 4) gJ)<|bx (e6 (dG 4)<|hn 1 (dG 5) gJ)<|cj 4<|dG 6))
def CU:bL:=((bx (cj 4<|dG 3)<|fF G.y9 G.uu 1000000))
def wz:c6:=(dk 4 7 [0,1,2,3] CU)
def yj:aw ak:=((dG 0))
def y8:aw Bool:=((bO<|aA gp (aj 0)<|aj 1))
def Cr:aw Bool:=((hG<|ab<|ay<|.aB X))
def xI:bL:=((bx (cj 3<|bc 3 G.nV<|ai (aj 0)<|ai (aj 1)<|ai (ab<|ck 1 [2] (sz<|aj 0) (bj 0) G.y8 G.yj) aD)<|bx (dK (bO<|aA (nL au) (ab<|mm 3 1)<|ab<|ay .aV) (cM<|cV<|ai (aj 1)<|ai (ab<|mm 3 0) aD) ei)<|jr<|bc 4 G.wz<|ai (aj 1)<|ai (aj 2)<|ai (ab<|mm 3 0)<|ai (ab<|mm 3 1) aD))
def Fs:bL:=((bx (cj 1 nx)<|bx (cj 2 nx)<|fF G.Cr G.xI 1000000))
def u1:c6:=(dk 1 4 [0] Fs)
def yN:aw ak:=((ql (bO<|aA jF (aj 0)<|aj 2) (dG 0)<|dG 1))
def Iu:aw ak:=((cV<|ai (ab<|aA bA (ab<|aA bA (aj 0)<|ab<|ay<|.int 1)<|ab<|ay<|.int 0)<|ai (ab<|aA bA (ab<|aA bA (aj 1)<|ab<|ay<|.int 1)<|ab<|ay<|.int 1) aD))
def Jt:bL:=((bx (cj 1<|bc 1 G.u1<|ai (ab<|bc 1 G.ub<|ai (aj 0) aD) aD)<|bx (cj 2<|AQ<|mm 1 0)<|bx (cj 3<|mm 1 1)<|bx (cj 4<|ck 2 [3] (p4<|aj 2) (gj 2<|dT (bj 0)<|dT (bj 1) gF) c3 G.yN)<|bx (cj 5<|ck 2 [] (p4<|aj 2) (gj 2<|dT (bj 0)<|dT (bj 1) gF) c3 G.Iu)<|cM<|cV<|ai (ab<|b7 gK<|ai (ab<|b7 hl<|ai (aj 4) aD) aD)<|ai (ab<|b7 gK<|ai (ab<|b7 hl<|ai (aj 5) aD) aD) aD))
def ro:c6:=(dk 1 6 [0] Jt)
def Bu:aw ak:=((aA jF (aj 0)<|aj 1))
def Ff:bL:=((cM<|b7 kr<|ai (ab<|ck 1 [1] (ct<|aj 0) (bj 0) c3 G.Bu) aD))
def n4:c6:=(dk 2 2 [0,1] Ff)
def Gy:bL:=((jr<|hi vX 2 uo<|ai (ab<|bc 1 G.ia<|ai (ab<|bc 1 G.jz<|ai (aj 3) aD) aD) aD))
def Jw:bL:=((bx (cj 2 nx)<|bx (hC (ct<|aj 0) (bj 3) G.Gy)<|cM<|bc 2 G.n4<|ai (aj 1)<|ai (aj 2) aD))
def sy:c6:=(dk 2 4 [0,1] Jw)
def Hk:aw ak:=((dG 0))
def Hu:aw Bool:=((bO<|aA jF (aj 0)<|aj 1))
def Hg:aw ak:=((aA ek (ab<|b7 eS<|ai (ab<|ck 1 [1] (ct<|ab<|bc 1 G.jz<|ai (aj 0) aD) (bj 0) G.Hu G.Hk) aD)<|ab<|ay<|.int 1))
def FC:bL:=((bx (cj 2<|bc 1 G.ia<|ai (aj 0) aD)<|cM<|b7 kr<|ai (ab<|ck 1 [2] (ct<|aj 1) (bj 0) c3 G.Hg) aD))
def sT:c6:=(dk 2 3 [0,1] FC)
def BE(a b:af):bL:=((bx (dK (jd (gy<|hG<|ab<|bc 2 (G.qD b)<|ai (aj 1)<|ai (ab<|ay<|.fn b) aD)<|jd (gy<|hG<|ab<|bc 2 (G.pz a)<|ai (aj 2)<|ai (ab<|ay<|.fn a) aD)<|bO<|aA lj (ab<|b7 eS<|ai (aj 1) aD)<|ab<|b7 eS<|ai (aj 2) aD) (cM<|ay<|.aB au) ei)<|bx (cj 3<|bc 1 G.r7<|ai (aj 0) aD)<|bx (dK (jd (gy<|hG<|ab<|bc 2 G.n4<|ai (aj 1)<|ai (ab<|bc 1 G.ia<|ai (aj 3) aD) aD)<|gy<|hG<|ab<|bc 2 G.n4<|ai (aj 2)<|ai (ab<|bc 1 G.ia<|ai (aj 0) aD) aD) (cM<|ay<|.aB au) ei)<|cM<|hB<|fH (bO<|bc 2 G.sy<|ai (aj 1)<|ai (aj 0) aD)<|bO<|bc 2 G.sT<|ai (aj 2)<|ai (aj 3) aD))
def sr(a b:af):c6:=(dk 3 4 [0,1,2] (BE a b))
def vF:bL:=((bx (e6 (aA bA (aj 2)<|ab<|bc 2 G.dD<|ai (aj 0)<|ai (ab<|b7 eS<|ai (aj 2) aD) aD)<|gj 2<|dT (bj 4)<|dT (bj 5) gF)<|bx (dK (bO<|aA hL (ab<|bc 2 G.dD<|ai (aj 0)<|ai (ab<|ay<|.int 2) aD)<|ab<|ay<|.int 0) (e6 (aA bA (aj 2)<|ab<|jb<|ay<|.int 1)<|gj 2<|dT (bj 4)<|dT (bj 5) gF) ei)<|bx (e6 (aA bA (ab<|gr<|ai (ab<|cV<|ai (ab<|ay<|.int 0)<|ai (ab<|ay<|.int 1) aD)<|ai (ab<|cV<|ai (ab<|ay<|.int 1)<|ai (ab<|ay<|.int 0) aD)<|ai (ab<|cV<|ai (ab<|ay<|.int 0)<|ai (ab<|jb<|ay<|.int 1) aD)<|ai (ab<|cV<|ai (ab<|jb<|ay<|.int 1)<|ai (ab<|ay<|.int 0) aD) aD)<|ab<|bc 2 G.dD<|ai (aj 0)<|ai (ab<|ay<|.int 4) aD)<|gj 2<|dT (bj 6)<|dT (bj 7) gF)<|bx (cj 8<|cV<|ai (ab<|aA cD (aj 4)<|aj 6)<|ai (ab<|aA cD (aj 5)<|aj 7) aD)<|dK (fH (bO<|aA gp (aj 8)<|aj 2)<|fH (bO<|aA hH (ab<|b7 eS<|ai (aj 2) aD)<|aj 1)<|fH (bO<|hr ek ek (ab<|ay<|.int 0) (ab<|aA bA (aj 8)<|ab<|ay<|.int 0)<|ab<|ay<|.int 30)<|bO<|hr ek ek (ab<|ay<|.int 0) (ab<|aA bA (aj 8)<|ab<|ay<|.int 1)<|ab<|ay<|.int 30) (jr<|hi j_ 2 iS<|ai (aj 8) aD) ei))
def HH:bL:=((bx (cj 2<|gr<|ai (ab<|cV<|ai (ab<|bc 2 G.dD<|ai (aj 0)<|ai (ab<|ay<|.int 31) aD)<|ai (ab<|bc 2 G.dD<|ai (aj 0)<|ai (ab<|ay<|.int 31) aD) aD) aD)<|bx (hC (iB<|ai (ab<|aA eR (ab<|ay<|.int 2)<|aj 1) aD) (bj 3) G.vF)<|cM<|b7 gK<|ai (ab<|b7 hl<|ai (aj 2) aD) aD))
def wY:c6:=(dk 2 9 [0,1] HH)
def xu:aw ak:=((cV<|ai (ab<|aA cD (aj 1)<|ab<|aA mA (aj 0)<|aj 2)<|ai (ab<|aA cD (aj 3)<|ab<|aA f3 (aj 0)<|aj 2) aD))
def Ij:aw ak:=((dG 0))
def xW:aw Bool:=((bO<|aA oK (ab<|bc 2 G.dD<|ai (aj 1)<|ai (aj 2) aD)<|ab<|ay<|.int 0))
def Gf:bL:=((bx (cj 1<|bc 2 G.dD<|ai (aj 0)<|ai (ab<|ay<|.int 8) aD)<|bx (kM 2 3<|ai (ab<|aA cD (ab<|ay<|.int 1)<|ab<|bc 2 G.dD<|ai (aj 0)<|ai (ab<|ay<|.int 8) aD)<|ai (ab<|aA cD (ab<|ay<|.int 1)<|ab<|bc 2 G.dD<|ai (aj 0)<|ai (ab<|ay<|.int 8) aD) aD)<|bx (dK (bO<|aA hL (ab<|bc 2 G.dD<|ai (aj 0)<|ai (ab<|ay<|.int 8) aD)<|ab<|ay<|.int 0) (e6 (aA bA (ab<|gr<|ai (ab<|cV<|ai (ab<|ay<|.int 1)<|ai (ab<|ay<|.int 31) aD)<|ai (ab<|cV<|ai (ab<|ay<|.int 31)<|ai (ab<|ay<|.int 1) aD)<|ai (ab<|cV<|ai (ab<|ay<|.int 2)<|ai (ab<|ay<|.int 31) aD)<|ai (ab<|cV<|ai (ab<|ay<|.int 31)<|ai (ab<|ay<|.int 2) aD) aD)<|ab<|bc 2 G.dD<|ai (aj 0)<|ai (ab<|ay<|.int 4) aD)<|gj 2<|dT (bj 2)<|dT (bj 3) gF) ei)<|bx (kM 4 5<|ai (ab<|bc 2 G.dD<|ai (aj 0)<|ai (ab<|aA gV (ab<|ay<|.int 32)<|aj 2) aD)<|ai (ab<|bc 2 G.dD<|ai (aj 0)<|ai (ab<|aA gV (ab<|ay<|.int 32)<|aj 3) aD) aD)<|bx (cj 6<|ck 1 [4,3,5] (iB<|ai (ab<|aA eR (aj 2)<|aj 3) aD) (bj 0) c3 G.xu)<|bx (dK (bO<|aA hH (aj 1)<|ab<|ay<|.int 2) (cM<|b7 gK<|ai (aj 6) aD) ei)<|bx (dK (bO<|aA hH (aj 1)<|ab<|ay<|.int 6) (bx (cj 7<|aA bA (ab<|gr<|ai (ab<|ay<|.int 2)<|ai (ab<|ay<|.int 3)<|ai (ab<|ay<|.int 4)<|ai (ab<|ay<|.int 8) aD)<|ab<|bc 2 G.dD<|ai (aj 0)<|ai (ab<|ay<|.int 4) aD)<|cM<|b7 gK<|ai (ab<|ck 1 [0,7] (ct<|aj 6) (bj 0) G.xW G.Ij) aD) ei)<|cM<|bc 2 G.wY<|ai (aj 0)<|ai (ab<|aA cD (ab<|ay<|.int 1)<|ab<|bc 2 G.dD<|ai (aj 0)<|ai (ab<|aA bA (ab<|gr<|ai (ab<|ay<|.int 6)<|ai (ab<|ay<|.int 24)<|ai (ab<|ay<|.int 60) aD)<|ab<|bc 2 G.dD<|ai (aj 0)<|ai (ab<|ay<|.int 3) aD) aD) aD))
def m_:c6:=(dk 1 8 [0] Gf)
def BR:aw ak:=((aA bA (aj 0)<|ab<|ay<|.int 1))
def G4:aw ak:=((aA bA (aj 0)<|ab<|ay<|.int 0))
def Fx:aw ak:=((cV<|ai (ab<|aA gV (ab<|aA bA (aj 0)<|ab<|ay<|.int 0)<|aj 1)<|ai (ab<|aA gV (ab<|aA bA (aj 0)<|ab<|ay<|.int 1)<|aj 2) aD))
def B_:bL:=((bx (dK (bO<|aA hL (aj 0)<|ab<|cV aD) (cM<|cV aD) ei)<|bx (kM 1 2<|ai (ab<|b7 sf<|ai (ab<|ck 1 [] (ct<|aj 0) (bj 0) c3 G.G4) aD)<|ai (ab<|b7 sf<|ai (ab<|ck 1 [] (ct<|aj 0) (bj 0) c3 G.BR) aD) aD)<|cM<|b7 gK<|ai (ab<|b7 hl<|ai (ab<|ck 1 [1,2] (ct<|aj 0) (bj 0) c3 G.Fx) aD) aD))
def mw:c6:=(dk 1 3 [0] B_)
def GR(a b:af):bL:=((bx (e6 (bc 1 G.ro<|ai (aj 0) aD)<|gj 2<|dT (bj 1)<|dT (bj 2) gF)<|bx (dK (bO<|aA (nL X) (ab<|bc 3 (G.sr a b)<|ai (aj 0)<|ai (aj 1)<|ai (aj 2) aD)<|ab<|ay<|.aB X) (cM<|jb<|ay<|.int 1) ei)<|cM<|b7 eS<|ai (aj 1) aD))
def i0(a b:af):c6:=(dk 1 3 [0] (GR a b))
def IF:aw ak:=((cV<|ai (ab<|aA bA (aj 0)<|ab<|ay<|.int 1)<|ai (ab<|aA bA (aj 0)<|ab<|ay<|.int 0) aD))
def LI:aw ak:=((cV<|ai (ab<|aA gV (ab<|ay<|.int 30)<|ab<|aA bA (aj 0)<|ab<|ay<|.int 0)<|ai (ab<|aA bA (aj 0)<|ab<|ay<|.int 1) aD))
def RG:aw ak:=((cV<|ai (ab<|aA bA (aj 0)<|ab<|ay<|.int 0)<|ai (ab<|aA gV (ab<|ay<|.int 30)<|ab<|aA bA (aj 0)<|ab<|ay<|.int 1) aD))
def RR:aw ak:=((cV<|ai (ab<|aA gV (ab<|ay<|.int 30)<|ab<|aA bA (aj 0)<|ab<|ay<|.int 0)<|ai (ab<|aA gV (ab<|ay<|.int 30)<|ab<|aA bA (aj 0)<|ab<|ay<|.int 1) aD))
def tv:bL:=((bx (jr<|hi j_ 1 iS<|ai (ab<|b7 gK<|ai (ab<|ck 1 [] (ct<|aj 2) (bj 0) c3 G.LI) aD) aD)<|bx (jr<|hi j_ 1 iS<|ai (ab<|b7 gK<|ai (ab<|ck 1 [] (ct<|aj 2) (bj 0) c3 G.RG) aD) aD)<|jr<|hi j_ 1 iS<|ai (ab<|b7 gK<|ai (ab<|ck 1 [] (ct<|aj 2) (bj 0) c3 G.RR) aD) aD))
def FK:aw ak:=((b7 gK<|ai (ab<|b7 hl<|ai (aj 0) aD) aD))
def BL:bL:=((bx (cj 1<|gr<|ai (aj 0)<|ai (ab<|b7 gK<|ai (ab<|ck 1 [] (ct<|aj 0) (bj 0) c3 G.IF) aD) aD)<|bx (hC (ct<|ab<|b7 r2<|ai (aj 1) aD) (bj 2) G.tv)<|cM<|ck 1 [] (ct<|aj 1) (bj 0) c3 G.FK))
def nQ:c6:=(dk 1 3 [0] BL)
def zm:aw ak:=((aA bA (aj 0)<|ab<|ay<|.int 0))
def HD:aw ak:=((cV<|ai (ab<|aA cD (ab<|aA bA (aj 0)<|ab<|ay<|.int 0)<|aj 1)<|ai (ab<|aA bA (aj 0)<|ab<|ay<|.int 1) aD))
def Jf:aw ak:=((dG 0))
def HN:aw Bool:=((bO<|aA ek (ab<|aA bA (aj 0)<|ab<|ay<|.int 0)<|ab<|ay<|.int 30))
def EO:bL:=((bx (cj 2<|aA cD (ab<|b7 r5<|ai (ab<|aA cD (ab<|ck 1 [] (ct<|aj 0) (bj 0) c3 G.zm)<|ab<|gr<|ai (ab<|jb<|ay<|.int 2) aD) aD)<|ab<|ay<|.int 2)<|bx (cj 3<|b7 hl<|ai (ab<|aA cD (ab<|b7 r2<|ai (aj 0) aD)<|ab<|ck 1 [2] (ct<|aj 1) (bj 0) c3 G.HD) aD)<|cM<|b7 gK<|ai (ab<|ck 1 [] (ct<|aj 3) (bj 0) G.HN G.Jf) aD))
def r0:c6:=(dk 2 4 [0,1] EO)
def Ej(a b:af):aw ak:=((aA hL (ab<|bc 1 (G.i0 a b)<|ai (aj 0) aD)<|aj 1))
def Cq(a b:af):aw ak:=((dG 0))
def JE(a b:af):aw Bool:=((bO<|aA gp (aj 0)<|aj 1))
def tx(a b:af):bL:=((bx (cj 2<|bc 2 G.qX<|ai (aj 0)<|ai (aj 1) aD)<|bx (kM 3 4<|ai (ab<|bc 1 G.mw<|ai (ab<|bc 1 G.m_<|ai (aj 2) aD) aD)<|ai (ab<|bc 1 G.mw<|ai (ab<|bc 1 G.m_<|ai (aj 2) aD) aD) aD)<|bx (cj 5<|bc 1 (G.i0 a b)<|ai (aj 3) aD)<|bx (dK (jd (bO<|aA hH (aj 5)<|ab<|ay<|.int 0)<|gy<|hG<|ab<|b7 kr<|ai (ab<|ck 1 [5] (ct<|ab<|bc 1 G.nQ<|ai (aj 3) aD) (bj 0) c3<|G.Ej a b) aD) (cM<|ay<|.aB au) ei)<|bx (cj 6<|bc 2 G.r0<|ai (aj 3)<|ai (aj 4) aD)<|bx (cj 7<|b7 gK<|ai (ab<|ck 1 [3] (ct<|aj 6) (bj 0) (G.JE a b)<|G.Cq a b) aD)<|bx (dK (bO<|aA lj (ab<|bc 1 (G.i0 a b)<|ai (aj 6) aD)<|ab<|aA cD (aj 5)<|ab<|bc 1 (G.i0 a b)<|ai (aj 7) aD) (cM<|ay<|.aB au) ei)<|bx (cj 8<|cV<|ai (ab<|bc 2 G.dD<|ai (aj 2)<|ai (ab<|ay<|.int 12) aD)<|ai (ab<|bc 2 G.dD<|ai (aj 2)<|ai (ab<|ay<|.int 12) aD) aD)<|bx (cj 9<|b7 gK<|ai (ab<|vW<|ai (ab<|aA cD (aj 3)<|ab<|cV<|ai (aj 8) aD) aD) aD)<|bx (dK (jd (gy<|bO<|hr ek ek (ab<|aA gV (aj 5)<|ab<|ay<|.int 2) (ab<|bc 1 (G.i0 a b)<|ai (aj 9) aD)<|ab<|aA cD (aj 5)<|ab<|ay<|.int 1)<|bO<|aA hH (ab<|bc 1 (G.i0 a b)<|ai (aj 9) aD)<|ab<|ay<|.int 0) (cM<|ay<|.aB au) ei)<|dK (bO<|aA lj (aj 3)<|ab<|cV aD) (bx (cj 10<|bc 2 G.dD<|ai (aj 2)<|ai (ab<|b7 eS<|ai (aj 3) aD) aD)<|dK (gy<|bO<|hr ek ek (ab<|aA gV (aj 5)<|ab<|ay<|.int 1) (ab<|bc 1 (G.i0 a b)<|ai (ab<|aA cD (ab<|iW (aj 3) jE<|ki<|dG 10)<|ab<|iW (aj 3) (ki<|aA cD (aj 10)<|ab<|ay<|.int 1) jE) aD)<|ab<|aA cD (aj 5)<|ab<|ay<|.int 2) (cM<|ay<|.aB au) ei) ei))
def C2(a b:af):bL:=((bx (hC (iB<|ai (ab<|b7 tb<|ai (ab<|ay<|.int 1)<|ai (ab<|b7 rg<|ai (ab<|ay<|.int 6)<|ai (ab<|b7 eS<|ai (aj 0) aD) aD) aD) aD) (bj 1)<|G.tx a b)<|cM<|ay<|.aB X))
def qZ(a b:af):c6:=(dk 1 11 [0] (C2 a b))
end G
namespace cp
variable{W7 O:Type}
variable{w V3:Type}[DecidableEq w][DecidableEq V3]
structure hN(U:w->V3->Prop)(a:V3->Option w)(a_:w->Option V3)(M:List V3):Prop where
 inv:∀m q,a m=Z q↔a_ q=Z m
 ht:∀m q,a m=Z q->U q m
 ah:M.Nodup
 mem:∀m,m∈M↔∃q,a m=Z q
def put{O W7:Type}[DecidableEq O](I:O->Option W7)(g:O)(f:W7):O->Option W7:=(λe=>if e=g then Z f else I e)
def jt[DecidableEq O](I:O->Option W7)(g:O)(f:W7):put I g f g=Z f:=aM rfl
def iA[DecidableEq O](I:O->Option W7){g e:O}(f:W7)(c:e≠g):put I g f e=I e:=aN c
structure lZ(U:w->V3->Prop)(a_:w->Option V3)(i:V3->Option w)(p:V3->Nat):Prop where
 ht:∀m q,i m=Z q->U q m
 lo:∀m q WV,i m=Z q->a_ q=Z WV->(∃W3,i WV=Z W3)/\p WV<p m
variable{U:w->V3->Prop}{a:V3->Option w}{a_ v:w->Option V3}{i:V3->Option w}{p:V3->Nat}{M:List V3}{m:V3}
structure h5(U:w->V3->Prop)(v:w->Option V3)(i:V3->Option w)(p:V3->Nat)(a:V3->Option w)(a_:w->Option V3)(m:V3):Prop where
 inv:∀e q,e≠m->(a e=Z q↔a_ q=Z e)
 no:∀q,a_ q≠Z m
 ht:∀e q,e≠m->a e=Z q->U q e
 old:∀q,(∀e,v q=Z e->p e<p m)->a_ q=v q
 me:∃q,i m=Z q
def h5.start(Wd:hN U a a_ M)(c:a m=Y)(b:∃q,i m=Z q):h5 U a_ i p a a_ m:=
 ⟨λe q W=>Wd.inv e q,λq d=>(by have:=(Wd.inv m q).mpr d;rw[c]at this;cases this),λe q W=>Wd.ht e q,λ_ W=>rfl,b⟩
def h5.SW(V6:lZ U v i p)(O:h5 U v i p a a_ m){q:w}(c:i m=Z q):a_ q=v q:=
 O.old q λe d=>(V6.lo m q e c d).2
def h5.last(V6:lZ U v i p)(O:h5 U v i p a a_ m){q:w}(c:i m=Z q)(F:a_ q=Y):
  (∀e l,put a m q e=Z l↔put a_ q m l=Z e)/\∀e l,put a m q e=Z l->U l e:=by
 have R:∀e l,put a m q e=Z l↔put a_ q m l=Z e:=λe l=>by
  by_cases WM:e=m
  ·subst WM;rw[jt];by_cases b:l=q
   ·subst b;rw[jt];exact⟨λ_=>rfl,λ_=>rfl⟩
   ·rw[iA _ _ b];exact⟨λd=>absurd (Option.some.inj d).symm b,λd=>absurd d<|O.no l⟩
  ·rw[iA _ _ WM];by_cases b:l=q
   ·subst b;rw[jt];exact⟨λd=>(by have:=(O.inv e l WM).mp d;rw[F]at this;cases this),λd=>absurd (Option.some.inj d).symm WM⟩
   ·rw[iA _ _ b];exact O.inv e l WM
 refine⟨R,λe l d=>?_⟩;by_cases WM:e=m
 ·subst WM;rw[jt]at d;cases d;exact V6.ht _ _ c
 ·rw[iA _ _ WM]at d;exact O.ht e l WM d
def h5.next(V6:lZ U v i p)(O:h5 U v i p a a_ m){q:w}(c:i m=Z q){r:V3}(F:a_ q=Z r):
  h5 U v i p (put a m q) (put a_ q m) r/\p r<p m/\v q=Z r:=by
 have k:=O.SW V6 c;have f:v q=Z r:=by rw[<-k];exact F
 have S:=V6.lo m q r c f;have g:r≠m:=λd=>O.no q (by rw[<-d];exact F);refine⟨⟨λe l h=>?_,λl d=>?_,λe l h d=>?_,λl j=>?_,S.1⟩,S.2,f⟩
 ·by_cases WM:e=m
  ·subst WM;rw[jt];by_cases b:l=q
   ·subst b;rw[jt];exact⟨λ_=>rfl,λ_=>rfl⟩
   ·rw[iA _ _ b];exact⟨λd=>absurd (Option.some.inj d).symm b,λd=>absurd d<|O.no l⟩
  ·rw[iA _ _ WM];by_cases b:l=q
   ·subst b;rw[jt];exact⟨λd=>by have:=(O.inv e l WM).mp d;rw[F]at this;exact absurd (Option.some.inj this).symm h,λd=>absurd (Option.some.inj d).symm WM⟩
   ·rw[iA _ _ b];exact O.inv e l WM
 ·by_cases b:l=q
  ·subst b;rw[jt]at d;exact g (Option.some.inj d).symm
  ·rw[iA _ _ b]at d;have t:=(O.inv r l g).mpr d;have C:=(O.inv r q g).mpr F;rw[t]at C;exact b (Option.some.inj C)
 ·by_cases WM:e=m
  ·subst WM;rw[jt]at d;cases d;exact V6.ht _ _ c
  ·rw[iA _ _ WM]at d;exact O.ht e l WM d
 ·by_cases b:l=q
  ·subst b;exact absurd (j r f) (iN _)
  ·rw[iA _ _ b];exact O.old l λe d=>qr (j e d) S.2
def along(i:V3->Option w):Nat->(V3->Option w)×(w->Option V3)->V3->(V3->Option w)×(w->Option V3)
 |0,n,_=>n
 |u+1,n,m=>
  match i m with
  |none=>n
  |some q=>
   match n.2 q with
   |none=>(put n.1 m q,put n.2 q m)
   |some r=>along i u (put n.1 m q,put n.2 q m) r
def fZ(a:V3->Option w)(m:V3):Prop:=(∃q,a m=Z q)
def jT{a:V3->Option w}{m:V3}{q:w}(e:V3):fZ (put a m q) e↔e=m\/fZ a e:=by
 unfold fZ;by_cases d:e=m
 ·subst d;rw[jt];exact⟨λ_=>.inl rfl,λ_=>⟨q,rfl⟩⟩
 ·rw[iA _ _ d];exact⟨.inr,λc=>c.elim (λx=>absurd x d) id⟩
theorem h5.go(V6:lZ U v i p):∀(u:Nat) {a:V3->Option w}{a_:w->Option V3}{m:V3},p m<u->h5 U v i p a a_ m->(∀e q,v q=Z e->fZ a e)->
  (∀e l,(along i u (a,a_) m).1 e=Z l↔(along i u (a,a_) m).2 l=Z e)/\(∀e l,(along i u (a,a_) m).1 e=Z l->U l e)/\∀e,fZ (along i u (a,a_) m).1 e↔e=m\/fZ a e
 |0,_,_,_,c,_,_=>absurd c (l4 _)
 |u+1,a,a_,m,h,O,b=>by
  let⟨q,hd⟩:=O.me;cases F:a_ q with
  |none=>
   have d:along i (u+1) (a,a_) m=(put a m q,put a_ q m):=by simp only[along,hd,F]
   rw[d];have J:=O.last V6 hd F;exact⟨J.1,J.2,λe=>jT e⟩
  |some r=>
   have d:along i (u+1) (a,a_) m=along i u (put a m q,put a_ q m) r:=by simp only[along,hd,F]
   rw[d];let⟨f,lt,g⟩:=O.next V6 hd F;have A:=h5.go V6 u (a:=put a m q) (a_:=put a_ q m) (m:=r) (by omega) f λe l x=>(jT e).mpr (.inr<|b e l x);refine⟨A.1,A.2.1,λe=>(A.2.2 e).trans ⟨λc=>?_,λc=>.inr<|(jT e).mpr c⟩⟩;rcases c with c|c
   ·exact .inr (c ▸ b r q g)
   ·exact (jT e).mp c
structure p3(U:w->V3->Prop)(a:V3->Option w)(a_:w->Option V3)(aO:V3->Prop):Prop where
 free:∀q m,a_ q=Y->U q m->aO m
 on:∀r q m,aO r->a r=Z q->U q m->aO m
 nc:∀m,aO m->∃q,a m=Z q
def hN.holds(Wd:hN U a a_ M){aO:V3->Prop}(j:p3 U a a_ aO){q:w}{m:V3}(c:U q m):
  (m∈M/\aO m)\/∃r∈M,¬ aO r/\a r=Z q:=by
 cases F:a_ q with
 |none=>
  have h:=j.free q m F c;exact .inl ⟨(Wd.mem m).mpr<|j.nc m h,h⟩
 |some r=>
  have d:=(Wd.inv r q).mpr F;by_cases h:aO r
  ·have b:=j.on r q m h d c;exact .inl ⟨(Wd.mem m).mpr<|j.nc m b,b⟩
  ·exact .inr ⟨r,(Wd.mem r).mpr ⟨q,d⟩,h,d⟩
def hN.d5(Wd:hN U a a_ M){J:List w}(c:∀q m,U q m->q∈J):M.length<=J.length:=by
 obtain⟨WS,j⟩:∃WS:V3->Option w,WS=a:=⟨a,rfl⟩;have:(M.filterMap a).length=M.length:=by
  have:∀H:List V3,(∀e∈H,e∈M)->(H.filterMap a).length=H.length:=λH=>by
   induction H with
   |nil=>exact λ_=>rfl
   |cons e H f=>
    intro b;let⟨q,d⟩:=(Wd.mem e).mp (b e<|.head _);rw[rU d,dj,dj,f λl g=>b l<|.tail _ g]
  exact this M λ_ c=>c
 rw[<-this];refine vG ?_ λq hd=>?_
 ·have:∀H:List V3,H.Nodup->(H.filterMap a).Nodup:=λH=>by
   induction H with
   |nil=>exact λ_=>.nil
   |cons e H f=>
    intro b;have b:=gb.mp b;cases d:a e with
    |none=>rw[List.filterMap_cons_none d];exact f b.2
    |some q=>
     rw[rU d];refine gb.mpr ⟨λx=>?_,f b.2⟩;let⟨l,g,h⟩:=pY.mp x;have i:=(Wd.inv e q).mp d;have W5:=(Wd.inv l q).mp h;rw[i]at W5;exact b.1 (Option.some.inj W5 ▸ g)
  exact this M Wd.ah
 ·let⟨m,W,d⟩:=pY.mp hd;exact c q m (Wd.ht m q d)
end cp
namespace cp
variable{w V3:Type}[DecidableEq w][DecidableEq V3]{U:w->V3->Prop}{a:V3->Option w}{a_:w->Option V3}{i:V3->Option w}{M:List V3}{J:List w}{j b:w->Prop}{u:Nat}
structure iF(U:w->V3->Prop)(a:V3->Option w)(a_:w->Option V3)(J:List w)(j:w->Prop)(i:V3->Option w)(u:Nat):Prop where
 jL:∃p,lZ U a_ i p/\∀m,fZ i m->p m<u
 op:∀q,j q->∀r,a_ q=Z r->fZ i r
 cl:∀q∈J,(∀r,a_ q=Z r->fZ i r)->j q\/∀m,U q m->fZ i m
 nc:∀m,fZ i m->fZ a m
def iF.init:iF U a a_ J (λq=>q∈J/\a_ q=Y) (λ_=>Y) 0:=by
 refine⟨⟨λ_=>0,⟨λm q d=>(by cases d),λm q WV d=>(by cases d)⟩,λm d=>(by let⟨q,d⟩:=d;cases d)⟩,λq c r d=>(by rw[c.2]at d;cases d),λq hd c=>.inl ⟨hd,?_⟩,λm c=>(by let⟨q,d⟩:=c;cases d)⟩;cases F:a_ q with
 |none=>rfl
 |some r=>
  let⟨q,d⟩:=c r F;cases d
def iF.tree(We:iF U a a_ J j i u){q:w}{m:V3}(hd:j q)(f:U q m)(c:¬ fZ i m):
  ∃p,lZ U a_ (put i m q) p/\(∀e,fZ (put i m q) e->p e<u+1):=by
 let⟨p,V6,lt⟩:=We.jL;refine⟨λe=>if e=m then u else p e,⟨λe l d=>?_,λe l r d F=>?_⟩,λe g=>?_⟩
 ·by_cases WM:e=m
  ·subst WM;rw[jt]at d;cases d;exact f
  ·rw[iA _ _ WM]at d;exact V6.ht e l d
 ·by_cases WM:e=m
  ·subst WM;rw[jt]at d;cases d;have b:=We.op q hd r F;have h:r≠e:=λx=>c (x ▸ b);refine⟨(jT r).mpr<|.inr b,?_⟩;show (if r=e then u else p r)<if e=e then u else p e
   rw[aN h,aM rfl];exact lt r b
  ·rw[iA _ _ WM]at d;let⟨t,C⟩:=V6.lo e l r d F;have k:r≠m:=λx=>c (x ▸ t);refine⟨(jT r).mpr<|.inr t,?_⟩;show (if r=m then u else p r)<if e=m then u else p e
   rw[aN k,aN WM];exact C
 ·show (if e=m then u else p e)<u+1;by_cases WM:e=m
  ·rw[aM WM];omega
  ·rw[aN WM];have:=lt e (((jT e).mp g).resolve_left WM);omega
def iF.add(We:iF U a a_ J j i u)(Wd:hN U a a_ M){q W3:w}{m:V3}(hd:j q)(l:U q m)(n:¬ fZ i m)(V9:a m=Z W3)(g:∀e,b e↔e=W3\/j e):
  iF U a a_ J b (put i m q) (u+1):=by
 refine⟨We.tree hd l n,λe f r F=>?_,λe f c=>?_,λe f=>?_⟩
 ·rcases (g e).mp f with d|p
  ·rw[d,(Wd.inv m W3).mp V9]at F;cases F;exact (jT m).mpr (.inl rfl)
  ·exact (jT r).mpr (.inr<|We.op e p r F)
 ·by_cases d:e=W3
  ·exact .inl ((g e).mpr<|.inl d)
  ·have T:∀r,a_ e=Z r->fZ i r:=λr F=>by
    rcases (jT r).mp (c r F) with x|x
    ·have k:=(Wd.inv r e).mpr F;rw[x,V9]at k;exact absurd (Option.some.inj k).symm d
    ·exact x
   rcases We.cl e f T with p|h
   ·exact .inl ((g e).mpr<|.inr p)
   ·exact .inr λr x=>(jT r).mpr (.inr<|h r x)
 ·rcases (jT e).mp f with x|x
  ·exact x ▸ ⟨W3,V9⟩
  ·exact We.nc e x
def iF.LW(We:iF U a a_ J j i u)(t:∀q,j q->b q\/∀m,U q m->fZ i m)(C:∀q,b q->j q):iF U a a_ J b i u:=
 ⟨We.jL,λq hd=>We.op q<|C q hd,λq hd c=>(We.cl q hd c).elim (λp=>t q p) .inr,We.nc⟩
def iF.done(We:iF U a a_ J j i u)(Wd:hN U a a_ M)(c:∀q,¬ j q)(b:∀q m,U q m->q∈J):p3 U a a_ (fZ i):=
 ⟨λq m F d=>(We.cl q (b q m d) λr x=>by rw[F]at x;cases x).resolve_left (c q) m d,
  λr q m h F d=>(We.cl q (b q m d) λe x=>by rw[(Wd.inv r q).mp F]at x;cases x;exact h).resolve_left (c q) m d,
  We.nc⟩
end cp
namespace cp
variable{i o:Nat}
abbrev ee:=Int×Int
def Hj(V7:Int->Prop)(a i:Int):Prop:=(∀o,(a<=o/\o<=i\/i<=o/\o<=a)->V7 o)
def In(P:ee->Prop):Bool->ee->ee->Prop
 |true,e,l=>e.2=l.2/\Hj (λa=>P (a,e.2)) e.1 l.1
 |false,e,l=>e.1=l.1/\Hj (λi=>P (e.1,i)) e.2 l.2
variable{P V7 j:ee->Prop}{f:Bool}{e l x:ee}
def In.symm:In P f e l->In P f l e:=by
 cases f
 ·rintro⟨d,c⟩;exact⟨d.symm,λo a=>by have:=c o (by omega);rwa [d]at this⟩
 ·rintro⟨d,c⟩;exact⟨d.symm,λo a=>by have:=c o (by omega);rwa [d]at this⟩
def In.trans:In P f e l->In P f l x->In P f e x:=by
 cases f
 ·rintro⟨d,c⟩ ⟨a,T⟩;refine⟨d.trans a,λo b=>?_⟩;by_cases r:e.2<=o/\o<=l.2\/l.2<=o/\o<=e.2
  ·exact c o r
  ·have:=T o (by omega);rwa [<-d]at this
 ·rintro⟨d,c⟩ ⟨a,T⟩;refine⟨d.trans a,λo b=>?_⟩;by_cases r:e.1<=o/\o<=l.1\/l.1<=o/\o<=e.1
  ·exact c o r
  ·have:=T o (by omega);rwa [<-d]at this
def In.refl(c:P e)(f:Bool):In P f e e:=by
 cases f
 ·exact⟨rfl,λo a=>by rw[show o=e.2 by omega];exact c⟩
 ·exact⟨rfl,λo a=>by rw[show o=e.1 by omega];exact c⟩
def In.left(c:In P f e l):P e:=by
 cases f
 ·exact c.2 e.2 (by omega)
 ·exact c.2 e.1 (by omega)
def In.right(c:In P f e l):P l:=c.symm.left
def In.mono(av:∀e,P e->V7 e)(c:In P f e l):In V7 f e l:=by
 cases f
 ·exact⟨c.1,λo a=>av _<|c.2 o a⟩
 ·exact⟨c.1,λo a=>av _<|c.2 o a⟩
def eg(P:ee->Prop)(H:List (Bool×ee)):Prop:=(∀h,P h->∃s∈H,In P s.1 s.2 h)
def rC(P:ee->Prop)(k:List ee):Prop:=((∀h∈k,P h)/\k.Pairwise λe l=>∀f,¬ In P f e l)
def d0(P:ee->Prop)(o:Nat):Prop:=((∃H,eg P H/\H.length=o)/\∃k,rC P k/\k.length=o)
theorem Du:∀{k:List ee}{H:List (Bool×ee)},rC P k->(∀h∈k,∃s∈H,In P s.1 s.2 h)->k.length<=H.length
 |[],_,_,_=>hj _
 |h::k,H,O,c=>by
  let⟨s,g,i⟩:=c h (.head _);let⟨n,E,rfl⟩:=List.append_of_mem g;have f:=e8.mp O.2;have:=Du (k:=k) (H:=n++E) ⟨λe a=>O.1 e<|.tail _ a,f.2⟩ λe a=>by
   let⟨r,j,b⟩:=c e (.tail _ a);rcases c5.mp j with x|x
   ·exact⟨r,c5.mpr<|.inl x,b⟩
   ·rcases b8.mp x with d|x
    ·subst d;exact absurd (i.symm.trans b) (f.1 e a _)
    ·exact⟨r,c5.mpr<|.inr x,b⟩
  simp only[di,dj]at this ⊢;omega
def d0.le(Ww:d0 P o){H:List (Bool×ee)}(c:eg P H):o<=H.length:=by
 let⟨W,k,O,d⟩:=Ww;rw[<-d];exact Du O λh a=>c h (O.1 h a)
def d0.uniq(Ww:d0 P o)(aw:d0 P i):o=i:=by
 have t:=Ww.le aw.1.choose_spec.1;have C:=aw.le Ww.1.choose_spec.1;rw[aw.1.choose_spec.2]at t;rw[Ww.1.choose_spec.2]at C;omega
theorem d0.congr(c:∀h,P h↔V7 h)(Ww:d0 P o):d0 V7 o:=(funext λh=>propext (c h):P=V7) ▸ Ww
def d0.map(Ww:d0 P o)(WS:ee->ee)(n:Bool->Bool)(g:∀f,n (n f)=f)(on:∀h,V7 h->∃e,P e/\WS e=h)(V0:∀f e l,In P f e l↔In V7 (n f) (WS e) (WS l)):d0 V7 o:=by
 let⟨⟨H,c,d⟩,k,O,i⟩:=Ww;have j:∀h,P h->V7 (WS h):=λh a=>((V0 X h h).mp<|In.refl a X).left;refine⟨⟨H.map λs=>(n s.1,WS s.2),λh a=>?_,by rw[ba,d]⟩,k.map WS,⟨λh a=>?_,?_⟩,by rw[ba,i]⟩
 ·let⟨e,b,rfl⟩:=on h a;let⟨s,m,p⟩:=c e b;exact⟨_,cG.mpr ⟨s,m,rfl⟩,(V0 _ _ _).mp p⟩
 ·let⟨e,b,rfl⟩:=cG.mp a;exact j e (O.1 e b)
 ·rw[nz];refine O.2.imp λ{e l} q f r=>q (n f) ((V0 _ _ _).mpr ?_);rw[g];exact r
def d0.flip(Ww:d0 P o):d0 (λh=>P (h.2,h.1)) o:=
 Ww.map (λh=>(h.2,h.1)) not (λf=>by cases f<;>rfl) (λh a=>⟨(h.2,h.1),a,rfl⟩) λf e l=>by cases f<;>exact Iff.rfl
def d0.rows(Ww:d0 P o)(g:Int):d0 (λh=>P (g-h.1,h.2)) o:=by
 refine Ww.map (λh=>(g-h.1,h.2)) id (λ_=>rfl) (λh c=>⟨(g-h.1,h.2),c,by rw[show g-(g-h.1)=h.1 by omega]⟩) λf e l=>?_;have d:∀a:Int,g-(g-a)=a:=λa=>by omega
 cases f
 ·constructor
  ·rintro⟨t,C⟩;exact⟨by show g-e.1=g-l.1;omega,λo b=>by show P (g-(g-e.1),o);rw[d];exact C o b⟩
  ·rintro⟨t,C⟩;have t:g-e.1=g-l.1:=t;exact⟨by omega,λo b=>by have:P (g-(g-e.1),o):=C o b;rwa [d]at this⟩
 ·constructor
  ·rintro⟨t,C⟩;exact⟨t,λo b=>by
    have b:g-e.1<=o/\o<=g-l.1\/g-l.1<=o/\o<=g-e.1:=b;exact C (g-o) (by omega)⟩
  ·rintro⟨t,C⟩;exact⟨t,λo b=>by
    have:P (g-(g-o),e.2):=C (g-o) (by show g-e.1<=g-o/\g-o<=g-l.1\/g-l.1<=g-o/\g-o<=g-e.1;omega)
    rwa [d]at this⟩
theorem d0.cols(Ww:d0 P o)(g:Int):d0 (λh=>P (h.1,g-h.2)) o:=(Ww.flip.rows g).flip
def d0.both(Ww:d0 P o)(aw:d0 V7 i)(b:∀h,j h↔P h\/V7 h)(m:Int)(n:∀h,P h->h.1<m)(p:∀h,V7 h->m<h.1):d0 j (o+i):=by
 have y:∀h,P h->j h:=λh c=>(b h).mpr (.inl c);have z:∀h,V7 h->j h:=λh c=>(b h).mpr (.inr c);have A:∀h,j h->h.1≠m:=λh c d=>by
  rcases (b h).mp c with c|c
  ·have:=n h c;omega
  ·have:=p h c;omega
 have B:∀{f e l},In j f e l->P e->In P f e l:=λ{f e l} c a=>by
  have D:=n e a;cases f
  ·exact⟨c.1,λo g=>((b _).mp<|c.2 o g).resolve_right λx=>by have:=p _ x;have:m<e.1:=this;omega⟩
  ·refine⟨c.1,λo g=>((b _).mp<|c.2 o g).resolve_right λx=>?_⟩;have:=p _ x;have:m<o:=this;exact A _ (c.2 m (by omega)) rfl
 have E:∀{f e l},In j f e l->V7 e->In V7 f e l:=λ{f e l} c a=>by
  have D:=p e a;cases f
  ·exact⟨c.1,λo g=>((b _).mp<|c.2 o g).resolve_left λx=>by have:=n _ x;have:e.1<m:=this;omega⟩
  ·refine⟨c.1,λo g=>((b _).mp<|c.2 o g).resolve_left λx=>?_⟩;have:=n _ x;have:o<m:=this;exact A _ (c.2 m (by omega)) rfl
 let⟨⟨H,c,d⟩,k,O,F⟩:=Ww;let⟨⟨G,C,I⟩,J,t,L⟩:=aw;refine⟨⟨H++G,λh u=>?_,by rw[di,d,I]⟩,k++J,⟨λh u=>?_,yO.mpr ⟨?_,?_,?_⟩⟩,by rw[di,F,L]⟩
 ·rcases (b h).mp u with x|x
  ·let⟨s,v,r⟩:=c h x;exact⟨s,c5.mpr<|.inl v,r.mono y⟩
  ·let⟨s,v,r⟩:=C h x;exact⟨s,c5.mpr<|.inr v,r.mono z⟩
 ·rcases c5.mp u with x|x
  ·exact y h (O.1 h x)
  ·exact z h (t.1 h x)
 ·exact O.2.imp_of_mem λ{e l} a _ w f q=>w f (B q<|O.1 e a)
 ·exact t.2.imp_of_mem λ{e l} a _ w f q=>w f (E q<|t.1 e a)
 ·intro e a l M f q;have N:=n l (B q<|O.1 e a).right;have W5:=p l (t.1 l M);omega
end cp
namespace cp
variable{P V7 j:ee->Prop}{f:Bool}{e l x:ee}
def In.off(g:∀h,V7 h↔P h\/h=x)(c:In V7 f e l)(u:¬ In V7 f e x):In P f e l:=by
 cases f
 ·refine⟨c.1,λo b=>((g _).mp<|c.2 o b).resolve_right λd=>u ?_⟩;rw[<-d];exact⟨rfl,λa V0=>c.2 a (by have V0:e.2<=a/\a<=o\/o<=a/\a<=e.2:=V0;omega)⟩
 ·refine⟨c.1,λo b=>((g _).mp<|c.2 o b).resolve_right λd=>u ?_⟩;rw[<-d];exact⟨rfl,λa V0=>c.2 a (by have V0:e.1<=a/\a<=o\/o<=a/\a<=e.1:=V0;omega)⟩
def sV(x:ee):Bool->List (Bool×ee)
 |true=>[(X,(x.1-1,x.2)),(X,(x.1+1,x.2))]
 |false=>[(au,(x.1,x.2-1)),(au,(x.1,x.2+1))]
def In.cut(j:∀h,V7 h↔P h\/h=x)(c:In V7 f x l)(u:l≠x):∃s∈sV x f,In P s.1 s.2 l:=by
 let⟨b,e⟩:=x;let⟨g,i⟩:=l;cases f
 ·let⟨d,c⟩:=c;have d:b=g:=d;subst d;have u:i≠e:=λd=>u (by rw[d]);have ok:∀o,o≠e->(e<=o/\o<=i\/i<=o/\o<=e)->P (b,o):=λo a r=>((j _).mp<|c o r).resolve_right λd=>a (congrArg Prod.snd d);rcases A7 u with H|H
  ·exact⟨_,.head _,rfl,λo a=>by have a:e-1<=o/\o<=i\/i<=o/\o<=e-1:=a;exact ok o (by omega) (by omega)⟩
  ·exact⟨_,.tail _<|.head _,rfl,λo a=>by have a:e+1<=o/\o<=i\/i<=o/\o<=e+1:=a;exact ok o (by omega) (by omega)⟩
 ·let⟨d,c⟩:=c;have d:e=i:=d;subst d;have u:g≠b:=λd=>u (by rw[d]);have ok:∀o,o≠b->(b<=o/\o<=g\/g<=o/\o<=b)->P (o,e):=λo a r=>((j _).mp<|c o r).resolve_right λd=>a (congrArg Prod.fst d);rcases A7 u with H|H
  ·exact⟨_,.head _,rfl,λo a=>by have a:b-1<=o/\o<=g\/g<=o/\o<=b-1:=a;exact ok o (by omega) (by omega)⟩
  ·exact⟨_,.tail _<|.head _,rfl,λo a=>by have a:b+1<=o/\o<=g\/g<=o/\o<=b+1:=a;exact ok o (by omega) (by omega)⟩
def Oh(x:ee)(f:Bool):(sV x f).length=2:=by cases f<;>rfl
open Classical in
def d0.one{o i:Nat}(Ww:d0 P o)(aw:d0 V7 i)(b:∀h,V7 h↔P h\/h=x):i<=o+1/\o<=i+2:=by
 by_cases p:P x
 ·have:=(Ww.congr λh=>⟨λc=>(b h).mpr<|.inl c,λc=>((b h).mp c).elim id λd=>d ▸ p⟩).uniq aw;omega
 constructor
 ·let⟨⟨H,c,d⟩,W⟩:=Ww;have:=aw.le (H:=(X,x)::H) λh g=>by
   rcases (b h).mp g with r|r
   ·let⟨s,a,m⟩:=c h r;exact⟨s,.tail _ a,m.mono λh c=>(b h).mpr<|.inl c⟩
   ·exact⟨_,.head _,by rw[r];exact In.refl ((b x).mpr<|.inr rfl) X⟩
  rw[dj,d]at this;exact this
 ·let⟨⟨H,c,d⟩,W⟩:=aw;let E:Bool->Bool×ee->Bool:=λf s=>decide (s.1=f/\In V7 s.1 s.2 x)
  let r:Bool×ee->Bool:=λs=>decide (¬ In V7 s.1 s.2 x)
  let ad:Bool->List (Bool×ee):=λf=>if (H.filter<|E f)=[] then [] else sV x f
  have q:∀f,(ad f).length<=(H.filter<|E f).length+1:=λf=>by
   show (if (H.filter<|E f)=[] then [] else sV x f).length<=_;split
   ·exact hj _
   ·rename_i ne;rw[Oh];have:=rH.mpr ne;omega
  have sum:∀H:List (Bool×ee),(H.filter r).length+(H.filter<|E X).length+(H.filter<|E au).length=H.length:=λH=>by
   induction H with
   |nil=>rfl
   |cons s H y=>
    by_cases a:In V7 s.1 s.2 x
    ·have j:r s=au:=dQ λu=>u a;cases e:s.1
     ·have t:E X s=au:=dQ λu=>by rw[e]at u;exact absurd u.1 ∅
      have C:E au s=X:=du ⟨e,a⟩;rw[qv (by rw[j];decide),qv (by rw[t];decide),yw C,dj,dj];omega
     ·have t:E X s=X:=du ⟨e,a⟩;have C:E au s=au:=dQ λu=>by rw[e]at u;exact absurd u.1 ∅
      rw[qv (by rw[j];decide),yw t,qv (by rw[C];decide),dj,dj];omega
    ·have j:r s=X:=du a;have t:∀f,E f s=au:=λf=>dQ λu=>a u.2;rw[yw j,qv (by rw[t];decide),qv (by rw[t];decide),dj,dj];omega
  have:=Ww.le (H:=H.filter r++(ad X++ad au)) λh g=>by
   have v:h≠x:=λd=>p (d ▸ g);let⟨s,a,m⟩:=c h ((b h).mpr<|.inl g);by_cases u:In V7 s.1 s.2 x
   ·let⟨l,w,WV⟩:=In.cut b (u.symm.trans m) v;have ne:H.filter (E s.1)≠[]:=λd=>by
     have:s∈H.filter (E s.1):=jw.mpr ⟨a,du ⟨rfl,u⟩⟩;rw[d]at this;exact absurd this ↥0
    have k:l∈ad s.1:=by
     show l∈if H.filter (E s.1)=[] then [] else sV x s.1
     rw[aN ne];exact w
    refine⟨l,c5.mpr<|.inr<|c5.mpr ?_,WV⟩;cases e:s.1
    ·rw[e]at k;exact .inr k
    ·rw[e]at k;exact .inl k
   ·exact⟨s,c5.mpr<|.inl<|jw.mpr ⟨a,du u⟩,m.off b u⟩
  have n:=sum H;have z:=q X;have W5:=q au;rw[di,di]at this;omega
end cp
namespace cp
variable{w V3:Type}[DecidableEq w][DecidableEq V3]{U:w->V3->Prop}{a:V3->Option w}{a_:w->Option V3}{M:List V3}{aO:V3->Prop}{P:ee->Prop}
structure s7(P:ee->Prop)(U:w->V3->Prop)(hd:w->ee)(V9:V3->ee):Prop where
 cr:∀q m,U q m->∃h,In P X (hd q) h/\In P au (V9 m) h
 all:∀h,P h->∃q m,U q m/\In P X (hd q) h/\In P au (V9 m) h
 Bz:∀q m W3 WV,U q m->U W3 WV->In P X (hd q) (hd W3)->q=W3
 wO:∀q m W3 WV,U q m->U W3 WV->In P au (V9 m) (V9 WV)->m=WV
variable{hd:w->ee}{V9:V3->ee}
def s7.at_(y:s7 P U hd V9){q:w}{m:V3}(c:U q m):In P X (hd q) ((V9 m).1,(hd q).2)/\In P au (V9 m) ((V9 m).1,(hd q).2):=by
 let⟨h,t,C⟩:=y.cr q m c;have d:h=((V9 m).1,(hd q).2):=by
  have a:(hd q).2=h.2:=t.1;have W5:(V9 m).1=h.1:=C.1;rw[a,W5]
 rw[<-d];exact⟨t,C⟩
def hN.hold[DecidablePred aO](Wd:hN U a a_ M)(j:p3 U a a_ aO)(y:s7 P U hd V9){F:V3->Bool×ee}(e:∀m∈M,∀q,a m=Z q->F m=if aO m then (au,V9 m) else (X,hd q)):eg P (M.map F):=λh f=>by
 let⟨q,m,d,t,C⟩:=y.all h f;rcases Wd.holds j d with ⟨b,c⟩|⟨r,b,c,g⟩
 ·let⟨W3,i⟩:=(Wd.mem m).mp b;refine⟨F m,cG.mpr ⟨m,b,rfl⟩,?_⟩;rw[e m b W3 i,aM c];exact C
 ·refine⟨F r,cG.mpr ⟨r,b,rfl⟩,?_⟩;rw[e r b q g,aN c];exact t
def hN.apart(Wd:hN U a a_ M)(y:s7 P U hd V9){F:V3->ee}(b:∀m∈M,∀q,a m=Z q->F m=((V9 m).1,(hd q).2)):rC P (M.map F):=by
 refine⟨λh r=>?_,?_⟩
 ·let⟨m,j,rfl⟩:=cG.mp r;let⟨q,d⟩:=(Wd.mem m).mp j;rw[b m j q d];exact (y.at_<|Wd.ht m q d).1.right
 ·rw[nz];refine (DK.mp Wd.ah).imp_of_mem λ{m n} k l ne f c=>ne ?_;let⟨q,d⟩:=(Wd.mem m).mp k;let⟨W3,e⟩:=(Wd.mem n).mp l;have g:=Wd.ht m q d;have i:=Wd.ht n W3 e;rw[b m k q d,b n l W3 e]at c;have o:=y.at_ g;have p:=y.at_ i;cases f
  ·exact y.wO q m W3 n g i (o.2.trans<|c.trans p.2.symm)
  ·have s:=y.Bz q m W3 n g i (o.1.trans<|c.trans p.1.symm);subst s;have t:=(Wd.inv m q).mp d;have W5:=(Wd.inv n q).mp e;rw[t]at W5;exact Option.some.inj W5
end cp
namespace G
open L2
section
variable{V2 ao:Type}[DecidableEq V2]
def aU(a:V2->List V)(i:ao->V)(M:List V2)(I:V2->ao):List (List V×V):=(M.map λo=>(a o,i<|I o))
def fL(I:V2->ao)(o:V2)(v:ao):V2->ao:=(λe=>if e=o then v else I e)
def eh(M:List V2)(o:V2):List V2:=(if o∈M then M else M++[o])
def l8(H:List V2)(e:V2):(e∈H->eh H e=H)/\(e∉H->eh H e=H++[e]):=⟨λc=>aM c,λc=>aN c⟩
def kX{H:List V2}{e l:V2}:l∈eh H e↔l=e\/l∈H:=by
 by_cases c:e∈H
 ·rw[(l8 H e).1 c];exact⟨.inr,λx=>x.elim (λd=>d ▸ c) id⟩
 ·rw[(l8 H e).2 c,c5,cP];exact or_comm
def qe{H:List V2}(e:V2)(c:H.Nodup):(eh H e).Nodup:=zR l8 [e] H c
def uL(H:List V2)(e:V2):(eh H e).length<=H.length+1:=JY l8 [e] H
def wZ(I:V2->ao)(o:V2)(v:ao):fL I o v o=v:=aM rfl
def tn(I:V2->ao){o e:V2}(v:ao)(c:e≠o):fL I o v e=I e:=aN c
def If(a:V2->List V)(i:ao->V)(M:List V2)(I:V2->ao):(aU a i M I).length=M.length:=ba ..
variable{a:V2->List V}{i:ao->V}{M:List V2}{I:V2->ao}{o:V2}
def xE(inj:∀g f,a g=a f->g=f)(c:o∈M):d8 (aU a i M I) (a o)=Z (i<|I o):=by
 induction M with
 |nil=>cases c
 |cons e m b=>
  unfold d8 aU;rw[b2,lx];by_cases d:e=o
  ·subst d;simp
  ·have:decide (a e=a o)=au:=dQ λx=>d (inj _ _ x);rw[this];exact b ((b8.mp c).resolve_left λx=>d x.symm)
def E3(inj:∀g f,a g=a f->g=f):((aU a i M I).any λs=>decide (s.1=a o))=decide (o∈M):=by
 rw[q7,Ag,k7];constructor
 ·rintro⟨s,b,d⟩;let⟨e,h,rfl⟩:=cG.mp b;exact inj _ _ (hz d) ▸ h
 ·exact λc=>⟨_,cG.mpr ⟨o,c,rfl⟩,du rfl⟩
def y0(inj:∀g f,a g=a f->g=f):(d8 (aU a i M I)<|a o).isSome=decide (o∈M):=by rw[I3,E3 inj]
def Vd(inj:∀g f,a g=a f->g=f)(c:o∉M):d8 (aU a i M I) (a o)=Y:=by
 have:=y0 (i:=i) (I:=I) (M:=M) (o:=o) inj;rw[dQ c]at this;exact Option.not_isSome_iff_eq_none.mp (by rw[this];exact dc)
def RJ(inj:∀g f,a g=a f->g=f)(v:ao):jq (aU a i M I) (a o) (i v)=aU a i (eh M o) (fL I o v):=by
 unfold jq;rw[E3 inj];by_cases c:o∈M
 ·rw[aM (du c),(l8 M o).1 c];unfold aU;rw[eU];refine rL λe W=>?_;show (if a e=a o then (a e,i v) else (a e,i<|I e))=(a e,i<|fL I o v e);by_cases d:e=o
  ·rw[aM (by rw[d]),d,wZ]
  ·rw[aN λx=>d<|inj _ _ x,tn _ _ d]
 ·rw[aN (by rw[dQ c];exact dc),(l8 M o).2 c];unfold aU;rw[f_];refine congr (congrArg _<|rL λe b=>?_) ?_
  ·rw[tn I v (show e≠o from λd=>c<|d ▸ b)]
  ·show [(a o,i v)]=[(a o,i<|fL I o v o)];rw[wZ]
def Ef(inj:∀g f,a g=a f->g=f)(ok:V.keys 7 (a o)=X):jF (.im<|.tup<|a o) (.aF<|aU a i M I)=Z (.im<|.aB<|decide (o∈M)):=by
 show (hK (.tup<|a o)<|.aF<|aU a i M I).map (λm=>ak.im<|.aB m)=_;rw[zl,aM ok,y0 inj];rfl
def Cg(inj:∀g f,a g=a f->g=f)(ok:V.keys 7 (a o)=X):gp (.im<|.tup<|a o) (.aF<|aU a i M I)=Z (.im<|.aB<|!decide (o∈M)):=by
 show (hK (.tup<|a o)<|.aF<|aU a i M I).map (λm=>ak.im<|.aB<|!m)=_;rw[zl,aM ok,y0 inj];rfl
def Ge(inj:∀g f,a g=a f->g=f)(ok:V.keys 7 (a o)=X)(c:o∈M):jF (.im<|.tup<|a o) (.aF<|aU a i M I)=Z (.im<|.aB X):=by rw[Ef inj ok,du c]
def TZ(inj:∀g f,a g=a f->g=f)(ok:V.keys 7 (a o)=X)(c:o∉M):jF (.im<|.tup<|a o) (.aF<|aU a i M I)=Z (.im<|.aB au):=by rw[Ef inj ok,dQ c]
def Be(inj:∀g f,a g=a f->g=f)(ok:V.keys 7 (a o)=X)(c:o∈M):gp (.im<|.tup<|a o) (.aF<|aU a i M I)=Z (.im<|.aB au):=by rw[Cg inj ok,du c];rfl
def z0(inj:∀g f,a g=a f->g=f)(ok:V.keys 7 (a o)=X)(c:o∉M):gp (.im<|.tup<|a o) (.aF<|aU a i M I)=Z (.im<|.aB X):=by rw[Cg inj ok,dQ c];rfl
def zJ(inj:∀g f,a g=a f->g=f)(ok:V.keys 7 (a o)=X)(c:o∈M):bA (.aF<|aU a i M I) (.im<|.tup<|a o)=Z (.im<|i<|I o):=by
 show (if V.keys 7 (a o)=X then (d8 (aU a i M I)<|a o).map ak.im else Y)=_;rw[aM ok,xE inj c];rfl
def NO(inj:∀g f,a g=a f->g=f)(ok:V.keys 7 (a o)=X)(c:o∈M):bA (.fp<|aU a i M I) (.im<|.tup<|a o)=Z (.im<|i<|I o):=by
 show (if V.keys 7 (a o)=X then (d8 (aU a i M I)<|a o).map ak.im else Y)=_;rw[aM ok,xE inj c];rfl
def qu(inj:∀g f,a g=a f->g=f)(ok:V.keys 7 (a o)=X)(v:ao)(b:M.length<100000):gJ (.aF<|aU a i M I) (.im<|.tup<|a o) (.im<|i v)=Z (.aF<|aU a i (eh M o)<|fL I o v):=by
 show (if V.keys 7 (a o)=X/\(aU a i M I).length<100000 then Z (ak.aF<|jq (aU a i M I) (a o)<|i v) else Y)=_;rw[aM ⟨ok,by rw[If];exact b⟩,RJ inj]
end
variable{L Wy Wl b aa:List aS}{WS:aS->aS}{V3:Option (List V×bb)}{aO WB V_ w:bb}{WA:List V}{e:V}{d:aw ak}{WC:fo}{own u:Nat}{Xb Xf W6 WX WQ:Option ak}{Wi:List Int}{k o:Int}{Wr:Type}{c:ak}{h:aS}{f:Bool}
abbrev aZ:=Bool×aS×Nat
variable{V6 Xd WU Wa M:List aZ}{F B I:aZ->aZ}{m:aZ}
def dh:Bool->V
 |true=>.str "down"
 |false=>.str "right"
def a6(m:aZ):List V:=([dh m.1,aH m.2.1,.int m.2.2])
def ax(m:aZ):V:=(.tup (a6 m))
def gk(m n:aZ)(c:a6 m=a6 n):m=n:=by
 let⟨f,h,u⟩:=m;let⟨a,e,b⟩:=n;unfold a6 at c;simp only[Uu,and_true,V.int.injEq]at c;have C:=J0 c.2.1;have d:u=b:=by have:=c.2.2;lia
 subst C d;cases f<;>cases a
 ·rfl
 ·exact absurd c.1 ∅
 ·exact absurd c.1 ∅
 ·rfl
def hg(m:aZ):V.keys 7 (a6 m)=X:=by let⟨f,h,u⟩:=m;cases f<;>rfl
def Pw{n:aZ}(c:ax m=ax n):m=n:=gk m n (V.tup.inj c)
def Jc(g f:aS)(c:cQ g=cQ f):g=f:=tV c
abbrev cZ(Xd:List aZ):ak:=.lst (Xd.map ax)
abbrev c4(Xd:List aZ):ak:=.im (.tup<|Xd.map ax)
def dW(f:Bool)(h:aS)(o:Int):aS:=(if f then (h.1+o,h.2) else (h.1,h.2+o))
def Ar(f:Bool)(h:aS)(o:Int):qA [.im (dh f),.im<|aH h,az o]=Z (.im<|aH<|dW f h o,[.im (dh f),.im<|aH h,az o]):=by cases f<;>rfl
def xR{a i:Int}(c:dW f h a=dW f h i):a=i:=by
 cases f
 ·have:h.2+a=h.2+i:=congrArg Prod.snd c;lia
 ·have:h.1+a=h.1+i:=congrArg Prod.fst c;lia
def Bf(f:Bool)(h:aS):dW f h 0=h:=by
 let⟨e,l⟩:=h;cases f
 ·show (e,l+0)=_;rw[IW]
 ·show (e+0,l)=_;rw[IW]
def JX(f:Bool)(h:aS)(a i:Int):dW f (dW f h a) i=dW f h (a+i):=by
 cases f
 ·show (h.1,h.2+a+i)=(h.1,h.2+(a+i));rw[HQ]
 ·show (h.1+a+i,h.2)=(h.1+(a+i),h.2);rw[HQ]
structure mF(aa:List aS)(f:Bool)(h:aS)(u:Nat):Prop where
 pos:1<=u
 rn:∀i:Nat,i<u->dW f h i∈aa
 out:dW f h u∉aa
def mF.uniq{k:Nat}(c:mF aa f h u)(F:mF aa f h k):u=k:=by
 rcases rS u k with x|x|x
 ·exact absurd (F.rn u x) c.out
 ·exact x
 ·exact absurd (c.rn k x) F.out
def gP(aa:List aS)(f:Bool)(h:aS):Nat:=(Classical.epsilon (mF aa f h))
def BV(c:∀i:Nat,i<u->dW f h i∈aa):u<=aa.length:=by
 have:=vG (l₁:=(range u).map λ(i:Nat)=>dW f h (i:Int)) (l₂:=aa) ?_ λe b=>?_
 ·rwa [ba,hA]at this
 ·exact kN (λa W i W d=>by have:=xR d;lia) mJ
 ·let⟨i,g,rfl⟩:=cG.mp b;exact c i (eV.mp g)
def HY(b:h∈aa)(g:aa.length<=1000):∃u,mF aa f h u/\rJ [.aF (bw aa),.im<|dh f,.im<|aH h]=Z (.im<|ax (f,h,u),[.aF (bw aa),.im<|dh f,.im<|aH h]):=by
 have cond:∀o:Nat,z8 [Z (.aF<|bw aa),Z<|.im<|dh f,Z<|.im<|aH h,Z<|az o]=Z (decide (dW f h o∈aa),[Z (.aF<|bw aa),Z<|.im<|dh f,Z<|.im<|aH h,Z<|az o]):=λo=>d7 (b_ (a8<|cW (Wn:=[.a4 1,.a4 2,.a4 3]) rfl rfl rfl (Ar f h o) rfl) rfl rfl rfl<|Ap aa _);let⟨R,c,⟨u,rfl,J⟩⟩:=L5 (h:=z8) (f:=CO) (λk w=>∃o:Nat,w=[Z (.aF<|bw aa),Z<|.im<|dh f,Z<|.im<|aH h,Z<|az o]/\1<=o/\(∀i:Nat,i<o->dW f h i∈aa)/\aa.length+1-o<=k) (λw=>∃o:Nat,w=[Z (.aF<|bw aa),Z<|.im<|dh f,Z<|.im<|aH h,Z<|az o]/\mF aa f h o)
  (λk w eE=>by
   let⟨o,rfl,t,C,j⟩:=eE;refine⟨_,_,cond o,λbT=>?_,λd=>⟨o,rfl,t,C,of_decide_eq_false d⟩⟩;have a:∀i:Nat,i<o+1->dW f h i∈aa:=λi e=>by
    rcases e4 i o with x|x
    ·exact C i x
    ·rw[show i=o by lia];exact hz bT
   have:=BV a;exact⟨.bB,[Z (.aF<|bw aa),Z<|.im<|dh f,Z<|.im<|aH h,Z<|az (o+1:Nat)],rfl,.inl rfl,aa.length+1-(o+1),⋯,o+1,rfl,⋯,a,bh _⟩) 1000000 (aa.length+1-1) [Z (.aF<|bw aa),Z<|.im<|dh f,Z<|.im<|aH h,Z<|az (1:Nat)] ⟨1,rfl,bh _,λi e=>by rw[show i=0 by lia];show dW f h 0∈aa;rw[Bf];exact b,bh _⟩ ⋯
 refine⟨u,J,?_⟩;unfold rJ F1;exact eI (w:=[Z (.aF<|bw aa),Z<|.im<|dh f,Z<|.im<|aH h,Z<|az u]) rfl (bz (V_:=[Z (.aF<|bw aa),Z<|.im<|dh f,Z<|.im<|aH h,Z<|az (1:Nat)]) rfl<|bz c rfl) rfl
def zC(a:h∈aa)(b:aa.length<=1000):mF aa f h (gP aa f h):=by
 let⟨u,c,W⟩:=HY (f:=f) a b;exact @Hh Nat (mF aa f h) ⟨u,c⟩
abbrev i3(aa:List aS)(f:Bool)(h:aS):aZ:=(f,h,gP aa f h)
def OW(a:h∈aa)(b:aa.length<=1000):rJ [.aF (bw aa),.im<|dh f,.im<|aH h]=Z (.im<|ax<|i3 aa f h,[.aF (bw aa),.im<|dh f,.im<|aH h]):=by
 let⟨u,c,d⟩:=HY (f:=f) a b;have:=(zC a b).uniq c;subst this;exact d
def av(aa:List aS)(f:Bool):List aS:=(aa.filter λh=>!decide (dW f h (-1)∈aa))
def b1(aa:List aS)(f:Bool):List aZ:=((av aa f).map (i3 aa f))
def AX(ah:aa.Nodup)(a:aa.length<=1000):ia [aE aa]=Z (.aF<|bw aa,[aE aa]):=by
 have:=Ry (b:=aa) ⋯
 rwa [v3 qc aa [] (by exact ah)]at this
def yQ(ah:aa.Nodup)(a:aa.length<=1000)(f:Bool):l_ [aE aa,.im<|dh f]=Z (cZ<|b1 aa f,[aE aa,.im<|dh f]):=by
 have cY:ck 1 [1,2] (ct<|aj 0) (bj 0) G.ED G.BA [Z (aE aa),Z<|.im<|dh f,Z<|.aF<|bw aa]=Z (.lst<|(aa.filter λh=>!decide (dW f h (-1)∈aa)).map λh=>ax<|i3 aa f h,[Z (aE aa),Z<|.im<|dh f,Z<|.aF<|bw aa]):=by
  refine e3 (z:=aa.map aH) (p:=Y) (V_:=[Z (aE aa),Z<|.im<|dh f,Z<|.aF<|bw aa]) rfl (mM aH (λh=>!decide (dW f h (-1)∈aa)) (λh=>ax<|i3 aa f h) _ [] (λh b=>?_) (by rw[iv];lia)) rfl;refine⟨[Z (.im<|aH h),Z<|.im<|dh f,Z<|.aF<|bw aa],[Z (.im<|aH h),Z<|.im<|dh f,Z<|.aF<|bw aa],rfl,d7<|b_ (a8<|cW (Wn:=[.a4 1,.a4 0,.bW<|az<|-1]) rfl rfl rfl (Ar f h<|-1) rfl) rfl rfl rfl<|R3 aa _,λ_=>rfl,λ_=>⟨[Z (.im<|aH h),Z<|.im<|dh f,Z<|.aF<|bw aa],cW (Wn:=[.a4 2,.a4 1,.a4 0]) rfl rfl rfl (OW b a) rfl,rfl⟩⟩
 unfold l_ BU;refine eI (w:=[Z (aE aa),Z<|.im<|dh f,Z<|.aF<|bw aa]) rfl (bz (V_:=[Z (aE aa),Z<|.im<|dh f,Z<|.aF<|bw aa]) (gx (cW (Wn:=[.a4 0]) rfl rfl rfl (AX ah a) rfl) (ec rfl) rfl)<|fh<|cY.trans ?_) rfl;unfold b1 av cZ;rw[eU];rfl
def cls(m:aZ):List aS:=((range m.2.2).map λ(o:Nat)=>dW m.1 m.2.1 (o:Int))
def uH(c:m.2.2<=1000):jz [.im (ax m)]=Z (cI<|cls m,[.im (ax m)]):=by
 let⟨f,h,u⟩:=m;have c:u<=1000:=c;have cY:ck 1 [0] (iB<|ai (ab<|aA bA (aj 0)<|ab<|ay<|.int 2) aD) (bj 0) c3 G.G5 [Z (.im<|ax (f,h,u))]=Z (.lst<|(range u).map λ(o:Nat)=>aH<|dW f h o,[Z (.im<|ax (f,h,u))]):=by
  refine e3 (z:=(range u).map λ(o:Nat)=>V.int<|0+(o:Int)) (p:=Y) (V_:=[Z (.im<|ax (f,h,u))]) (wW (i:=(u:Int)) (bR (a8<|b_ rfl rfl rfl rfl rfl) rfl) rfl ⟨⋯,⋯⟩) (gL (λ(o:Nat)=>V.int<|0+(o:Int)) (λ(o:Nat)=>aH<|dW f h o) _ (λo a=>?_) (by rw[hA];lia)) rfl;refine⟨[Z (az<|0+o),Z<|.im<|ax (f,h,u)],_,[Z (az<|0+o),Z<|.im<|ax (f,h,u)],rfl,rfl,?_,rfl⟩;have iR:qA [.im (dh f),.im<|aH h,az<|0+(o:Int)]=Z (.im<|aH<|dW f h o,[.im (dh f),.im<|aH h,az<|0+(o:Int)]):=by
   have:=Ar f h (0+(o:Int))
   rwa [show dW f h (0+(o:Int))=dW f h o by rw[Int.zero_add]]at this
  exact cW (Wn:=[.bW (.im<|dh f),.bW<|.im<|aH h,.a4 0]) (bR (a8<|b_ rfl rfl rfl rfl rfl)<|bR (a8<|b_ rfl rfl rfl rfl rfl)<|bR rfl rfl) rfl rfl iR rfl
 unfold jz GG;refine eI (w:=[Z (.im<|ax (f,h,u))]) rfl (fh<|cY.trans ?_) rfl;unfold cls cI;rw[eU];rfl
abbrev d_(aa:List aS):aS->Prop:=λh=>h∈aa
def F4{c:aS}(r:cp.In (d_ aa) f c h):∃o:Int,h=dW f c o/\∀i:Int,(0<=i/\i<=o\/o<=i/\i<=0)->dW f c i∈aa:=by
 let⟨t,C⟩:=c;let⟨a,b⟩:=h;cases f
 ·let⟨d,r⟩:=r;have d:t=a:=d;subst d;refine⟨b-C,?_,λi e=>r (C+i) ?_⟩
  ·show (t,b)=(t,C+(b-C));rw[show C+(b-C)=b by lia]
  ·show C<=C+i/\C+i<=b\/b<=C+i/\C+i<=C;lia
 ·let⟨d,r⟩:=r;have d:C=b:=d;subst d;refine⟨a-t,?_,λi e=>r (t+i) ?_⟩
  ·show (a,C)=(t+(a-t),C);rw[show t+(a-t)=a by lia]
  ·show t<=t+i/\t+i<=a\/a<=t+i/\t+i<=t;lia
def EY{c:aS}(r:∀i:Int,(0<=i/\i<=o\/o<=i/\i<=0)->dW f c i∈aa):cp.In (d_ aa) f c (dW f c o):=by
 let⟨t,C⟩:=c;cases f
 ·refine⟨rfl,λa V0=>?_⟩;have V0:C<=a/\a<=C+o\/C+o<=a/\a<=C:=V0;have:(t,C+(a-C))∈aa:=r (a-C) ⋯
  rwa [show C+(a-C)=a by lia]at this
 ·refine⟨rfl,λa V0=>?_⟩;have V0:t<=a/\a<=t+o\/t+o<=a/\a<=t:=V0;have:(t+(a-t),C)∈aa:=r (a-t) ⋯
  rwa [show t+(a-t)=a by lia]at this
section
variable{aa:List aS}{f:Bool}
def s9{c:aS}:c∈av aa f↔c∈aa/\dW f c (-1)∉aa:=by
 unfold av;rw[jw,l1,qn]
def Io(b:aa.length<=1000){c h:aS}(d:c∈av aa f):h∈cls (i3 aa f c)↔cp.In (d_ aa) f c h:=by
 let⟨t,C⟩:=s9.mp d;have J:=zC (f:=f) t b;constructor
 ·intro e;let⟨o,a,rfl⟩:=cG.mp e;have a:=eV.mp a;refine EY λi g=>?_;have:=J.rn i.toNat ⋯
  rwa [show ((i.toNat:Nat):Int)=i by lia]at this
 ·intro r;let⟨o,rfl,a⟩:=F4 r;have j:0<=o:=by
   rcases E_ o 0 with x|x
   ·exact absurd (a (-1) ⋯) C
   ·exact x
  have WG:o<gP aa f c:=by
   rcases E_ o (gP aa f c) with x|x
   ·exact x
   ·exact absurd (a _ ⋯) J.out
  refine cG.mpr ⟨o.toNat,eV.mpr (show o.toNat<gP aa f c by lia),?_⟩;show dW f c ((o.toNat:Nat):Int)=_;rw[show ((o.toNat:Nat):Int)=o by lia]
def Mc(g:aa.length<=1000){c T:aS}(d:c∈av aa f)(e:T∈av aa f)(r:cp.In (d_ aa) f c T):c=T:=by
 let⟨o,rfl,a⟩:=F4 r;let⟨W,C⟩:=s9.mp d;let⟨W,b⟩:=s9.mp e;rw[JX]at b;rcases Int.lt_trichotomy o 0 with x|x|x
 ·exact absurd (a (-1) ⋯) C
 ·rw[x,Bf]
 ·exact absurd (a (o + -1) ⋯) b
def Q1(m:aa.length<=1000){h:aS}(g:h∈aa):∃c∈av aa f,cp.In (d_ aa) f c h:=by
 have R:∀u:Nat,(∃c∈av aa f,cp.In (d_ aa) f c h)\/∀i:Nat,i<=u->dW f h (-(i:Int))∈aa:=λu=>by
  induction u with
  |zero=>exact .inr λi b=>by rw[show i=0 by lia];show dW f h 0∈aa;rw[Bf];exact g
  |succ u j=>
   rcases j with x|x
   ·exact .inl x
   ·by_cases F:dW f h (-((u+1:Nat):Int))∈aa
    ·refine .inr λi b=>?_;rcases e4 i (u+1) with l|l
     ·exact x i ⋯
     ·rw[show i=u+1 by lia];exact F
    ·refine .inl ⟨dW f h<|-(u:Int),s9.mpr ⟨x u<|bh _,?_⟩,cp.In.symm<|EY λi b=>?_⟩
     ·rw[JX,show -(u:Int) + -1 = -((u+1:Nat):Int) by lia];exact F
     ·have:=x (-i).toNat ⋯
      rwa [show -(((-i).toNat:Nat):Int)=i by lia]at this
 rcases R aa.length with x|x
 ·exact x
 ·have:=vG (l₁:=(range<|aa.length+1).map λ(i:Nat)=>dW f h<|-(i:Int)) (l₂:=aa) (kN (λa W i W d=>by have:=xR d;lia) mJ) λe k=>by
   let⟨i,b,rfl⟩:=cG.mp k;exact x i (by have:=eV.mp b;lia)
  rw[ba,hA]at this;lia
def jo(a:aa.length<=1000){m:aZ}(V9:m∈b1 aa f){h:aS}:h∈cls m↔cp.In (d_ aa) f m.2.1 h:=by
 let⟨c,b,rfl⟩:=cG.mp V9;exact Io a b
def z7(a:aa.length<=1000){m n:aZ}(V9:m∈b1 aa f)(b:n∈b1 aa f)(r:cp.In (d_ aa) f m.2.1 n.2.1):m=n:=by
 let⟨c,d,rfl⟩:=cG.mp V9;let⟨T,e,rfl⟩:=cG.mp b;rw[Mc a d e r]
def AW(a:aa.length<=1000){h:aS}(d:h∈aa):∃m∈b1 aa f,h∈cls m:=by
 let⟨c,b,r⟩:=Q1 (f:=f) a d;exact⟨i3 aa f c,cG.mpr ⟨c,b,rfl⟩,(Io a b).mpr r⟩
def Nu(a:aa.length<=1000){m n:aZ}{h:aS}(V9:m∈b1 aa f)(b:n∈b1 aa f)(t:h∈cls m)(C:h∈cls n):m=n:=
 z7 a V9 b (((jo a V9).mp t).trans ((jo a b).mp C).symm)
def i_(a:aa.length<=1000){m:aZ}(V9:m∈b1 aa f):m.1=f/\m.2.1∈aa/\m.2.2<=aa.length:=by
 let⟨c,b,rfl⟩:=cG.mp V9;have:=(s9.mp b).1;exact⟨rfl,this,BV (zC this a).rn⟩
theorem o3(a:aa.length<=1000){m:aZ}(V9:m∈b1 aa f){h:aS}(c:h∈cls m):h∈aa:=((jo a V9).mp c).right
end
def y1(ah:aa.Nodup):(b1 aa f).Nodup:=kN (λe W l W d=>congrArg (λm:aZ=>m.2.1) d) (ah.sublist s6)
def nC:(b1 aa f).length<=aa.length:=by
 unfold b1;rw[ba];exact uj _ _
def h1(aa:List aS)(h:aS):aZ:=(Classical.epsilon λm=>m∈b1 aa au/\h∈cls m)
def xH(a:aa.length<=1000){h:aS}(b:h∈aa):h1 aa h∈b1 aa au/\h∈cls (h1 aa h):=by
 let⟨m,t,C⟩:=AW (f:=au) a b;exact @Hh aZ (λm=>m∈b1 aa au/\h∈cls m) ⟨m,t,C⟩
def IG(a:aa.length<=1000){h:aS}{m:aZ}(V9:m∈b1 aa au)(c:h∈cls m):h1 aa h=m:=by
 have:=xH a (o3 a V9 c);exact Nu a this.1 V9 this.2 c
def ac(aa:List aS)(q:aZ):List aZ:=((cls q).map (h1 aa))
def hV(aa:List aS)(q m:aZ):Prop:=(q∈b1 aa X/\m∈ac aa q)
def sb(a:aa.length<=1000){q m:aZ}:hV aa q m↔q∈b1 aa X/\m∈b1 aa au/\∃h,h∈cls q/\h∈cls m:=by
 constructor
 ·rintro⟨hd,V9⟩;let⟨h,b,rfl⟩:=cG.mp V9;have:=xH a (o3 a hd b);exact⟨hd,this.1,h,b,this.2⟩
 ·rintro⟨hd,V9,h,t,C⟩;exact⟨hd,cG.mpr ⟨h,t,IG a V9 C⟩⟩
theorem Ri(a:aa.length<=1000):cp.s7 (d_ aa) (hV aa) (λq:aZ=>q.2.1) (λm:aZ=>m.2.1) where
 cr:=λq m c=>by
  let⟨hd,V9,h,t,C⟩:=(sb a).mp c;exact⟨h,(jo a hd).mp t,(jo a V9).mp C⟩
 all:=λh b=>by
  let⟨q,hd,t⟩:=AW (f:=X) a b;let⟨m,V9,C⟩:=AW (f:=au) a b;exact⟨q,m,(sb a).mpr ⟨hd,V9,h,t,C⟩,(jo a hd).mp t,(jo a V9).mp C⟩
 Bz:=λq m W3 WV c T r=>z7 a c.1 T.1 r
 wO:=λq m W3 WV c T r=>z7 a ((sb a).mp c).2.1 ((sb a).mp T).2.1 r
abbrev gi(H:List aZ):V:=.aW (H.map ax)
section
variable{aa:List aS}
abbrev fN(aa:List aS)(M:List aS)(WJ a W6 WQ:Option ak):bb:=[Z (aE aa),Z<|.aF<|aU cQ ax M<|h1 aa,WJ,a,W6,WQ]
def A0{V2 ao:Type}[DecidableEq V2](I:V2->ao)(o:V2):fL I o (I o)=I:=funext λe=>by
 by_cases d:e=o
 ·rw[d,wZ]
 ·rw[tn _ _ d]
theorem HE(ah:aa.Nodup)(g:aa.length<=1000){m:aZ}(V9:m∈b1 aa au){W6 WQ:Option ak}:∀(Wa M:List aS) (f:Option ak),(∀h∈Wa,h∈cls m)->M.Nodup->(∀h∈M,h∈aa)->
  ∃a j,ew (bj 3) Hn (Wa.map aH) (fN aa M (Z<|.im<|ax m) f W6 WQ)=Z (.bB,fN aa a (Z<|.im<|ax m) j W6 WQ)/\a.Nodup/\(∀h∈a,h∈aa)/\(∀h∈M,h∈a)/\∀h∈Wa,h∈a
 |[],M,f,_,t,C=>⟨M,f,rfl,t,C,λ_ c=>c,λ_ c=>nomatch c⟩
 |h::Wa,M,f,k,t,C=>by
  have d:m=h1 aa h:=(IG g V9<|k h<|.head _).symm;have u:M.length<=aa.length:=t.length_le_of_subset C;have n:gJ (.aF<|aU cQ ax M<|h1 aa) (.im<|aH h) (.im<|ax m)=Z (.aF<|aU cQ ax (eh M h)<|h1 aa):=by
   have:=qu (i:=ax) (M:=M) (I:=h1 aa) Jc (tT h) m ⋯;rw[d,A0]at this;rw[d];exact this
  let⟨a,j,o,p,r,l,s⟩:=HE ah g V9 (W6:=W6) (WQ:=WQ) Wa (eh M h) (Z<|.im<|aH h) (λe b=>k e<|.tail _ b) (qe h t) λe b=>by
   rcases kX.mp b with x|x
   ·rw[x];exact o3 g V9 (k h<|.head _)
   ·exact C e x
  refine⟨a,j,?_,p,r,λe b=>l e<|kX.mpr<|.inr b,λe b=>?_⟩
  ·rw[b2];exact lN (V_:=fN aa M (Z<|.im<|ax m) (Z<|.im<|aH h) W6 WQ) rfl (ir (q:=.im (ax m)) (V_:=fN aa M (Z<|.im<|ax m) (Z<|.im<|aH h) W6 WQ) rfl<|qQ rfl rfl n rfl) o
  ·rcases b8.mp b with x|x
   ·rw[x];exact l h (kX.mpr<|.inl rfl)
   ·exact s e x
theorem Ik(ah:aa.Nodup)(e:aa.length<=1000){W6 WQ:Option ak}:∀(Xd:List aZ) (M:List aS) (WJ a:Option ak),(∀m∈Xd,m∈b1 aa au)->M.Nodup->(∀h∈M,h∈aa)->
  ∃b i j,ew (bj 2) AL (Xd.map ax) (fN aa M WJ a W6 WQ)=Z (.bB,fN aa b i j W6 WQ)/\b.Nodup/\(∀h∈b,h∈aa)/\(∀h∈M,h∈b)/\∀m∈Xd,∀h∈cls m,h∈b
 |[],M,WJ,a,_,t,C=>⟨M,WJ,a,rfl,t,C,λ_ c=>c,λ_ c=>nomatch c⟩
 |m::Xd,M,WJ,a,V9,t,C=>by
  have f:=V9 m (.head _);let⟨WG,k,l,o,q,r,s⟩:=HE ah e f (W6:=W6) (WQ:=WQ) (cls m) M a (λ_ c=>c) t C;let⟨WO,u,v,w,y,A,g,B⟩:=Ik ah e (W6:=W6) (WQ:=WQ) Xd WG (Z<|.im<|ax m) k (λn av=>V9 n<|.tail _ av) o q;refine⟨WO,u,v,?_,y,A,λh d=>g h<|r h d,λn av h d=>?_⟩
  ·rw[b2];refine lN (V_:=fN aa M (Z<|.im<|ax m) a W6 WQ) rfl ?_ w;unfold AL;refine jO (p:=Y) (z:=(cls m).map aH) (V_:=fN aa M (Z<|.im<|ax m) a W6 WQ) ?_ l rfl;have D:bc 1 G.jz (ai (aj 2) aD) (fN aa M (Z<|.im<|ax m) a W6 WQ)=Z (cI<|cls m,fN aa M (Z<|.im<|ax m) a W6 WQ):=cW (Wn:=[.a4 2]) rfl rfl rfl (uH (by have:=(i_ e f).2.2;lia)) rfl;unfold ct;rw[cT D];rfl
  ·rcases b8.mp av with x|x
   ·rw[x]at d;exact g h (s h d)
   ·exact B n x h d
theorem H8(ah:aa.Nodup)(c:aa.length<=1000){M:List aS}(d:∀h∈aa,h∈M){WJ b:Option ak}:∀(J a:List aZ) (WQ:Option ak),(∀q∈J,q∈b1 aa X)->a.length+J.length<=1000->
  ∃f,ew (bj 5) y6 (J.map ax) (fN aa M WJ b (Z<|.aF<|aU a6 gi a<|ac aa) WQ)=Z (.bB,fN aa M WJ b (Z<|.aF<|aU a6 gi (J.foldl eh a)<|ac aa) f)
 |[],a,WQ,_,_=>⟨WQ,rfl⟩
 |q::J,a,WQ,hd,g=>by
  have e:=hd q (.head _);rw[dj]at g;let⟨j,k⟩:=H8 ah c d (WJ:=WJ) (b:=b) J (eh a q) (Z<|.im<|ax q) (λn av=>hd n<|.tail _ av) (by have:=uL a q;lia);refine⟨j,?_⟩;rw[b2];refine lN (V_:=fN aa M WJ b (Z<|.aF<|aU a6 gi a<|ac aa) (Z<|.im<|ax q)) rfl ?_ k;have dl:=(i_ c e).2.2;have cY:ck 1 [1] (ct<|ab<|bc 1 G.jz<|ai (aj 5) aD) (bj 0) c3 G.Ho (fN aa M WJ b (Z<|.aF<|aU a6 gi a<|ac aa)<|Z<|.im<|ax q)=Z (.lst<|(cls q).map λh=>ax<|h1 aa h,fN aa M WJ b (Z<|.aF<|aU a6 gi a<|ac aa)<|Z<|.im<|ax q):=by
   refine e3 (z:=(cls q).map aH) (p:=Y) (V_:=fN aa M WJ b (Z<|.aF<|aU a6 gi a<|ac aa) (Z<|.im<|ax q)) ?_ (gL aH (λh=>ax<|h1 aa h) _ (λh l=>?_) (by unfold cls;rw[ba,hA];lia)) rfl
   ·have m:bc 1 G.jz (ai (aj 5) aD) (fN aa M WJ b (Z<|.aF<|aU a6 gi a<|ac aa)<|Z<|.im<|ax q)=Z (cI<|cls q,fN aa M WJ b (Z<|.aF<|aU a6 gi a<|ac aa)<|Z<|.im<|ax q):=cW (Wn:=[.a4 5]) rfl rfl rfl (uH ⋯) rfl;unfold ct;rw[cT m];rfl
   ·exact⟨[Z (.im<|aH h),Z<|.aF<|aU cQ ax M<|h1 aa],_,[Z (.im<|aH h),Z<|.aF<|aU cQ ax M<|h1 aa],rfl,rfl,eb<|zJ (i:=ax) (I:=h1 aa) Jc (tT h)<|d h<|o3 c e l,rfl⟩
  have o:gJ (.aF<|aU a6 gi a<|ac aa) (.im<|ax q) (.im<|gi<|ac aa q)=Z (.aF<|aU a6 gi (eh a q)<|ac aa):=by
   have:=qu (i:=gi) (M:=a) (I:=ac aa) gk (hg q) (ac aa q) ⋯
   rwa [A0]at this
  unfold y6;refine ir (q:=.im (gi<|ac aa q)) (V_:=fN aa M WJ b (Z<|.aF<|aU a6 gi a<|ac aa) (Z<|.im<|ax q)) ((Rm cY).trans ?_) (qQ rfl rfl o rfl);unfold gi ac;rw[eU];rfl
def dX(aa:List aS):ak:=(.fp (aU a6 gi (b1 aa X)<|ac aa))
def Is(ah:aa.Nodup)(d:aa.length<=1000):ub [aE aa]=Z (dX aa,[aE aa]):=by
 let⟨M,WJ,a,g,m,n,W,i⟩:=Ik ah d (W6:=Y) (WQ:=Y) (b1 aa au) [] Y Y (λ_ c=>c) hu (λ_ c=>nomatch c);have j:∀h∈aa,h∈M:=λh k=>by
  have:=xH d k;exact i _ this.1 h this.2
 let⟨WQ,e⟩:=H8 ah d j (WJ:=WJ) (b:=a) (b1 aa X) [] Y (λ_ c=>c) (by have:=nC (aa:=aa) (f:=X);rw[iv];lia);rw[v3 l8 (b1 aa X) [] (by exact y1 ah),oo]at e;have D:∀(f:Bool) (b WJ a W6 WQ:Option ak),ct (ab<|bc 2 G.l_<|ai (aj 0)<|ai (ab<|ay<|dh f) aD) [Z (aE aa),b,WJ,a,W6,WQ]=Z (((b1 aa f).map ax,Y),[Z (aE aa),b,WJ,a,W6,WQ]):=λf b WJ a W6 WQ=>by
  have l:bc 2 G.l_ (ai (aj 0)<|ai (ab<|ay<|dh f) aD) [Z (aE aa),b,WJ,a,W6,WQ]=Z (cZ<|b1 aa f,[Z (aE aa),b,WJ,a,W6,WQ]):=cW (Wn:=[.a4 0,.bW<|.im<|dh f]) rfl rfl rfl (yQ ah d f) rfl;unfold ct;rw[cT l];rfl
 unfold ub DW;exact eI (w:=[Z (aE aa),Z<|.aF<|aU cQ ax M<|h1 aa,WJ,a,Z .cO,WQ]) rfl (bz (V_:=fN aa [] Y Y Y Y) rfl<|bz (jO (D au _ _ _ _ _) g rfl)<|bz (V_:=fN aa M WJ a (Z<|.aF<|aU a6 gi []<|ac aa) Y) rfl<|bz (jO (D X _ _ _ _ _) e rfl) rfl) rfl
end
theorem x3{h:aw Bool}{f:bL}(A:Nat->bb->Prop)(e:bb->Prop)(V3:ak->bb->Prop)(step:∀k w,A k w->(∃V_,h w=Z (au,V_)/\e V_)\/∃V_,h w=Z (X,V_)/\((∃WB b,f V_=Z (.bB,WB)/\b<k/\A b WB)\/∃q WB,f V_=Z (.a_ q,WB)/\V3 q WB)):
  ∀(u k:Nat) (w:bb),A k w->k<u->(∃R,fF h f u w=Z (.bB,R)/\e R)\/∃q R,fF h f u w=Z (.a_ q,R)/\V3 q R
 |0,k,w,_,c=>absurd c (l4 _)
 |u+1,k,w,eE,i=>by
  rw[fF];dsimp only;rcases step k w eE with ⟨V_,d,s⟩|⟨V_,d,⟨WB,b,g,lt,a⟩|⟨q,WB,g,m⟩⟩
  ·rw[d];exact .inl ⟨V_,rfl,s⟩
  ·rw[d];show (∃R,((f V_).bind _=_/\_))\/∃q R,((f V_).bind _=_/\_);rw[g];exact x3 A e V3 step u b WB a ⋯
  ·rw[d];show (∃R,((f V_).bind _=_/\_))\/∃q R,((f V_).bind _=_/\_);rw[g];exact .inr ⟨q,WB,rfl,m⟩
def cE{V2 ao:Type}[DecidableEq V2](M:List V2)(I:V2->ao):V2->Option ao:=(λo=>if o∈M then Z (I o) else Y)
section
variable{V2 ao:Type}[DecidableEq V2]{M:List V2}{I:V2->ao}{o:V2}{v:ao}
def iX(c:o∈M):cE M I o=Z (I o):=aM c
def qY(c:o∉M):cE M I o=Y:=aN c
def oV(c:cE M I o=Z v):o∈M/\I o=v:=by
 by_cases d:o∈M
 ·rw[iX d]at c;exact⟨d,Option.some.inj c⟩
 ·rw[qY d]at c;cases c
def Ml(c:cE M I o=Y):o∉M:=λd=>by rw[iX d]at c;cases c
def pQ(M:List V2)(I:V2->ao)(o:V2)(v:ao):cE (eh M o) (fL I o v)=cp.put (cE M I) o v:=funext λe=>by
 by_cases d:e=o
 ·subst d;rw[iX (kX.mpr<|.inl rfl),wZ,cp.jt]
 ·rw[cp.iA _ _ d];by_cases c:e∈M
  ·rw[iX c,iX<|kX.mpr<|.inr c,tn _ _ d]
  ·rw[qY c,qY λx=>(kX.mp x).elim d c]
end
def kS:cp.fZ (cE M I) m↔m∈M:=⟨λ⟨q,d⟩=>(oV d).1,λc=>⟨I m,iX c⟩⟩
abbrev d4(aa:List aS)(M:List aZ)(I:aZ->aZ)(WJ:Option ak)(Wa:List aZ)(B:aZ->aZ)(W:List aZ)(WQ WX:Option ak):bb:=[Z (dX aa),Z<|.aF<|aU a6 ax M I,WJ,Z<|.aF<|aU a6 ax Wa B,Z<|cZ W,WQ,WX]
structure q4(aa:List aS)(M:List aZ)(a_:aZ->Option aZ)(Wa:List aZ)(B:aZ->aZ)(m:aZ):Prop where
 jL:∃p,cp.lZ (hV aa) a_ (cE Wa B) p/\p m<Wa.length
 no:m∉M
 me:m∈Wa
structure ll(aa:List aS)(M:List aZ)(I:aZ->aZ)(a_:aZ->Option aZ)(j:aZ->Prop)(Wa:List aZ)(B:aZ->aZ):Prop where
 pS:cp.iF (hV aa) (cE M I) a_ (b1 aa X) j (cE Wa B) Wa.length
 ah:Wa.Nodup
def ll.d5{a_:aZ->Option aZ}{j:aZ->Prop}(We:ll aa M I a_ j Wa B):Wa.length<=M.length:=
 We.ah.length_le_of_subset λm c=>kS.mp (We.pS.nc m<|kS.mpr c)
section
variable{aa:List aS}{M:List aZ}{I:aZ->aZ}{a_:aZ->Option aZ}
def Qz(Wd:cp.hN (hV aa) (cE M I) a_ M)(y:M.length<=1000){W Wa:List aZ}{B:aZ->aZ}{D m:aZ}{WJ:Option ak}(We:ll aa M I a_ (λq=>q∈W\/q=D) Wa B)(v:D∈b1 aa X)(V9:m∈ac aa D)(z:W.length<=2000):
  (∃g a d,mG (d4 aa M I WJ Wa B W (Z<|.im<|ax D)<|Z<|.im<|ax m)=Z (.bB,d4 aa M I WJ a d g (Z<|.im<|ax D)<|Z<|.im<|ax m)/\ll aa M I a_ (λq=>q∈g\/q=D) a d/\m∈a/\(∀n∈Wa,n∈a)/\g.length+Wa.length=W.length+a.length/\((∀q∈W,q∈b1 aa X)->∀q∈g,q∈b1 aa X))\/
  ∃a d R,mG (d4 aa M I WJ Wa B W (Z<|.im<|ax D)<|Z<|.im<|ax m)=Z (.a_<|.ez [.aF (aU a6 ax a d),.im<|ax m],Z (dX aa)::Z (.aF<|aU a6 ax M I)::WJ::R)/\q4 aa M a_ a d m/\a.length<=1001:=by
 have d5:=We.d5;by_cases f:m∈Wa
 ·refine .inl ⟨W,Wa,B,gm (d7<|eb<|Be (i:=ax) (I:=B) gk (hg m) f) rfl,We,f,λ_ c=>c,rfl,λc=>c⟩
 ·have o:bO (aA gp (aj 6)<|aj 3) (d4 aa M I WJ Wa B W (Z<|.im<|ax D)<|Z<|.im<|ax m)=Z (X,d4 aa M I WJ Wa B W (Z<|.im<|ax D)<|Z<|.im<|ax m):=d7 (eb<|z0 (i:=ax) (I:=B) gk (hg m) f);have w:=qu (i:=ax) (M:=Wa) (I:=B) gk (hg m) D ⋯;have s:e6 (dG 5) (hn 3 (dG 6) gJ) (d4 aa M I WJ Wa B W (Z<|.im<|ax D)<|Z<|.im<|ax m)=Z (.bB,d4 aa M I WJ (eh Wa m) (fL B m D) W (Z<|.im<|ax D)<|Z<|.im<|ax m):=ir (q:=.im (ax D)) (V_:=d4 aa M I WJ Wa B W (Z<|.im<|ax D) (Z<|.im<|ax m)) rfl (qQ rfl rfl w rfl);have j:(eh Wa m).length=Wa.length+1:=by rw[(l8 Wa m).2 f,di,gI]
  have t:¬ cp.fZ (cE Wa B) m:=λx=>f (kS.mp x);have u:hV aa D m:=⟨v,V9⟩;by_cases b:m∈M
  ·have k:bO (aA gp (aj 6)<|aj 1) (d4 aa M I WJ (eh Wa m) (fL B m D) W (Z<|.im<|ax D)<|Z<|.im<|ax m)=Z (au,d4 aa M I WJ (eh Wa m) (fL B m D) W (Z<|.im<|ax D)<|Z<|.im<|ax m):=d7 (eb<|Be (i:=ax) (I:=I) gk (hg m) b);refine .inl ⟨W++[I m],eh Wa m,fL B m D,?_,⟨?_,qe m We.ah⟩,kX.mpr<|.inl rfl,λn c=>kX.mpr<|.inr c,by rw[j,di,gI];lia,λc q hd=>?_⟩
   ·unfold mG;refine jZ o (bz s (bz (gm k rfl) (tk (rP (h:=cZ W) rfl rfl (bR (a8<|eb<|zJ (i:=ax) (I:=I) gk (hg m) b) rfl) rfl rfl (xr (by rw[ba];lia)) ?_))));show _=[Z (dX aa),Z<|.aF<|aU a6 ax M I,WJ,Z<|.aF<|aU a6 ax (eh Wa m)<|fL B m D,Z<|.lst<|(W++[I m]).map ax,Z<|.im<|ax D,Z<|.im<|ax m];rw[f_];rfl
   ·rw[j,pQ];refine We.pS.add Wd (W3:=I m) (.inr rfl) u t (iX b) λe=>?_;rw[c5,cP];exact⟨λx=>x.elim (λl=>l.elim (λr=>.inr<|.inl r) .inl) λr=>.inr<|.inr r,λx=>x.elim (λr=>.inl<|.inr r) λl=>l.elim (λr=>.inl<|.inl r) .inr⟩
   ·rcases c5.mp hd with x|x
    ·exact c q x
    ·rw[cP.mp x];exact (Wd.ht m (I m)<|iX b).1
  ·have k:bO (aA gp (aj 6)<|aj 1) (d4 aa M I WJ (eh Wa m) (fL B m D) W (Z<|.im<|ax D)<|Z<|.im<|ax m)=Z (X,d4 aa M I WJ (eh Wa m) (fL B m D) W (Z<|.im<|ax D)<|Z<|.im<|ax m):=d7 (eb<|z0 (i:=ax) (I:=I) gk (hg m) b);refine .inr ⟨eh Wa m,fL B m D,[Z .cO,Z<|cZ W,Z<|.im<|ax D,Z<|.im<|ax m],?_,⟨?_,b,kX.mpr<|.inl rfl⟩,⋯⟩
   ·unfold mG;exact jZ o (bz s<|mn<|jZ k<|fh<|qg (bR rfl<|bR rfl rfl) rfl (f7 rfl) rfl)
   ·let⟨p,V6,lt⟩:=We.pS.tree (.inr rfl) u t;rw[<-pQ]at V6 lt;exact⟨p,V6,by rw[j];exact lt m (kS.mpr<|kX.mpr<|.inl rfl)⟩
theorem Dc(Wd:cp.hN (hV aa) (cE M I) a_ M)(i:M.length<=1000){D:aZ}{WJ:Option ak}(j:D∈b1 aa X):∀(Wi:List aZ) {W Wa:List aZ}{B:aZ->aZ} (WX:Option ak),ll aa M I a_ (λq=>q∈W\/q=D) Wa B->(∀m∈Wi,m∈ac aa D)->W.length+M.length<=2000+Wa.length->
  (∃d a b r,ew (bj 6) mG (Wi.map ax) (d4 aa M I WJ Wa B W (Z<|.im<|ax D) WX)=Z (.bB,d4 aa M I WJ a b d (Z<|.im<|ax D) r)/\ll aa M I a_ (λq=>q∈d\/q=D) a b/\(∀m∈Wi,m∈a)/\(∀n∈Wa,n∈a)/\d.length+Wa.length=W.length+a.length/\((∀q∈W,q∈b1 aa X)->∀q∈d,q∈b1 aa X))\/
  ∃a b m R,ew (bj 6) mG (Wi.map ax) (d4 aa M I WJ Wa B W (Z<|.im<|ax D) WX)=Z (.a_<|.ez [.aF (aU a6 ax a b),.im<|ax m],Z (dX aa)::Z (.aF<|aU a6 ax M I)::WJ::R)/\q4 aa M a_ a b m/\a.length<=1001
 |[],W,Wa,B,WX,We,_,_=>.inl ⟨W,Wa,B,WX,rfl,We,(λ_ c=>nomatch c),λ_ c=>c,rfl,λc=>c⟩
 |m::Wi,W,Wa,B,WX,We,V9,E=>by
  have d5:=We.d5;rcases Qz Wd i (WJ:=WJ) We j (V9 m<|.head _) ⋯ with ⟨F,k,l,e,s,t,WG,o,WY⟩|⟨k,l,V_,e,u,o⟩
  ·rcases Dc Wd i (WJ:=WJ) j Wi (Z<|.im<|ax m) s (λn av=>V9 n<|.tail _ av) ⋯ with ⟨v,f,g,w,h,y,z,WO,p,WW⟩|⟨f,g,A,WB,h,C,p⟩
   ·refine .inl ⟨v,f,g,w,?_,y,λn av=>?_,λn av=>WO n<|WG n av,⋯,λc=>WW<|WY c⟩
    ·rw[b2];exact lN (V_:=d4 aa M I WJ Wa B W (Z<|.im<|ax D) (Z<|.im<|ax m)) rfl e h
    ·rcases b8.mp av with x|x
     ·rw[x];exact WO m t
     ·exact z n x
   ·refine .inr ⟨f,g,A,WB,?_,C,p⟩;rw[b2];exact lN (V_:=d4 aa M I WJ Wa B W (Z<|.im<|ax D) (Z<|.im<|ax m)) rfl e h
  ·refine .inr ⟨k,l,m,V_,?_,u,o⟩;rw[b2,ew];show (mG<|d4 aa M I WJ Wa B W (Z<|.im<|ax D)<|Z<|.im<|ax m).bind _=_;rw[e];rfl
def ky:Option aZ->V
 |none=>.aV
 |some m=>ax m
def LR(Wd:cp.hN (hV aa) (cE M I) a_ M)(E:M.length<=1000){We:List aZ}(s:∀q,q∈We↔q∈b1 aa X/\a_ q=Y)(t:We.length<=1000):
  ∃Wa B p,nV [dX aa,.aF<|aU a6 ax M I,cZ We]=Z (.ez [.aF (aU a6 ax Wa B),.im<|ky p],[dX aa,.aF<|aU a6 ax M I,cZ We])/\Wa.length<=1001/\(p=Y->cp.p3 (hV aa) (cE M I) a_ (λm=>m∈Wa))/\∀m,p=Z m->q4 aa M a_ Wa B m:=by
 have F:ll aa M I a_ (λq=>q∈We) [] id:=by
  refine⟨?_,hu⟩;have d:(λq:aZ=>q∈We)=λq=>q∈b1 aa X/\a_ q=Y:=funext λq=>propext (s q);rw[d];exact cp.iF.init
 have b:=x3 (h:=vI) (f:=tl) (λk w=>∃W Wa B WQ WX,w=d4 aa M I (Z<|cZ We) Wa B W WQ WX/\ll aa M I a_ (λq=>q∈W) Wa B/\(∀q∈W,q∈b1 aa X)/\W.length+M.length<=2000+Wa.length/\2*(M.length-Wa.length)+W.length<=k)
  (λw=>∃Wa B WQ WX,w=d4 aa M I (Z<|cZ We) Wa B [] WQ WX/\ll aa M I a_ (λq=>q∈[]) Wa B) (λq w=>∃Wa B m R,q=.ez [.aF (aU a6 ax Wa B),.im<|ax m]/\w=Z (dX aa)::Z (.aF<|aU a6 ax M I)::Z (cZ We)::R/\q4 aa M a_ Wa B m/\Wa.length<=1001)
  (λk w eE=>by
   let⟨W,Wa,B,WQ,WX,rfl,y,l,u,v⟩:=eE;rcases List.eq_nil_or_concat W with rfl|⟨a,D,rfl⟩
   ·exact .inl ⟨_,rfl,Wa,B,WQ,WX,rfl,y⟩
   ·rw[List.concat_eq_append]at l u v y ⊢;rw[di,gI]at u v;have z:=l D (eW _<|.head _);have G:ll aa M I a_ (λq=>q∈a\/q=D) Wa B:=by
     refine⟨?_,y.ah⟩;have d:(λq:aZ=>q∈a\/q=D)=λq=>q∈a++[D]:=funext λq=>propext (by rw[c5,cP]);rw[d];exact y.pS
    have H:vI (d4 aa M I (Z<|cZ We) Wa B (a++[D]) WQ WX)=Z (X,d4 aa M I (Z<|cZ We) Wa B (a++[D]) WQ WX):=ni rfl rfl (by
     show Z (!((a++[D]).map ax).isEmpty)=Z X;rw[f_];cases a<;>rfl)
    refine .inr ⟨_,H,?_⟩;have pop:cj 5 (hi j_ 4 wj aD) (d4 aa M I (Z<|cZ We) Wa B (a++[D]) WQ WX)=Z (.bB,d4 aa M I (Z<|cZ We) Wa B a (Z<|.im<|ax D) WX):=by
     refine lP (q:=.im (ax D)) (V_:=d4 aa M I (Z<|cZ We) Wa B a WQ WX) (rP (h:=cZ (a++[D])) (c:=cZ a) rfl rfl rfl rfl rfl ?_ rfl) (ec rfl) rfl;show (((a++[D]).map ax).getLast?).map (λq=>(ak.im q,ak.lst ((a++[D]).map ax).dropLast))=_;rw[f_,List.map_singleton,List.getLast?_append,List.dropLast_concat];rfl
    have ag:ct (ab<|sx<|aA bA (aj 0)<|aj 5) (d4 aa M I (Z<|cZ We) Wa B a (Z<|.im<|ax D) WX)=Z (((ac aa D).map ax,Y),d4 aa M I (Z<|cZ We) Wa B a (Z<|.im<|ax D) WX):=by
     have J:aA bA (aj 0) (aj 5) (d4 aa M I (Z<|cZ We) Wa B a (Z<|.im<|ax D) WX)=Z (.im<|gi<|ac aa D,d4 aa M I (Z<|cZ We) Wa B a (Z<|.im<|ax D) WX):=eb (NO (i:=gi) (I:=ac aa) gk (hg D) z);unfold ct;rw[cT (Mu J)];rfl
    have d5:=y.d5;rcases Dc Wd E (WJ:=Z (cZ We)) z (ac aa D) WX G (λ_ c=>c) ⋯ with ⟨n,g,j,A,o,r,L,WO,C,WW⟩|⟨g,j,N,WB,o,O,C⟩
    ·have Q:=r.d5;have S:=y.ah.length_le_of_subset WO;refine .inl ⟨d4 aa M I (Z<|cZ We) g j n (Z<|.im<|ax D) A,2*(M.length-g.length)+n.length,?_,⋯,n,g,j,Z<|.im<|ax D,A,rfl,⟨r.pS.LW (λq hd=>?_) λq hd=>.inl hd,r.ah⟩,WW λq hd=>l q<|gz _ hd,⋯,bh _⟩
     ·unfold tl;exact bz pop (jO ag o rfl)
     ·rcases hd with x|x
      ·exact .inl x
      ·exact .inr λm V9=>kS.mpr (L m (by rw[<-x];exact V9.2))
    ·refine .inr ⟨_,_,?_,g,j,N,WB,rfl,rfl,O,C⟩;unfold tl;exact bz pop (jO ag o rfl)) 1000000 (2*(M.length-0)+We.length) (d4 aa M I (Z<|cZ We) [] id We Y Y) ⟨We,[],id,Y,Y,rfl,F,λq hd=>((s q).mp hd).1,by rw[iv];lia,bh _⟩ ⋯
 have pre:∀{e:ak}{R:bb},fF vI tl 1000000 (d4 aa M I (Z<|cZ We) [] id We Y Y)=Z (.a_ e,Z (dX aa)::Z (.aF<|aU a6 ax M I)::Z (cZ We)::R)->nV [dX aa,.aF<|aU a6 ax M I,cZ We]=Z (e,[dX aa,.aF<|aU a6 ax M I,cZ We]):=λ{e R} c=>by
  unfold nV z4;exact eI (w:=Z (dX aa)::Z (.aF<|aU a6 ax M I)::Z (cZ We)::R) rfl (bz (V_:=[Z (dX aa),Z<|.aF<|aU a6 ax M I,Z<|cZ We,Z<|.aF<|aU a6 ax [] id,Y,Y,Y]) rfl<|bz (V_:=d4 aa M I (Z<|cZ We) [] id We Y Y) rfl<|mn c) rfl
 rcases b with ⟨R,b,Wa,B,WQ,WX,rfl,y⟩|⟨q,R,b,Wa,B,m,WB,rfl,rfl,V6,t⟩
 ·refine⟨Wa,B,Y,?_,by have:=y.d5;lia,λ_=>?_,(λm c=>by cases c)⟩
  ·unfold nV z4;exact eI (w:=[Z (dX aa),Z<|.aF<|aU a6 ax M I,Z<|cZ We,Z .cO,Z<|cZ [],WQ,WX]) rfl (bz (V_:=[Z (dX aa),Z<|.aF<|aU a6 ax M I,Z<|cZ We,Z<|.aF<|aU a6 ax [] id,Y,Y,Y]) rfl<|bz (V_:=d4 aa M I (Z<|cZ We) [] id We Y Y) rfl<|bz b<|fh<|qg (eC rfl<|bR (a8 rfl) rfl) rfl (f7 rfl) rfl) rfl
  ·have:=y.pS.done Wd (λq c=>nomatch c) λq m c=>c.1;have d:(λm:aZ=>m∈Wa)=cp.fZ (cE Wa B):=funext λm=>propext kS.symm;rw[d];exact this
 ·exact⟨Wa,B,Z m,pre b,t,(λc=>by cases c),λWV c=>by cases c;exact V6⟩
end
def JK{h:aw Bool}{f:bL}{m:Option (L2.d_×bb)}(d:h w=Z (X,V_))(a:f V_=Z (.bB,WB))(o:fF h f u WB=m):fF h f (u+1) w=m:=by
 rw[fF];show (h w).bind _=_;rw[d];show (f V_).bind _=_;rw[a];exact o
def KP{h:aw Bool}{f:bL}(d:h w=Z (au,V_)):fF h f (u+1) w=Z (.bB,V_):=by
 rw[fF];show (h w).bind _=_;rw[d];rfl
abbrev gg(M:List aZ)(I:aZ->aZ)(WU:List aZ)(F:aZ->aZ)(Wa:List aZ)(B:aZ->aZ)(d:V)(m:Option aZ)(WQ WX:Option ak):bb:=[Z (.aF<|aU a6 ax M I),Z<|.aF<|aU a6 ax WU F,Z<|.aF<|aU a6 ax Wa B,Z<|.im d,Z<|.im<|ky m,WQ,WX]
def xU(M:List aZ)(I:aZ->aZ)(WU:List aZ)(F:aZ->aZ)(Wa:List aZ)(B:aZ->aZ)(d:V)(m:Option aZ)(WQ WX:Option ak):y9 (gg M I WU F Wa B d m WQ WX)=Z (m.isSome,gg M I WU F Wa B d m WQ WX):=by cases m<;>rfl
def Ta{d:V}(V9:m∈Wa)(t:M.length<100000)(C:WU.length<100000):
  uu (gg M I WU F Wa B d (Z m) WQ WX)=Z (.bB,gg (eh M m) (fL I m<|B m) (eh WU<|B m) (fL F (B m) m) Wa B d (cE WU F<|B m) (Z<|.im<|ax<|B m)<|Z<|.im<|ky<|cE WU F<|B m):=by
 have l:v9 1 (dG 5) (gg M I WU F Wa B d (Z m) (Z<|.im<|ax<|B m) WX)=Z (.im<|ky<|cE WU F<|B m,gg M I WU F Wa B d (Z m) (Z<|.im<|ax<|B m) WX):=by
  show (if V.keys 7 (a6<|B m)=X then Z (ak.im<|(d8 (aU a6 ax WU F)<|a6<|B m).getD .aV,gg M I WU F Wa B d (Z m) (Z<|.im<|ax<|B m) WX) else Y)=_;rw[aM (hg _)];by_cases c:B m∈WU
  ·rw[xE gk c,iX c];rfl
  ·rw[Vd gk c,qY c];rfl
 unfold uu;refine bz (V_:=gg M I WU F Wa B d (Z m) (Z<|.im<|ax<|B m) WX) (gx (eb<|zJ (i:=ax) (I:=B) gk (hg m) V9) (ec rfl) rfl) ?_;refine bz (V_:=gg M I WU F Wa B d (Z m) (Z<|.im<|ax<|B m) (Z<|.im<|ky<|cE WU F<|B m)) (gx l (ec rfl) rfl) ?_;refine bz (V_:=gg (eh M m) (fL I m<|B m) WU F Wa B d (Z m) (Z<|.im<|ax<|B m) (Z<|.im<|ky<|cE WU F<|B m)) (ir (q:=.im (ax<|B m)) (V_:=gg M I WU F Wa B d (Z m) (Z<|.im<|ax<|B m) (Z<|.im<|ky<|cE WU F<|B m)) rfl<|qQ rfl rfl (qu (i:=ax) gk (hg m) (B m) t) rfl) ?_;refine bz (V_:=gg (eh M m) (fL I m<|B m) (eh WU<|B m) (fL F (B m) m) Wa B d (Z m) (Z<|.im<|ax<|B m) (Z<|.im<|ky<|cE WU F<|B m)) (ir (q:=.im (ax m)) (V_:=gg (eh M m) (fL I m<|B m) WU F Wa B d (Z m) (Z<|.im<|ax<|B m) (Z<|.im<|ky<|cE WU F<|B m)) rfl<|qQ rfl rfl (qu (i:=ax) gk (hg<|B m) m C) rfl) rfl
section
variable{aa:List aS}
theorem GK{v:aZ->Option aZ}{Wa:List aZ}{B:aZ->aZ}{p:aZ->Nat}{d:V}(V6:cp.lZ (hV aa) v (cE Wa B) p):∀(u Ww:Nat) {M:List aZ}{I:aZ->aZ}{WU:List aZ}{F:aZ->aZ}{m:aZ} (WQ WX:Option ak),p m<u->u<Ww->cp.h5 (hV aa) v (cE Wa B) p (cE M I) (cE WU F) m->M.Nodup->WU.Nodup->M.length+u<=90000->WU.length+u<=90000->
  ∃b S e Xo f g,fF y9 uu Ww (gg M I WU F Wa B d (Z m) WQ WX)=Z (.bB,gg b S e Xo Wa B d Y f g)/\cE b S=(cp.along (cE Wa B) u (cE M I,cE WU F) m).1/\cE e Xo=(cp.along (cE Wa B) u (cE M I,cE WU F) m).2/\b.Nodup/\e.Nodup
 |0,_,_,_,_,_,_,_,_,c,_,_,_,_,_,_=>absurd c (l4 _)
 |u+1,0,_,_,_,_,_,_,_,_,c,_,_,_,_,_=>absurd c (l4 _)
 |u+1,Ww+1,M,I,WU,F,m,WQ,WX,w,x,O,h,G,t,C=>by
  let⟨q,hd⟩:=O.me;let⟨V9,ht⟩:=oV hd;subst ht;have N:=Ta (B:=B) (I:=I) (F:=F) (d:=d) (WQ:=WQ) (WX:=WX) V9 (show M.length<100000 by lia) (show WU.length<100000 by lia);have y:=uL M m;have W5:=uL WU (B m);cases r:cE WU F (B m) with
  |none=>
   rw[r]at N;have a:cp.along (cE Wa B) (u+1) (cE M I,cE WU F) m=(cp.put (cE M I) m<|B m,cp.put (cE WU F) (B m) m):=by simp only[cp.along,hd,r]
   obtain⟨aw,rfl⟩:∃aw,Ww=aw+1:=⟨Ww-1,⋯⟩;refine⟨_,_,_,_,_,_,JK (xU ..) N<|KP<|xU ..,?_,?_,qe m h,qe (B m) G⟩
   ·rw[a,pQ]
   ·rw[a,pQ]
  |some s=>
   rw[r]at N;have a:cp.along (cE Wa B) (u+1) (cE M I,cE WU F) m=cp.along (cE Wa B) u (cp.put (cE M I) m<|B m,cp.put (cE WU F) (B m) m) s:=by simp only[cp.along,hd,r]
   let⟨i,lt,W⟩:=O.next V6 hd r;rw[<-pQ,<-pQ]at i a;let⟨j,S,k,Xo,f,g,D,l,n,o,Xk⟩:=GK V6 u Ww (Z<|.im<|ax<|B m) (Z<|.im<|ky<|Z s) ⋯ ⋯ i (qe m h) (qe (B m) G) ⋯ ⋯;refine⟨j,S,k,Xo,f,g,JK (xU ..) N D,?_,?_,o,Xk⟩
   ·rw[a];exact l
   ·rw[a];exact n
structure oH(aa:List aS)(M:List aZ)(I:aZ->aZ)(WU:List aZ)(F:aZ->aZ):Prop where
 iK:cp.hN (hV aa) (cE M I) (cE WU F) M
 nl:WU.Nodup
def oH.d5(Wd:oH aa M I WU F):M.length<=aa.length/\WU.length<=aa.length:=by
 refine⟨dx (Wd.iK.d5 λq m c=>c.1) nC,dx (Wd.nl.length_le_of_subset λq hd=>?_)<|nC (f:=X)⟩;exact (Wd.iK.ht (F q) q<|(Wd.iK.inv (F q) q).mpr<|iX hd).1
def SY(t:aa.length<=1000)(Wd:oH aa M I WU F)(V6:q4 aa M (cE WU F) Wa B m)(u:Wa.length<=1001):
  ∃a S f Xo,wz [.aF (aU a6 ax M I),.aF<|aU a6 ax WU F,.aF<|aU a6 ax Wa B,.im<|ax m]=Z (.im .aV,[.aF (aU a6 ax a S),.aF<|aU a6 ax f Xo,.aF<|aU a6 ax Wa B,.im<|ax m])/\oH aa a S f Xo/\M.length<a.length:=by
 let⟨p,jL,lt⟩:=V6.jL;have d5:=Wd.d5;have N:=cp.h5.start (i:=cE Wa B) (p:=p) Wd.iK (qY V6.no) ⟨_,iX V6.me⟩;let⟨b,S,g,Xo,k,l,D,n,o,r,Xk⟩:=GK (d:=ax m) jL Wa.length 1000000 Y Y lt ⋯ N Wd.iK.ah Wd.nl ⋯ ⋯;let⟨c,h,j⟩:=cp.h5.go jL Wa.length lt N λe q d=>⟨q,(Wd.iK.inv e q).mpr d⟩;rw[<-n]at c h j;rw[<-o]at c;refine⟨b,S,g,Xo,?_,⟨⟨c,h,r,λe=>kS.symm⟩,Xk⟩,?_⟩
 ·unfold wz CU;exact KU (w:=gg b S g Xo Wa B (ax m) Y k l) rfl (bz (V_:=gg M I WU F Wa B (ax m) (Z m) Y Y) rfl D) rfl
 ·have:=vG (l₁:=m::M) (l₂:=b) (gb.mpr ⟨V6.no,Wd.iK.ah⟩) λe s=>by
   refine kS.mp ((j e).mpr ?_);rcases b8.mp s with x|x
   ·exact .inl x
   ·exact .inr (kS.mpr x)
  rw[dj]at this;exact this
def Pf(j:aa.length<=1000):∃M I WU F Wa B,u1 [dX aa]=Z (.ez [.aF (aU a6 ax M I),.aF<|aU a6 ax Wa B],[dX aa])/\oH aa M I WU F/\cp.p3 (hV aa) (cE M I) (cE WU F) (λm=>m∈Wa):=by
 have b:=x3 (h:=Cr) (f:=xI) (λk w=>∃M I WU F a,w=[Z (dX aa),Z<|.aF<|aU a6 ax M I,Z<|.aF<|aU a6 ax WU F,a]/\oH aa M I WU F/\aa.length-M.length<=k) (λ_=>False)
  (λq w=>∃M I WU F Wa B R,q=.ez [.aF (aU a6 ax M I),.aF<|aU a6 ax Wa B]/\w=Z (dX aa)::R/\oH aa M I WU F/\cp.p3 (hV aa) (cE M I) (cE WU F) (λm=>m∈Wa))
  (λk w eE=>by
   let⟨M,I,WU,F,a,rfl,Wd,A⟩:=eE;refine .inr ⟨_,rfl,?_⟩;have d5:=Wd.d5;have cY:ck 1 [2] (sz<|aj 0) (bj 0) G.y8 G.yj [Z (dX aa),Z<|.aF<|aU a6 ax M I,Z<|.aF<|aU a6 ax WU F,a]=Z (cZ<|(b1 aa X).filter λq=>!decide (q∈WU),[Z (dX aa),Z<|.aF<|aU a6 ax M I,Z<|.aF<|aU a6 ax WU F,a]):=by
    have ag:sz (aj 0) [Z (dX aa),Z<|.aF<|aU a6 ax M I,Z<|.aF<|aU a6 ax WU F,a]=Z (((b1 aa X).map ax,Y),[Z (dX aa),Z<|.aF<|aU a6 ax M I,Z<|.aF<|aU a6 ax WU F,a]):=by
     show Z (((aU a6 gi (b1 aa X)<|ac aa).map λu=>V.tup u.1,Y),_)=_;unfold aU;rw[eU];rfl
    refine e3 (z:=(b1 aa X).map ax) (p:=Y) (V_:=[Z (dX aa),Z<|.aF<|aU a6 ax M I,Z<|.aF<|aU a6 ax WU F,a]) ag (mM ax (λq=>!decide (q∈WU)) ax _ [] (λq W=>?_) (by have:=nC (aa:=aa) (f:=X);rw[iv];lia)) rfl;refine⟨[Z (.im<|ax q),Z<|.aF<|aU a6 ax WU F],[Z (.im<|ax q),Z<|.aF<|aU a6 ax WU F],rfl,d7<|eb ?_,λ_=>rfl,λ_=>⟨[Z (.im<|ax q),Z<|.aF<|aU a6 ax WU F],rfl,rfl⟩⟩;by_cases c:q∈WU
    ·rw[du c];exact Be (i:=ax) gk (hg q) c
    ·rw[dQ c];exact z0 (i:=ax) gk (hg q) c
   have l:∀q,q∈(b1 aa X).filter (λq=>!decide (q∈WU))↔q∈b1 aa X/\cE WU F q=Y:=λq=>by
    rw[jw,l1,qn];exact⟨λc=>⟨c.1,qY c.2⟩,λc=>⟨c.1,Ml c.2⟩⟩
   have n:((b1 aa X).filter λq=>!decide (q∈WU)).length<=1000:=dx (uj _ _) (dx nC j);generalize (b1 aa X).filter (λq=>!decide (q∈WU))=We at cY l n;let⟨Wa,B,p,v,x,e,t⟩:=LR Wd.iK ⋯ l n;have o:cj 3 (bc 3 G.nV<|ai (aj 0)<|ai (aj 1)<|ai (ab<|ck 1 [2] (sz<|aj 0) (bj 0) G.y8 G.yj) aD) [Z (dX aa),Z<|.aF<|aU a6 ax M I,Z<|.aF<|aU a6 ax WU F,a]=Z (.bB,[Z (dX aa),Z<|.aF<|aU a6 ax M I,Z<|.aF<|aU a6 ax WU F,Z<|.ez [.aF (aU a6 ax Wa B),.im<|ky p]]):=
    gx (cW (Wn:=[.a4 0,.a4 1,.bW<|cZ We]) (bR rfl<|bR rfl<|bR (a8 cY) rfl) rfl rfl v rfl) (ec rfl) rfl;unfold xI;cases p with
   |none=>exact .inr ⟨_,[Z (dX aa),Z .cO,Z<|.aF<|aU a6 ax WU F,Z<|.ez [.cO,.im .aV]],bz o<|mn<|jZ (V_:=[Z (dX aa),Z<|.aF<|aU a6 ax M I,Z<|.aF<|aU a6 ax WU F,Z<|.ez [.aF (aU a6 ax Wa B),.im .aV]]) rfl<|fh<|qg (eC rfl<|eC (cT rfl) rfl) rfl (f7 rfl) rfl,M,I,WU,F,Wa,B,_,rfl,rfl,Wd,e rfl⟩
   |some m=>
    let⟨g,S,r,Xo,y,s,lt⟩:=SY j Wd (t m rfl) x;have C:=s.d5;refine .inl ⟨[Z (dX aa),Z<|.aF<|aU a6 ax g S,Z<|.aF<|aU a6 ax r Xo,Z<|.ez [.cO,.im<|ax m]],aa.length-g.length,bz o<|bz (gm (V_:=[Z (dX aa),Z<|.aF<|aU a6 ax M I,Z<|.aF<|aU a6 ax WU F,Z<|.ez [.aF (aU a6 ax Wa B),.im<|ax m]]) rfl rfl)<|tk<|cW (Wn:=[.a4 1,.a4 2,.bW<|.aF<|aU a6 ax Wa B,.bW<|.im<|ax m]) (eC rfl<|eC rfl<|eC (cT rfl)<|eC (cT rfl) rfl) rfl rfl y rfl,⋯,g,S,r,Xo,_,rfl,s,bh _⟩) 1000000 aa.length [Z (dX aa),Z<|.aF<|aU a6 ax [] id,Z<|.aF<|aU a6 ax [] id,Y] ⟨[],id,[],id,Y,rfl,⟨⟨λm q=>⟨λd=>absurd (oV d).1 ka,λd=>absurd (oV d).1 ka⟩,λm q d=>absurd (oV d).1 ka,hu,λm=>kS.symm⟩,hu⟩,bh _⟩ ⋯
 rcases b with ⟨R,_,c⟩|⟨q,R,b,M,I,WU,F,Wa,B,WB,rfl,rfl,Wd,e⟩
 ·exact c.elim
 ·refine⟨M,I,WU,F,Wa,B,?_,Wd,e⟩;unfold u1 Fs;exact eI (w:=Z (dX aa)::WB) rfl (bz (V_:=[Z (dX aa),Z<|.aF<|aU a6 ax [] id,Y,Y]) rfl<|bz (V_:=[Z (dX aa),Z<|.aF<|aU a6 ax [] id,Z<|.aF<|aU a6 ax [] id,Y]) rfl b) rfl
end
def F9{W9:Type}{WS:Wr->W9}{H k:List W9}(s:H.Perm k):∀M:List Wr,k=M.map WS->∃a:List Wr,a.Perm M/\H=a.map WS:=by
 induction s with
 |nil=>intro M d;exact⟨M,.refl _,d⟩
 |cons e _ f=>
  intro M d;cases M with
  |nil=>cases d
  |cons o M=>
   rw[b2]at d;let⟨b,c⟩:=List.cons.inj d;let⟨a,t,C⟩:=f M c;exact⟨o::a,t.cons o,by rw[b2,<-C,b]⟩
 |swap e l H=>
  intro M d;cases M with
  |nil=>cases d
  |cons o M=>
   cases M with
   |nil=>cases d
   |cons WO M=>
    rw[b2,b2]at d;let⟨b,c⟩:=List.cons.inj d;let⟨g,h⟩:=List.cons.inj c;exact⟨WO::o::M,.swap ..,by rw[b2,b2,b,g,h]⟩
 |trans _ _ i j=>
  intro M d;let⟨a,t,C⟩:=j M d;let⟨m,n,p⟩:=i a C;exact⟨m,n.trans t,p⟩
theorem p8(WS:Wr->List V):∀H:List Wr,hl [.lst (H.map λe=>.tup<|WS e)]=jV (H.map λe=>.tup<|WS e)
 |[]=>rfl
 |_::_=>rfl
def vv(L v:aZ):eH 6 (ax L) (ax v)=X:=by
 let⟨f,h,u⟩:=L;let⟨a,b,c⟩:=v;cases f<;>cases a<;>rfl
def yM(Xd:List aZ):Prop:=(Xd.Pairwise λg f=>a7 (ax g) (ax f)=X)
def J7(ah:Xd.Nodup)(b:Xd.length<=1000):jR (Xd.map ax):=by
 refine⟨⟨by rw[ba];exact b,λe a l c=>?_,kN (λe W l W d=>Pw d) ah⟩,.inl λe a=>?_⟩
 ·let⟨L,W,rfl⟩:=cG.mp a;let⟨v,W,rfl⟩:=cG.mp c;exact vv L v
 ·let⟨⟨f,h,u⟩,g,rfl⟩:=cG.mp a;cases f<;>rfl
def IJ(ah:Xd.Nodup)(a:Xd.length<=1000):∃V6:List aZ,jV (Xd.map ax)=Z (cZ V6)/\V6.Perm Xd/\yM V6:=by
 have p:=J7 ah a;let⟨V6,t,C⟩:=F9 (jn<|Xd.map ax) Xd rfl;refine⟨V6,?_,t,?_⟩
 ·unfold jV;rw[aM (qC.mpr p),C]
 ·have:=rB p.ord.ah p.ord.h7;rw[C]at this;exact nz.mp this
structure nN(aa:List aS)(We:List aZ)(b:List aS):Prop where
 wO:yM We
 O6:vQ b
 len:We.length=b.length
 i3:∀m∈We,m∈b1 aa X\/m∈b1 aa au
 hold:∀h∈aa,∃m∈We,h∈cls m
 ap:cp.rC (d_ aa) b
 d5:We.length<=aa.length
def nN.n_{We:List aZ}(a:aa.length<=1000)(W:nN aa We b):cp.d0 (d_ aa) We.length:=by
 refine⟨⟨We.map λm=>(m.1,m.2.1),λh d=>?_,ba ..⟩,b,W.ap,W.len.symm⟩;let⟨m,V9,c⟩:=W.hold h d;refine⟨_,cG.mpr ⟨m,V9,rfl⟩,?_⟩;show cp.In (d_ aa) m.1 m.2.1 h;rcases W.i3 m V9 with x|x
 ·rw[(i_ a x).1];exact (jo a x).mp c
 ·rw[(i_ a x).1];exact (jo a x).mp c
def CP{P:aS->Prop}(O:cp.rC P b):b.Nodup:=O.2.imp_of_mem λ{e l} a _ c d=>c X (d ▸ cp.In.refl (O.1 e a) X)
def Vj(ah:aa.Nodup)(a:aa.length<=1000):∃We b,ro [aE aa]=Z (.im<|.tup [.tup (We.map ax),.tup<|b.map aH],[aE aa])/\nN aa We b:=by
 let⟨M,I,WU,F,Wa,B,S,Wd,T⟩:=Pf a;have d5:=Wd.d5.1;have y:=Ri a;have N:∀m∈M,hV aa (I m) m:=λm V9=>Wd.iK.ht m (I m) (iX V9);have g:∀m∈M,m∈b1 aa au/\I m∈b1 aa X:=λm V9=>⟨((sb a).mp<|N m V9).2.1,(N m V9).1⟩;have hold:=Wd.iK.hold (F:=λm=>if m∈Wa then (au,m.2.1) else (X,(I m).2.1)) T y λm V9 q d=>by
  let⟨K,rfl⟩:=oV d;rfl
 have z:=Wd.iK.apart (F:=λm=>(m.2.1.1,(I m).2.1.2)) y λm V9 q d=>by
  let⟨K,rfl⟩:=oV d;rfl
 have U:(M.map λm=>if m∈Wa then m else I m).Nodup:=by
  refine kN (λe A l C d=>?_) Wd.iK.ah;have j:=(i_ a (g e A).1).1;have n:=(i_ a (g e A).2).1;have P:=(i_ a (g l C).1).1;have al:=(i_ a (g l C).2).1;by_cases t:e∈Wa
  ·by_cases o:l∈Wa
   ·rwa [aM t,aM o]at d
   ·rw[aM t,aN o]at d;rw[d,al]at j;cases j
  ·by_cases o:l∈Wa
   ·rw[aN t,aM o]at d;rw[<-d,n]at P;cases P
   ·rw[aN t,aN o]at d;have Q:=(Wd.iK.inv e<|I e).mp (iX A);have W5:=(Wd.iK.inv l<|I l).mp (iX C);rw[d,W5]at Q;exact (Option.some.inj Q).symm
 let⟨We,u,v,am⟩:=IJ U (by rw[ba];lia);let⟨b,j,n,an⟩:=vs (CP z) (by rw[ba];lia);have W:nN aa We b:=by
  refine⟨am,an,by rw[v.length_eq,n.length_eq,ba,ba],λm V9=>?_,λh D=>?_,⟨λh D=>z.1 h<|n.mem_iff.mp D,?_⟩,by rw[v.length_eq,ba];exact d5⟩
  ·let⟨r,k,rfl⟩:=cG.mp (v.mem_iff.mp V9);by_cases c:r∈Wa
   ·rw[aM c];exact .inr (g r k).1
   ·rw[aN c];exact .inl (g r k).2
  ·let⟨s,ap,c⟩:=hold h D;let⟨r,k,rfl⟩:=cG.mp ap;refine⟨if r∈Wa then r else I r,v.mem_iff.mpr<|cG.mpr ⟨r,k,rfl⟩,?_⟩;by_cases x:r∈Wa
   ·rw[aM x]at c ⊢;exact (jo a (g r k).1).mpr c
   ·rw[aN x]at c ⊢;exact (jo a (g r k).2).mpr c
  ·exact n.symm.pairwise z.2 λ{e l} c f x=>c f x.symm
 refine⟨We,b,?_,W⟩;have ag:∀(E H W6 WQ:Option ak),p4 (aj 2) [Z (aE aa),E,Z<|.fp<|aU a6 ax M I,H,W6,WQ]=Z ((M.map λm=>.tup [ax m,ax<|I m],Y),[Z (aE aa),E,Z<|.fp<|aU a6 ax M I,H,W6,WQ]):=λE H W6 WQ=>by
  show Z (((aU a6 ax M I).map λR=>V.tup [.tup R.1,R.2],Y),_)=_;unfold aU;rw[eU];rfl
 have J:ck 2 [3] (p4<|aj 2) (gj 2<|dT (bj 0)<|dT (bj 1) gF) c3 G.yN [Z (aE aa),Z<|.ez [.cO,.cO],Z<|.fp<|aU a6 ax M I,Z<|.aF<|aU a6 ax Wa B,Y,Y]=Z (.lst<|M.map λm=>ax<|if m∈Wa then m else I m,[Z (aE aa),Z<|.ez [.cO,.cO],Z<|.fp<|aU a6 ax M I,Z<|.aF<|aU a6 ax Wa B,Y,Y]):=by
  refine e3 (p:=Y) (V_:=[Z (aE aa),Z<|.ez [.cO,.cO],Z<|.fp<|aU a6 ax M I,Z<|.aF<|aU a6 ax Wa B,Y,Y]) (ag ..) (gL (λm=>.tup [ax m,ax<|I m]) (λm=>ax<|if m∈Wa then m else I m) _ (λm V9=>?_) ⋯) rfl;refine⟨[Z (.im<|ax m),Z<|.im<|ax<|I m,Z<|.aF<|aU a6 ax Wa B],_,[Z (.im<|ax m),Z<|.im<|ax<|I m,Z<|.aF<|aU a6 ax Wa B],rfl,rfl,?_,rfl⟩;unfold yN;by_cases c:m∈Wa
  ·rw[aM c];exact RQ (d7<|eb<|Ge (i:=ax) gk (hg m) c) rfl
  ·rw[aN c];exact Me (d7<|eb<|TZ (i:=ax) gk (hg m) c) rfl
 have as:(M.map λm=>ax<|if m∈Wa then m else I m)=(M.map λm=>if m∈Wa then m else I m).map ax:=by rw[eU];rfl
 rw[as]at J;generalize (M.map λm=>if m∈Wa then m else I m)=O at J u;have L:ck 2 [] (p4<|aj 2) (gj 2<|dT (bj 0)<|dT (bj 1) gF) c3 G.Iu [Z (aE aa),Z<|.ez [.cO,.cO],Z<|.fp<|aU a6 ax M I,Z<|.aF<|aU a6 ax Wa B,Z<|cZ O,Y]=Z (.lst<|M.map λm=>aH (m.2.1.1,(I m).2.1.2),[Z (aE aa),Z<|.ez [.cO,.cO],Z<|.fp<|aU a6 ax M I,Z<|.aF<|aU a6 ax Wa B,Z<|cZ O,Y]):=by
  refine e3 (p:=Y) (V_:=[Z (aE aa),Z<|.ez [.cO,.cO],Z<|.fp<|aU a6 ax M I,Z<|.aF<|aU a6 ax Wa B,Z<|cZ O,Y]) (ag ..) (gL (λm=>.tup [ax m,ax<|I m]) (λm=>aH (m.2.1.1,(I m).2.1.2)) _ (λm V9=>?_) ⋯) rfl;exact⟨[Z (.im<|ax m),Z<|.im<|ax<|I m],_,[Z (.im<|ax m),Z<|.im<|ax<|I m],rfl,rfl,pE (bR (a8<|b_ (a8<|b_ rfl rfl rfl rfl rfl) rfl rfl rfl rfl)<|bR (a8<|b_ (a8<|b_ rfl rfl rfl rfl rfl) rfl rfl rfl rfl) rfl) rfl (f7 rfl) rfl,rfl⟩
 have a1:(M.map λm=>aH (m.2.1.1,(I m).2.1.2))=(M.map λm=>((m.2.1.1,(I m).2.1.2):aS)).map aH:=by rw[eU];rfl
 rw[a1]at L;generalize (M.map λm=>((m.2.1.1,(I m).2.1.2):aS))=W7 at L j;replace u:hl [cZ O]=Z (cZ We):=(p8 a6 O).trans u;replace j:hl [cI W7]=Z (cI b):=(p8 cQ W7).trans j;unfold ro Jt;refine eI (w:=[Z (aE aa),Z<|.ez [.cO,.cO],Z<|.fp<|aU a6 ax M I,Z<|.aF<|aU a6 ax Wa B,Z<|cZ O,Z<|cI W7]) rfl ?_ rfl;refine bz (V_:=[Z (aE aa),Z<|.ez [.aF (aU a6 ax M I),.aF<|aU a6 ax Wa B],Y,Y,Y,Y]) (gx (cW (Wn:=[.bW (dX aa)]) (bR (a8<|cW (Wn:=[.a4 0]) rfl rfl rfl (Is ah a) rfl) rfl) rfl rfl S rfl) (ec rfl) rfl) ?_;refine bz (V_:=[Z (aE aa),Z<|.ez [.cO,.aF<|aU a6 ax Wa B],Z<|.fp<|aU a6 ax M I,Y,Y,Y]) rfl ?_;refine bz (V_:=[Z (aE aa),Z<|.ez [.cO,.cO],Z<|.fp<|aU a6 ax M I,Z<|.aF<|aU a6 ax Wa B,Y,Y]) rfl ?_;refine bz (gx J (ec rfl) rfl) (bz (gx L (ec rfl) rfl)<|fh ?_);exact pE (bR (a8<|dF (bR (a8<|dF (bR rfl rfl) rfl u) rfl) rfl rfl)<|bR (a8<|dF (bR (a8<|dF (bR rfl rfl) rfl j) rfl) rfl rfl) rfl) rfl (f7 rfl) rfl
theorem DC:∀Wl:List aS,cells? ((bw Wl).map (·.1))=Z Wl
 |[]=>rfl
 |h::Wl=>by
  show (cells? ((bw Wl).map (·.1))).map (λn=>(h.1,h.2)::n)=_;rw[DC Wl];rfl
theorem GV:∀Wl M:List aS,rW (bw Wl) (bw M)=bw (Wl.foldl hW M)
 |[],M=>rfl
 |h::Wl,M=>by
  show rW (bw Wl) (jq (bw M) (cQ h)<|.aB X)=_;rw[Ju,GV Wl];rfl
def MT{M:List aS}(ah:Wl.Nodup)(a:∀h∈Wl,0<=h.1/\h.1<=30/\0<=h.2/\h.2<=30)(t:M.length<=1000)(C:Wl.length<=1000):uo (.aF<|bw M) [.aF (bw Wl)]=Z (.im .aV,.aF<|bw<|Wl.foldl hW M):=by
 show (cells? ((bw Wl).map (·.1))).bind _=_;rw[DC];show (if Wl.Nodup/\(∀h∈Wl,0<=h.1/\h.1<=30/\0<=h.2/\h.2<=30)/\(bw M).length<=1000/\(bw Wl).length<=1000 then Z (ak.im .aV,ak.aF<|rW (bw Wl)<|bw M) else Y)=_;rw[aM ⟨ah,a,by unfold bw;rw[ba];exact t,by unfold bw;rw[ba];exact C⟩,GV]
def kJ(Wa:List aS):Prop:=(∀h∈Wa,0<=h.1/\h.1<=30/\0<=h.2/\h.2<=30)
def sw(h:aS):aS:=((h.2,h.1))
def Pk(h:aS):sw (sw h)=h:=rfl
def LO(m:aZ):oj [.im (ax m)]=Z (.im<|.aB X,[.im (ax m)]):=by
 let⟨f,h,u⟩:=m;cases f<;>rfl
def T6{I:af}(c:V6.length<=1000):qD I [c4 V6,.im<|.fn I]=Z (.im<|.aB<|(V6.zip<|V6.drop 1).all λs=>a7 (ax s.1)<|ax s.2,[c4 V6,.im<|.fn I]):=by
 have a:ck 1 [1] (ct<|aj 0) (bj 0) c3 (G.ym I) [Z (c4 V6),Z<|.im<|.fn I]=Z (.lst<|V6.map λ_=>.aB X,[Z (c4 V6),Z<|.im<|.fn I]):=by
  refine e3 (z:=V6.map ax) (p:=Y) (V_:=[Z (c4 V6),Z<|.im<|.fn I]) rfl (gL ax (λ_=>.aB X) _ (λD d=>?_) ⋯) rfl;refine⟨[Z (.im<|ax D),Z<|.im<|.fn I],_,[Z (.im<|ax D),Z<|.im<|.fn I],rfl,rfl,?_,rfl⟩;unfold ym;show (if I=I then _ else _)=_;rw[aM rfl];exact cW (Wn:=[.a4 0]) rfl rfl rfl (LO D) rfl
 have e:(V6.zip<|V6.drop 1).length<=1000:=by rw[wB];lia
 have b:ck 2 [] (oh<|ai (aj 0)<|ai (ab<|iW (aj 0) (ki<|ay<|.int 1) jE) aD) (gj 2<|dT (bj 0)<|dT (bj 1) gF) c3 (G.HT I) [Z (c4 V6),Z<|.im<|.fn I]=Z (.lst<|(V6.zip<|V6.drop 1).map λs=>.aB<|a7 (ax s.1)<|ax s.2,[Z (c4 V6),Z<|.im<|.fn I]):=by
  refine e3 (z:=(V6.zip<|V6.drop 1).map λs=>.tup [ax s.1,ax s.2]) (p:=Y) (V_:=[Z (c4 V6),Z<|.im<|.fn I]) ?_ (gL (λs:aZ×aZ=>.tup [ax s.1,ax s.2]) (λs=>.aB<|a7 (ax s.1)<|ax s.2) _ (λs W=>?_) ⋯) rfl
  ·rw[<-D_];exact Gs (bR rfl<|bR (a8<|Al rfl rfl rfl rfl rfl) rfl) rfl
  ·have lt:su (.im<|ax s.1) (.im<|ax s.2)=Z (.im<|.aB<|a7 (ax s.1)<|ax s.2):=aM (vv s.1 s.2);exact⟨[Z (.im<|ax s.1),Z<|.im<|ax s.2],_,[Z (.im<|ax s.1),Z<|.im<|ax s.2],rfl,rfl,eb lt,rfl⟩
 unfold qD DT;exact eI (w:=[Z (c4 V6),Z<|.im<|.fn I]) rfl (bz (gm (o1 (V_:=[Z (c4 V6),Z<|.im<|.fn I]) rfl<|mh<|ni (a8<|dF (bR (a8 a) rfl) rfl<|rp V6) rfl rfl) rfl)<|fh<|dF (bR (a8 b) rfl) rfl<|Af _ _) rfl
def N3(e l x:aZ)(t:a7 (ax e) (ax l)=X)(C:a7 (ax l) (ax x)=X):a7 (ax e) (ax x)=X:=nT (u:=6) (vv e l) (vv l x) t C
def Uh{I:af}(a:V6.length<=1000)(L:yM V6):qD I [c4 V6,.im<|.fn I]=Z (.im<|.aB X,[c4 V6,.im<|.fn I]):=by
 rw[T6 a,(AH N3 V6).mpr L]
def K7{I:af}(a:b.length<=1000)(L:vQ b):pz I [aE b,.im<|.fn I]=Z (.im<|.aB X,[aE b,.im<|.fn I]):=by
 rw[NI a,(AH Md b).mpr L]
def TO(ah:aa.Nodup)(j:aa.length<=500):∃U:List aZ,r7 [aE aa]=Z (c4 U,[aE aa])/\(∀m,m∈U↔m∈b1 aa X\/m∈b1 aa au)/\U.length<=1000:=by
 have k:=nC (aa:=aa) (f:=X);have n:=nC (aa:=aa) (f:=au);have u:(b1 aa X++b1 aa au).Nodup:=dJ.mpr ⟨y1 ah,y1 ah,λe g l h d=>by
  have b:=(i_ ⋯ g).1;have i:=(i_ ⋯ h).1;rw[d,i]at b;cases b⟩
 have gP:(b1 aa X++b1 aa au).length<=1000:=by rw[di];lia
 let⟨U,a,c,W⟩:=IJ u gP;refine⟨U,?_,λm=>by rw[c.mem_iff,c5],by rw[c.length_eq];exact gP⟩;have a:hl [cZ (b1 aa X++b1 aa au)]=Z (cZ U):=(p8 a6 _).trans a;have ad:cD (cZ<|b1 aa X) (cZ<|b1 aa au)=Z (cZ<|b1 aa X++b1 aa au):=by
  show (if ((b1 aa X).map ax).length+((b1 aa au).map ax).length<=100000 then Z (ak.lst<|(b1 aa X).map ax++(b1 aa au).map ax) else Y)=_;rw[aM (by rw[ba,ba];lia),<-f_]
 unfold r7 HI;exact eI (w:=[Z (aE aa)]) rfl (fh (dF (bR (a8 (dF (bR (a8 (b_ (a8 (cW (Wn:=[.a4 0,.bW<|.im<|dh X]) rfl rfl rfl (yQ ah ⋯ X) rfl)) (a8 (cW (Wn:=[.a4 0,.bW<|.im<|dh au]) rfl rfl rfl (yQ ah ⋯ au) rfl)) rfl rfl ad)) rfl) rfl a)) rfl) rfl rfl)) rfl
theorem E2(a:Option ak):∀(Xd M:List aZ) (WJ:Option ak),M.length+Xd.length<100000->∃b,ew (bj 2) qM (Xd.map ax) [a,Z<|.aF<|aU a6 V.aB M λ_=>X,WJ]=Z (.bB,[a,Z<|.aF<|aU a6 V.aB (Xd.foldl eh M) λ_=>X,b])
 |[],M,WJ,_=>⟨WJ,rfl⟩
 |m::Xd,M,WJ,c=>by
  rw[dj]at c;have d:gJ (.aF<|aU a6 V.aB M λ_=>X) (.im<|ax m) (.im<|.aB X)=Z (.aF<|aU a6 V.aB (eh M m) λ_=>X):=by
   have:=qu (i:=V.aB) (M:=M) (I:=λ_=>X) gk (hg m) X ⋯
   rwa [A0]at this
  let⟨b,e⟩:=E2 a Xd (eh M m) (Z<|.im<|ax m) (by have:=uL M m;lia);refine⟨b,?_⟩;rw[b2];exact lN (V_:=[a,Z<|.aF<|aU a6 V.aB M λ_=>X,Z<|.im<|ax m]) rfl (ir (q:=.im (.aB X)) (V_:=[a,Z<|.aF<|aU a6 V.aB M λ_=>X,Z<|.im<|ax m]) rfl<|qQ rfl rfl d rfl) e
def Sr{U:List aZ}(b:U.length<=1000):∃M,ia [c4 U]=Z (.aF<|aU a6 V.aB M λ_=>X,[c4 U])/\∀m∈U,m∈M:=by
 let⟨p,a⟩:=E2 (Z<|c4 U) U [] Y (by rw[iv];lia);refine⟨U.foldl eh [],?_,λm V9=>(se l8 U [] m).mpr<|.inr V9⟩;unfold ia uc;exact eI (w:=[Z (c4 U),Z .cO,p]) rfl (bz (V_:=[Z (c4 U),Z<|.aF [],Y]) rfl<|bz (jO (p:=Y) rfl a rfl) rfl) rfl
def Ay{WS:Wr->V}{H:List Wr}{E:List (List V×V)}(b:H.length<=1000)(c:∀e∈H,jF (.im<|WS e) (.aF E)=Z (.im<|.aB X)):n4 [.im (.tup<|H.map WS),.aF E]=Z (.im<|.aB X,[.im (.tup<|H.map WS),.aF E]):=by
 have cY:ck 1 [1] (ct<|aj 0) (bj 0) c3 G.Bu [Z (.im<|.tup<|H.map WS),Z<|.aF E]=Z (.lst<|H.map λ_=>.aB X,[Z (.im<|.tup<|H.map WS),Z<|.aF E]):=by
  refine e3 (z:=H.map WS) (p:=Y) (V_:=[Z (.im<|.tup<|H.map WS),Z<|.aF E]) rfl (gL WS (λ_=>.aB X) _ (λe a=>?_) ⋯) rfl;exact⟨[Z (.im<|WS e),Z<|.aF E],_,[Z (.im<|WS e),Z<|.aF E],rfl,rfl,eb<|c e a,rfl⟩
 unfold n4 Ff;exact eI (w:=[Z (.im<|.tup<|H.map WS),Z<|.aF E]) rfl (fh<|dF (bR (a8 cY) rfl) rfl<|rp H) rfl
theorem II{M:List aS}(c:h∈M):jF (.im<|aH h) (.aF<|bw M)=Z (.im<|.aB X):=(Ap M h).trans (by rw[du c])
def tg(m:aZ):(cls m).Nodup:=kN (λa W i W d=>by have:=xR d;lia) mJ
section
variable{aa:List aS}
theorem CW(q:aa.length<=500)(j:kJ aa){d e:Option ak}:∀(We:List aZ) (M:List aS) (g:Option ak),(∀m∈We,m∈b1 aa X\/m∈b1 aa au)->M.Nodup->(∀h∈M,h∈aa)->
  ∃f i,ew (bj 3) Gy (We.map ax) [d,e,Z<|.aF<|bw M,g]=Z (.bB,[d,e,Z<|.aF<|bw f,i])/\(∀h∈M,h∈f)/\∀m∈We,∀h∈cls m,h∈f
 |[],M,g,_,_,_=>⟨M,g,rfl,λ_ c=>c,λ_ c=>nomatch c⟩
 |m::We,M,g,k,l,o=>by
  have lk:=l.length_le_of_subset o;have V9:m.2.2<=aa.length/\∀h∈cls m,h∈aa:=by
   rcases k m (.head _) with x|x
   ·exact⟨(i_ ⋯ x).2.2,λh c=>o3 ⋯ x c⟩
   ·exact⟨(i_ ⋯ x).2.2,λh c=>o3 ⋯ x c⟩
  have u:(cls m).length<=aa.length:=(tg m).length_le_of_subset V9.2;have S:ia [cI (cls m)]=Z (.aF<|bw<|cls m,[cI (cls m)]):=by
   have:=QK (b:=cls m) ⋯
   rwa [v3 qc (cls m) [] (by exact tg m)]at this
  have r:=MT (M:=M) (tg m) (λh c=>j h<|V9.2 h c) ⋯ ⋯;let⟨f,i,s,p,t⟩:=CW q j (d:=d) (e:=e) We ((cls m).foldl hW M) (Z<|.im<|ax m) (λn av=>k n<|.tail _ av) (zR qc _ _ l) λh a=>by
   rcases (se qc (cls m) M h).mp a with x|x
   ·exact o h x
   ·exact V9.2 h x
  refine⟨f,i,?_,λh a=>p h<|(se qc _ _ h).mpr<|.inl a,λn av h a=>?_⟩
  ·rw[b2];refine lN (V_:=[d,e,Z<|.aF<|bw M,Z<|.im<|ax m]) rfl ?_ s;exact tk (rP (h:=.aF (bw M)) rfl rfl (bR (a8 (cW (Wn:=[.bW (cI<|cls m)]) (bR (a8 (cW (Wn:=[.a4 3]) rfl rfl rfl (uH ⋯) rfl)) rfl) rfl rfl S rfl)) rfl) rfl rfl r rfl)
  ·rcases b8.mp av with x|x
   ·rw[x]at a;exact p h ((se qc _ _ h).mpr<|.inr a)
   ·exact t n x h a
def OP(a:aa.length<=500)(d:kJ aa){We:List aZ}{b:List aS}(W:nN aa We b):sy [c4 We,aE aa]=Z (.im<|.aB X,[c4 We,aE aa]):=by
 let⟨M,e,f,U,g⟩:=CW a d (d:=Z (c4 We)) (e:=Z (aE aa)) We [] Y W.i3 hu (λ_ c=>nomatch c);have i:=Ay (WS:=aH) (H:=aa) (E:=bw M) ⋯ λh j=>by
  let⟨m,V9,c⟩:=W.hold h j;exact II (g m V9 h c)
 unfold sy Jw;exact eI (w:=[Z (c4 We),Z<|aE aa,Z<|.aF<|bw M,e]) rfl (bz (V_:=[Z (c4 We),Z<|aE aa,Z<|.aF<|bw [],Y]) rfl<|bz (jO (p:=Y) rfl f rfl)<|fh<|cW (Wn:=[.a4 1,.a4 2]) rfl rfl rfl i rfl) rfl
def KG{H:List Wr}(ah:H.Nodup)(c:∀e∈H,∀l∈H,e=l):H.length<=1:=by
 cases H with
 |nil=>exact hj _
 |cons g H=>
  cases H with
  |nil=>exact bh _
  |cons f H=>exact absurd (.head _) (c g (.head _) f (.tail _<|.head _) ▸ (gb.mp ah).1)
theorem EK{P:aS->Prop}:∀(b:List aS),(b.Pairwise λe l=>∀f,¬ cp.In P f e l)->∀{e l:aS}{f:Bool},e∈b->l∈b->cp.In P f e l->e=l
 |[],_,_,_,_,c,_,_=>nomatch c
 |g::b,O,e,l,f,j,h,r=>by
  have O:=e8.mp O;rcases b8.mp j with d|i
  ·rcases b8.mp h with k|a
   ·rw[d,k]
   ·exact absurd r (d ▸ O.1 l a f)
  ·rcases b8.mp h with d|a
   ·exact absurd r.symm (d ▸ O.1 e i f)
   ·exact EK b O.2 i a r
def UX(u:aa.length<=500){We:List aZ}{b:List aS}(W:nN aa We b){U:List aZ}(i:∀m∈U,m∈b1 aa X\/m∈b1 aa au)(v:U.length<=1000):sT [aE b,c4 U]=Z (.im<|.aB X,[aE b,c4 U]):=by
 have j:=CP W.ap;have y:b.length<=aa.length:=by rw[<-W.len];exact W.d5
 have S:=AX j ⋯;have cY:ck 1 [2] (ct<|aj 1) (bj 0) c3 G.Hg [Z (aE b),Z<|c4 U,Z<|.aF<|bw b]=Z (.lst<|U.map λ_=>.aB X,[Z (aE b),Z<|c4 U,Z<|.aF<|bw b]):=by
  refine e3 (z:=U.map ax) (p:=Y) (V_:=[Z (aE b),Z<|c4 U,Z<|.aF<|bw b]) rfl (gL ax (λ_=>.aB X) _ (λm V9=>?_) ⋯) rfl;refine⟨[Z (.im<|ax m),Z<|.aF<|bw b],_,[Z (.im<|ax m),Z<|.aF<|bw b],rfl,rfl,?_,rfl⟩;have a:∃f,m∈b1 aa f:=by
   rcases i m V9 with x|x
   ·exact⟨X,x⟩
   ·exact⟨au,x⟩
  let⟨f,a⟩:=a;have gP:=(i_ ⋯ a).2.2;have A:(cls m).length<=aa.length:=(tg m).length_le_of_subset λh c=>o3 ⋯ a c;have k:ck 1 [1] (ct<|ab<|bc 1 G.jz<|ai (aj 0) aD) (bj 0) G.Hu G.Hk [Z (.im<|ax m),Z<|.aF<|bw b]=Z (cI<|(cls m).filter λh=>decide (h∈b),[Z (.im<|ax m),Z<|.aF<|bw b]):=by
   refine e3 (z:=(cls m).map aH) (p:=Y) (V_:=[Z (.im<|ax m),Z<|.aF<|bw b]) ?_ (mM aH (λh=>decide (h∈b)) aH _ [] (λh T=>?_) (by rw[iv];lia)) rfl
   ·have n:bc 1 G.jz (ai (aj 0) aD) [Z (.im<|ax m),Z<|.aF<|bw b]=Z (cI<|cls m,[Z (.im<|ax m),Z<|.aF<|bw b]):=cW (Wn:=[.a4 0]) rfl rfl rfl (uH ⋯) rfl;unfold ct;rw[cT n];rfl
   ·exact⟨[Z (.im<|aH h),Z<|.aF<|bw b],[Z (.im<|aH h),Z<|.aF<|bw b],rfl,d7<|eb<|Ap b h,λ_=>rfl,λ_=>⟨[Z (.im<|aH h),Z<|.aF<|bw b],rfl,rfl⟩⟩
  have one:((cls m).filter λh=>decide (h∈b)).length<=1:=KG ((tg m).sublist s6) λe o l q=>by
   let⟨s,d⟩:=jw.mp o;let⟨t,g⟩:=jw.mp q;have d:=hz d;have g:=hz g;have r:=((jo ⋯ a).mp s).symm.trans ((jo ⋯ a).mp t);exact EK b W.ap.2 d g r
  refine b_ (a8<|dF (bR (a8 k) rfl) rfl rfl) rfl rfl rfl ?_;show Z (ak.im<|.aB<|decide (((((cls m).filter λh=>decide (h∈b)).map aH).length:Int)<=1))=_;rw[ba,du ⋯]
 unfold sT FC;exact eI (w:=[Z (aE b),Z<|c4 U,Z<|.aF<|bw b]) rfl (bz (V_:=[Z (aE b),Z<|c4 U,Z<|.aF<|bw b]) (gx (cW (Wn:=[.a4 0]) rfl rfl rfl S rfl) (ec rfl) rfl)<|fh<|dF (bR (a8 cY) rfl) rfl<|rp U) rfl
def Pl(ah:aa.Nodup)(a:aa.length<=500)(f:kJ aa){We:List aZ}{b:List aS}(W:nN aa We b)(bI c:af):sr bI c [aE aa,c4 We,aE b]=Z (.im<|.aB X,[aE aa,c4 We,aE b]):=by
 have g:We.length<=500:=dx W.d5 a;have q:b.length<=500:=by rw[<-W.len];exact g
 let⟨U,j,d,e⟩:=TO ah a;let⟨M,WG,WO⟩:=Sr e;have k:=Ay (WS:=ax) (H:=We) (E:=aU a6 V.aB M λ_=>X) ⋯ λm V9=>Ge (i:=V.aB) gk (hg m) (WO m<|(d m).mpr<|W.i3 m V9);have W5:=Ay (WS:=aH) (H:=b) (E:=bw aa) ⋯ λh l=>II (W.ap.1 h l);have n:=OP a f W;have o:=UX a W (λm V9=>(d m).mp V9) e;have p:eS [c4 We]=Z (az (We.length:Int)):=by
  show Z (ak.im<|.int ((We.map ax).length:Int))=_;rw[ba]
 have ne:lj (az (We.length:Int)) (az (b.length:Int))=Z (.im<|.aB au):=(Hq _ _).trans (by rw[W.len,du rfl];rfl);unfold sr BE;refine eI (w:=[Z (aE aa),Z<|c4 We,Z<|aE b,Z<|c4 U]) rfl ?_ rfl;refine bz (V_:=[Z (aE aa),Z<|c4 We,Z<|aE b,Y]) (gm (o1 (V_:=[Z (aE aa),Z<|c4 We,Z<|aE b,Y]) (mh (ni (a8 (cW (Wn:=[.a4 1,.bW<|.im<|.fn c]) rfl rfl rfl (Uh ⋯ W.wO) rfl)) rfl rfl)) (o1 (V_:=[Z (aE aa),Z<|c4 We,Z<|aE b,Y]) (mh (ni (a8 (cW (Wn:=[.a4 2,.bW<|.im<|.fn bI]) rfl rfl rfl (K7 ⋯ W.O6) rfl)) rfl rfl))<|d7<|b_ (a8<|dF (bR rfl rfl) rfl p) (a8<|dF (bR rfl rfl) rfl<|Ht b) rfl rfl ne)) rfl) ?_;refine bz (V_:=[Z (aE aa),Z<|c4 We,Z<|aE b,Z<|c4 U]) (gx (cW (Wn:=[.a4 0]) rfl rfl rfl j rfl) (ec rfl) rfl) ?_;refine bz (V_:=[Z (aE aa),Z<|c4 We,Z<|aE b,Z<|c4 U]) (gm (o1 (V_:=[Z (aE aa),Z<|c4 We,Z<|aE b,Z<|c4 U]) (mh<|ni (a8<|cW (Wn:=[.a4 1,.bW<|.aF<|aU a6 V.aB M λ_=>X]) (bR rfl<|bR (a8<|cW (Wn:=[.a4 3]) rfl rfl rfl WG rfl) rfl) rfl rfl k rfl) rfl rfl) (mh (ni (a8 (cW (Wn:=[.a4 2,.bW<|.aF<|bw aa]) (bR rfl (bR (a8 (cW (Wn:=[.a4 0]) rfl rfl rfl (AX ah ⋯) rfl)) rfl)) rfl rfl W5 rfl)) rfl rfl))) rfl) ?_;exact fh (Rt<|wd (d7<|cW (Wn:=[.a4 1,.a4 0]) rfl rfl rfl n rfl)<|d7<|cW (Wn:=[.a4 2,.a4 3]) rfl rfl rfl o rfl)
def pg(ah:aa.Nodup)(c:aa.length<=500)(d:kJ aa)(bI a:af):∃o:Nat,i0 bI a [aE aa]=Z (az o,[aE aa])/\cp.d0 (d_ aa) o:=by
 let⟨We,b,e,W⟩:=Vj ah ⋯;refine⟨We.length,?_,W.n_ ⋯⟩;have f:eS [c4 We]=Z (az (We.length:Int)):=by
  show Z (ak.im<|.int ((We.map ax).length:Int))=_;rw[ba]
 unfold i0 GR;refine eI (w:=[Z (aE aa),Z<|c4 We,Z<|aE b]) rfl ?_ rfl;refine bz (V_:=[Z (aE aa),Z<|c4 We,Z<|aE b]) (ir (cW (Wn:=[.a4 0]) rfl rfl rfl e rfl) rfl) ?_;refine bz (V_:=[Z (aE aa),Z<|c4 We,Z<|aE b]) (gm (d7<|b_ (a8<|cW (Wn:=[.a4 0,.a4 1,.a4 2]) rfl rfl rfl (Pl ah c d W bI a) rfl) rfl rfl rfl rfl) rfl) ?_;exact fh (dF (bR rfl rfl) rfl f)
end
def gE(e:gQ (u+1) c)(a:0<k)(d:k<1073741824):∃v T,dD [c,az k]=Z (az v,[T,az k])/\0<=v/\v<k/\gQ u T:=by
 let⟨q,n,@E,rfl,t,C,g,h,x⟩:=e;have y:¬ k=0:=⋯
 by_cases hd:0<q
 ·refine⟨q%k,gG (q/k) n E,?_,ot _ ⋯,qd _ a,q/k,n,E,rfl,FO t ⋯,C,g,h,⋯⟩;unfold dD yE;have l:oK (az q) (az 0)=Z (.im<|.aB X):=congrArg (λf=>Z<|ak.im<|.aB f) (du hd);refine ri [Z (gG (q/k) n E),Z<|az k,Z<|az<|q%k] rfl (mn ((x9<|d7<|b_ (a8<|b_ (q:=az q) rfl rfl rfl rfl rfl) rfl rfl rfl l).trans ((oe ((G9 (b_ (a8<|b_ (q:=az q) rfl rfl rfl rfl rfl) rfl rfl rfl<|m5 a) (show 2<3 by decide)).trans rfl)).trans<|(oe<|ir (WB:=[Z (gG (q/k) n E),Z<|az k,Z<|az<|q%k]) (b_ (a8<|b_ (q:=az q) rfl rfl rfl rfl rfl) rfl rfl rfl<|Bk a d) rfl).trans rfl))) rfl
 ·obtain⟨V5,b⟩:∃V5:Int,V5=(n*48271+12345+7919*(E+1))%2147483647:=⟨_,rfl⟩;have i:0<=V5:=by rw[b];exact ot _ ∅
  have z:V5<2147483647:=by
   rw[b];exact qd _ ∅
  have j:hs n 48271=X:=pG ∅ ∅;have m:hs 7919 (E+1)=X:=zb ∅ ∅;have o:hs V5 V5=X:=pG ⋯ ⋯;refine⟨V5*V5%1999999973/31%k,gG q V5<|E+1,?_,ot _ ⋯,qd _ a,q,V5,E+1,rfl,t,i,⋯,⋯,⋯⟩;unfold dD yE;have l:oK (az q) (az 0)=Z (.im<|.aB au):=congrArg (λf=>Z<|ak.im<|.aB f) (dQ hd);have p:aA eR (ab<|aA bA (aj 0)<|ab<|ay<|.int 1) (ab<|ay<|.int 48271) [Z (gG q n<|E+1),Z<|az k,Y]=Z (az<|n*48271,[Z (gG q n<|E+1),Z<|az k,Y]):=b_ (a8<|b_ (q:=az n) rfl rfl rfl rfl rfl) rfl rfl rfl (ku j);have r:aA eR (ab<|ay<|.int 7919) (ab<|aA bA (aj 0)<|ab<|ay<|.int 2) [Z (gG q n<|E+1),Z<|az k,Y]=Z (az<|7919*(E+1),[Z (gG q n<|E+1),Z<|az k,Y]):=b_ rfl (a8<|b_ (q:=az (E+1)) rfl rfl rfl rfl rfl) rfl rfl (ku m);have s:aA f3 (ab<|aA cD (ab<|aA cD (ab<|aA eR (ab<|aA bA (aj 0)<|ab<|ay<|.int 1)<|ab<|ay<|.int 48271)<|ab<|ay<|.int 12345)<|ab<|aA eR (ab<|ay<|.int 7919)<|ab<|aA bA (aj 0)<|ab<|ay<|.int 2) (ab<|ay<|.int 2147483647) [Z (gG q n<|E+1),Z<|az k,Y]=Z (az V5,[Z (gG q n<|E+1),Z<|az k,Y]):=by
   rw[b];exact b_ (a8<|b_ (a8<|b_ (a8 p) rfl rfl rfl rfl) (a8 r) rfl rfl rfl) rfl rfl rfl (m5 ∅)
  have w:aA eR (ab<|aA bA (aj 0)<|ab<|ay<|.int 1) (ab<|aA bA (aj 0)<|ab<|ay<|.int 1) [Z (gG q V5<|E+1),Z<|az k,Y]=Z (az<|V5*V5,[Z (gG q V5<|E+1),Z<|az k,Y]):=b_ (a8<|b_ (q:=az V5) rfl rfl rfl rfl rfl) (a8<|b_ (q:=az V5) rfl rfl rfl rfl rfl) rfl rfl (ku o);exact ri [Z (gG q V5<|E+1),Z<|az k,Y] rfl ((oe<|(z9<|d7<|b_ (a8<|b_ (q:=az q) rfl rfl rfl rfl rfl) rfl rfl rfl l).trans rfl).trans ((oe<|ir (WB:=[Z (gG q n<|E+1),Z<|az k,Y]) (b_ (q:=az (E+1)) (a8<|b_ (q:=az E) rfl rfl rfl rfl rfl) rfl rfl rfl rfl) rfl).trans ((oe<|ir (WB:=[Z (gG q V5<|E+1),Z<|az k,Y]) s rfl).trans (fh (b_ (a8 (b_ (a8 (b_ (a8 w) rfl rfl rfl (m5 ∅))) rfl rfl rfl (Bk ∅ ∅))) rfl rfl rfl<|m5 a))))) rfl
def UC(b:0<=o):∃h,r9 [.dY (Wi.map .int),az o]=Z (az h,[.dY (Wi.map .int),az o]):=by
 by_cases a:o<(Wi.length:Int)
 ·obtain⟨h,c⟩:∃h,Wi[o.toNat]?=Z h:=⟨Wi[o.toNat]'(by omega),by simp⟩;have d:fy (Wi.map V.int) o=Z (.int h):=JJ b (by rw[eB,c];rfl);have lt:hH (az o) (az ((Wi.map V.int).length:Int))=Z (.im<|.aB X):=congrArg (λf=>Z<|ak.im<|.aB f) (du (by rw[ba];exact a));have e:bA (.dY<|Wi.map .int) (az o)=Z (az h):=congrArg (Option.map ak.im) d;unfold r9 w5;exact⟨h,ri [Z (.dY<|Wi.map .int),Z<|az o] rfl (mn<|(x9<|d7<|b_ rfl (a8<|dF rfl rfl rfl) rfl rfl lt).trans<|fh<|eb e) rfl⟩
 ·have lt:hH (az o) (az ((Wi.map V.int).length:Int))=Z (.im<|.aB au):=congrArg (λf=>Z<|ak.im<|.aB f) (dQ (by rw[ba];exact a));unfold r9 w5;exact⟨0,ri [Z (.dY<|Wi.map .int),Z<|az o] rfl ((oe<|(z9<|d7<|b_ rfl (a8<|dF rfl rfl rfl) rfl rfl lt).trans rfl).trans rfl) rfl⟩
def N8(d:0<=o)(s:o<1000):∃c,qX [.dY (Wi.map .int),az o]=Z (c,[.dY (Wi.map .int),az o])/\gQ 1000000 c:=by
 let⟨@h,g⟩:=UC (Wi:=Wi) d;have j:hs 7919 o=X:=zb ∅ ∅;have k:hs (7919*o) o=X:=pG ⋯ ⋯;have l:hs (h%2147483629+7919*o*o+11) 48271=X:=pG ∅ ∅;obtain⟨n,av⟩:∃n:Int,n=(h%2147483629+7919*o*o+11)*48271%2147483647:=⟨_,rfl⟩;have i:0<=n:=by rw[av];exact ot _ ∅
 have u:n<2147483647:=by rw[av];exact qd _ ∅
 have m:hs (10^60) (10^60)=X:=by decide +kernel
 have W2:hs (10^60*10^60) (10^60)=X:=by decide +kernel
 have p:∀(e:Int) (f:Bool),hs e (if f then 1 else 0)=X:=λe f=>pG (by cases f<;>decide) (by cases f<;>decide);have q:(0:Int)<10^60*10^60*10^60:=by decide
 have a:m9 (az 10) (az 60)=Z (az<|10^(60:Int).toNat):=Dl ∅;have b:m9 (az 10) (az 18)=Z (az<|10^(18:Int).toNat):=Dl ∅;rw[show (60:Int).toNat=60 from rfl]at a;rw[show (18:Int).toNat=18 from rfl]at b;have R:gQ 1000000 (gG (h%(10^60*10^60*10^60)*(if decide ((10:Int)^18<=h) then 1 else 0)) n 0):=by
  have t:=ot h (show (10^60*10^60*10^60:Int)≠0 by decide);refine⟨_,_,_,rfl,?_,i,⋯,iY 0,by decide⟩;split
  ·rw[GX];exact t
  ·rw[Int.mul_zero];exact iY 0
 refine⟨_,?_,R⟩;generalize (10:Int)^60=Wd at *;generalize (10:Int)^18=V3 at *;unfold qX C9;have r:cj 4 (aA f3 (ab<|aA eR (ab<|aA cD (ab<|aA cD (ab<|aA f3 (aj 2)<|ab<|ay<|.int 2147483629)<|ab<|aA eR (ab<|aA eR (ab<|ay<|.int 7919)<|aj 1)<|aj 1)<|ab<|ay<|.int 11)<|ab<|ay<|.int 48271)<|ab<|ay<|.int 2147483647) [Z (.dY<|Wi.map .int),Z<|az o,Z<|az h,Z<|az<|Wd*Wd*Wd,Y]=Z (.bB,[Z (.dY<|Wi.map .int),Z<|az o,Z<|az h,Z<|az<|Wd*Wd*Wd,Z<|az n]):=by
  rw[av];exact gx (b_ (a8 (b_ (a8 (b_ (a8 (b_ (a8 (eb (m5 ∅))) (a8<|b_ (a8<|eb<|ku j) rfl rfl rfl<|ku k) rfl rfl rfl)) rfl rfl rfl rfl)) rfl rfl rfl<|ku l)) rfl rfl rfl (m5 ∅)) (show 4<5 by decide) rfl
 exact eI rfl (bz (lP (gS rfl rfl rfl g) (show 2<5 by decide) rfl) (bz (lP (fb (cT<|fb (cT<|fb rfl rfl rfl rfl a) (cT<|fb rfl rfl rfl rfl a) rfl rfl<|ku m) (cT<|fb rfl rfl rfl rfl a) rfl rfl<|ku W2) (show 3<5 by decide) rfl)<|bz r<|fh<|sQ (eC (cT<|fb (cT<|fb rfl rfl rfl rfl<|m5 q) (cT<|uV (eC (cT<|fb rfl (cT<|fb rfl rfl rfl rfl b) rfl rfl rfl) rfl) rfl rfl) rfl rfl<|ku<|p _ _) rfl) rfl (f7 rfl) rfl)) rfl
def LL{Wy:List (Int×Int)}{p:Int×Int}(c:Wy.length<100000):iS (cI Wy) [.im (aH p)]=Z (.im .aV,cI<|Wy++[p]):=by
 have:iS (cI Wy) [.im (aH p)]=Z (.im .aV,.lst<|Wy.map aH++[aH p]):=xr (by rw[ba];exact c);rw[this];simp
def Jn(Wy:List (Int×Int)):eS [cI Wy]=Z (az (Wy.length:Int)):=by
 show Z (az ((Wy.map aH).length:Int))=_;rw[ba]
def wQ{Xe W_ Xp:aw bK}{e l x:bK}{g f h:Int}(b:Xe w=Z (e,w))(c:W_ w=Z (l,w))(d:dO w e=Z (az g))(a:dO w l=Z (az f))(i:Xp w=Z (x,w))(j:dO w x=Z (az h):=by rfl):bO (hr ek ek Xe W_ Xp) w=Z (decide (g<=f)&&decide (f<=h),w):=by
 unfold bO hr;rw[b];show ((W_ w).bind _).bind _=_;rw[c];show ((dO w e).bind _).bind _=_;rw[d];show ((dO w l).bind _).bind _=_;rw[a];show ((if decide (g<=f)=X then _ else _):Option (ak×bb)).bind _=_;cases decide (g<=f) with
 |false=>rfl
 |true=>
  rw[aM rfl];show ((Xp w).bind _).bind _=_;rw[i];show ((dO w l).bind _).bind _=_;rw[a];show ((dO w x).bind _).bind _=_;rw[j];rfl
structure vJ(k:Int)(Wy:List aS):Prop where
 ne:Wy≠[]
 ah:Wy.Nodup
 len:(Wy.length:Int)<=k
 pF:kJ Wy
def Jk:List aS:=([(0,1),(1,0),(0,-1),(-1,0)])
abbrev ib(c:ak)(k:Int)(Wy:List aS)(o W6 WQ WX Xf Xb:Option ak):bb:=[Z c,Z<|az k,Z<|cI Wy,o,W6,WQ,WX,Xf,Xb]
def RV{o:Option ak}(j:gQ (u+3) c)(F:vJ k Wy)(ch:k<=60):
  ∃T D S U al am an,vF (ib c k Wy o W6 WQ WX Xf Xb)=Z (.bB,ib T k D o S U al am an)/\gQ u T/\vJ k D:=by
 have ci:=rH.mpr F.ne;have cl:=F.len;let⟨E,t,ap,as,W5,Wc⟩:=gE (u:=u+2) (k:=(Wy.length:Int)) j ⋯ ⋯;obtain⟨g,a1⟩:∃h,Wy[E.toNat]?=Z h:=⟨Wy[E.toNat]'⋯,by simp⟩;let⟨A,C,I,dd,dn,Ws⟩:=gE (u:=u+1) (k:=2) Wc ⋯ ⋯;let⟨n,co,a2,WY,WW,B⟩:=gE (u:=u) (k:=4) Ws ⋯ ⋯;obtain⟨q,hd⟩:∃q,Jk[n.toNat]?=Z q:=⟨Jk[n.toNat]'(by show n.toNat<4;lia),by simp⟩;have bd:=FZ as a1;have be:=FZ WY hd;let⟨J,H,rfl⟩:=P5 F.ne;have bi:fy ((J++[H]).map aH) (-1)=Z (aH H):=UH ↥0;let⟨bm,rfl⟩:=j.lst;let⟨L,rfl⟩:=Wc.lst;let⟨M,rfl⟩:=Ws.lst;let⟨i,rfl⟩:=B.lst;generalize cr:J++[H]=Wy at *;have N:e6 (aA bA (aj 2)<|ab<|bc 2 G.dD<|ai (aj 0)<|ai (ab<|b7 eS<|ai (aj 2) aD) aD) (gj 2<|dT (bj 4)<|dT (bj 5) gF) (ib (.lst bm) k Wy o W6 WQ WX Xf Xb)=Z (.bB,ib (.lst L) k Wy o (Z<|az g.1) (Z<|az g.2) WX Xf Xb):=by
  exact ir (fb rfl (cT<|gS (eC rfl<|eC (cT<|uV rfl rfl<|Jn Wy) rfl) rfl rfl ap) rfl rfl<|congrArg (Option.map ak.im) bd) rfl
 obtain⟨h,O⟩:∃h:aS,dK (bO<|aA hL (ab<|bc 2 G.dD<|ai (aj 0)<|ai (ab<|ay<|.int 2) aD)<|ab<|ay<|.int 0) (e6 (aA bA (aj 2)<|ab<|jb<|ay<|.int 1)<|gj 2<|dT (bj 4)<|dT (bj 5) gF) ei (ib (.lst L) k Wy o (Z<|az g.1) (Z<|az g.2) WX Xf Xb)=Z (.bB,ib (.lst M) k Wy o (Z<|az h.1) (Z<|az h.2) WX Xf Xb):=by
  by_cases m:A=0
  ·have r:=uF A 0;rw[du m]at r;exact⟨H,jZ (qK<|fb (cT<|gS rfl rfl rfl I) rfl rfl rfl r)<|ir (fb rfl (cT<|ND rfl) rfl rfl<|congrArg (Option.map ak.im) bi) rfl⟩
  ·have r:=uF A 0;rw[dQ m]at r;exact⟨g,gm (qK<|fb (cT<|gS rfl rfl rfl I) rfl rfl rfl r) rfl⟩
 have P:e6 (aA bA (ab<|gr<|ai (ab<|cV<|ai (ab<|ay<|.int 0)<|ai (ab<|ay<|.int 1) aD)<|ai (ab<|cV<|ai (ab<|ay<|.int 1)<|ai (ab<|ay<|.int 0) aD)<|ai (ab<|cV<|ai (ab<|ay<|.int 0)<|ai (ab<|jb<|ay<|.int 1) aD)<|ai (ab<|cV<|ai (ab<|jb<|ay<|.int 1)<|ai (ab<|ay<|.int 0) aD) aD)<|ab<|bc 2 G.dD<|ai (aj 0)<|ai (ab<|ay<|.int 4) aD) (gj 2<|dT (bj 6)<|dT (bj 7) gF) (ib (.lst M) k Wy o (Z<|az h.1) (Z<|az h.2) WX Xf Xb)=Z (.bB,ib (.lst i) k Wy o (Z<|az h.1) (Z<|az h.2) (Z<|az q.1) (Z<|az q.2) Xb):=by
  have bn:fy [V.tup [.int 0,.int 1],.tup [.int 1,.int 0],.tup [.int 0,.int<|-1],.tup [.int (-1),.int 0]] n=Z (.tup [.int q.1,.int q.2]):=be;exact ir (fb rfl (cT<|gS rfl rfl rfl a2) rfl rfl<|congrArg (Option.map ak.im) bn) rfl
 obtain⟨p,bs⟩:∃p:aS,p=(h.1+q.1,h.2+q.2):=⟨_,rfl⟩;obtain⟨w,a⟩:∃w:bb,w=ib (.lst i) k Wy o (Z<|az h.1) (Z<|az h.2) (Z<|az q.1) (Z<|az q.2) (Z<|.im<|aH p):=⟨_,rfl⟩;have Q:cj 8 (cV<|ai (ab<|aA cD (aj 4)<|aj 6)<|ai (ab<|aA cD (aj 5)<|aj 7) aD) (ib (.lst i) k Wy o (Z<|az h.1) (Z<|az h.2) (Z<|az q.1) (Z<|az q.2) Xb)=Z (.bB,w):=by
  rw[a,bs];rfl
 have s:bO (aA gp (aj 8)<|aj 2) w=Z (!decide (p∈Wy),w):=by
  rw[a];exact d7 (eb<|Vn Wy p)
 have Xk:bO (hr ek ek (ab<|ay<|.int 0) (ab<|aA bA (aj 8)<|ab<|ay<|.int 0)<|ab<|ay<|.int 30) w=Z (decide (0<=p.1)&&decide (p.1<=30),w):=by
  rw[a];exact wQ rfl rfl rfl rfl rfl
 have bv:bO (hr ek ek (ab<|ay<|.int 0) (ab<|aA bA (aj 8)<|ab<|ay<|.int 1)<|ab<|ay<|.int 30) w=Z (decide (0<=p.2)&&decide (p.2<=30),w):=by
  rw[a];exact wQ rfl rfl rfl rfl rfl
 have v:bO (aA hH (ab<|b7 eS<|ai (aj 2) aD)<|aj 1) w=Z (decide ((Wy.length:Int)<k),w):=by
  rw[a];exact d7 (b_ (a8<|dF rfl rfl<|Jn Wy) rfl rfl rfl rfl)
 have R:∀f:Bool,f=(!decide (p∈Wy)&&(decide ((Wy.length:Int)<k)&&((decide (0<=p.1)&&decide (p.1<=30))&&(decide (0<=p.2)&&decide (p.2<=30)))))->
   fH (bO<|aA gp (aj 8)<|aj 2) (fH (bO<|aA hH (ab<|b7 eS<|ai (aj 2) aD)<|aj 1)<|fH (bO<|hr ek ek (ab<|ay<|.int 0) (ab<|aA bA (aj 8)<|ab<|ay<|.int 0)<|ab<|ay<|.int 30)<|bO<|hr ek ek (ab<|ay<|.int 0) (ab<|aA bA (aj 8)<|ab<|ay<|.int 1)<|ab<|ay<|.int 30) w=Z (f,w):=by
  intro f ca;rw[ca];cases b:decide (p∈Wy) with
  |true=>rw[b]at s;exact AD s
  |false=>
   rw[b]at s;refine wd s ?_;cases y:decide ((Wy.length:Int)<k) with
   |false=>rw[y]at v;exact AD v
   |true=>
    rw[y]at v;refine wd v ?_;cases m:(decide (0<=p.1)&&decide (p.1<=30)) with
    |false=>rw[m]at Xk;exact AD Xk
    |true=>rw[m]at Xk;exact wd Xk bv
 unfold vF;by_cases z:p∉Wy/\(Wy.length:Int)<k/\0<=p.1/\p.1<=30/\0<=p.2/\p.2<=30
 ·have bT:=R X (by simp[z]);refine⟨.lst i,Wy++[p],Z<|az h.1,Z<|az h.2,Z<|az q.1,Z<|az q.2,Z<|.im<|aH p,bz N<|bz O<|bz P<|bz Q<|jZ bT ?_,B,⟨by simp,dJ.mpr ⟨F.ah,fC _ _,λe b l y d=>z.1 (by rw[cP.mp y]at d;rw[<-d];exact b)⟩,by rw[di,gI];lia,λe b=>?_⟩⟩
  ·have cd:Wy.length<100000:=⋯
   rw[a];exact tk (rP rfl rfl rfl rfl rfl (LL cd) rfl)
  ·rcases c5.mp b with x|x
   ·exact F.pF e x
   ·rw[cP.mp x];exact z.2.2
 ·have ce:=R au (by
   cases x:(!decide (p∈Wy)&&(decide ((Wy.length:Int)<k)&&((decide (0<=p.1)&&decide (p.1<=30))&&(decide (0<=p.2)&&decide (p.2<=30))))) with
   |false=>rfl
   |true=>
    simp at x;exact absurd ⟨x.1,⋯,x.2.2.1.1,x.2.2.1.2,x.2.2.2.1,x.2.2.2.2⟩ z)
  exact⟨.lst i,Wy,Z<|az h.1,Z<|az h.2,Z<|az q.1,Z<|az q.2,Z<|.im<|aH p,bz N (bz O (bz P (bz Q (gm ce (by rw[a];rfl))))),B,F⟩
structure hp(aa:List aS):Prop where
 ah:aa.Nodup
 bn:kJ aa
 len:aa.length<=64
def Sa(j:gQ (u+400) c)(q:1<=k)(s:k<=60):∃T aa,wY [c,az k]=Z (aE aa,[T,az k])/\gQ u T/\hp aa:=by
 let⟨b,C,t,v,S,Ws⟩:=gE (u:=u+399) (k:=31) j ⋯ ⋯;let⟨g,m,x,WY,WW,n⟩:=gE (u:=u+398) (k:=31) Ws ⋯ ⋯;have y:vJ k [(b,g)]:=⟨by simp,fC _ _,by rw[gI];exact q,λf A=>by rw[cP.mp A];exact⟨v,by show b<=30;lia,WY,by show g<=30;lia⟩⟩;let⟨R,B,⟨D,Wy,i,W6,WQ,WX,Xf,Xb,rfl,l,F⟩⟩:=JH (WC:=bj 3) (f:=vF) (z:=iT 0 (2*k).toNat) (λa w=>∃c Wy i W6 WQ WX Xf Xb,w=ib c k Wy i W6 WQ WX Xf Xb/\gQ (u+398-3*a) c/\vJ k Wy) (w:=ib m k [(b,g)] Y Y Y Y Y Y) ⟨m,[(b,g)],Y,Y,Y,Y,Y,Y,rfl,n,y⟩
  (λa e w E eE=>by
   let⟨c,Wy,i,W6,WQ,WX,Xf,Xb,rfl,H,F⟩:=eE;have V0:a<(2*k).toNat:=by
    have:=(fs.mp E).1
    rwa [iT,ba,hA]at this
   let⟨T,I,U,al,am,an,ap,d,V1,Xo⟩:=RV (u:=u+398-3*(a+1)) (o:=Z (.im e)) (W6:=W6) (WQ:=WQ) (WX:=WX) (Xf:=Xf) (Xb:=Xb) (H.mono ⋯) F s;exact⟨ib c k Wy (Z<|.im e) W6 WQ WX Xf Xb,.bB,_,rfl,d,.inl rfl,T,I,_,_,_,_,_,_,rfl,V1,Xo⟩)
 have J:(iT 0 (2*k).toNat).length=(2*k).toNat:=by rw[iT,ba,hA]
 rw[J]at l;have as:=F.len;let⟨p,Q,WT,W⟩:=vs F.ah ⋯;have Q:hl [cI Wy]=Z (cI p):=(p8 cQ Wy).trans Q;refine⟨D,p,?_,l.mono ⋯,WT.nodup_iff.mpr F.ah,λh L=>F.pF h<|WT.mem_iff.mp L,by rw[WT.length_eq];lia⟩;let⟨r,rfl⟩:=j.lst;let⟨a1,rfl⟩:=Ws.lst;let⟨M,rfl⟩:=n.lst;let⟨N,rfl⟩:=l.lst;have O:qN (2*k):=⟨⋯,⋯⟩;have mk:hs 2 k=X:=zb ∅ ∅;have P:cj 2 (gr<|ai (ab<|cV<|ai (ab<|bc 2 G.dD<|ai (aj 0)<|ai (ab<|ay<|.int 31) aD)<|ai (ab<|bc 2 G.dD<|ai (aj 0)<|ai (ab<|ay<|.int 31) aD) aD) aD) [Z (.lst r),Z<|az k,Y,Y,Y,Y,Y,Y,Y]=Z (.bB,ib (.lst M) k [(b,g)] Y Y Y Y Y Y):=
  lP (sQ (eC (cT<|qg (eC (cT<|gS rfl rfl rfl t)<|eC (cT<|gS rfl rfl rfl x) rfl) rfl (f7 rfl) rfl) rfl) rfl (f7 rfl) rfl) (ec rfl) rfl;unfold wY HH;exact eI (w:=ib (.lst N) k Wy i W6 WQ WX Xf Xb) rfl (bz P<|bz (jO (wW (bR (a8<|eb<|ku mk) rfl) rfl O) B rfl)<|fh<|dF (bR (a8<|dF (bR rfl rfl) rfl Q) rfl) rfl rfl) rfl
def lr(m h D:Int)(u:Nat):List aS:=((range u).map λ(o:Nat)=>(m+(0+(o:Int))/D,h+(0+(o:Int))%D))
def SD{m h D F:Int}(k:1<=F)(l:1<=D)(n:F*D<=64)(p:0<=m)(q:m<32-F)(r:0<=h)(s:h<32-D):hp (lr m h D (F*D).toNat):=by
 refine⟨kN (λa W i W d=>?_) mJ,λe c=>?_,by unfold lr;rw[ba,hA];lia⟩
 ·have t:m+(0+(a:Int))/D=m+(0+(i:Int))/D:=congrArg Prod.fst d;have u:h+(0+(a:Int))%D=h+(0+(i:Int))%D:=congrArg Prod.snd d;have f:=C_ (0+(a:Int)) D;have W5:=C_ (0+(i:Int)) D;have g:(0+(a:Int))/D=(0+(i:Int))/D:=⋯
  rw[g]at f;lia
 ·let⟨o,b,rfl⟩:=cG.mp c;have b:=eV.mp b;have j:0+(o:Int)<F*D:=⋯
  have dd:=Int.ediv_lt_of_lt_mul (show 0<D by lia) j;have dn:=FO (show (0:Int)<=0+(o:Int) by lia) (show 0<=D by lia);have lE:=ot (0+(o:Int)) (show D≠0 by lia);have k1:=qd (0+(o:Int)) (show 0<D by lia);exact⟨by show 0<=m+(0+(o:Int))/D;lia,by show m+(0+(o:Int))/D<=30;lia,by show 0<=h+(0+(o:Int))%D;lia,by show h+(0+(o:Int))%D<=30;lia⟩
def Kj{h:aw Bool}{q:V}{m:List V}{A:bb}(a:WC (.im e) (List.replicate own Y++aO)=Z V_)(b:h V_=Z (X,WB))(c:d WB=Z (.im q,A))(f:WA.length<100000)(o:fA own WC h d m (WA++[q]) (A.drop own)=V3):fA own WC h d (e::m) WA aO=V3:=by
 rw[fA,a];show (h V_).bind _=_;rw[b];show (d WB).bind _=_;rw[c];show (if WA.length<100000 then _ else _)=_;rw[aM f];exact o
def T1{h:aw Bool}{m:List V}(a:WC (.im e) (List.replicate own Y++aO)=Z V_)(b:h V_=Z (au,WB))(o:fA own WC h d m WA (WB.drop own)=V3):fA own WC h d (e::m) WA aO=V3:=by
 rw[fA,a];show (h V_).bind _=_;rw[b];exact o
theorem Bl{u:Nat}{k:Int}(d:1<=k)(e:k<=8):∀(Wa:List aS) (WA:List V) {c:ak},gQ (u+Wa.length) c->WA.length+Wa.length<=1000->
  ∃(T:ak) (J:List aS),fA 1 (bj 0) G.xW G.Ij (Wa.map aH) WA [Z c,Z<|az k]=Z (WA++J.map aH,[Z T,Z<|az k])/\gQ u T/\J.Sublist Wa
 |[],WA,c,j,_=>⟨c,[],by rw[zq,cF];rfl,j,.slnil⟩
 |h::Wa,WA,c,j,g=>by
  rw[dj]at j g;let⟨v,t,i,m,W5,Wc⟩:=gE (u:=u+Wa.length) (k:=k) j ⋯ ⋯;let⟨r,rfl⟩:=j.lst;let⟨l,rfl⟩:=Wc.lst;have WG:G.xW [Z (.im<|aH h),Z<|.lst r,Z<|az k]=Z (decide (v>0),[Z (.im<|aH h),Z<|.lst l,Z<|az k]):=qK (fb (cT<|gS rfl rfl rfl i) rfl rfl rfl rfl);rw[b2];cases f:decide (v>0) with
  |false=>
   rw[f]at WG;let⟨T,J,a,Ws,b⟩:=Bl d e Wa WA Wc ⋯;exact⟨T,J,T1 rfl WG a,Ws,b.cons h⟩
  |true=>
   rw[f]at WG;let⟨T,J,a,Ws,b⟩:=Bl d e Wa (WA++[aH h]) Wc (by rw[di,gI];lia);refine⟨T,h::J,Kj rfl WG rfl ⋯<|a.trans ?_,Ws,b.cons_cons h⟩;rw[bC,b2];rfl
abbrev fj(c:ak)(a WJ b W6 WQ WX Xf:Option ak):bb:=[Z c,a,WJ,b,W6,WQ,WX,Xf]
def H6(j:gQ (u+600) c):∃T aa,m_ [c]=Z (aE aa,[T])/\gQ u T/\hp aa:=by
 let⟨a,t,cd,g3,dd,Wc⟩:=gE (u:=u+599) (k:=8) j ⋯ ⋯;let⟨v,C,ce,W5,dn,Ws⟩:=gE (u:=u+598) (k:=8) Wc ⋯ ⋯;let⟨l,hd,ch,he,lE,am⟩:=gE (u:=u+597) (k:=8) Ws ⋯ ⋯;let⟨an,hf,ap,hm,k1,L⟩:=gE (u:=u+596) (k:=8) am ⋯ ⋯;let⟨r,rfl⟩:=j.lst;let⟨as,rfl⟩:=Wc.lst;let⟨hw,rfl⟩:=Ws.lst;let⟨a1,rfl⟩:=am.lst;let⟨ci,rfl⟩:=L.lst;have M:cj 1 (bc 2 G.dD<|ai (aj 0)<|ai (ab<|ay<|.int 8) aD) (fj (.lst r) Y Y Y Y Y Y Y)=Z (.bB,fj (.lst as) (Z<|az a) Y Y Y Y Y Y):=lP (gS rfl rfl rfl cd) (ec rfl) rfl;have N:kM 2 3 (ai (ab<|aA cD (ab<|ay<|.int 1)<|ab<|bc 2 G.dD<|ai (aj 0)<|ai (ab<|ay<|.int 8) aD)<|ai (ab<|aA cD (ab<|ay<|.int 1)<|ab<|bc 2 G.dD<|ai (aj 0)<|ai (ab<|ay<|.int 8) aD) aD) (fj (.lst as) (Z<|az a) Y Y Y Y Y Y)=Z (.bB,fj (.lst a1) (Z<|az a) (Z<|az<|1+v) (Z<|az<|1+l) Y Y Y Y):=tH (eC (cT<|fb rfl (cT<|gS rfl rfl rfl ce) rfl rfl rfl)<|eC (cT<|fb rfl (cT<|gS rfl rfl rfl ch) rfl rfl rfl) rfl) rfl (ec rfl) (ec rfl) rfl;obtain⟨F,D,g,O,x,cl,co,cr,h0,ii⟩:∃F D g,dK (bO<|aA hL (ab<|bc 2 G.dD<|ai (aj 0)<|ai (ab<|ay<|.int 8) aD)<|ab<|ay<|.int 0) (e6 (aA bA (ab<|gr<|ai (ab<|cV<|ai (ab<|ay<|.int 1)<|ai (ab<|ay<|.int 31) aD)<|ai (ab<|cV<|ai (ab<|ay<|.int 31)<|ai (ab<|ay<|.int 1) aD)<|ai (ab<|cV<|ai (ab<|ay<|.int 2)<|ai (ab<|ay<|.int 31) aD)<|ai (ab<|cV<|ai (ab<|ay<|.int 31)<|ai (ab<|ay<|.int 2) aD) aD)<|ab<|bc 2 G.dD<|ai (aj 0)<|ai (ab<|ay<|.int 4) aD)<|gj 2<|dT (bj 2)<|dT (bj 3) gF) ei (fj (.lst a1) (Z<|az a) (Z<|az<|1+v) (Z<|az<|1+l) Y Y Y Y)=Z (.bB,fj (.lst g) (Z<|az a) (Z<|az F) (Z<|az D) Y Y Y Y)/\gQ (u+595) (.lst g)/\1<=F/\1<=D/\F*D<=64/\F<=31/\D<=31:=by
  have y:=uF an 0;by_cases a2:an=0
  ·rw[du a2]at y;let⟨n,io,cs,it,jp,x⟩:=gE (u:=u+595) (k:=4) L ⋯ ⋯;let⟨g,rfl⟩:=x.lst;obtain⟨F,D,db,ds,dL,eq,ev,ex⟩:∃F D:Int,fy [V.tup [.int 1,.int 31],.tup [.int 31,.int 1],.tup [.int 2,.int 31],.tup [.int 31,.int 2]] n=Z (.tup [.int F,.int D])/\1<=F/\1<=D/\F*D<=64/\F<=31/\D<=31:=by
    have:n=0\/n=1\/n=2\/n=3:=⋯
    rcases this with rfl|rfl|rfl|rfl
    ·exact⟨1,31,rfl,by decide⟩
    ·exact⟨31,1,rfl,by decide⟩
    ·exact⟨2,31,rfl,by decide⟩
    ·exact⟨31,2,rfl,by decide⟩
   exact⟨F,D,g,jZ (qK<|fb (cT<|gS rfl rfl rfl ap) rfl rfl rfl y)<|ir (fb (cT<|sQ rfl rfl (f7 rfl) rfl) (cT<|gS rfl rfl rfl cs) rfl rfl<|congrArg (Option.map ak.im) db) rfl,x,ds,dL,eq,ev,ex⟩
  ·rw[dQ a2]at y;have:=Int.mul_le_mul (show 1+v<=8 by lia) (show 1+l<=8 by lia) (show 0<=1+l by lia) (show (0:Int)<=8 by decide);exact⟨1+v,1+l,ci,gm (qK<|fb (cT<|gS rfl rfl rfl ap) rfl rfl rfl y) rfl,L.mono ⋯,⋯,⋯,⋯,⋯,⋯⟩
 let⟨m,kt,fd,fn,fr,bd⟩:=gE (u:=u+594) (k:=32-F) x ⋯ ⋯;let⟨h,kw,f0,f1,f2,A⟩:=gE (u:=u+593) (k:=32-D) bd ⋯ ⋯;let⟨lc,rfl⟩:=bd.lst;let⟨b,rfl⟩:=A.lst;have Q:kM 4 5 (ai (ab<|bc 2 G.dD<|ai (aj 0)<|ai (ab<|aA gV (ab<|ay<|.int 32)<|aj 2) aD)<|ai (ab<|bc 2 G.dD<|ai (aj 0)<|ai (ab<|aA gV (ab<|ay<|.int 32)<|aj 3) aD) aD) (fj (.lst g) (Z<|az a) (Z<|az F) (Z<|az D) Y Y Y Y)=Z (.bB,fj (.lst b) (Z<|az a) (Z<|az F) (Z<|az D) (Z<|az m) (Z<|az h) Y Y):=tH (eC (cT<|gS rfl rfl rfl fd)<|eC (cT<|gS rfl rfl rfl f0) rfl) rfl (ec rfl) (ec rfl) rfl;have P:=SD (m:=m) (h:=h) cl co cr fn fr f1 f2;have Xv:0<=F*D:=Int.mul_nonneg ⋯ ⋯;have B:cj 6 (ck 1 [4,3,5] (iB<|ai (ab<|aA eR (aj 2)<|aj 3) aD) (bj 0) c3 G.xu) (fj (.lst b) (Z<|az a) (Z<|az F) (Z<|az D) (Z<|az m) (Z<|az h) Y Y)=Z (.bB,fj (.lst b) (Z<|az a) (Z<|az F) (Z<|az D) (Z<|az m) (Z<|az h) (Z<|cI<|lr m h D (F*D).toNat) Y):=by
  have cY:ck 1 [4,3,5] (iB<|ai (ab<|aA eR (aj 2)<|aj 3) aD) (bj 0) c3 G.xu (fj (.lst b) (Z<|az a) (Z<|az F) (Z<|az D) (Z<|az m) (Z<|az h) Y Y)=Z (.lst<|(range (F*D).toNat).map λ(o:Nat)=>aH (m+(0+(o:Int))/D,h+(0+(o:Int))%D),fj (.lst b) (Z<|az a) (Z<|az F) (Z<|az D) (Z<|az m) (Z<|az h) Y Y):=by
   refine e3 (z:=(range (F*D).toNat).map λ(o:Nat)=>V.int<|0+(o:Int)) (p:=Y) (V_:=fj (.lst b) (Z<|az a) (Z<|az F) (Z<|az D) (Z<|az m) (Z<|az h) Y Y) (wW (i:=F*D) (bR (a8 (eb (ku (pG ⋯ ⋯)))) rfl) rfl ⟨⋯,⋯⟩) (gL (λ(o:Nat)=>V.int<|0+(o:Int)) (λ(o:Nat)=>aH (m+(0+(o:Int))/D,h+(0+(o:Int))%D)) _ (λo lf=>?_) (by rw[hA];lia)) rfl;exact⟨[Z (az<|0+(o:Int)),Z<|az m,Z<|az D,Z<|az h],_,[Z (az<|0+(o:Int)),Z<|az m,Z<|az D,Z<|az h],rfl,rfl,pE (bR (a8 (b_ rfl (a8 (eb (Bk ⋯ ⋯))) rfl rfl rfl)) (bR (a8 (b_ rfl (a8 (eb (m5 ⋯))) rfl rfl rfl)) rfl)) rfl (f7 rfl) rfl,rfl⟩
  refine gx (cY.trans ?_) (ec rfl) rfl;show Z (ak.lst _,_)=Z (ak.lst<|(lr m h D (F*D).toNat).map aH,_);unfold lr;rw[eU];rfl
 unfold m_ Gf;generalize lr m h D (F*D).toNat=Wa at P B;by_cases be:a<2
 ·have E:hH (az a) (az 2)=Z (.im<|.aB X):=congrArg (λf=>Z<|ak.im<|.aB f) (du be);exact⟨.lst b,Wa,eI (w:=fj (.lst b) (Z<|az a) (Z<|az F) (Z<|az D) (Z<|az m) (Z<|az h) (Z<|cI Wa) Y) rfl (bz M<|bz N<|bz O<|bz Q<|bz B<|mn<|jZ (d7<|eb E)<|fh<|dF (bR rfl rfl) rfl rfl) rfl,A.mono ⋯,P⟩
 ·have E:hH (az a) (az 2)=Z (.im<|.aB au):=congrArg (λf=>Z<|ak.im<|.aB f) (dQ be);by_cases bi:a<6
  ·have R:hH (az a) (az 6)=Z (.im<|.aB X):=congrArg (λf=>Z<|ak.im<|.aB f) (du bi);let⟨d,f4,S,f8,ga,q⟩:=gE (u:=u+592) (k:=4) A ⋯ ⋯;let⟨H,rfl⟩:=q.lst;obtain⟨k,U,bm,bs⟩:∃k:Int,fy [V.int 2,.int 3,.int 4,.int 8] d=Z (.int k)/\1<=k/\k<=8:=by
    have:d=0\/d=1\/d=2\/d=3:=⋯
    rcases this with rfl|rfl|rfl|rfl
    ·exact⟨2,rfl,by decide,by decide⟩
    ·exact⟨3,rfl,by decide,by decide⟩
    ·exact⟨4,rfl,by decide,by decide⟩
    ·exact⟨8,rfl,by decide,by decide⟩
   have aW:=P.len;let⟨ge,J,cY,s,cu⟩:=Bl (u:=u) bm bs Wa [] (q.mono ⋯) (by rw[iv];lia);let⟨I,rfl⟩:=s.lst;rw[oo]at cY;refine⟨.lst I,J,eI (w:=fj (.lst I) (Z<|az a) (Z<|az F) (Z<|az D) (Z<|az m) (Z<|az h) (Z<|cI Wa) (Z<|az k)) rfl (bz M<|bz N<|bz O<|bz Q<|bz B ?_) rfl,s,P.ah.sublist cu,λe gl=>P.bn e<|cu.subset gl,dx cu.length_le aW⟩;refine bz (gm (d7<|eb E) rfl) (mn<|jZ (d7<|eb R) ?_);refine bz (V_:=fj (.lst H) (Z<|az a) (Z<|az F) (Z<|az D) (Z<|az m) (Z<|az h) (Z<|cI Wa) (Z<|az k)) (lP (fb (cT<|sQ rfl rfl (f7 rfl) rfl) (cT<|gS rfl rfl rfl S) rfl rfl<|congrArg (Option.map ak.im) U) (ec rfl) rfl) (fh ?_);exact uV (eC (cT<|e3 (p:=Z (6,cI Wa)) (V_:=fj (.lst H) (Z<|az a) (Z<|az F) (Z<|az D) (Z<|az m) (Z<|az h) (Z .cO) (Z<|az k)) rfl cY rfl) rfl) rfl rfl
  ·have R:hH (az a) (az 6)=Z (.im<|.aB au):=congrArg (λf=>Z<|ak.im<|.aB f) (dQ bi);let⟨d,f4,S,f8,ga,q⟩:=gE (u:=u+592) (k:=3) A ⋯ ⋯;let⟨H,rfl⟩:=q.lst;obtain⟨k,U,bm,bs⟩:∃k:Int,fy [V.int 6,.int 24,.int 60] d=Z (.int k)/\1<=k/\k<=60:=by
    have:d=0\/d=1\/d=2:=⋯
    rcases this with rfl|rfl|rfl
    ·exact⟨6,rfl,by decide,by decide⟩
    ·exact⟨24,rfl,by decide,by decide⟩
    ·exact⟨60,rfl,by decide,by decide⟩
   let⟨al,ge,go,li,lm,s⟩:=gE (u:=u+591) (k:=k) q ⋯ ⋯;let⟨I,rfl⟩:=s.lst;let⟨ln,aa,gt,bv,g1⟩:=Sa (u:=u) (k:=1+al) (s.mono ⋯) ⋯ ⋯;let⟨ca,rfl⟩:=bv.lst;refine⟨.lst ca,aa,eI (w:=fj (.lst ca) (Z<|az a) (Z<|az F) (Z<|az D) (Z<|az m) (Z<|az h) (Z<|cI Wa) Y) rfl (bz M<|bz N<|bz O<|bz Q<|bz B ?_) rfl,bv,g1⟩;refine bz (gm (d7<|eb E) rfl) (bz (gm (d7<|eb R) rfl)<|fh ?_);have g2:aA bA (ab<|gr<|ai (ab<|ay<|.int 6)<|ai (ab<|ay<|.int 24)<|ai (ab<|ay<|.int 60) aD) (ab<|bc 2 G.dD<|ai (aj 0)<|ai (ab<|ay<|.int 3) aD) (fj (.lst b) (Z<|az a) (Z<|az F) (Z<|az D) (Z<|az m) (Z<|az h) (Z<|cI Wa) Y)=Z (az k,fj (.lst H) (Z<|az a) (Z<|az F) (Z<|az D) (Z<|az m) (Z<|az h) (Z<|cI Wa) Y):=fb (e:=.bW (.lst [.int 6,.int 24,.int 60])) (V_:=fj (.lst b) (Z<|az a) (Z<|az F) (Z<|az D) (Z<|az m) (Z<|az h) (Z<|cI Wa) Y) rfl (cT<|cW (Wn:=[.a4 0,.bW<|az 3]) rfl rfl rfl S rfl) rfl rfl (congrArg (Option.map ak.im) U);have mk:aA cD (ab<|ay<|.int 1) (ab<|bc 2 G.dD<|ai (aj 0)<|ai (ab<|aA bA (ab<|gr<|ai (ab<|ay<|.int 6)<|ai (ab<|ay<|.int 24)<|ai (ab<|ay<|.int 60) aD)<|ab<|bc 2 G.dD<|ai (aj 0)<|ai (ab<|ay<|.int 3) aD) aD) (fj (.lst b) (Z<|az a) (Z<|az F) (Z<|az D) (Z<|az m) (Z<|az h) (Z<|cI Wa) Y)=Z (az<|1+al,fj (.lst I) (Z<|az a) (Z<|az F) (Z<|az D) (Z<|az m) (Z<|az h) (Z<|cI Wa) Y):=fb (V_:=fj (.lst b) (Z<|az a) (Z<|az F) (Z<|az D) (Z<|az m) (Z<|az h) (Z<|cI Wa) Y) (e:=.bW (az 1)) rfl (cT<|cW (Wn:=[.a4 0,.bW<|az k]) (eC rfl<|eC (cT g2) rfl) rfl rfl go rfl) rfl rfl rfl;exact cW (Wn:=[.a4 0,.bW<|az<|1+al]) (eC rfl<|eC (cT mk) rfl) rfl rfl gt rfl
def CN(F:Wr->Int){H:List Wr}(ne:H≠[]):∃k,sf [.lst (H.map λe=>.int<|F e)]=Z (az k)/\(∃e∈H,F e=k)/\∀e∈H,k<=F e:=by
 obtain⟨k,d⟩:∃k,vl (H.map F)=Z k:=by
  cases H with
  |nil=>exact absurd rfl ne
  |cons f m=>exact⟨_,rfl⟩
 have x:=Gd d;refine⟨k,?_,cG.mp x.2.1,λh a=>x.2.2 _<|uW a⟩;show (j6<|H.map λe=>V.int<|F e).bind _=_;rw[show (H.map λe=>V.int<|F e)=(H.map F).map .int by rw[eU];rfl,Jq];show (vl<|H.map F).map _=_;rw[d];rfl
def TU(Wi:List Int)(ne:Wi≠[]):∃k,r5 [.lst (Wi.map .int)]=Z (az k)/\k∈Wi/\∀e∈Wi,e<=k:=by
 obtain⟨k,d⟩:∃k,tL Wi=Z k:=by
  cases Wi with
  |nil=>exact absurd rfl ne
  |cons f m=>exact⟨_,rfl⟩
 have x:=DE d;refine⟨k,?_,x.2.1,x.2.2⟩;show (j6<|Wi.map V.int).bind _=_;rw[Jq];show (tL Wi).map _=_;rw[d];rfl
theorem Ax:∀Wj:List aS,V.dy 7 (Wj.map aH)=X
 |[]=>rfl
 |s::m=>by rw[b2,V.dy,Ax m];rfl
def ME(aa:List aS):hL (aE aa) (.im<|.tup [])=Z (.im<|.aB<|decide (aa=[])):=by
 show (if (V.dy 7 (aa.map aH)&&X)=X then Z (ak.im<|.aB<|fG (aa.map aH) []) else Y)=_;rw[Ax,aM<|show (X&&X)=X from rfl];cases aa<;>rfl
def Eo(aa:List aS):lj (aE aa) (.im<|.tup [])=Z (.im<|.aB<|!decide (aa=[])):=by
 show (if (V.dy 7 (aa.map aH)&&X)=X then Z (ak.im<|.aB<|!fG (aa.map aH) []) else Y)=_;rw[Ax,aM<|show (X&&X)=X from rfl];cases aa<;>rfl
def Bq(P:hp aa):∃a,mw [aE aa]=Z (aE a,[aE aa])/\hp a:=by
 have aW:=P.len;unfold mw B_;by_cases x:aa=[]
 ·subst x;exact⟨[],eI (w:=[Z (aE []),Y,Y]) rfl (mn<|jZ (V_:=[Z (aE []),Y,Y]) rfl rfl) rfl,hu,(λh c=>nomatch c),hj _⟩
 ·have n:ck 1 [] (ct<|aj 0) (bj 0) c3 G.G4 [Z (aE aa),Y,Y]=Z (.lst<|aa.map λh=>.int h.1,[Z (aE aa),Y,Y]):=
   e3 (z:=aa.map aH) (p:=Y) (V_:=[Z (aE aa),Y,Y]) rfl (gL aH (λh=>.int h.1) _ (λh W=>⟨[Z (.im<|aH h)],_,[Z (.im<|aH h)],rfl,rfl,b_ rfl rfl rfl rfl rfl,rfl⟩) ⋯) rfl;have o:ck 1 [] (ct<|aj 0) (bj 0) c3 G.BR [Z (aE aa),Y,Y]=Z (.lst<|aa.map λh=>.int h.2,[Z (aE aa),Y,Y]):=
   e3 (z:=aa.map aH) (p:=Y) (V_:=[Z (aE aa),Y,Y]) rfl (gL aH (λh=>.int h.2) _ (λh W=>⟨[Z (.im<|aH h)],_,[Z (.im<|aH h)],rfl,rfl,b_ rfl rfl rfl rfl rfl,rfl⟩) ⋯) rfl;let⟨g,q,⟨e,r,WM⟩,A⟩:=CN (λh:aS=>h.1) x;let⟨f,s,⟨l,t,k⟩,J⟩:=CN (λh:aS=>h.2) x;have u:=P.bn e r;have y:=P.bn l t;have b:ck 1 [1,2] (ct<|aj 0) (bj 0) c3 G.Fx [Z (aE aa),Z<|az g,Z<|az f]=Z (.lst<|aa.map λh=>aH (h.1-g,h.2-f),[Z (aE aa),Z<|az g,Z<|az f]):=
   e3 (z:=aa.map aH) (p:=Y) (V_:=[Z (aE aa),Z<|az g,Z<|az f]) rfl (gL aH (λh=>aH (h.1-g,h.2-f)) _ (λh W=>⟨[Z (.im<|aH h),Z<|az g,Z<|az f],_,[Z (.im<|aH h),Z<|az g,Z<|az f],rfl,rfl,pE (bR (a8<|b_ (a8<|b_ rfl rfl rfl rfl rfl) rfl rfl rfl rfl)<|bR (a8<|b_ (a8<|b_ rfl rfl rfl rfl rfl) rfl rfl rfl rfl) rfl) rfl (f7 rfl) rfl,rfl⟩) ⋯) rfl;rw[show (aa.map λh=>aH (h.1-g,h.2-f))=(aa.map λh=>((h.1-g,h.2-f):aS)).map aH by rw[eU];rfl]at b;have ah:(aa.map λh=>((h.1-g,h.2-f):aS)).Nodup:=kN (λL W v W d=>by
   have B:L.1-g=v.1-g:=congrArg Prod.fst d;have C:L.2-f=v.2-f:=congrArg Prod.snd d;exact mu ⋯ ⋯) P.ah
  have m:kJ (aa.map λh=>((h.1-g,h.2-f):aS)):=λh i=>by
   let⟨L,j,rfl⟩:=cG.mp i;have dd:=P.bn L j;have dn:g<=L.1:=A L j;have lE:f<=L.2:=J L j;have WM:e.1=g:=WM;have k:l.2=f:=k;exact⟨by show 0<=L.1-g;lia,by show L.1-g<=30;lia,by show 0<=L.2-f;lia,by show L.2-f<=30;lia⟩
  have gP:(aa.map λh=>((h.1-g,h.2-f):aS)).length<=64:=by rw[ba];exact aW
  generalize (aa.map λh=>((h.1-g,h.2-f):aS))=Wl at b ah m gP;let⟨a,Q,WT,W⟩:=vs ah ⋯;have Q:hl [cI Wl]=Z (cI a):=(p8 cQ Wl).trans Q;refine⟨a,?_,WT.nodup_iff.mpr ah,λh i=>m h<|WT.mem_iff.mp i,by rw[WT.length_eq];exact gP⟩;refine eI (w:=[Z (aE aa),Z<|az g,Z<|az f]) rfl ?_ rfl;refine bz (V_:=[Z (aE aa),Y,Y]) (gm (d7 (eb ((ME aa).trans (by rw[dQ x])))) rfl) ?_;refine bz (V_:=[Z (aE aa),Z<|az g,Z<|az f]) (tH (bR (a8<|dF (bR (a8 n) rfl) rfl q)<|bR (a8<|dF (bR (a8 o) rfl) rfl s) rfl) rfl (ec rfl) (ec rfl) rfl) (fh ?_);exact dF (bR (a8<|dF (bR (a8 b) rfl) rfl Q) rfl) rfl rfl
structure ft(aa Wl:List aS):Prop where
 iR:hp Wl
 n_:∀o,cp.d0 (d_ aa) o->cp.d0 (d_ Wl) o
def hp.map(P:hp aa)(WS:aS->aS)(inj:∀e l,WS e=WS l->e=l)(a:∀h,(0<=h.1/\h.1<=30/\0<=h.2/\h.2<=30)->0<=(WS h).1/\(WS h).1<=30/\0<=(WS h).2/\(WS h).2<=30):hp (aa.map WS):=
 ⟨kN (λe W l W d=>inj e l d) P.ah,λh b=>by let⟨e,c,rfl⟩:=cG.mp b;exact a e (P.bn e c),by rw[ba];exact P.len⟩
def K6(a:∀h,WS (WS h)=h)(h:aS):d_ Wl (WS h)↔d_ (Wl.map WS) h:=
 ⟨λc=>cG.mpr ⟨WS h,c,a h⟩,λc=>by let⟨e,b,rfl⟩:=cG.mp c;show WS (WS e)∈Wl;rw[a];exact b⟩
def ft.map(V6:ft aa Wl){WS:aS->aS}(a:∀h,WS (WS h)=h)(b:∀h,(0<=h.1/\h.1<=30/\0<=h.2/\h.2<=30)->0<=(WS h).1/\(WS h).1<=30/\0<=(WS h).2/\(WS h).2<=30)(n_:∀P o,cp.d0 P o->cp.d0 (λh=>P<|WS h) o):ft aa (Wl.map WS):=
 ⟨V6.iR.map WS (λe l d=>by rw[<-a e,d,a]) b,λo c=>(n_ _ o<|V6.n_ o c).congr<|K6 a⟩
def lK(h:aS):aS:=((30-h.1,h.2))
def kx(h:aS):aS:=((h.1,30-h.2))
def fK(h:aS):aS:=((30-h.1,30-h.2))
def ft.sw{aa Wl:List aS}(V6:ft aa Wl):ft aa (Wl.map sw):=V6.map Pk (λh c=>⟨c.2.2.1,c.2.2.2,c.1,c.2.1⟩) λP o Ww=>Ww.flip
def ft.lK{aa Wl:List aS}(V6:ft aa Wl):ft aa (Wl.map lK):=V6.map (λh=>mu (by show 30-(30-h.1)=h.1;lia) rfl) (λh c=>⟨by show 0<=30-h.1;lia,by show 30-h.1<=30;lia,c.2.2⟩) λP o Ww=>Ww.rows 30
def ft.kx{aa Wl:List aS}(V6:ft aa Wl):ft aa (Wl.map kx):=V6.map (λh=>mu rfl (by show 30-(30-h.2)=h.2;lia)) (λh c=>⟨c.1,c.2.1,by show 0<=30-h.2;lia,by show 30-h.2<=30;lia⟩) λP o Ww=>Ww.cols 30
def ft.fK{aa Wl:List aS}(V6:ft aa Wl):ft aa (Wl.map fK):=V6.map (λh=>mu (by show 30-(30-h.1)=h.1;lia) (by show 30-(30-h.2)=h.2;lia)) (λh c=>⟨by show 0<=30-h.1;lia,by show 30-h.1<=30;lia,by show 0<=30-h.2;lia,by show 30-h.2<=30;lia⟩) λP o Ww=>(Ww.rows 30).cols 30
def ft.perm{a:List aS}(V6:ft aa Wl)(s:a.Perm Wl):ft aa a:=
 ⟨⟨s.nodup_iff.mpr V6.iR.ah,λh b=>V6.iR.bn h<|s.mem_iff.mp b,by rw[s.length_eq];exact V6.iR.len⟩,λo c=>(V6.n_ o c).congr λh=>s.mem_iff.symm⟩
abbrev fW(V6:List hE):ak:=.lst (V6.map ej)
def Br{a:Nat}(f:L.length<=64)(V0:ct (aj a) w=Z ((L.map aH,Y),w))(b:j2 [] w=[])(c:iC [] [] w=w)(e:∀h:aS,d [Z (.im<|aH h)]=Z (.im<|aH<|WS h,[Z (.im<|aH h)])):
  b7 gK (ai (ab<|ck 1 [] (ct<|aj a) (bj 0) c3 d) aD) w=Z (.im<|ej<|L.map WS,w):=by
 have cY:ck 1 [] (ct<|aj a) (bj 0) c3 d w=Z (.lst<|L.map λh=>aH<|WS h,w):=
  e3 (z:=L.map aH) (p:=Y) (V_:=w) V0 (by rw[b];exact gL aH (λh=>aH<|WS h) _ (λh W=>⟨[Z (.im<|aH h)],_,[Z (.im<|aH h)],rfl,rfl,e h,rfl⟩) ⋯) c;refine (dF (bR (a8 cY) rfl) rfl rfl).trans ?_;unfold ej;rw[eU];rfl
def J1{aa L:List aS}{V6:List hE}{WJ:Option ak}(a:V6.length<=100):iS (fW V6) [.im (ej L)]=Z (.im .aV,fW<|V6++[L]):=by
 have:iS (fW V6) [.im (ej L)]=Z (.im .aV,.lst<|V6.map ej++[ej L]):=xr (by rw[ba];lia);rw[this];unfold fW;rw[f_];rfl
def HL{V6:List hE}(b:L.length<=64)(e:V6.length<=50):tv [Z (aE aa),Z<|fW V6,Z<|.im<|ej L]=Z (.bB,[Z (aE aa),Z<|fW<|V6++[L.map lK]++[L.map kx]++[L.map fK],Z<|.im<|ej L]):=by
 have a:∀{d:aw ak}{WS:aS->aS}{V6:List hE},V6.length<=100->(∀h:aS,d [Z (.im<|aH h)]=Z (.im<|aH<|WS h,[Z (.im<|aH h)]))->jr (hi j_ 1 iS<|ai (ab<|b7 gK<|ai (ab<|ck 1 [] (ct<|aj 2) (bj 0) c3 d) aD) aD) [Z (aE aa),Z<|fW V6,Z<|.im<|ej L]=Z (.bB,[Z (aE aa),Z<|fW<|V6++[L.map WS],Z<|.im<|ej L]):=λ{d WS V6} c he=>
  tk (rP (h:=fW V6) rfl rfl (bR (a8<|Br b rfl rfl rfl he) rfl) rfl rfl (J1 (aa:=aa) (WJ:=Y) c) rfl);unfold tv;exact bz (a (WS:=lK) ⋯ λh=>rfl) (bz (a (WS:=kx) (by rw[di,gI];lia) λh=>rfl) (a (WS:=fK) (by rw[di,di,gI,gI];lia) λh=>rfl))
theorem Er{aa:List aS}:∀a:List hE,(∀L∈a,ft aa L)->∃V6:List hE,(a.map λL=>V.tup<|e0 a7<|L.map aH)=V6.map ej/\∀E∈V6,ft aa E
 |[],_=>⟨[],rfl,λ_ c=>nomatch c⟩
 |L::a,c=>by
  let⟨V6,d,o⟩:=Er a λv b=>c v (.tail _ b);have e:=c L (.head _);let⟨E,s,f⟩:=F9 (jn<|L.map aH) L rfl;refine⟨E::V6,?_,λn av=>?_⟩
  ·rw[b2,b2,d,f];rfl
  ·rcases b8.mp av with rfl|av
   ·exact e.perm s
   ·exact o n av
def O9(P:hp aa):∃V6:List hE,nQ [aE aa]=Z (fW V6,[aE aa])/\V6.length<=8/\∀E∈V6,ft aa E:=by
 have e:ft aa aa:=⟨P,λ_ c=>c⟩;have f:=e.sw;have l:(aa.map sw).length<=64:=f.iR.len;obtain⟨b,i⟩:∃b:List hE,b=[aa,aa.map sw]++[aa.map lK]++[aa.map kx]++[aa.map fK]++[(aa.map sw).map lK]++[(aa.map sw).map kx]++[(aa.map sw).map fK]:=⟨_,rfl⟩;have j:∀L∈b,ft aa L:=by
  rw[i];intro L g;simp only[r3,oo,b8,ka,m6]at g;rcases g with rfl|rfl|rfl|rfl|rfl|rfl|rfl|rfl
  ·exact e
  ·exact f
  ·exact e.lK
  ·exact e.kx
  ·exact e.fK
  ·exact f.lK
  ·exact f.kx
  ·exact f.fK
 have m:b.length=8:=by rw[i];rfl
 let⟨V6,k,n⟩:=Er b j;have r:V6.length=8:=by have:=congrArg List.length k;rw[ba,ba,m]at this;exact this.symm
 refine⟨V6,?_,⋯,n⟩;have o:ew (bj 2) tv ([aa,aa.map sw].map ej) [Z (aE aa),Z<|fW [aa,aa.map sw],Y]=Z (.bB,[Z (aE aa),Z<|fW b,Z<|.im<|ej<|aa.map sw]):=by
  rw[i];exact lN (V_:=[Z (aE aa),Z<|fW [aa,aa.map sw],Z<|.im<|ej aa]) rfl (HL P.len<|f7 rfl) (lN (V_:=[Z (aE aa),Z<|fW<|[aa,aa.map sw]++[aa.map lK]++[aa.map kx]++[aa.map fK],Z<|.im<|ej<|aa.map sw]) rfl (HL l<|f7 rfl) rfl)
 have cY:ck 1 [] (ct<|aj 1) (bj 0) c3 G.FK [Z (aE aa),Z<|fW b,Z<|.im<|ej<|aa.map sw]=Z (.lst<|b.map λL=>V.tup<|e0 a7<|L.map aH,[Z (aE aa),Z<|fW b,Z<|.im<|ej<|aa.map sw]):=by
  refine e3 (z:=b.map ej) (p:=Z (1,fW b)) (V_:=[Z (aE aa),Z .cO,Z<|.im<|ej<|aa.map sw]) rfl (gL ej (λL=>V.tup<|e0 a7<|L.map aH) _ (λL g=>?_) ⋯) rfl;have iR:=(j L g).iR;have q:hl [.im (ej L)]=Z (.lst<|e0 a7<|L.map aH):=by
   show jV (L.map aH)=_;unfold jV;rw[aM (qC.mpr (rA iR.ah (by have:=iR.len;lia)))]
  exact⟨[Z (.im<|ej L)],_,[Z (.im<|ej L)],rfl,rfl,dF (bR (a8<|dF (bR rfl rfl) rfl q) rfl) rfl rfl,rfl⟩
 rw[k]at cY;have XB:=Br (d:=G.IF) (WS:=sw) (a:=0) (w:=[Z (aE aa),Y,Y]) P.len rfl rfl rfl λh=>rfl;unfold nQ BL;refine eI (w:=[Z (aE aa),Z<|fW b,Z<|.im<|ej<|aa.map sw]) rfl ?_ rfl;refine bz (V_:=[Z (aE aa),Z<|fW [aa,aa.map sw],Y]) (gx (B2 (bR rfl<|bR (a8 XB) rfl) rfl (f7 rfl) rfl) (ec rfl) rfl) ?_;exact bz (jO (p:=Y) (z:=[aa,aa.map sw].map ej) (V_:=[Z (aE aa),Z<|fW [aa,aa.map sw],Y]) rfl o rfl) (fh cY)
def M_{F:aw (List bK)}{Wn:List bK}{Wa:List aS}(f:Wa.length<=290)(g:F w=Z (Wn,V_))(h:ha V_ Wn=Z [aE Wa]):∃Q:List aS,vW F w=Z (cI Q,V_)/\Q.length<=Wa.length/\Q.Nodup/\∀e,e∈Q↔e∈Wa:=by
 let⟨a,d,ah,b⟩:=B7 Wa;have i:a.length<=Wa.length:=ah.length_le_of_subset λe j=>(b e).mp j;have k:(a.map cQ).map V.tup=a.map aH:=by rw[eU];rfl
 let⟨Q,l,c,m⟩:=GS ah ⋯;let⟨n,o,W,W⟩:=TK f;refine⟨Q,?_,by rw[c.length_eq];exact i,Iw m,λe=>c.mem_iff.trans<|b e⟩;unfold vW;rw[g];show (ha V_ Wn).bind _=_;rw[h];show (ps<|Wa.map aH).bind _=_;rw[show Wa.map aH=(Wa.map cQ).map .tup by rw[eU];rfl,CF];refine (aM ⟨n,o⟩).trans ?_;rw[d,k,l]
def Lj{a:List aS}(O:hp a)(W7:hp Wy):∃Wa m,r0 [aE a,aE Wy]=Z (aE Wa,[aE a,aE Wy])/\Wa.Nodup/\kJ Wa/\Wa.length<=128/\(∀h∈a,h∈Wa/\h.1<m)/\∀h∈Wa,h∉a->m<h.1:=by
 have A:=O.len;have J:=W7.len;have q:ck 1 [] (ct<|aj 0) (bj 0) c3 G.zm [Z (aE a),Z<|aE Wy,Y,Y]=Z (.lst<|a.map λh=>.int h.1,[Z (aE a),Z<|aE Wy,Y,Y]):=
  e3 (z:=a.map aH) (p:=Y) (V_:=[Z (aE a),Z<|aE Wy,Y,Y]) rfl (gL aH (λh=>.int h.1) _ (λh W=>⟨[Z (.im<|aH h)],_,[Z (.im<|aH h)],rfl,rfl,b_ rfl rfl rfl rfl rfl,rfl⟩) ⋯) rfl;let⟨k,r,I,n⟩:=TU (a.map (λh:aS=>h.1)++[-2]) ↥0;have s:cD (.lst<|a.map λh=>V.int h.1) (.lst [.int (-2)])=Z (.lst<|(a.map (λh:aS=>h.1)++[-2]).map .int):=by
  show (if (a.map λh=>V.int h.1).length+1<=100000 then Z (ak.lst<|(a.map λh=>V.int h.1)++[.int (-2)]) else Y)=_;rw[aM (by rw[ba];lia),f_,eU];rfl
 have M : -2<=k:=n (-2) (eW _<|.head _);have o:∀h∈a,h.1<=k:=λh b=>n h.1 (gz _<|cG.mpr ⟨h,b,rfl⟩);have u:cj 2 (aA cD (ab<|b7 r5<|ai (ab<|aA cD (ab<|ck 1 [] (ct<|aj 0) (bj 0) c3 G.zm)<|ab<|gr<|ai (ab<|jb<|ay<|.int 2) aD) aD)<|ab<|ay<|.int 2) [Z (aE a),Z<|aE Wy,Y,Y]=Z (.bB,[Z (aE a),Z<|aE Wy,Z<|az<|k+2,Y]):=
  gx (b_ (a8<|dF (bR (a8<|b_ (a8 q) (a8<|B2 rfl rfl (f7 rfl) rfl) rfl rfl s) rfl) rfl r) rfl rfl rfl rfl) (ec rfl) rfl;have i:ck 1 [2] (ct<|aj 1) (bj 0) c3 G.HD [Z (aE a),Z<|aE Wy,Z<|az<|k+2,Y]=Z (.lst<|Wy.map λh=>aH (h.1+(k+2),h.2),[Z (aE a),Z<|aE Wy,Z<|az<|k+2,Y]):=
  e3 (z:=Wy.map aH) (p:=Y) (V_:=[Z (aE a),Z<|aE Wy,Z<|az<|k+2,Y]) rfl (gL aH (λh=>aH (h.1+(k+2),h.2)) _ (λh W=>⟨[Z (.im<|aH h),Z<|az<|k+2],_,[Z (.im<|aH h),Z<|az<|k+2],rfl,rfl,pE (bR (a8<|b_ (a8<|b_ rfl rfl rfl rfl rfl) rfl rfl rfl rfl)<|bR (a8<|b_ rfl rfl rfl rfl rfl) rfl) rfl (f7 rfl) rfl,rfl⟩) ⋯) rfl;rw[show (Wy.map λh=>aH (h.1+(k+2),h.2))=(Wy.map λh=>((h.1+(k+2),h.2):aS)).map aH by rw[eU];rfl]at i;have Wi:(Wy.map λh=>((h.1+(k+2),h.2):aS)).Nodup:=kN (λL W v W d=>by
  have N:L.1+(k+2)=v.1+(k+2):=congrArg Prod.fst d;have y:L.2=v.2:=(Prod.mk.inj d).2;exact mu ⋯ y) W7.ah
 have g:∀h∈(Wy.map λh=>((h.1+(k+2),h.2):aS)),k+2<=h.1/\0<=h.2/\h.2<=30:=λh b=>by
  let⟨L,B,rfl⟩:=cG.mp b;have f:=W7.bn L B;exact⟨by show k+2<=L.1+(k+2);lia,f.2.2⟩
 have a4:(Wy.map λh=>((h.1+(k+2),h.2):aS)).length<=64:=by rw[ba];exact J
 generalize (Wy.map λh=>((h.1+(k+2),h.2):aS))=Wl at i Wi g a4;have ah:(a++Wl).Nodup:=dJ.mpr ⟨O.ah,Wi,λe D l E d=>by
  have:=o e D;have:=(g l E).1;rw[d] at *;lia⟩
 have ad:cD (cI a) (cI Wl)=Z (cI<|a++Wl):=by
  show (if (a.map aH).length+(Wl.map aH).length<=100000 then Z (ak.lst<|a.map aH++Wl.map aH) else Y)=_;rw[aM (by rw[ba,ba];lia),<-f_]
 let⟨c,Q,WT,W⟩:=vs ah (by rw[di];lia);have Q:hl [cI (a++Wl)]=Z (cI c):=(p8 cQ _).trans Q;have Xx:c.length<=128:=by rw[WT.length_eq,di];lia
 have F:ck 1 [] (ct<|aj 3) (bj 0) G.HN G.Jf [Z (aE a),Z<|aE Wy,Z<|az<|k+2,Z<|cI c]=Z (cI<|c.filter λh=>decide (h.1<=30),[Z (aE a),Z<|aE Wy,Z<|az<|k+2,Z<|cI c]):=
  e3 (z:=c.map aH) (p:=Z (3,cI c)) (V_:=[Z (aE a),Z<|aE Wy,Z<|az<|k+2,Z .cO]) rfl (mM aH (λh=>decide (h.1<=30)) aH _ [] (λh W=>⟨[Z (.im<|aH h)],[Z (.im<|aH h)],rfl,d7<|b_ (a8<|b_ rfl rfl rfl rfl rfl) rfl rfl rfl rfl,λ_=>rfl,λ_=>⟨[Z (.im<|aH h)],rfl,rfl⟩⟩) (by rw[iv];lia)) rfl;have j:∀h,h∈c.filter (λh=>decide (h.1<=30))↔(h∈a\/h∈Wl)/\h.1<=30:=λh=>by rw[jw,WT.mem_iff,c5,k7]
 refine⟨c.filter λh=>decide (h.1<=30),k+1,?_,(WT.nodup_iff.mpr ah).sublist s6,λh b=>?_,dx (uj _ _) Xx,λh b=>⟨(j h).mpr ⟨.inl b,(O.bn h b).2.1⟩,by have:=o h b;lia⟩,λh b H=>?_⟩
 ·unfold r0 EO;refine eI (w:=[Z (aE a),Z<|aE Wy,Z<|az<|k+2,Z<|cI c]) rfl ?_ rfl;refine bz u (bz (V_:=[Z (aE a),Z<|aE Wy,Z<|az<|k+2,Z<|cI c]) (gx (dF (bR (a8<|b_ (a8<|dF (bR rfl rfl) rfl rfl) (a8 i) rfl rfl ad) rfl) rfl Q) (ec rfl) rfl)<|fh ?_);exact dF (bR (a8 F) rfl) rfl rfl
 ·let⟨t,C⟩:=(j h).mp b;rcases t with x|x
  ·exact O.bn h x
  ·have:=g h x;exact⟨⋯,C,this.2⟩
 ·let⟨t,C⟩:=(j h).mp b;have:=g h (t.resolve_left H);lia
abbrev et(Wi:List Int)(o:Int)(WJ a W6 WQ WX Xf Xb b c:Option ak):bb:=[Z (.dY<|Wi.map .int),Z<|az o,WJ,a,W6,WQ,WX,Xf,Xb,b,c]
def RH{bI r:af}{WJ B n j:Option ak}(ce:0<=o)(WG:o<1000):∃W2 ch ci cl co cr cs db gg,tx bI r (et Wi o WJ B W6 WQ WX Xf Xb n j)=Z (.bB,et Wi o W2 ch ci cl co cr cs db gg):=by
 let⟨t,ds,Wc⟩:=N8 (Wi:=Wi) ce WG;let⟨C,dL,eq,Ws,Wo⟩:=H6 (u:=990000) (Wc.mono ⋯);let⟨lm,ev,ex,a1,Wz⟩:=H6 (u:=980000) (Ws.mono ⋯);let⟨b,fd,O⟩:=Bq Wo;let⟨Wy,fn,W7⟩:=Bq Wz;have A:=O.len;let⟨a2,rfl⟩:=Wc.lst;let⟨fr,rfl⟩:=Ws.lst;let⟨q,rfl⟩:=a1.lst;let⟨k,f0,J⟩:=pg O.ah ⋯ O.bn bI r;let⟨V6,f1,ln,f2⟩:=O9 O;let⟨Wa,m,f4,bd,be,f8,me,ga⟩:=Lj O W7;let⟨i,ge,gl⟩:=pg bd ⋯ be bI r;have i3:(Wa.filter λh=>!decide (h∈b)).Nodup:=bd.sublist s6;have bi:kJ (Wa.filter λh=>!decide (h∈b)):=λh H=>be h (jw.mp H).1;have go:(Wa.filter λh=>!decide (h∈b)).length<=128:=dx (uj _ _) f8;have I:∀h,h∈Wa.filter (λh=>!decide (h∈b))↔h∈Wa/\h∉b:=λh=>by rw[jw,l1,qn]
 have bm:ck 1 [3] (ct<|aj 6) (bj 0) (G.JE bI r) (G.Cq bI r) (et Wi o (Z<|.lst q) (Z<|aE b) (Z<|aE Wy) (Z<|az k) (Z<|aE Wa) Xf Xb n j)=Z (cI<|Wa.filter λh=>!decide (h∈b),et Wi o (Z<|.lst q) (Z<|aE b) (Z<|aE Wy) (Z<|az k) (Z<|aE Wa) Xf Xb n j):=
  e3 (z:=Wa.map aH) (p:=Y) (V_:=et Wi o (Z<|.lst q) (Z<|aE b) (Z<|aE Wy) (Z<|az k) (Z<|aE Wa) Xf Xb n j) rfl (mM aH (λh=>!decide (h∈b)) aH _ [] (λh W=>⟨[Z (.im<|aH h),Z<|aE b],[Z (.im<|aH h),Z<|aE b],rfl,d7<|eb<|L3 b h,λ_=>rfl,λ_=>⟨[Z (.im<|aH h),Z<|aE b],rfl,rfl⟩⟩) (by rw[iv];lia)) rfl;generalize (Wa.filter λh=>!decide (h∈b))=Xd at i3 bi go I bm;let⟨a,P,S⟩:=pg i3 ⋯ bi bI r;have sum:i=k+a:=gl.uniq (J.both S (λh=>(⟨λc=>by
   by_cases x:h∈b
   ·exact .inl x
   ·exact .inr ((I h).mpr ⟨c,x⟩),λc=>c.elim (λx=>(me h x).1) λx=>((I h).mp x).1⟩:d_ Wa h↔d_ b h\/d_ Xd h)) m (λh c=>(me h c).2) λh c=>ga h ((I h).mp c).1 ((I h).mp c).2)
 let⟨e,ls,gt,g1,lv,bs⟩:=gE (u:=979999) (k:=12) a1 ⋯ ⋯;let⟨l,lw,g2,g3,mo,bv⟩:=gE (u:=979998) (k:=12) bs ⋯ ⋯;let⟨ms,rfl⟩:=bs.lst;let⟨y,rfl⟩:=bv.lst;have ad:cD (aE b) (.im<|.tup [aH (e,l)])=Z (aE<|b++[(e,l)]):=by
  show (if (b.map aH).length+[aH (e,l)].length<=100000 then Z (ak.im<|.tup<|b.map aH++[aH (e,l)]) else Y)=_;rw[aM (by rw[ba,gI];lia)];show Z (ak.im<|.tup<|b.map aH++[(e,l)].map aH)=_;rw[<-f_]
 let⟨s,Q,hd,he,U⟩:=M_ (w:=et Wi o (Z<|.lst y) (Z<|aE b) (Z<|aE Wy) (Z<|az k) (Z<|aE Wa) (Z<|aE Xd) (Z<|.im<|aH (e,l)) n j) (V_:=et Wi o (Z<|.lst y) (Z<|aE b) (Z<|aE Wy) (Z<|az k) (Z<|aE Wa) (Z<|aE Xd) (Z<|.im<|aH (e,l)) n j) (F:=ai (ab<|aA cD (aj 3)<|ab<|cV<|ai (aj 8) aD) aD) (Wn:=[.bW (aE<|b++[(e,l)])]) (Wa:=b++[(e,l)]) (by rw[di,gI];lia) (bR (a8<|b_ rfl (a8<|pE (bR rfl rfl) rfl (f7 rfl) rfl) rfl rfl ad) rfl) rfl;have m0:s.length<=65:=by rw[di,gI]at hd;lia
 have hf:kJ s:=λh H=>by
  rcases c5.mp ((U h).mp H) with x|x
  ·exact O.bn h x
  ·rw[cP.mp x];exact⟨g1,by show e<=30;lia,g3,by show l<=30;lia⟩
 let⟨L,ca,d0⟩:=pg he ⋯ hf bI r;have one:=J.one d0 (x:=(e,l)) λh=>(⟨λc=>(c5.mp<|(U h).mp c).imp id λx=>cP.mp x,λc=>(U h).mpr<|c5.mpr<|c.imp id λx=>cP.mpr x⟩:d_ s h↔d_ b h\/h=(e,l));have V_:∀(j:Option ak),bO (hr ek ek (ab<|aA gV (aj 5)<|ab<|ay<|.int 2) (ab<|bc 1 (G.i0 bI r)<|ai (aj 9) aD)<|ab<|aA cD (aj 5)<|ab<|ay<|.int 1) (et Wi o (Z<|.lst y) (Z<|aE b) (Z<|aE Wy) (Z<|az k) (Z<|aE Wa) (Z<|aE Xd) (Z<|.im<|aH (e,l)) (Z<|aE s) j)=Z (X,et Wi o (Z<|.lst y) (Z<|aE b) (Z<|aE Wy) (Z<|az k) (Z<|aE Wa) (Z<|aE Xd) (Z<|.im<|aH (e,l)) (Z<|aE s) j):=λj=>by
  have R:(decide ((k:Int)-2<=L)&&decide ((L:Int)<=k+1))=X:=by
   rw[du (show (k:Int)-2<=L by lia),du (show (L:Int)<=k+1 by lia)];rfl
  rw[<-R];exact wQ (e:=.bW (az<|(k:Int)-2)) (l:=.bW (az L)) (x:=.bW (az<|(k:Int)+1)) rfl (a8<|cW (Wn:=[.a4 9]) rfl rfl rfl ca rfl) rfl rfl rfl
 have lt:∀u:Nat,hH (az u) (az 0)=Z (.im<|.aB au):=λu=>congrArg (λf=>Z<|ak.im<|.aB f) (dQ (show ¬ (u:Int)<0 by lia));have hm:cj 2 (bc 2 G.qX<|ai (aj 0)<|ai (aj 1) aD) (et Wi o WJ B W6 WQ WX Xf Xb n j)=Z (.bB,et Wi o (Z<|.lst a2) B W6 WQ WX Xf Xb n j):=gx (cW (Wn:=[.a4 0,.a4 1]) rfl rfl rfl ds rfl) (ec rfl) rfl;have hw:kM 3 4 (ai (ab<|bc 1 G.mw<|ai (ab<|bc 1 G.m_<|ai (aj 2) aD) aD)<|ai (ab<|bc 1 G.mw<|ai (ab<|bc 1 G.m_<|ai (aj 2) aD) aD) aD) (et Wi o (Z<|.lst a2) B W6 WQ WX Xf Xb n j)=Z (.bB,et Wi o (Z<|.lst q) (Z<|aE b) (Z<|aE Wy) WQ WX Xf Xb n j):=
  tH (eC (V_:=et Wi o (Z<|.lst fr) B W6 WQ WX Xf Xb n j) (cT<|cW (Wn:=[.bW (aE dL)]) (eC (cT<|cW (Wn:=[.a4 2]) rfl rfl rfl eq rfl) rfl) rfl rfl fd rfl)<|eC (V_:=et Wi o (Z<|.lst q) B W6 WQ WX Xf Xb n j) (cT<|cW (Wn:=[.bW (aE ev)]) (eC (cT<|cW (Wn:=[.a4 2]) rfl rfl rfl ex rfl) rfl) rfl rfl fn rfl) rfl) rfl (ec rfl) (ec rfl) rfl;have h0:ck 1 [5] (ct<|ab<|bc 1 G.nQ<|ai (aj 3) aD) (bj 0) c3 (G.Ej bI r) (et Wi o (Z<|.lst q) (Z<|aE b) (Z<|aE Wy) (Z<|az k) WX Xf Xb n j)=Z (.lst<|V6.map λ_=>.aB X,et Wi o (Z<|.lst q) (Z<|aE b) (Z<|aE Wy) (Z<|az k) WX Xf Xb n j):=by
  refine e3 (z:=V6.map ej) (p:=Y) (V_:=et Wi o (Z<|.lst q) (Z<|aE b) (Z<|aE Wy) (Z<|az k) WX Xf Xb n j) ?_ (gL ej (λ_=>.aB X) _ (λE bT=>?_) ⋯) rfl
  ·have ii:bc 1 G.nQ (ai (aj 3) aD) (et Wi o (Z<|.lst q) (Z<|aE b) (Z<|aE Wy) (Z<|az k) WX Xf Xb n j)=Z (fW V6,et Wi o (Z<|.lst q) (Z<|aE b) (Z<|aE Wy) (Z<|az k) WX Xf Xb n j):=cW (Wn:=[.a4 3]) rfl rfl rfl f1 rfl;unfold ct;rw[cT ii];rfl
  ·have M:=f2 E bT;let⟨al,io,it⟩:=pg M.iR.ah (by have:=M.iR.len;lia) M.iR.bn bI r;have:al=k:=it.uniq (M.n_ k J);subst this;exact⟨[Z (.im<|ej E),Z<|az al],_,[Z (.im<|ej E),Z<|az al],rfl,rfl,b_ (a8<|cW (Wn:=[.a4 0]) rfl rfl rfl io rfl) rfl rfl rfl ((uF _ _).trans (by rw[du rfl])),rfl⟩
 have am:∃an T,dK (bO<|aA lj (aj 3)<|ab<|cV aD) (bx (cj 10<|bc 2 G.dD<|ai (aj 2)<|ai (ab<|b7 eS<|ai (aj 3) aD) aD)<|dK (gy<|bO<|hr ek ek (ab<|aA gV (aj 5)<|ab<|ay<|.int 1) (ab<|bc 1 (G.i0 bI r)<|ai (ab<|aA cD (ab<|iW (aj 3) jE<|ki<|dG 10)<|ab<|iW (aj 3) (ki<|aA cD (aj 10)<|ab<|ay<|.int 1) jE) aD)<|ab<|aA cD (aj 5)<|ab<|ay<|.int 2) (cM<|ay<|.aB au) ei) ei (et Wi o (Z<|.lst y) (Z<|aE b) (Z<|aE Wy) (Z<|az k) (Z<|aE Wa) (Z<|aE Xd) (Z<|.im<|aH (e,l)) (Z<|aE s) j)=Z (.bB,et Wi o (Z T) (Z<|aE b) (Z<|aE Wy) (Z<|az k) (Z<|aE Wa) (Z<|aE Xd) (Z<|.im<|aH (e,l)) (Z<|aE s) an):=by
  by_cases x:b=[]
  ·exact⟨j,.lst y,gm (d7 (eb ((Eo b).trans (by rw[du x];rfl)))) rfl⟩
  ·have na:=rH.mpr x;let⟨v,nb,jp,ne,cd,kt⟩:=gE (u:=979997) (k:=(b.length:Int)) bv ⋯ ⋯;let⟨N,rfl⟩:=kt.lst;obtain⟨u,ap⟩:∃u:Nat,v=u:=⟨v.toNat,⋯⟩;subst ap;obtain⟨D,kw⟩:∃D,b[u]?=Z D:=⟨b[u]'⋯,by simp⟩;have Xm:b=b.take u++D::b.drop (u+1):=by
    let⟨ap,d⟩:=fs.mp kw;rw[<-d,<-jA ap,ff]
   have as:(b.take u++b.drop (u+1)).Sublist b:=by
    conv=>rhs;rw[Xm]
    exact (List.Sublist.refl _).append (.cons _<|.refl _)
   have nl:D∉b.take u++b.drop (u+1):=λc=>by
    have ah:=O.ah;rw[Xm]at ah;have ah:=dJ.mp ah;rcases c5.mp c with x|x
    ·exact ah.2.2 D x D (.head _) rfl
    ·exact (gb.mp ah.2.1).1 x
   have lc:∀h,d_ b h↔d_ (b.take u++b.drop (u+1)) h\/h=D:=λh=>by
    show h∈b↔h∈b.take u++b.drop (u+1)\/h=D
    conv=>lhs;rw[Xm]
    rw[c5,b8,c5];exact⟨λc=>c.elim (λg=>.inl<|.inl g) λc=>c.elim .inr λg=>.inl<|.inr g,λc=>c.elim (λc=>c.elim .inl λg=>.inr<|.inr g) λg=>.inr<|.inl g⟩
   let⟨a,P,S⟩:=pg (O.ah.sublist as) (dx as.length_le ⋯) (λh H=>O.bn h<|as.subset H) bI r;have nm:=S.one J lc;have lf:cD (aE<|b.take u) (aE<|b.drop<|u+1)=Z (aE<|b.take u++b.drop (u+1)):=by
    show (if ((b.take u).map aH).length+((b.drop<|u+1).map aH).length<=100000 then Z (ak.im<|.tup<|(b.take u).map aH++(b.drop<|u+1).map aH) else Y)=_;rw[aM (by rw[ba,ba,gf,gH];lia),<-f_]
   have cd:mx (aE b) Y (Z (u:Int))=Z (aE<|b.take u):=by
    show Z (ak.im<|.tup<|hq (b.map aH) Y<|Z (u:Int))=_;rw[xy,TL]
   have li:mx (aE b) (Z<|(u:Int)+1) Y=Z (aE<|b.drop<|u+1):=by
    show Z (ak.im<|.tup<|hq (b.map aH) (Z<|(u:Int)+1) Y)=_;rw[xy,show ((u:Int)+1)=((u+1:Nat):Int) by lia,Jo]
   have Xn:bO (hr ek ek (ab<|aA gV (aj 5)<|ab<|ay<|.int 1) (ab<|bc 1 (G.i0 bI r)<|ai (ab<|aA cD (ab<|iW (aj 3) jE<|ki<|dG 10)<|ab<|iW (aj 3) (ki<|aA cD (aj 10)<|ab<|ay<|.int 1) jE) aD)<|ab<|aA cD (aj 5)<|ab<|ay<|.int 2) (et Wi o (Z<|.lst N) (Z<|aE b) (Z<|aE Wy) (Z<|az k) (Z<|aE Wa) (Z<|aE Xd) (Z<|.im<|aH (e,l)) (Z<|aE s)<|Z<|az u)=Z (X,(et Wi o (Z<|.lst N) (Z<|aE b) (Z<|aE Wy) (Z<|az k) (Z<|aE Wa) (Z<|aE Xd) (Z<|.im<|aH (e,l)) (Z<|aE s)<|Z<|az u)):=by
    have R:(decide ((k:Int)-1<=a)&&decide ((a:Int)<=k+2))=X:=by
     rw[du (show (k:Int)-1<=a by lia),du (show (a:Int)<=k+2 by lia)];rfl
    rw[<-R];exact wQ (e:=.bW (az<|(k:Int)-1)) (l:=.bW (az a)) (x:=.bW (az<|(k:Int)+2)) rfl (a8<|cW (Wn:=[.bW (aE<|b.take u++b.drop (u+1))]) (bR (a8<|b_ (a8<|CD rfl rfl rfl rfl cd) (a8<|CD rfl rfl rfl rfl li) rfl rfl lf) rfl) rfl rfl P rfl) rfl rfl rfl
   refine⟨Z<|az u,.lst N,jZ (d7 (eb ((Eo b).trans (by rw[dQ x];rfl)))) ?_⟩;exact bz (V_:=(et Wi o (Z<|.lst N) (Z<|aE b) (Z<|aE Wy) (Z<|az k) (Z<|aE Wa) (Z<|aE Xd) (Z<|.im<|aH (e,l)) (Z<|aE s)<|Z<|az u)) (lP (cW (Wn:=[.a4 2,.bW<|az b.length]) (bR rfl<|bR (a8<|dF (bR rfl rfl) rfl<|Ht b) rfl) rfl rfl jp rfl) (ec rfl) rfl) (gm (mh Xn) rfl)
 let⟨an,T,am⟩:=am;refine⟨Z T,Z<|aE b,Z<|aE Wy,Z<|az k,Z<|aE Wa,Z<|aE Xd,Z<|.im<|aH (e,l),Z<|aE s,an,?_⟩;unfold tx;refine bz hm (bz hw<|bz (V_:=et Wi o (Z<|.lst q) (Z<|aE b) (Z<|aE Wy) (Z<|az k) WX Xf Xb n j) (gx (cW (Wn:=[.a4 3]) rfl rfl rfl f0 rfl) (ec rfl) rfl) ?_);refine bz (gm (o1 (d7<|eb<|lt k)<|mh<|ni (a8<|dF (bR (a8 h0) rfl) rfl<|rp V6) rfl rfl) rfl) ?_;refine bz (V_:=et Wi o (Z<|.lst q) (Z<|aE b) (Z<|aE Wy) (Z<|az k) (Z<|aE Wa) Xf Xb n j) (gx (cW (Wn:=[.a4 3,.a4 4]) rfl rfl rfl f4 rfl) (ec rfl) rfl) ?_;refine bz (V_:=et Wi o (Z<|.lst q) (Z<|aE b) (Z<|aE Wy) (Z<|az k) (Z<|aE Wa) (Z<|aE Xd) Xb n j) (gx (dF (bR (a8 bm) rfl) rfl rfl) (ec rfl) rfl) ?_;refine bz (V_:=et Wi o (Z<|.lst q) (Z<|aE b) (Z<|aE Wy) (Z<|az k) (Z<|aE Wa) (Z<|aE Xd) Xb n j) (gm (d7 (b_ (a8<|cW (Wn:=[.a4 6]) rfl rfl rfl ge rfl) (a8<|b_ rfl (a8<|cW (Wn:=[.a4 7]) rfl rfl rfl P rfl) rfl rfl rfl) rfl rfl ((Hq _ _).trans (by rw[du (show (i:Int)=(k:Int)+(a:Int) by lia)];rfl)))) rfl) ?_;refine bz (V_:=et Wi o (Z<|.lst y) (Z<|aE b) (Z<|aE Wy) (Z<|az k) (Z<|aE Wa) (Z<|aE Xd) (Z<|.im<|aH (e,l)) n j) (lP (qg (eC (cT<|cW (Wn:=[.a4 2,.bW<|az 12]) rfl rfl rfl gt rfl)<|eC (cT<|cW (Wn:=[.a4 2,.bW<|az 12]) rfl rfl rfl g2 rfl) rfl) rfl (f7 rfl) rfl) (ec rfl) rfl) ?_;refine bz (V_:=et Wi o (Z<|.lst y) (Z<|aE b) (Z<|aE Wy) (Z<|az k) (Z<|aE Wa) (Z<|aE Xd) (Z<|.im<|aH (e,l)) (Z<|aE s) j) (gx (dF (bR (a8 Q) rfl) rfl rfl) (ec rfl) rfl) ?_;refine bz (gm (o1 (mh<|V_ j)<|d7<|b_ (a8<|cW (Wn:=[.a4 9]) rfl rfl rfl ca rfl) rfl rfl rfl<|lt L) rfl) ?_;exact am
def Sk(bI h:af)(Wi:List Int)(r:Wi.length<100000):∃E,qZ bI h [.dY (Wi.map .int)]=Z (.im<|.aB X,E):=by
 obtain⟨k,j,s,t⟩:∃k:Int,k=(if (if (Wi.length:Int)<6 then (Wi.length:Int) else 6)>1 then (if (Wi.length:Int)<6 then (Wi.length:Int) else 6) else 1)/\1<=k/\k<=6:=⟨_,rfl,by split<;>lia,by split<;>(try split)<;>lia⟩;let⟨R,l,⟨i,WJ,b,W6,WQ,WX,Xf,Xb,c,g,rfl⟩⟩:=JH (WC:=bj 1) (f:=tx bI h) (z:=iT 0 k.toNat) (λa w=>∃i WJ b W6 WQ WX Xf Xb c g,w=[Z (.dY<|Wi.map .int),i,WJ,b,W6,WQ,WX,Xf,Xb,c,g]) (w:=[Z (.dY<|Wi.map .int),Y,Y,Y,Y,Y,Y,Y,Y,Y,Y]) ⟨Y,Y,Y,Y,Y,Y,Y,Y,Y,Y,rfl⟩
  (λa e w m eE=>by
   let⟨i,WJ,b,W6,WQ,WX,Xf,Xb,c,g,rfl⟩:=eE;let⟨V0,n⟩:=fs.mp m;have u:a<k.toNat:=by rwa [iT,ba,hA]at V0
   have WM:e=.int (0+(a:Int)):=by
    rw[<-n];simp[iT]
   subst WM;let⟨W2,v,x,y,A,B,C,D,gg,d⟩:=RH (bI:=bI) (r:=h) (Wi:=Wi) (o:=0+(a:Int)) (WJ:=WJ) (B:=b) (W6:=W6) (WQ:=WQ) (WX:=WX) (Xf:=Xf) (Xb:=Xb) (n:=c) (j:=g) ⋯ ⋯;exact⟨[Z (.dY<|Wi.map .int),Z<|az<|0+(a:Int),WJ,b,W6,WQ,WX,Xf,Xb,c,g],.bB,_,rfl,d,.inl rfl,_,_,_,_,_,_,_,_,_,_,rfl⟩)
 refine⟨[.dY (Wi.map .int)],?_⟩;unfold qZ C2;have p:qN k:=⟨⋯,⋯⟩;have gG:eS [.dY (Wi.map .int)]=Z (az (Wi.length:Int)):=by
  show Z (az ((Wi.map V.int).length:Int))=_;rw[ba]
 have ag:iB (ai (ab<|b7 tb<|ai (ab<|ay<|.int 1)<|ai (ab<|b7 rg<|ai (ab<|ay<|.int 6)<|ai (ab<|b7 eS<|ai (aj 0) aD) aD) aD) aD) [Z (.dY<|Wi.map .int),Y,Y,Y,Y,Y,Y,Y,Y,Y,Y]=Z ((iT 0 k.toNat,Y),[Z (.dY<|Wi.map .int),Y,Y,Y,Y,Y,Y,Y,Y,Y,Y]):=by
  have q:=P2 6 (Wi.length:Int);have W5:=U_ 1 (if (Wi.length:Int)<6 then (Wi.length:Int) else 6);rw[<-j]at W5;exact wW (bR (a8<|dF (bR rfl<|bR (a8<|dF (bR rfl<|bR (a8<|dF rfl rfl gG) rfl) rfl q) rfl) rfl W5) rfl) rfl p
 exact eI (w:=[Z (.dY<|Wi.map .int),i,WJ,b,W6,WQ,WX,Xf,Xb,c,g]) rfl (bz (jO ag l rfl) rfl) rfl
end G
namespace L2
end L2
namespace L2
open Spec PyProof.Rows
section
variable{b:aQ}
variable{a i:Nat}{e l:aI}{g f:bu}{u o x Wk:Pos}
def R6{WZ:eZ}{k WO t}(F:b.calm=X)(C:b.N.Nodup)(V0:b.N[a]?=Z e)(H:b.N[i]?=Z l)(I:hy b.env.scope e)(J:hy b.env.scope l)(L:hR b [g,f] WZ)(M:tu [.Tuple [.Name e u,.Name l o] k x] (.Tuple [g,f] WO t) b.env=pure Y)(av:vd [.Tuple [.Name e u,.Name l o] k x] (.Tuple [g,f] WO t) Wk.line b.env=pure au)(O:(fx [.Tuple [.Name e u,.Name l o] k x] b.env).map (·.2)=[hS (.Tuple [.Name e u,.Name l o] k x) b.env])(P:(fx [.Name e u,.Name l o] b.env).length=2)(Q:(fx [.Name e u,.Name l o] b.env).findIdx? (·.1)=Y)(W8:b.fn e=X\/b.env.scope.names.lookup e=Z .local)(R:b.fn l=X\/b.env.scope.names.lookup l=Z .local):
  hU b (.Assign [.Tuple [.Name e u,.Name l o] k x] (.Tuple [g,f] WO t) Wk) (L7 a i WZ):=by
 intro G n B j w A c;refine JT (Tuple_<|bU (L _ G n B j _ A c) λWl h ⟨V4,Wc,U,al,y⟩=>?_) av M;let⟨v,D,z,y⟩:=y;subst z;obtain⟨m,q,rfl,am,an⟩:∃m q,Wl=[m,q]/\b5 v m/\b5 D q:=by
  cases al with
  |cons s r=>
   cases r with
   |cons ap as=>
    cases as;exact⟨_,_,rfl,s,ap⟩
 refine fu ?_ (by show 2<=sizeLine;decide);have a1:aK b G B Wc {h with heap:=h.heap.push {cls:=.type "tuple",data:=.seq [m,q].toArray} }:=U.kept (WE:=h.toks) λf p d=>b0 _ d;rw[O];show wpAny _ _ (hS (.Tuple [.Name e u,.Name l o] k x) b.env<|.ref h.heap.objs.size) _ _ _;refine BI (items:=#[m,q]) (A.ok.hd F) (nK.new h.heap _) (by rw[P];rfl) Q λT a2=>?_;have bd:=a1.kept (T:=T) (WE:=h.toks) λf p d=>a2 f p (dg<|b4 d) d;have be:oy b [.Name e u,.Name l o] _:=zi (yf C V0 I W8) (zi (yf C H J R) JQ);refine bU (be G _ B Wc [v,D] [m,q] (λE V1=>E=(B.set a<|Z v).set i (Z D)/\V1=Wc) bd (.cons am<|.cons an .nil) ⟨v,[D],rfl,D,[],rfl,rfl,rfl,rfl⟩) λ_ bn ⟨E,V1,bi,z,bm⟩=>?_;subst z bm;exact⟨_,_,bi,y⟩
def vu{WH:List Nat}{F:aw (List bK)}{k WO h}(q:b.calm=X)(s:b.N.Nodup)(V0:b.N[a]?=Z e)(y:b.N[i]?=Z l)(z:hy b.env.scope e)(A:hy b.env.scope l)(D:fE b [g,f] F)(E:a∉WH)(G:i∉WH)(H:tu [.Tuple [.Name e u,.Name l o] k x] (.Tuple [g,f] WO h) b.env=pure Y:=by rfl)(av:vd [.Tuple [.Name e u,.Name l o] k x] (.Tuple [g,f] WO h) Wk.line b.env=pure au:=by rfl)(I:(fx [.Tuple [.Name e u,.Name l o] k x] b.env).map (·.2)=[hS (.Tuple [.Name e u,.Name l o] k x) b.env]:=by rfl)(M:(fx [.Name e u,.Name l o] b.env).length=2:=by rfl)(Q:(fx [.Name e u,.Name l o] b.env).findIdx? (·.1)=Y:=by rfl)(W8:b.fn e=X\/b.env.scope.names.lookup e=Z .local:=by first|exact .inl rfl|exact .inr rfl|assumption)(T:b.fn l=X\/b.env.scope.names.lookup l=Z .local:=by first|exact .inl rfl|exact .inr rfl|assumption):
  iy b WH (.Assign [.Tuple [.Name e u,.Name l o] k x] (.Tuple [g,f] WO h) Wk) (kM a i F):=by
 refine k3 (R6 q s V0 y z A D H av I M Q W8 T) λU B j ⟨w,P,aW,R,N,ah,al,r⟩=>?_;let⟨⟨Wn,V_⟩,t,C⟩:=bN.mp al;let⟨⟨J,WB⟩,am,c⟩:=bN.mp C;refine⟨w,P,Wn,V_,N,ah,t,λV4 Wc Wo ce an ap as=>?_⟩;let⟨Wz,bZ,a1,Wx,WT⟩:=oA an ap am;dsimp only at c;split at c
 ·rename_i WY WW d;split at c
  ·rename_i n;cases c;let⟨v,m,O,W7,rfl,a2,bd,rfl⟩:=Wx;let⟨L,WV,ch,ci,rfl,be,⟨rfl,rfl⟩,rfl⟩:=bd;let⟨bi,p,bm,bn⟩:=a1.put (a:=a) a2 n.1;let⟨bs,bv,ca,cd⟩:=bm.put (a:=i) be (by rw[vA];exact n.2);refine⟨v,L,rfl,r _ Wc bs ((dI.set E).trans<|dI.set G) ca<|(as.kB WT.symm).less (aO:=bv++p) ?_⟩;rw[<-bC,cF,<-bC];refine (e5 p cd).trans ?_;rw[bC];refine (d9 bi dm).trans ?_;rw[<-bC];exact e5 _ bn
  ·cases c
 ·cases c
end
end L2
set_option maxHeartbeats 4000000
namespace K16
open L2 PyProof.Rows
variable{m l I:af}{H:PySem.W.OpenLaw}{h:eM}{o:Nat}{O:bD}
def dM(a:Nat):cA:=(PySem.Challenge.pw_mowfloor_k16_whole_fewest_turned_and_joi.main.body.getD a (.Pass ⟨0,0,0,0⟩))
structure eo(aJ:aI->Option ae):Prop where
 ob:aJ "all" = Y
 NP:aJ "bool" = Y
 BY:aJ "int" = Y
 ov:aJ "isinstance" = Y
 km:aJ "len" = Y
 zw:aJ "list" = Y
 Gr:aJ "max" = Y
 xi:aJ "min" = Y
 vT:aJ "range" = Y
 OU:aJ "set" = Y
 ng:aJ "sorted" = Y
 L8:aJ "str" = Y
 gD:aJ "tuple" = Y
 G2:aJ "zip" = Y
 xe:∃E,aJ "DOWN" = Z (.str "down" E)
 Gj:∃E,aJ "RIGHT" = Z (.str "right" E)
def nF:fk "all" = Z (.builtin "all"):=by decide +kernel
def Lc:fk "bool" = Z (.type "bool"):=by decide +kernel
def FL:fk "int" = Z (.type "int"):=by decide +kernel
def om:fk "isinstance" = Z (.builtin "isinstance"):=by decide +kernel
def kn:fk "len" = Z (.builtin "len"):=by decide +kernel
def yT:fk "list" = Z (.type "list"):=by decide +kernel
def Gk:fk "max" = Z (.builtin "max"):=by decide +kernel
def xD:fk "min" = Z (.builtin "min"):=by decide +kernel
def n0:fk "sorted" = Z (.builtin "sorted"):=by decide +kernel
def LC:fk "str" = Z (.type "str"):=by decide +kernel
def gM:fk "tuple" = Z (.type "tuple"):=by decide +kernel
def df(V9:eP o O):O.units+20<bS:=by have:=V9.un;omega
def Lr(V9:eP o O):O.units+30<bS:=by have:=V9.un;omega
abbrev yd:cA:=dM 1
abbrev TS:List aI:=["thing"]
abbrev n3:cA:=dM 2
abbrev SH:List aI:=["thing"]
abbrev pb:cA:=dM 20
abbrev Sd:List aI:=["thing"]
abbrev tZ:cA:=dM 3
abbrev Tc:List aI:=["thing","is_kind"]
abbrev va:cA:=dM 3
abbrev M3:List aI:=["thing","is_kind"]
abbrev u9:cA:=dM 4
abbrev OE:List aI:=["things","found","thing"]
abbrev yo:cA:=dM 8
abbrev MP:List aI:=["word","cell","many"]
abbrev yu:cA:=dM 9
abbrev SV:List aI:=["free","word","cell","many"]
abbrev wF:cA:=dM 10
abbrev De:List aI:=["floor","word","free"]
abbrev wX:cA:=dM 11
abbrev Ls:List aI:=["floor"]
abbrev zW:cA:=dM 12
abbrev Pr:List aI:=["run"]
abbrev Bn:cA:=dM 14
abbrev Vs:List aI:=["floor","held","right","cell","across","down"]
abbrev xP:cA:=dM 15
abbrev Vq:List aI:=["across","down_of","starts","came","waiting","down","right"]
abbrev zj:cA:=dM 16
abbrev T7:List aI:=["down_of","right_of","came","end","right","down","given_up"]
abbrev uq:cA:=dM 17
abbrev Fp:List aI:=["across","down_of","right_of","found"]
abbrev pC:cA:=dM 18
abbrev y7:List aI:=["floor","pairing","down_of","came","some","cells"]
abbrev vK:cA:=dM 21
abbrev Uc:List aI:=["things","found"]
abbrev wk:cA:=dM 22
abbrev Mm:List aI:=["some","floor","held","run"]
abbrev wc:cA:=dM 23
abbrev Sb:List aI:=["cells","every","picked"]
abbrev uA:cA:=dM 24
abbrev L6:List aI:=["floor","some","cells","every"]
abbrev z2:cA:=dM 26
abbrev Ru:List aI:=["_law_script","_law_k"]
abbrev tE:cA:=dM 27
abbrev P9:List aI:=["_law_script","_law_k","_law_cell","_law_bound","_law_seed"]
abbrev wL:cA:=dM 28
abbrev TH:List aI:=["_law_hand_here","_law_many","_law_digit"]
abbrev yh:cA:=dM 30
abbrev TQ:List aI:=["_law_hand_here","_law_many","_law_some","_law_turn","_law_row","_law_column","_law_down","_law_right","_law_cell"]
abbrev pf:cA:=dM 29
abbrev Ao:List aI:=["_law_hand_here","_law_way","_law_high","_law_wide","_law_row","_law_column","_law_some","_law_often"]
abbrev uB:cA:=dM 31
abbrev K5:List aI:=["_law_floor_here","_law_row","_law_column"]
abbrev uw:cA:=dM 32
abbrev TM:List aI:=["_law_floor_here","_law_some","_law_cells"]
abbrev vZ:cA:=dM 33
abbrev SS:List aI:=["_law_floor_here","_law_some","_law_one"]
abbrev rv:cA:=dM 34
abbrev FG:List aI:=["_law_one","_law_other","_law_row","_law_made"]
abbrev tw:cA:=dM 35
abbrev E5:List aI:=["_law_script","_law_k","_law_hand_here","_law_one","_law_other","_law_many","_law_both_here","_law_rest","_law_cell","_law_more","_law_at"]
section
variable{Wd:bJ}{D:bl}{V2:Φ}{aJ:aI->Option ae}{Wh:aY}
abbrev Ac(h:eM)(I:af):Prop:=e1 h 1 "is_whole" yd I ["thing"] 1 G.v5
def KL(P:dV h.K h.aJ "is_whole" yd I ["thing"])(V6:eo h.aJ):Ac h I:=by
 refine eA TS P λah x O W0 n j U V9=>?_;exact (cf<|c7<|n5 (jG<|oc rfl V6.ov om rfl V6.BY FL<|aG 0)<|jG<|vm<|Ob<|jG<|oc rfl V6.ov om rfl V6.NP Lc<|aG 0)
abbrev FU(h:eM)(I:af):Prop:=e1 h 2 "is_pair" n3 I ["thing"] 1 G.nd
def SO(P:dV h.K h.aJ "is_pair" n3 I ["thing"])(V6:eo h.aJ){b:af}(a:Ac h b):FU h I:=by
 refine eA SH P λah x O W0 n j U V9=>?_;exact (cf<|c7<|n5 (jG<|oc rfl V6.ov om rfl V6.gD gM<|aG 0)<|n5 (jG<|oJ (pw<|df V9) (aX<|eD ks V6.km kn<|bH<|aG 0) a3<|eX _)<|n5 (jG<|b3 a V9<|bH<|dz V9 (aG 0) a3)<|jG<|vm<|b3 a V9<|bH<|dz V9 (aG 0) a3)
abbrev LX(h:eM)(I:af):Prop:=e1 h 3 "is_run_like" pb I ["thing"] 1 G.oj
def RS(P:dV h.K h.aJ "is_run_like" pb I ["thing"])(V6:eo h.aJ){a:af}(b:FU h a){c:af}(d:Ac h c):LX h I:=by
 refine eA Sd P λah x O W0 n j U V9=>?_;exact (bQ (fz (hM.mS<|m2 (jH<|jv<|aX<|oc rfl V6.ov om rfl V6.gD gM<|aG 0)<|nG<|eF (w0<|df V9) (aX<|eD ks V6.km kn<|bH<|aG 0) a3<|eX _) (cf<|c7 js) fD)<|cf<|c7<|n5 (jG<|oc rfl V6.ov om rfl V6.L8 LC<|dz V9 (aG 0) a3)<|n5 (jG<|b3 b V9<|bH<|dz V9 (aG 0) a3)<|jG<|vm<|b3 d V9<|bH<|dz V9 (aG 0) a3)
def Kd(P:dV V2 aJ "is_rising" tZ I ["thing","is_kind"])(V6:eo aJ){b:af}(aS:dB Wd D V2 aJ Wh 3 "is_run_like" pb b ["thing"] 1 G.oj):
  dB Wd D V2 aJ Wh 4 "is_rising" tZ I ["thing","is_kind"] 2 (G.qD b):=by
 refine eA Tc P λah x O W0 n j U V9=>?_;exact (bQ (fz (hM.mS<|m2 (jH<|jv<|aX<|oc rfl V6.ov om rfl V6.gD gM<|aG 0)<|nG<|jH<|jv<|aX<|eD (oF rfl) V6.ob nF<|bH<|aX<|gB ["part"] [1] (eN<|aG 0) (λa=>(ed 0))<|λa=>(EX aS V9 (c1 1)<|bH<|aG 0)) (cf<|c7 js) fD)<|cf<|c7<|eD (oF rfl) V6.ob nF<|bH<|aX<|gB ["ahead" ,"behind"] [] (Eu rfl V6.G2<|b9 (aG 0)<|aX<|tC (aG 0) (tY h8) wK) (λa=>(lC (ed 0)<|ed 1))<|λa=>(oJ (BP<|df V9) (aG 0) (aG 1)<|eX _))
def UN(P:dV V2 aJ "is_rising" va I ["thing","is_kind"])(V6:eo aJ){b:af}(c:dB Wd D V2 aJ Wh 2 "is_pair" n3 b ["thing"] 1 G.nd):
  dB Wd D V2 aJ Wh 3 "is_rising" va I ["thing","is_kind"] 2 (G.pz b):=by
 refine eA M3 P λah x O W0 n j U V9=>?_;exact (bQ (fz (hM.mS<|m2 (jH<|jv<|aX<|oc rfl V6.ov om rfl V6.gD gM<|aG 0)<|nG<|jH<|jv<|aX<|eD (oF rfl) V6.ob nF<|bH<|aX<|gB ["part"] [1] (eN<|aG 0) (λa=>(ed 0))<|λa=>(EX c V9 (c1 1)<|bH<|aG 0)) (cf<|c7 js) fD)<|cf<|c7<|eD (oF rfl) V6.ob nF<|bH<|aX<|gB ["ahead" ,"behind"] [] (Eu rfl V6.G2<|b9 (aG 0)<|aX<|tC (aG 0) (tY h8) wK) (λa=>(lC (ed 0)<|ed 1))<|λa=>(oJ (BP<|df V9) (aG 0) (aG 1)<|eX _))
abbrev w2(h:eM)(I:af):Prop:=e1 h 1 "lookup" u9 I ["things"] 1 G.ia
def Ly(P:dV h.K h.aJ "lookup" u9 I ["things"])(V6:eo h.aJ):w2 h I:=by
 refine eA OE P λah x O W0 n j U V9=>?_;exact (bQ (es 1 ah nS) (bQ (l9 (W8:=[0]) jc rfl (eN<|aG 0) (g6 2 ah) (cf<|iH js<|lM (c1 1) (fi<|c1 2)<|qU<|df V9) ∅ (DZ ∅))<|cf<|c7<|fi<|c1 1))
abbrev ux(h:eM)(I:af):Prop:=e1 h 1 "further" yo I ["word","cell","many"] 3 G.qA
def Tb(P:dV h.K h.aJ "further" yo I ["word","cell","many"])(V6:eo h.aJ):ux h I:=by
 refine eA MP P λah x O W0 n j U V9=>?_;exact (bQ (fz (eF (pw<|df V9) (aG 0) (aX<|sE rfl V6.xe.choose_spec)<|eX _) (cf (c7 (gw (by exact (b9 (cS e7 (dz V9 (aG 1) a3)<|aG 2)<|dz V9 (aG 1) a3))))) fD) (cf (c7 (gw (by exact (b9 (dz V9 (aG 1) a3)<|cS e7 (dz V9 (aG 1) a3)<|aG 2))))))
abbrev BZ(h:eM)(I:af):Prop:=e1 h 2 "run_from" yu I ["free","word","cell"] 3 G.rJ
def LG(P:dV h.K h.aJ "run_from" yu I ["free","word","cell"])(V6:eo h.aJ){b:af}(c:ux h b):BZ h I:=by
 refine eA SV P λah x O W0 n j U V9=>?_;exact (bQ (es 3 ah h8) (bQ (um 1000000 jc (eF (vg<|df V9) (aX<|b3 c V9<|jg (aG 1) (aG 2)<|aG 3) (aG 0) rfl) (cf (T8 (a:=3) ah rfl (Or.inl rfl) h8 PH ∅))) (cf (c7 (gw (by exact (jg (aG 1) (aG 2)<|aG 3)))))))
abbrev yb(h:eM)(I:af):Prop:=e1 h 3 "runs_of_word" wF I ["floor","word"] 2 G.l_
def Nx(P:dV h.K h.aJ "runs_of_word" wF I ["floor","word"])(V6:eo h.aJ){c:af}(d:w2 h c){e:af}(f:ux h e){g:af}(i:BZ h g):yb h I:=by
 refine eA De P λah x O W0 n j U V9=>?_;exact (bQ (mb (a:=2) ah rfl (Or.inr rfl) (b3 d V9<|bH<|aG 0) ∅) (cf (c7 (n8 (own:=["cell"]) (WD:=[1,2]) rfl (ly (d2 wF) De (by decide +kernel)) ∅ (eN<|aG 0) (λb=>(ed 0)) (λb=>(px<|eF (qG<|df V9) (aX<|b3 f V9<|jg (aG 1) (aG 0)<|aX<|qJ h8) (aG 2) rfl))<|λb=>(b3 i V9<|jg (aG 2) (aG 1)<|aG 0)))))
abbrev J_(h:eM)(I:af):Prop:=e1 h 4 "runs" wX I ["floor"] 1 G.r7
def Mp(P:dV h.K h.aJ "runs" wX I ["floor"])(V6:eo h.aJ){b:af}(a:yb h b):J_ h I:=by
 refine eA Ls P λah x O W0 n j U V9=>?_;exact (cf<|c7<|gA ij rfl V6.gD gM<|bH<|aX<|eD (nD rfl<|df V9) V6.ng n0<|bH<|cS e7 (aX<|b3 a V9<|b9 (aG 0)<|aX<|sE rfl V6.xe.choose_spec)<|aX<|b3 a V9<|b9 (aG 0)<|aX<|sE rfl V6.Gj.choose_spec)
abbrev t9(h:eM)(I:af):Prop:=e1 h 2 "run_cells" zW I ["run"] 1 G.jz
def R7(P:dV h.K h.aJ "run_cells" zW I ["run"])(V6:eo h.aJ){a:af}(b:ux h a):t9 h I:=by
 refine eA Pr P λah x O W0 n j U V9=>?_;exact (cf<|c7<|gB ["many"] [0] (v7 rfl V6.vT<|bH<|dz V9 (aG 0) a3) (λc=>(ed 0))<|λc=>(b3 b V9<|jg (dz V9 (aG 1) a3) (dz V9 (aG 1) a3)<|aG 0))
abbrev Ga(h:eM)(I:af):Prop:=e1 h 4 "runs_across" Bn I ["floor"] 1 G.ub
def P6(P:dV h.K h.aJ "runs_across" Bn I ["floor"])(V6:eo h.aJ){d:af}(b:yb h d){e:af}(c:t9 h e):Ga h I:=by
 refine eA Vs P λah x O W0 n j U V9=>?_;exact (bQ (mb (a:=1) ah rfl (Or.inr rfl) nS ∅) (bQ (l9 (W8:=[0]) jc rfl (eN<|aX<|b3 b V9<|b9 (aG 0)<|aX<|sE rfl V6.Gj.choose_spec) (g6 2 ah) (cf (l9 (W8:=[0]) jc rfl (eN<|aX<|b3 c V9<|bH<|aG 2) (g6 3 ah) (cf<|iH (fi<|c1 2)<|lM (c1 1) (fi<|c1 3)<|qU<|df V9) ∅ rf)) ∅ rf) (bQ (es 4 ah nS) (bQ (l9 (W8:=[0]) jc rfl (eN<|aX<|b3 b V9<|b9 (aG 0)<|aX<|sE rfl V6.xe.choose_spec) (g6 5 ah) (cf<|iH (TB<|gB ["cell"] [1] (eN<|aX<|b3 c V9<|bH<|aG 5) (λf=>(ed 0))<|λf=>(ju V9 (aG 1)<|aG 0))<|lM (c1 4) (fi<|c1 5)<|qU<|df V9) ∅ rf)<|cf<|c7<|Es<|fi<|c1 4))))
abbrev Ig(h:eM)(I:af):Prop:=e1 h 1 "search" xP I ["across","down_of","starts"] 3 G.nV
def P7(P:dV h.K h.aJ "search" xP I ["across","down_of","starts"])(V6:eo h.aJ):Ig h I:=by
 refine eA Vq P λah x O W0 n j U V9=>?_;exact (bQ (es 3 ah nS) (bQ (es 4 ah<|gA xx rfl V6.zw yT<|bH<|aG 2) (bQ (um 1000000 jc (jv<|aG 4) (bQ (es 5 ah<|UZ qa qb PySem.F.slot_list_pop PySem.F.type_list_pop Vr<|c1 4) (cf (l9 (W8:=[0,1,2]) jc rfl (eN<|aX<|RX<|ju V9 (aG 0)<|aG 5) (g6 6 ah) (cf (fz (eF (qG<|df V9) (aG 6) (aG 3) rfl) (bQ (iH (fi<|c1 5)<|lM (c1 3) (fi<|c1 6)<|qU<|df V9) (bQ (fz (eF (qG<|df V9) (aG 6) (aG 1) rfl) (cf (c7 (gw (by exact (b9 (aG 3)<|aG 6))))) fD)<|cf<|oL<|qw qa qb r_ rt rk (c1 4)<|bH<|dz V9 (aG 1)<|aG 6)) fD)) ∅ rf)))) (cf (c7 (gw (by exact (b9 (aG 3)<|aX zN))))))))
abbrev E7(h:eM)(I:af):Prop:=e1 h 1 "pair_along" zj I ["down_of","right_of","came","end"] 4 G.wz
def PQ(P:dV h.K h.aJ "pair_along" zj I ["down_of","right_of","came","end"])(V6:eo h.aJ):E7 h I:=by
 refine eA T7 P λah x O W0 n j U V9=>?_;exact (bQ (es 4 ah<|fi<|c1 3)<|cf<|um 1000000 jc (eF FW (aG 4) (aX zN)<|eX _)<|bQ (es 5 ah<|ju V9 (aG 2)<|aG 4)<|bQ (es 6 ah<|Qo (df V9) (c1 1)<|fi<|c1 5)<|bQ (iH (fi<|c1 5)<|lM (c1 0) (fi<|c1 4)<|qU<|df V9)<|bQ (iH (fi<|c1 4)<|lM (c1 1) (fi<|c1 5)<|qU<|df V9)<|cf<|es 4 ah<|fi<|c1 6)
abbrev D7(h:eM)(I:af):Prop:=e1 h 2 "greatest_pairing" uq I ["across"] 1 G.u1
def Pp(P:dV h.K h.aJ "greatest_pairing" uq I ["across"])(V6:eo h.aJ){c:af}(d:Ig h c){e:af}(f:E7 h e):D7 h I:=by
 refine eA Fp P λah x O W0 n j U V9=>?_;exact (bQ (es 1 ah nS) (bQ (mb (a:=2) ah rfl (Or.inr rfl) nS ∅) (cf (um 1000000 jc (jv<|aX js) (bQ (es 3 ah (b3 d V9 (jg (aG 0) (aG 1) (aX (n8 (own:=["down"]) (WD:=[2]) rfl (ly (d2 uq) Fp (by decide +kernel)) ∅ (Mz<|aG 0) (λb=>(ed 0)) (λb=>(px<|eF (qG<|df V9) (aG 0) (aG 1) rfl))<|λb=>(fi<|c1 0)))))) (bQ (fz (eF QH (aX<|qy (c1 3) n6) (aX zN)<|eX _) (cf (c7 (gw (by exact (b9 (aG 1)<|aX<|qy (c1 3) n6))))) fD) (cf (oL (b3 f V9 (nR (aG 1) (by exact (jg (aG 2) (aX<|qy (c1 3) n6)<|aX<|qy (c1 3) n6))))))))))))
abbrev OZ(h:eM)(I:af):Prop:=e1 h 5 "fewest_runs" pC I ["floor"] 1 G.ro
def J8(P:dV h.K h.aJ "fewest_runs" pC I ["floor"])(V6:eo h.aJ){c:af}(d:D7 h c){e:af}(f:Ga h e):OZ h I:=by
 refine eA y7 P λah x O W0 n j U V9=>?_;exact (bQ (es 1 ah<|b3 d V9<|bH<|aX<|b3 f V9<|bH<|aG 0) (bQ (es 2 ah<|Es<|qy (c1 1) n6) (bQ (mb (a:=3) ah rfl (Or.inr rfl) (qy (c1 1) n6) ∅) (bQ (Bh (a:=4) (own:=["right" ,"down"]) (WD:=[3]) ah rfl (Or.inl rfl) rfl (ly (d2 pC) y7 (by decide +kernel)) ∅ (Gn<|aG 2) (λb=>(lC (ed 0)<|ed 1)) (λb=>wi) (λb=>(NL (eF (vg<|df V9) (aG 0) (aG 2) rfl) (fi<|c1 0)<|fi<|c1 1)) ∅) (bQ (Bh (a:=5) (own:=["right" ,"down"]) (WD:=[]) ah rfl (Or.inl rfl) rfl (ly (d2 pC) y7 (by decide +kernel)) ∅ (Gn<|aG 2) (λb=>(lC (ed 0)<|ed 1)) (λb=>wi) (λb=>(gw (by exact (b9 (dz V9 (dz V9 (aG 0) a3) a3)<|dz V9 (dz V9 (aG 1) a3) a3)))) ∅) (cf (c7 (gw (by exact (b9 (aX<|gA ij rfl V6.gD gM<|bH<|aX<|eD (nD rfl<|df V9) V6.ng n0<|bH<|aG 4)<|aX<|gA ij rfl V6.gD gM<|bH<|aX<|eD (nD rfl<|df V9) V6.ng n0<|bH<|aG 5))))))))))
abbrev Hm(h:eM)(I:af):Prop:=e1 h 1 "are_all_in" vK I ["things","found"] 2 G.n4
def MD(P:dV h.K h.aJ "are_all_in" vK I ["things","found"])(V6:eo h.aJ):Hm h I:=by
 refine eA Uc P λah x O W0 n j U V9=>?_;exact (cf<|c7<|eD (oF rfl) V6.ob nF<|bH<|aX<|gB ["thing"] [1] (eN<|aG 0) (λa=>(ed 0))<|λa=>(oJ (vg<|df V9) (aG 0) (aG 1) rfl))
abbrev QN(h:eM)(I:af):Prop:=e1 h 3 "hold_all" wk I ["some","floor"] 2 G.sy
def Ql(P:dV h.K h.aJ "hold_all" wk I ["some","floor"])(V6:eo h.aJ){a:af}(b:w2 h a){c:af}(d:t9 h c){e:af}(f:Hm h e):QN h I:=by
 refine eA Mm P λah x O W0 n j U V9=>?_;exact (bQ (es 2 ah nS) (bQ (l9 (W8:=[0,1]) jc rfl (eN<|aG 0) (g6 3 ah) (cf<|oL<|qw NK FE F2 PySem.F.type_dict_update (OF<|df V9) (c1 2)<|bH<|aX<|b3 b V9<|bH<|aX<|b3 d V9<|bH<|aG 3) ∅ (DZ ∅))<|cf<|c7<|b3 f V9<|b9 (aG 1)<|aG 2))
abbrev Kr(h:eM)(I:af):Prop:=e1 h 3 "are_apart" wc I ["cells","every"] 2 G.sT
def Q4(P:dV h.K h.aJ "are_apart" wc I ["cells","every"])(V6:eo h.aJ){c:af}(d:w2 h c){e:af}(f:t9 h e):Kr h I:=by
 refine eA Sb P λah x O W0 n j U V9=>?_;exact (bQ (mb (a:=2) ah rfl (Or.inr rfl) (b3 d V9<|bH<|aG 0) ∅) (cf (c7 (eD (oF rfl) V6.ob nF (bH (aX (gB ["run"] [2] (eN<|aG 1) (λb=>(ed 0)) (λb=>(oJ lg (aX (eD ks V6.km kn (bH (aX (n8 (own:=["cell"]) (WD:=[1]) rfl (Mw (by with_unfolding_all rfl)) ∅ (eN<|aX<|b3 f V9<|bH<|aG 0) (λb=>(ed 0)) (λb=>(px<|eF (vg<|df V9) (aG 0) (aG 1) rfl))<|λb=>(fi<|c1 0)))))) a3<|eX _)))))))))
def PT(P:dV V2 aJ "shows_fewest" uA I ["floor","some","cells"])(V6:eo aJ){a:af}(aS:dB Wd D V2 aJ Wh 3 "is_run_like" pb a ["thing"] 1 G.oj){b:af}(e:dB Wd D V2 aJ Wh 2 "is_pair" n3 b ["thing"] 1 G.nd){f:af}(g:dB Wd D V2 aJ Wh 4 "is_rising" tZ f ["thing","is_kind"] 2 (G.qD a)){h:af}(i:dB Wd D V2 aJ Wh 3 "is_rising" va h ["thing","is_kind"] 2 (G.pz b)){l:af}(o:dB Wd D V2 aJ Wh 4 "runs" wX l ["floor"] 1 G.r7){p:af}(c:dB Wd D V2 aJ Wh 1 "are_all_in" vK p ["things","found"] 2 G.n4){q:af}(d:dB Wd D V2 aJ Wh 1 "lookup" u9 q ["things"] 1 G.ia){r:af}(s:dB Wd D V2 aJ Wh 3 "hold_all" wk r ["some","floor"] 2 G.sy){t:af}(u:dB Wd D V2 aJ Wh 3 "are_apart" wc t ["cells","every"] 2 G.sT):
  dB Wd D V2 aJ Wh 5 "shows_fewest" uA I ["floor","some","cells"] 3 (G.sr b a):=by
 refine eA L6 P λah x O W0 n j U V9=>?_;exact (bQ (fz (hM.mS<|m2 (jH<|jv<|aX<|b3 g V9<|b9 (aG 1)<|aX<|CG rfl aS.m)<|m2 (jH<|jv<|aX<|b3 i V9<|b9 (aG 2)<|aX<|CG rfl e.m)<|nG<|eF (w0<|df V9) (aX<|eD ks V6.km kn<|bH<|aG 1) (aX<|eD ks V6.km kn<|bH<|aG 2)<|eX _) (cf<|c7 js) fD)<|bQ (es 3 ah<|b3 o V9<|bH<|aG 0)<|bQ (fz (hM.mS<|m2 (jH<|jv<|aX<|b3 c V9<|b9 (aG 1)<|aX<|b3 d V9<|bH<|aG 3)<|nG<|jH<|jv<|aX<|b3 c V9<|b9 (aG 2)<|aX<|b3 d V9<|bH<|aG 0) (cf<|c7 js) fD)<|cf<|c7<|n5 (jG<|b3 s V9<|b9 (aG 1)<|aG 0)<|jG<|vm<|b3 u V9<|b9 (aG 2)<|aG 3)
abbrev EA(h:eM)(I:af):Prop:=e1 h 1 "_law_cell_at" z2 I ["_law_script","_law_k"] 2 G.r9
def PZ(P:dV h.K h.aJ "_law_cell_at" z2 I ["_law_script","_law_k"])(V6:eo h.aJ):EA h I:=by
 refine eA Ru P λah x O W0 n j U V9=>?_;exact (bQ (fz (eF ph (aG 1) (aX<|eD ks V6.km kn<|bH<|aG 0)<|eX _) (cf<|c7<|ju V9 (aG 0)<|aG 1) fD)<|cf<|c7 h8)
abbrev Qy(h:eM)(I:af):Prop:=e1 h 2 "_law_hand" tE I ["_law_script","_law_k"] 2 G.qX
def TC(P:dV h.K h.aJ "_law_hand" tE I ["_law_script","_law_k"])(V6:eo h.aJ){a:af}(b:EA h a):Qy h I:=by
 refine eA P9 P λah x O W0 n j U V9=>?_;exact (bQ (es 2 ah<|b3 b V9<|b9 (aG 0)<|aG 1) (bQ (es 3 ah<|kD kp (cS kp (cS tR a3 a3)<|cS tR a3 a3)<|cS tR a3 a3) (bQ (es 4 ah<|kD m8 (cS kp (cS e7 (cS e7 (cS m8 (aG 2) a3)<|cS kp (cS kp a3<|aG 1)<|aG 1) a3) a3) a3) (cf (c7 (mi (by exact (jg (cS kp (cS m8 (aG 2)<|aG 3)<|aX<|gA Sq rfl V6.BY FL<|bH<|aX<|oJ O2 (aG 2) (cS tR a3 a3)<|eX _) (aG 4) a3))))))))
abbrev xQ(h:eM)(I:af):Prop:=e1 h 1 "_law_pick" wL I ["_law_hand_here","_law_many"] 2 G.dD
def Vg(P:dV h.K h.aJ "_law_pick" wL I ["_law_hand_here","_law_many"])(V6:eo h.aJ):xQ h I:=by
 refine eA TH P λah x O W0 n j U V9=>?_;exact (bQ (fz (eF Dh (dz V9 (aG 0) a3) a3<|eX _) (bQ (es 2 ah<|kD m8 (dz V9 (aG 0) a3)<|aG 1)<|bQ (iH (kD zQ (dz V9 (aG 0) a3)<|aG 1)<|lM (c1 0) h8<|zV<|df V9)<|cf<|c7<|fi<|c1 2) fD)<|bQ (iH (kD e7 (dz V9 (aG 0) a3) a3)<|lM (c1 0) h8<|zV<|df V9)<|bQ (iH (kD m8 (cS e7 (cS e7 (cS kp (dz V9 (aG 0) a3) a3) a3)<|cS kp a3<|dz V9 (aG 0) a3) a3)<|lM (c1 0) h8<|zV<|df V9)<|cf<|c7<|kD m8 (cS zQ (cS m8 (cS kp (dz V9 (aG 0) a3)<|dz V9 (aG 0) a3) a3) a3)<|aG 1)
abbrev Gv(h:eM)(I:af):Prop:=e1 h 2 "_law_grown" yh I ["_law_hand_here","_law_many"] 2 G.wY
def SG(P:dV h.K h.aJ "_law_grown" yh I ["_law_hand_here","_law_many"])(V6:eo h.aJ){b:af}(a:xQ h b):Gv h I:=by
 refine eA TQ P λah x O W0 n j U V9=>?_;exact (bQ (es 2 ah (mi (by exact (bH (jW (by exact (b9 (aX<|b3 a V9<|b9 (aG 0) a3)<|aX<|b3 a V9<|b9 (aG 0) a3))))))) (bQ (l9 (W8:=[0,1]) jc rfl (v7 rfl V6.vT<|bH<|cS kp a3<|aG 1) (g6 3 ah) (bQ (iH (ju V9 (aG 2)<|aX<|b3 a V9<|b9 (aG 0)<|aX<|eD ks V6.km kn<|bH<|aG 2)<|lC (g6 4 ah)<|g6 5 ah) (bQ (fz (eF (pw<|df V9) (aX<|b3 a V9<|b9 (aG 0) a3) a3<|eX _) (cf<|iH (ju V9 (aG 2)<|aX<|qJ h8)<|lC (g6 4 ah)<|g6 5 ah) fD) (bQ (iH (ju V9 (aX (mi (by exact (nR (jW (by exact (b9 a3 a3))) (by exact (jg (jW (by exact (b9 a3 a3))) (jW (by exact (b9 a3<|aX<|qJ h8))) (jW (by exact (b9 (aX<|qJ h8) a3)))))))))<|aX<|b3 a V9<|b9 (aG 0) a3)<|lC (g6 6 ah)<|g6 7 ah) (bQ (es 8 ah (gw (by exact (b9 (cS e7 (aG 4)<|aG 6)<|cS e7 (aG 5)<|aG 7))))<|cf<|fz (hM.mS<|yK (eF (qG<|df V9) (aG 8) (aG 2) rfl)<|yK (eF ph (aX<|eD ks V6.km kn<|bH<|aG 2) (aG 1)<|eX _)<|yK (ui lg lg a3 (dz V9 (aG 8) a3) a3)<|UI<|ui lg lg a3 (dz V9 (aG 8) a3) a3) (cf<|oL<|qw qa qb r_ rt rk (c1 2)<|bH<|aG 8) fD)))) ∅ Gx)<|cf<|c7<|gA ij rfl V6.gD gM<|bH<|aX<|eD (nD rfl<|df V9) V6.ng n0<|bH<|aG 2))
abbrev Sf(h:eM)(I:af):Prop:=e1 h 3 "_law_floor" pf I ["_law_hand_here"] 1 G.m_
def K3(P:dV h.K h.aJ "_law_floor" pf I ["_law_hand_here"])(V6:eo h.aJ){d:af}(b:xQ h d){e:af}(f:Gv h e):Sf h I:=by
 refine eA Ao P λah x O W0 n j U V9=>?_;exact (bQ (es 1 ah<|b3 b V9<|b9 (aG 0) a3) (bQ (vu (a:=2) (i:=3) rfl ah rfl rfl (Or.inl rfl) (Or.inr rfl) (b9 (cS e7 a3<|aX<|b3 b V9<|b9 (aG 0) a3)<|cS e7 a3<|aX<|b3 b V9<|b9 (aG 0) a3) ∅ ∅) (bQ (fz (eF (pw<|df V9) (aX<|b3 b V9<|b9 (aG 0) a3) a3<|eX _) (cf (iH (ju V9 (aX (mi (by exact (nR (jW (by exact (b9 a3 a3))) (by exact (jg (jW (by exact (b9 a3 a3))) (jW (by exact (b9 a3 a3))) (jW (by exact (b9 a3 a3)))))))))<|aX<|b3 b V9<|b9 (aG 0) a3) (lC (g6 2 ah) (zD (a:=3) ah rfl (Or.inr rfl) ∅)))) fD) (bQ (vu (a:=4) (i:=5) rfl ah rfl rfl (Or.inr rfl) (Or.inr rfl) (b9 (aX<|b3 b V9<|b9 (aG 0)<|cS kZ a3<|aG 2)<|aX<|b3 b V9<|b9 (aG 0)<|cS kZ a3<|aG 3) ∅ ∅) (bQ (Bh (a:=6) (own:=["_law_k"]) (WD:=[4,3,5]) ah rfl (Or.inl rfl) rfl (ly (d2 pf) Ao (by decide +kernel)) ∅ (v7 rfl V6.vT<|bH<|cS kp (aG 2)<|aG 3) (λc=>(ed 0)) (λc=>wi) (λc=>(gw (by exact (b9 (cS e7 (aG 1)<|cS zQ (aG 0)<|aG 2)<|cS e7 (aG 3)<|cS m8 (aG 0)<|aG 2)))) ∅) (bQ (fz (eF ph (aG 1) a3<|eX _) (cf<|c7<|gA ij rfl V6.gD gM<|bH<|aG 6) fD) (bQ (fz (eF ph (aG 1) a3<|eX _) (bQ (mb (a:=7) ah rfl (Or.inr rfl) (ju V9 (aX (mi (by exact (nR a3 (by exact (jg a3 a3 a3))))))<|aX<|b3 b V9<|b9 (aG 0) a3) ∅) (cf (c7 (gA ij rfl V6.gD gM (bH (aX (n8 (own:=["_law_cell"]) (WD:=[0,7]) rfl (ly (d2 pf) Ao (by decide +kernel)) ∅ (eN<|aG 6) (λc=>(ed 0)) (λc=>(px<|eF Dh (aX<|b3 b V9<|b9 (aG 1)<|aG 2) a3<|eX _))<|λc=>(fi<|c1 0)))))))) fD) (cf (c7 (b3 f V9 (b9 (aG 0) (cS e7 a3 (aX (b3 b V9 (b9 (aG 0) (dz V9 (aX (mi (by exact (jg a3 a3 a3))))<|aX<|b3 b V9<|b9 (aG 0) a3))))))))))))))))
abbrev Rk(h:eM)(I:af):Prop:=e1 h 1 "_law_home" uB I ["_law_floor_here"] 1 G.mw
def Lz(P:dV h.K h.aJ "_law_home" uB I ["_law_floor_here"])(V6:eo h.aJ):Rk h I:=by
 refine eA K5 P λah x O W0 n j U V9=>?_;exact (bQ (fz (eF (pw<|df V9) (aG 0) (jW (by exact uU))<|eX _) (cf (c7 (gw (by exact uU)))) fD) (bQ (vu (a:=1) (i:=2) rfl ah rfl rfl (Or.inr rfl) (Or.inr rfl) (b9 (aX<|eD (DN rfl<|df V9) V6.xi xD<|bH<|aX<|gB ["_law_cell"] [] (eN<|aG 0) (λb=>(ed 0))<|λb=>(ju V9 (aG 0) a3))<|aX<|eD (DN rfl<|df V9) V6.xi xD<|bH<|aX<|gB ["_law_cell"] [] (eN<|aG 0) (λb=>(ed 0))<|λb=>(ju V9 (aG 0) a3)) ∅ ∅) (cf (c7 (gA ij rfl V6.gD gM (bH (aX (eD (nD rfl<|df V9) V6.ng n0 (bH (aX (gB ["_law_cell"] [1,2] (eN<|aG 0) (λb=>(ed 0)) (λb=>(gw (by exact (b9 (cS kZ (dz V9 (aG 0) a3)<|aG 1)<|cS kZ (dz V9 (aG 0) a3)<|aG 2)))))))))))))))
def OJ(P:dV V2 aJ "_law_count" uw I ["_law_floor_here"])(V6:eo aJ){a:af}(g:dB Wd D V2 aJ Wh 2 "is_pair" n3 a ["thing"] 1 G.nd){b:af}(aS:dB Wd D V2 aJ Wh 3 "is_run_like" pb b ["thing"] 1 G.oj){c:af}(d:dB Wd D V2 aJ Wh 5 "fewest_runs" pC c ["floor"] 1 G.ro){e:af}(f:dB Wd D V2 aJ Wh 5 "shows_fewest" uA e ["floor","some","cells"] 3 (G.sr a b)):
  dB Wd D V2 aJ Wh 6 "_law_count" uw I ["_law_floor_here"] 1 (G.i0 a b):=by
 refine eA TM P λah x O W0 n j U V9=>?_;exact (bQ (iH (b3 d V9<|bH<|aG 0)<|lC (g6 1 ah)<|g6 2 ah)<|bQ (fz (eF FW (aX<|b3 f V9<|jg (aG 0) (aG 1)<|aG 2) (aX js)<|eX _) (cf<|c7<|qJ h8) fD)<|cf<|c7<|eD ks V6.km kn<|bH<|aG 1)
abbrev Rz(h:eM)(I:af):Prop:=e1 h 1 "_law_turned" vZ I ["_law_floor_here"] 1 G.nQ
def Ou(P:dV h.K h.aJ "_law_turned" vZ I ["_law_floor_here"])(V6:eo h.aJ):Rz h I:=by
 refine eA SS P λah x O W0 n j U V9=>?_;exact (bQ (es 1 ah (mi (by exact (b9 (aG 0) (aX (gA ij rfl V6.gD gM (bH (aX (gB ["_law_cell"] [] (eN<|aG 0) (λa=>(ed 0)) (λa=>(gw (by exact (b9 (dz V9 (aG 0) a3)<|dz V9 (aG 0) a3))))))))))))) (bQ (l9 (W8:=[0]) jc rfl (eN<|aX<|gA xx rfl V6.zw yT<|bH<|aG 1) (g6 2 ah) (bQ (oL (qw qa qb r_ rt rk (c1 1) (bH (aX (gA ij rfl V6.gD gM (bH (aX (gB ["_law_cell"] [] (eN<|aG 2) (λa=>(ed 0)) (λa=>(gw (by exact (b9 (cS kZ a3<|dz V9 (aG 0) a3)<|dz V9 (aG 0) a3)))))))))))) (bQ (oL (qw qa qb r_ rt rk (c1 1) (bH (aX (gA ij rfl V6.gD gM (bH (aX (gB ["_law_cell"] [] (eN<|aG 2) (λa=>(ed 0)) (λa=>(gw (by exact (b9 (dz V9 (aG 0) a3)<|cS kZ a3<|dz V9 (aG 0) a3)))))))))))) (cf (oL (qw qa qb r_ rt rk (c1 1) (bH (aX (gA ij rfl V6.gD gM (bH (aX (gB ["_law_cell"] [] (eN<|aG 2) (λa=>(ed 0)) (λa=>(gw (by exact (b9 (cS kZ a3<|dz V9 (aG 0) a3)<|cS kZ a3<|dz V9 (aG 0) a3))))))))))))))) ∅ rf)<|cf<|c7<|gB ["_law_one"] [] (eN<|aG 1) (λa=>(ed 0))<|λa=>(gA ij rfl V6.gD gM<|bH<|aX<|eD (nD rfl<|df V9) V6.ng n0<|bH<|aG 0)))
abbrev R5(h:eM)(I:af):Prop:=e1 h 1 "_law_both" rv I ["_law_one","_law_other"] 2 G.r0
def M6(P:dV h.K h.aJ "_law_both" rv I ["_law_one","_law_other"])(V6:eo h.aJ):R5 h I:=by
 refine eA FG P λah x O W0 n j U V9=>?_;exact (bQ (mb (a:=2) ah rfl (Or.inr rfl) (kD e7 (aX (eD (MX rfl<|df V9) V6.Gr Gk (bH (cS e7 (aX<|gB ["_law_cell"] [] (eN<|aG 0) (λb=>(ed 0))<|λb=>(ju V9 (aG 0) a3)) (aX (mi (by exact (bH<|aX<|qJ h8)))))))) a3) ∅) (bQ (es 3 ah (eD (nD rfl<|df V9) V6.ng n0 (bH (cS e7 (aX<|gA xx rfl V6.zw yT<|bH<|aG 0) (aX (gB ["_law_cell"] [2] (eN<|aG 1) (λb=>(ed 0)) (λb=>(gw (by exact (b9 (cS e7 (dz V9 (aG 0) a3)<|aG 1)<|dz V9 (aG 0) a3)))))))))) (cf (c7 (gA ij rfl V6.gD gM (bH (aX (n8 (own:=["_law_cell"]) (WD:=[]) rfl (ly (d2 rv) FG (by decide +kernel)) ∅ (eN<|aG 3) (λb=>(ed 0)) (λb=>(px<|eF lg (dz V9 (aG 0) a3) a3<|eX _))<|λb=>(fi<|c1 0)))))))))
def R2(P:dV V2 aJ "law" tw I ["_law_script"])(V6:eo aJ){d:af}(v:dB Wd D V2 aJ Wh 2 "is_pair" n3 d ["thing"] 1 G.nd){e:af}(aS:dB Wd D V2 aJ Wh 3 "is_run_like" pb e ["thing"] 1 G.oj){k:af}(l:dB Wd D V2 aJ Wh 2 "_law_hand" tE k ["_law_script","_law_k"] 2 G.qX){m:af}(g:dB Wd D V2 aJ Wh 1 "_law_home" uB m ["_law_floor_here"] 1 G.mw){o:af}(h:dB Wd D V2 aJ Wh 3 "_law_floor" pf o ["_law_hand_here"] 1 G.m_){p:af}(b:dB Wd D V2 aJ Wh 6 "_law_count" uw p ["_law_floor_here"] 1 (G.i0 d e)){q:af}(r:dB Wd D V2 aJ Wh 1 "_law_turned" vZ q ["_law_floor_here"] 1 G.nQ){s:af}(t:dB Wd D V2 aJ Wh 1 "_law_both" rv s ["_law_one","_law_other"] 2 G.r0){u:af}(f:dB Wd D V2 aJ Wh 1 "_law_pick" wL u ["_law_hand_here","_law_many"] 2 G.dD):
  dB Wd D V2 aJ Wh 7 "law" tw I ["_law_script"] 1 (G.qZ d e):=by
 refine eA E5 P λah x O W0 n j U V9=>?_;exact (bQ (l9 (W8:=[0]) jc rfl (v7 rfl V6.vT<|bH<|aX<|eD (Tn rfl<|df V9) V6.Gr Gk<|b9 a3<|aX<|eD (MJ rfl<|df V9) V6.xi xD<|b9 a3<|aX<|eD ks V6.km kn<|bH<|aG 0) (g6 1 ah) (bQ (es 2 ah<|b3 l V9<|b9 (aG 0)<|aG 1) (bQ (vu (a:=3) (i:=4) rfl ah rfl rfl (Or.inr rfl) (Or.inl rfl) (b9 (aX<|b3 g V9<|bH<|aX<|b3 h V9<|bH<|aG 2)<|aX<|b3 g V9<|bH<|aX<|b3 h V9<|bH<|aG 2) ∅ ∅) (bQ (mb (a:=5) ah rfl (Or.inr rfl) (b3 b V9<|bH<|aG 3) ∅) (bQ (fz (hM.mS<|m2 (eF ph (aG 5) a3<|eX _)<|nG<|jH<|jv<|aX<|eD (oF rfl) V6.ob nF<|bH<|aX<|gB ["_law_floor_here"] [5] (eN<|aX<|b3 r V9<|bH<|aG 3) (λc=>(ed 0))<|λc=>(oJ (pw<|df V9) (aX<|b3 b V9<|bH<|aG 0) (aG 1)<|eX _)) (cf<|c7 js) fD) (bQ (es 6 ah<|b3 t V9<|b9 (aG 3)<|aG 4) (bQ (es 7 ah (gA ij rfl V6.gD gM (bH (aX (n8 (own:=["_law_cell"]) (WD:=[3]) rfl (ly (d2 tw) E5 (by decide +kernel)) ∅ (eN<|aG 6) (λc=>(ed 0)) (λc=>(px<|eF (qG<|df V9) (aG 0) (aG 1) rfl))<|λc=>(fi<|c1 0)))))) (bQ (fz (eF (w0<|df V9) (aX<|b3 b V9<|bH<|aG 6) (cS e7 (aG 5)<|aX<|b3 b V9<|bH<|aG 7)<|eX _) (cf<|c7 js) fD) (bQ (es 8 ah (gw (by exact (b9 (aX<|b3 f V9<|b9 (aG 2) a3)<|aX<|b3 f V9<|b9 (aG 2) a3)))) (bQ (es 9 ah (gA ij rfl V6.gD gM (bH (aX (Uv (Lr V9) rfl V6.ng rfl V6.OU (bH (cS e7 (aG 3) (jW (by exact (bH<|aG 8)))))))))) (bQ (fz (hM.mS<|m2 (jH<|ui lg lg (cS kZ (aG 5) a3) (aX<|b3 b V9<|bH<|aG 9)<|cS e7 (aG 5) a3)<|nG<|eF ph (aX<|b3 b V9<|bH<|aG 9) a3<|eX _) (cf<|c7 js) fD) (cf (fz (eF (w0<|df V9) (aG 3) (jW (by exact uU))<|eX _) (bQ (es 10 ah<|b3 f V9<|b9 (aG 2)<|aX<|eD ks V6.km kn<|bH<|aG 3)<|cf<|fz (jH<|ui lg lg (cS kZ (aG 5) a3) (aX<|b3 b V9<|bH<|cS e7 (aX<|tC (aG 3) wK<|tY<|fi<|c1 10)<|aX<|tC (aG 3) (tY<|kD e7 (aG 10) a3) wK)<|cS e7 (aG 5) a3) (cf<|c7 js) fD) fD)))))))))))) ∅ Gx)<|cf<|c7 js)
end
def all_mk{D:bl}{V2:Φ}{c:aY}{aJ:aI->Option ae}{k u w x y z A B C E F I J L M N O P Q R S T U al am an ap as a1:af}(b:V2.In c)(a:c.Ns dZ aJ)(a2:aJ "law" = Z (.ref k)){o p:iL}(bd:dA V2 "is_whole" yd u)(be:dA V2 "is_pair" n3 l)(bi:dA V2 "is_run_like" pb m)(bm:dA V2 "is_rising" tZ w)(bn:dA V2 "is_rising" va x)(bs:dA V2 "lookup" u9 y)(bv:dA V2 "further" yo z)(ca:dA V2 "run_from" yu A)(cd:dA V2 "runs_of_word" wF B)(ce:dA V2 "runs" wX C)(ch:dA V2 "run_cells" zW E)(ci:dA V2 "runs_across" Bn F)(cl:dA V2 "search" xP I)(co:dA V2 "pair_along" zj J)(cr:dA V2 "greatest_pairing" uq L)(cs:dA V2 "fewest_runs" pC M)(db:dA V2 "are_all_in" vK N)(ds:dA V2 "hold_all" wk O)(dL:dA V2 "are_apart" wc P)(eq:dA V2 "shows_fewest" uA Q)(ev:dA V2 "_law_cell_at" z2 R)(ex:dA V2 "_law_hand" tE S)(fn:dA V2 "_law_pick" wL T)(fr:dA V2 "_law_grown" yh U)(f0:dA V2 "_law_floor" pf al)(f1:dA V2 "_law_home" uB am)(f2:dA V2 "_law_count" uw an)(f4:dA V2 "_law_turned" vZ ap)(f8:dA V2 "_law_both" rv as)(q:dA V2 "law" tw a1)(ga:Ψ V2 dZ "DOWN" = Z (Z<|.str "down" o))(ge:Ψ V2 dZ "RIGHT" = Z (Z<|.str "right" p))(gl:Ψ V2 dZ "all" = Z Y)(go:Ψ V2 dZ "bool" = Z Y)(gt:Ψ V2 dZ "int" = Z Y)(g1:Ψ V2 dZ "isinstance" = Z Y)(g2:Ψ V2 dZ "len" = Z Y)(g3:Ψ V2 dZ "list" = Z Y)(hd:Ψ V2 dZ "max" = Z Y)(he:Ψ V2 dZ "min" = Z Y)(hf:Ψ V2 dZ "range" = Z Y)(hm:Ψ V2 dZ "set" = Z Y)(hw:Ψ V2 dZ "sorted" = Z Y)(h0:Ψ V2 dZ "str" = Z Y)(ii:Ψ V2 dZ "tuple" = Z Y)(im:Ψ V2 dZ "zip" = Z Y):
  ∃fd:gT,(∀(n:aq) (v:ae),mB n fd ⟨[v],[]⟩ [("_law_script",v)])/\∀Wh:aY,V2.In Wh->Wh.Ns dZ aJ->h6 H.prog D V2 aJ Wh ik 7 k fd ["_law_script"] (j4 1<|G.qZ l m):=by
 have V6:eo aJ:=⟨iQ b a gl,iQ b a go,iQ b a gt,iQ b a g1,iQ b a g2,iQ b a g3,iQ b a hd,iQ b a he,iQ b a hf,iQ b a hm,iQ b a hw,iQ b a h0,iQ b a ii,iQ b a im,⟨o,nE b a ga⟩,⟨p,nE b a ge⟩⟩;refine Na q b a a2 (λ_ K K K K K K K=>.of_eq rfl) λWh=>?_;let h:eM:=⟨H.prog,D,V2,aJ,Wh⟩
 have r:=KL (h:=h) (bd.dd b a) V6;have d:=SO (h:=h) (be.dd b a) V6 r;have e:=RS (h:=h) (bi.dd b a) V6 d r;have io:=Kd (Wd:=H.prog) (D:=D) (Wh:=Wh) (bm.dn b a) V6 e;have it:=UN (Wd:=H.prog) (D:=D) (Wh:=Wh) (bn.dn b a) V6 d;have f:=Ly (h:=h) (bs.dd b a) V6;have g:=Tb (h:=h) (bv.lE b a) V6;have jp:=LG (h:=h) (ca.lE b a) V6 g;have s:=Nx (h:=h) (cd.dn b a) V6 f g jp;have kt:=Mp (h:=h) (ce.dd b a) V6 s;have i:=R7 (h:=h) (ch.dd b a) V6 g;have kw:=P6 (h:=h) (ci.dd b a) V6 s i;have lc:=P7 (h:=h) (cl.lE b a) V6;have lf:=PQ (h:=h) (co.k1 b a) V6;have li:=Pp (h:=h) (cr.dd b a) V6 lc lf;have lm:=J8 (h:=h) (cs.dd b a) V6 li kw;have t:=MD (h:=h) (db.dn b a) V6;have ln:=Ql (h:=h) (ds.dn b a) V6 f i t;have ls:=Q4 (h:=h) (dL.dn b a) V6 f i;have lv:=PT (Wd:=H.prog) (D:=D) (Wh:=Wh) (eq.lE b a) V6 e d io it kt t f ln ls;have lw:=PZ (h:=h) (ev.dn b a) V6;have mo:=TC (h:=h) (ex.dn b a) V6 lw;have j:=Vg (h:=h) (fn.dn b a) V6;have mp:=SG (h:=h) (fr.dn b a) V6 j;have ms:=K3 (h:=h) (f0.dd b a) V6 j mp;have m0:=Lz (h:=h) (f1.dd b a) V6;have na:=OJ (Wd:=H.prog) (D:=D) (Wh:=Wh) (f2.dd b a) V6 d e lm lv;have nb:=Ou (h:=h) (f4.dd b a) V6;have ne:=M6 (h:=h) (f8.dn b a) V6;exact R2 (q.dd b a) V6 d e mo m0 ms na nb ne j
def walk{r:bJ}{d:List aI}{f:(aI->Option ae)->aY->Prop}{a:bl->aY->Prop}{q:DefRec}{V2:wt->Φ}(h:H.most=Z 63)(i:q.params.defaults=[])(k:∀(D:bl) (c:aY),a D c->(V2 D.params).In c)(p:∀s,r1 (V2 s)=X)(P:∀(D:bl) (aJ:aI->Option ae) (b:af) (c:aY),(V2 D.params).In c->c.Ns dZ aJ->aJ q.name=Z (.ref b)->
   ∃fd:gT,(∀(n:aq) (L:ae),mB n fd ⟨[L],[]⟩ [("_law_script",L)])/\∀Wh:aY,(V2 D.params).In Wh->Wh.Ns dZ aJ->h6 H.prog D (V2 D.params) aJ Wh ik 7 b fd ["_law_script"] (j4 1<|G.qZ l m)):
  PySem.W.WalkO r d f a H.row.toRowW q [] (λI V4=>PySem.call I V4):=
 L2.QJ (u:=63) (o:=7) (e := "_law_script") (R:=λ_=>ik) (Xm:=λD=>j4 1<|G.qZ l m) h ∅ i ⟨rfl,by decide,by decide,rfl⟩ k P (λD j g Wi t v w=>Ur (p D.params) j g Wi v w (G.Sk l m Wi (wA t ∅))) λ_ U U U U x=>x
end K16
namespace PySem.W.Fast
def tw13047029173024333253:=(0)
def tw10596961088433020000:=(0)
def tw756338756938233216:=(0)
def tw3440465717603709888:=(0)
def tw10189255355870413792:=(0)
def tw16517787880337221313:=(0)
def tw2444995631399029570:=(0)
def tw12279624021617864739:=(0)
def tw3337901866551432387:=(0)
def tw10874763993248553155:=(0)
def tw9715227189571082595:=(0)
def tw2465576592367687427:=(0)
def tw10393919763676143459:=(0)
def tw12765284270510010628:=(0)
def tw17371125609745631524:=(0)
def tw18207035589833886628:=(0)
def tw16187413405429393573:=(0)
def tw525008554820054565:=(0)
def tw11133249309502334949:=(0)
def tw11733496385822121126:=(0)
def tw13789390491649171078:=(0)
def tw5832271132249784230:=(0)
def tw5394757161758773255:=(0)
def tw4573754556003299783:=(0)
def tw10219908446336673319:=(0)
def tw1004319574644686407:=(0)
def tw10319448517300077127:=(0)
def tw9799742156198291656:=(0)
def tw9075385499015770568:=(0)
def tw9582823323932484392:=(0)
def tw5681010027586910024:=(0)
def tw8850248523321641641:=(0)
def tw14736061543613141705:=(0)
def tw5641402583369755369:=(0)
def tw3116778095580801897:=(0)
def tw243499718612904170:=(0)
def tw11526717776438479210:=(0)
def tw300478112900577834:=(0)
def tw4040518115721262762:=(0)
def tw10132011907559740202:=(0)
def tw10568938928113878858:=(0)
def tw4437642591661443115:=(0)
def tw5470404750165090603:=(0)
def tw16502716332281797227:=(0)
def tw5375597794168790667:=(0)
def tw406217901222525004:=(0)
def tw3666302978331282604:=(0)
def tw16371712962849332396:=(0)
def tw13035725645533175980:=(0)
def tw10938021057527770764:=(0)
def tw17207524173106020108:=(0)
def tw4177840253535681677:=(0)
def tw15871840359109721549:=(0)
def tw6973425904058389357:=(0)
def tw2369873402538693166:=(0)
def tw10818323323220473550:=(0)
def tw7658234697540587406:=(0)
def tw13449223100967895375:=(0)
def tw6951819397957886544:=(0)
def tw6757666225313050256:=(0)
def tw11434623236712463280:=(0)
def tw5969395141576002609:=(0)
def tw11583974699088310673:=(0)
def tw2234091945338094385:=(0)
def tw2799066318623150386:=(0)
def tw3984437708636176754:=(0)
def tw174636343368967634:=(0)
def tw10402553696787368498:=(0)
def tw6421417152499062418:=(0)
def tw7064479751171578738:=(0)
def tw12759852987271746611:=(0)
def tw589757596777034419:=(0)
def tw6417649304668724404:=(0)
def tw14751189555027393876:=(0)
def tw13246404070199860052:=(0)
def tw3972932489177937365:=(0)
def tw17836141674829446646:=(0)
def tw12699302713791888086:=(0)
def tw11921194214978417494:=(0)
def tw10226423820961436727:=(0)
def tw8334352688816132215:=(0)
def tw5883018910088317111:=(0)
def tw12846434927190330583:=(0)
def tw745191843209672119:=(0)
def tw8923411527189344759:=(0)
def tw16967023320985311927:=(0)
def tw12600327393890657143:=(0)
def tw10205107400372431032:=(0)
def tw9906598709928293497:=(0)
def tw7382394650562412889:=(0)
def tw17527922318277035449:=(0)
def tw14270133071183639257:=(0)
def tw2503564568141792025:=(0)
def tw5371692372732043129:=(0)
def tw4302648843928773306:=(0)
def tw5119404699283578746:=(0)
def tw4070766565806685082:=(0)
def tw14928593401913165563:=(0)
def tw14055959964432929340:=(0)
def tw16367211196347111388:=(0)
def tw14733884423041784925:=(0)
def tw10756923273607915805:=(0)
def tw2712070244275747421:=(0)
def tw17689711705994471037:=(0)
def tw4631863352702924605:=(0)
def tw11485524354684118877:=(0)
def tw2248279936710013054:=(0)
def tw179316369159071262:=(0)
def tw2677905248636204095:=(0)
def tw8528769191246348479:=(0)
def tw2929186998139101631:=(0)
def tw14800823106703070815:=(0)
def tw15480303968328916703:=(0)
end PySem.W.Fast
end
open PySem PySem.W PyProof.Rows
set_option maxRecDepth 100000 in
set_option maxHeartbeats 0 in
theorem PySem.Challenge.cw_mowfloor_k16_whole_fewest_turned_and_joi_holds : PySem.Challenge.rw_mowfloor_k16_whole_fewest_turned_and_joi.Holds := by
  w_on; o_law; k_head; (case hw => w_witness2)
  k_fill
  refine' K16.walk (H := PySem.Challenge.rw_mowfloor_k16_whole_fewest_turned_and_joi) rfl rfl (fun w h Y => PySem.W.kIn_of Y) ?hK ?F
  case hK => intro p; rfl
  case F =>
    intro w mg fa h KX G hmg
    apply K16.all_mk KX G hmg
    iterate 30 (apply L2.Hf; iterate 4 k_is)
    iterate 16 k_is
